/-
  Several texts of this family in one: TreeSmall.
-/
import Derived.Test.YtkfdplfgaddkmaaGreatK4
import Derived.Test.YtkfdplfgaddkmaaGreatK13
import Derived.Test.YtkfdplfgaddkmaaGreatK10
import Derived.Test.YtkfdplfgaddkmaaGreatK2
import Derived.Test.YtkfdplfgaddkmaaGreatK3
/-
 Paths: is it one, its spot, the leaves beneath, one digit more; what a hash is written as.
-/
namespace Go.Proofs.YtkfdplfgaddkmaaGreat
namespace Tree
open Go.RowKit Vers Num Ring Disk Blk Go.Proofs.YtkfdplfgaddkmaaGreat.Code
attribute [local go_sem ↓] Go.wp_at_zero Go.wp_at_succ

set_option maxRecDepth 100000 in
theorem isPath_any (A : Option Addr) (c n : Nat) (p : List Int) (hn : p.length = n) (hbig : n ≤ 140737488355328) (w : World) (hr : Ns .i64 w w.heap.size A p) :
  Calls Tryz.prog 73 #[.slice A n c] w (fun e w' => e = .returned (.bool (decide (okP p))) ∧ w = w') := by
 obtain ⟨D, hD⟩ : ∃ D, decide (okP p) = D := ⟨_, rfl⟩
 rw [hD]
 have HS := Lib.hid (And.intro hr (And.intro hn hD))
 clear hr hn hD
 go_enter Tryz.func73, Tryz.ntmps73
 go_wp2_with fail
 go_loop [7] (fun q => ∃ k : Nat, q = .int .i64 k ∧ k ≤ n ∧ Hid (∀ x ∈ p.take k, 0 ≤ x ∧ x < 16)) (fun q => n - (intOf q).toNat)
 case atStart => exact ⟨0, rfl, by omega, Lib.hid (by simp)⟩
 case round =>
  obtain ⟨k, rfl, hk, hst⟩ := hrel
  have hn := HS.out.2.1
  by_cases hlt : k < n
  ·have d1 : (0 : Int) ≤ (k : Int) := by omega
   have d2 : (k : Int) < (n : Int) := by omega
   have hbad := all_bad (R := fun x => 0 ≤ x ∧ x < 16) (0 : Int) (show k < p.length by omega)
   have hstep := all_step (R := fun x => 0 ≤ x ∧ x < 16) (0 : Int) (show k < p.length by omega) hst.out
   obtain ⟨pb, off, rfl, hpb, hc⟩ := HS.out.1 (by omega)
   have c0 := hc k (by omega)
   obtain ⟨x, hxx⟩ : ∃ x, p.getD k 0 = x := ⟨_, rfl⟩
   rw [hxx] at c0 hbad hstep
   by_cases cA : 0 ≤ x ∧ x < 16
   ·have HN := Lib.hid (hstep cA)
    obtain ⟨a1, a2⟩ := cA
    have e1 : decide (x < 0) = false := decide_eq_false (by omega)
    have e2 : decide (16 ≤ x) = false := decide_eq_false (by omega)
    clear hstep hbad hst hn hxx hc
    go_wp2_with fail
    go_round
    case rel => exact ⟨k + 1, rfl, by omega, HN⟩
    case measure => simp only [intOf]; omega
   ·have HN := Lib.hid (HS.out.2.2.symm.trans (decide_eq_false (fun h => by
     have := of_decide_eq_false (hbad cA)
     exact this fun y hy => h.1 y hy)))
    clear hstep hbad hst hn hxx hc
    by_cases a1 : x < 0
    ·have e1 : decide (x < 0) = true := decide_eq_true a1
     clear cA
     go_wp2_with fail
     go_ret
     exact ⟨by rw [HN.out]; rfl, rfl⟩
    ·have e1 : decide (x < 0) = false := decide_eq_false a1
     have a2 : 16 ≤ x := by omega
     have e2 : decide (16 ≤ x) = true := decide_eq_true a2
     clear cA
     go_wp2_with fail
     go_ret
     exact ⟨by rw [HN.out]; rfl, rfl⟩
  ·have hkn : k = n := by omega
   subst hkn
   have hall : ∀ x ∈ p, 0 ≤ x ∧ x < 16 := by
    have h := hst.out
    rwa [List.take_of_length_le (by omega)] at h
   have HN : Hid (D = decide ((k : Int) ≤ 2)) := Lib.hid (by
    rw [← HS.out.2.2]
    exact decide_eq_decide.2 ⟨fun h => by have := h.2; omega, fun h => ⟨hall, by omega⟩⟩)
   clear hst hn hall
   by_cases h2 : (k : Int) ≤ 2
   ·rw [decide_eq_true h2] at HN
    go_wp2_with fail
    go_ret
    exact ⟨by rw [HN.out]; rfl, rfl⟩
   ·rw [decide_eq_false h2] at HN
    go_wp2_with fail
    go_ret
    exact ⟨by rw [HN.out]; rfl, rfl⟩

set_option maxRecDepth 100000 in
theorem spot_any (A : Option Addr) (c n : Nat) (p : List Int) (hn : p.length = n) (hp : okP p) (w : World) (hr : Ns .i64 w w.heap.size A p) :
  Calls Tryz.prog 92 #[.slice A n c] w (fun e w' => e = .returned (.int .i64 (spotN p : Nat)) ∧ ∃ q, w' = w.drewN q) := by
 rcases ok_cases hp with rfl | ⟨a, rfl, a1, a2⟩ | ⟨a, b, rfl, ⟨a1, a2⟩, b1, b2⟩
 ·obtain rfl : n = 0 := by simpa using hn.symm
  clear hr hp
  go_enter Tryz.func92, Tryz.ntmps92
  go_wp2_with fail
  go_ret
  exact ⟨rfl, 0, rfl⟩
 ·obtain rfl : n = 1 := by simpa using hn.symm
  obtain ⟨pb, off, rfl, hpb, hc⟩ := hr (by simp)
  have c0 := hc 0 (by simp)
  simp at c0
  have HE : Hid (((spotN [a] : Nat) : Int) = 1 + a) := Lib.hid (by simp only [spotN]; omega)
  clear hr hp hc hn
  go_enter Tryz.func92, Tryz.ntmps92
  go_wp2_with fail
  go_ret
  exact ⟨by rw [HE.out]; rfl, 0, rfl⟩
 ·obtain rfl : n = 2 := by simpa using hn.symm
  obtain ⟨pb, off, rfl, hpb, hc⟩ := hr (by simp)
  have c0 := hc 0 (by simp)
  have c1 := hc 1 (by simp)
  simp at c0 c1
  have HE : Hid (((spotN [a, b] : Nat) : Int) = 17 + a * 16 + b) := Lib.hid (by simp only [spotN]; omega)
  have HW := Lib.hid (And.intro (show IntKind.i64.wrap (a * 16) = a * 16 from IntWalk.i64_in _ (by omega)) (And.intro (show IntKind.i64.wrap (17 + a * 16) = 17 + a * 16 from IntWalk.i64_in _ (by omega)) (show IntKind.i64.wrap (17 + a * 16 + b) = 17 + a * 16 + b from IntWalk.i64_in _ (by omega))))
  clear hr hp hc hn
  go_enter Tryz.func92, Tryz.ntmps92
  go_wp2_with fail
  obtain ⟨v1, v2, v3⟩ := HW.out
  go_quiet (fail)
  go_wp2_with fail
  go_ret
  exact ⟨by rw [HE.out]; rfl, _, rfl⟩

set_option maxRecDepth 100000 in
theorem beneath_any (A : Option Addr) (c n : Nat) (p : List Int) (hn : p.length = n) (hp : okP p) (w : World) (hr : Ns .i64 w w.heap.size A p) :
  Calls Tryz.prog 76 #[.slice A n c] w (fun e w' => e = .returned (.tuple #[.int .i64 (fromN p : Nat), .int .i64 (toN p : Nat)]) ∧ ∃ q, w' = w.drewN q) := by
 rcases ok_cases hp with rfl | ⟨a, rfl, a1, a2⟩ | ⟨a, b, rfl, ⟨a1, a2⟩, b1, b2⟩
 ·obtain rfl : n = 0 := by simpa using hn.symm
  clear hr hp
  go_enter Tryz.func76, Tryz.ntmps76
  go_wp2_with fail
  go_ret2
  exact ⟨rfl, 0, rfl⟩
 ·obtain rfl : n = 1 := by simpa using hn.symm
  obtain ⟨pb, off, rfl, hpb, hc⟩ := hr (by simp)
  have c0 := hc 0 (by simp)
  simp at c0
  have HE : Hid (((fromN [a] : Nat) : Int) = a * 16 ∧ ((toN [a] : Nat) : Int) = (a + 1) * 16) := Lib.hid (by simp only [fromN, toN]; omega)
  have HW := Lib.hid (And.intro (show IntKind.i64.wrap (a * 16) = a * 16 from IntWalk.i64_in _ (by omega)) (And.intro (show IntKind.i64.wrap (a + 1) = a + 1 from IntWalk.i64_in _ (by omega)) (show IntKind.i64.wrap ((a + 1) * 16) = (a + 1) * 16 from IntWalk.i64_in _ (by omega))))
  clear hr hp hc hn
  go_enter Tryz.func76, Tryz.ntmps76
  go_wp2_with fail
  obtain ⟨v1, v2, v3⟩ := HW.out
  go_quiet (fail)
  go_wp2_with fail
  go_ret2
  exact ⟨by rw [HE.out.1, HE.out.2]; rfl, _, rfl⟩
 ·obtain rfl : n = 2 := by simpa using hn.symm
  obtain ⟨pb, off, rfl, hpb, hc⟩ := hr (by simp)
  have c0 := hc 0 (by simp)
  have c1 := hc 1 (by simp)
  simp at c0 c1
  have HE : Hid (((fromN [a, b] : Nat) : Int) = a * 16 + b ∧ ((toN [a, b] : Nat) : Int) = a * 16 + b + 1) := Lib.hid (by simp only [fromN, toN]; omega)
  have HW := Lib.hid (And.intro (show IntKind.i64.wrap (a * 16) = a * 16 from IntWalk.i64_in _ (by omega)) (show IntKind.i64.wrap (a * 16 + b) = a * 16 + b from IntWalk.i64_in _ (by omega)))
  have l1 : 0 ≤ a * 16 + b := by omega
  have l2 : a * 16 + b < 256 := by omega
  clear hr hp hc hn
  go_enter Tryz.func76, Tryz.ntmps76
  go_wp2_with fail
  obtain ⟨v1, v2⟩ := HW.out
  go_quiet (fail)
  clear v1 v2
  go_wp2_with fail
  go_ret2
  exact ⟨by rw [HE.out.1, HE.out.2]; rfl, _, rfl⟩
end Tree
end Go.Proofs.YtkfdplfgaddkmaaGreat
