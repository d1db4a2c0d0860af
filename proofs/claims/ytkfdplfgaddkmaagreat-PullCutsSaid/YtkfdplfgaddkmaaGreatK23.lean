/-
  Several texts of this family in one: TreeAny.
-/
import Derived.Test.YtkfdplfgaddkmaaGreatK17
import Derived.Test.YtkfdplfgaddkmaaGreatK15
/-
 Is a record beneath a path?
-/
namespace Go.Proofs.YtkfdplfgaddkmaaGreat
namespace Tree
open Go.RowKit Vers Num Ring Disk Blk
open Go.Proofs.YtkfdplfgaddkmaaGreat.Code hiding Bn
attribute [local go_sem ↓] Go.wp_at_zero Go.wp_at_succ

theorem info_map : (Tryz.prog.info? 93).map (fun i => (i.zero, i.size, i.bytes)) = some (some (.map none), 1, 8) := by kernel_rfl
theorem cut_maps (w : World) (tb a b : Nat) (h1 : a < b) (h2 : b ≤ 256) : (Instr.sliceAt 122 (.pointer (some ⟨tb, 0, none⟩)) (some (.int .i64 (a : Int))) (some (.int .i64 (b : Int))) none).run Tryz.prog w = .ok (.slice (some ⟨tb, a, none⟩) (b - a) (256 - a)) w := by
 obtain ⟨i0, hi0, hz0, hz1, hz2⟩ := info_parts info_map
 rw [run_sliceAt_array_lh w 122 ⟨tb, 0, none⟩ (by kernel_rfl) .i64 .i64 (a : Int) (b : Int) (by omega) (by omega) (by rw [show Tryz.prog.arrayLen 122 = 256 by kernel_rfl]; omega)]
 rw [show Tryz.prog.elem 122 = 93 by kernel_rfl, show Tryz.prog.arrayLen 122 = 256 by kernel_rfl]
 have h3 : ¬ 256 = a := by omega
 simp [sizeOf, typeInfo, hi0, hz1, slicedAt, Addr.add]
 rw [if_neg h3]
 by_cases h0 : a = 0
 ·rw [if_pos h0, h0]
 ·rw [if_neg h0]
theorem beneath_leaf {all : List Rc} {p : List Int} (hp : okP p) : beneath all p = [] ↔ ∀ j, j < toN p - fromN p → leafR all (fromN p + j) = [] := by
 constructor
 ·intro h j hj
  refine List.filter_eq_nil_iff.2 fun r hr => ?_
  intro e
  have e2 : leafN r.1 = fromN p + j := by simpa using e
  have : r ∈ beneath all p := beneath_mem.2 ⟨hr, (in_leaf hp r.1).2 ⟨by omega, by omega⟩⟩
  rw [h] at this
  cases this
 ·intro h
  refine List.filter_eq_nil_iff.2 fun r hr => ?_
  intro e
  have e2 := (in_leaf hp r.1).1 e
  have h3 := h (leafN r.1 - fromN p) (by omega)
  rw [show fromN p + (leafN r.1 - fromN p) = leafN r.1 by omega] at h3
  have : r ∈ leafR all (leafN r.1) := leaf_mem.2 ⟨hr, rfl⟩
  rw [h3] at this
  cases this
section
variable {F : Nat → Prop} {w : World} {tb : Nat} {mv : Nat → Option Nat} {f : Fp} {all : List Rc} {Bz : List Int → Prop}
set_option maxRecDepth 100000 in
theorem any_any (h : TR F w tb mv f all Bz) (A : Option Addr) (c n : Nat) (p : List Int) (hn : p.length = n) (hp : okP p) (hr : Ns .i64 w w.heap.size A p) :
  Calls Tryz.prog 118 #[hd tb, .slice A n c] w (fun e w' => e = .returned (.bool (decide (beneath all p ≠ []))) ∧ ∃ q, w' = w.drewN q) := by
 have H1 := Lib.hid (beneath_any A c n p hn hp w hr)
 obtain ⟨f1, f2⟩ := from_lt hp
 have HE := Lib.hid (beneath_leaf (all := all) hp)
 obtain ⟨a, ha⟩ : ∃ a, fromN p = a := ⟨_, rfl⟩
 obtain ⟨b, hb⟩ : ∃ b, toN p = b := ⟨_, rfl⟩
 obtain ⟨D, hD⟩ : ∃ D, decide (beneath all p ≠ []) = D := ⟨_, rfl⟩
 rw [ha, hb] at H1 HE f1
 rw [hb] at f2
 rw [hD]
 have HD : Hid (D = true ↔ ¬ ∀ j, j < b - a → leafR all (a + j) = []) := Lib.hid (by rw [← hD, decide_eq_true_eq, ← HE.out])
 have HT := Lib.hid h
 have hcut := fun W => cut_maps W tb a b f1 f2
 have hz : (Value.pointer (some ⟨tb, 0, none⟩)) = hd tb := rfl
 clear hr hn hp ha hb hD h
 unfold hd at hz ⊢
 clear hz
 go_enter Tryz.func118, Tryz.ntmps118
 go_wp2_with fail
 refine H1.out.mono ?_
 rintro e w1 ⟨rfl, q, rfl⟩
 have HT1 : Hid (TR F (w.drewN q) tb mv f all Bz) := Lib.hid (HT.out.keep (Nat.le_refl _) fun _ _ => rfl)
 obtain ⟨W, hW⟩ : ∃ W, w.drewN q = W := ⟨_, rfl⟩
 rw [hW] at HT1
 have HW : Hid (∃ q, W = w.drewN q) := Lib.hid ⟨q, hW.symm⟩
 rw [hW]
 clear hW H1 HE HT
 go_wp2_with fail
 obtain ⟨m, hm⟩ : ∃ m, b - a = m := ⟨_, rfl⟩
 have hm2 : m ≤ 256 := by omega
 have HM := Lib.hid hm
 rw [hm]
 clear hm
 go_loop [21] (fun v => ∃ k : Nat, v = .int .i64 k ∧ k ≤ m ∧ Hid (∀ j, j < k → leafR all (a + j) = [])) (fun v => m - (intOf v).toNat)
 case atStart => exact ⟨0, rfl, by omega, Lib.hid (fun j hj => by omega)⟩
 case round =>
  obtain ⟨k, rfl, hk, hst⟩ := hrel
  by_cases hlt : k < m
  ·have d1 : (0 : Int) ≤ (k : Int) := by omega
   have d2 : (k : Int) < (m : Int) := by omega
   have hi : a + k < 256 := by have := HM.out; omega
   have hc := HT1.out.cell hi
   obtain ⟨mm, hmm⟩ : ∃ mm, mv (a + k) = mm := ⟨_, rfl⟩
   have hl := HT1.out.small hi mm hmm
   rw [hmm] at hc
   obtain ⟨y, hy⟩ : ∃ y, (leafR all (a + k)).length = y := ⟨_, rfl⟩
   rw [hy] at hl
   clear hmm
   by_cases hy0 : y = 0
   ·have HN : Hid (∀ j, j < k + 1 → leafR all (a + j) = []) := Lib.hid fun j hj => by
     by_cases e : j = k
     ·subst e
      exact List.eq_nil_of_length_eq_zero (by omega)
     ·exact hst.out j (by omega)
    subst hy0
    clear hst hy hi
    go_wp2_with fail
    go_round
    case rel => exact ⟨k + 1, rfl, by omega, HN⟩
    case measure => simp only [intOf]; omega
   ·have hpos : (0 : Int) < (y : Int) := by omega
    have HN : Hid (D = true) := Lib.hid (HD.out.2 fun hall => by
     have := hall k (by have := HM.out; omega)
     rw [this] at hy
     simp at hy
     omega)
    clear hst hy hi
    go_wp2_with fail
    go_ret
    exact ⟨by rw [HN.out]; rfl, HW.out⟩
  ·have hkm : k = m := by omega
   subst hkm
   have HN : Hid (D = false) := Lib.hid (by
    rw [Bool.eq_false_iff]
    intro e
    refine HD.out.1 e fun j hj => hst.out j ?_
    have := HM.out
    omega)
   clear hst
   go_wp2_with fail
   go_ret
   exact ⟨by rw [HN.out]; rfl, HW.out⟩
end
end Tree
end Go.Proofs.YtkfdplfgaddkmaaGreat
