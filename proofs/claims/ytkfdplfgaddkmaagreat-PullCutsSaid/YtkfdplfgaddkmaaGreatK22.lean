/-
  Several texts of this family in one: CodeWrVer, CodeWrRec, CodeRefRight, CodeSame, VersHas, VersMore.
-/
import Derived.Test.YtkfdplfgaddkmaaGreatK3
import Derived.Test.YtkfdplfgaddkmaaGreatK10
import Derived.Test.YtkfdplfgaddkmaaGreatK14
import Derived.Test.YtkfdplfgaddkmaaGreatK31
/-
 The writer of layer 6: texts, addresses, hashes, versions, records and lists of them.
-/
namespace Go.Proofs.YtkfdplfgaddkmaaGreat
namespace Code
open Go.RowKit Num Span Vers
attribute [local go_sem ↓] Go.wp_at_zero Go.wp_at_succ

theorem Bn.kp {g B : Nat} {v v' : Value} {w w' : World} {t : TypeId} {cs : List Value} (h : Bn B t cs w) (hk : Kp g v w v' w') (hg : B ≠ g) (hv : some B ≠ v.ownBlock) : Bn B t cs w' ∧ some B ≠ v'.ownBlock := hk.block h hg hv
end Code
end Go.Proofs.YtkfdplfgaddkmaaGreat

/-
 The writer of layer 6: lists of versions, records and lists of them, lists of numbers.
-/
namespace Go.Proofs.YtkfdplfgaddkmaaGreat
namespace Code
open Go.RowKit Num Span Vers
attribute [local go_sem ↓] Go.wp_at_zero Go.wp_at_succ

end Code
end Go.Proofs.YtkfdplfgaddkmaaGreat

/-
 What is right in layer 6, in the document's own words: addresses, records, messages.
-/
namespace Go.Proofs.YtkfdplfgaddkmaaGreat
namespace Code
open Go.RowKit Num Span Vers
attribute [local go_sem ↓] Go.wp_at_zero Go.wp_at_succ

set_option maxRecDepth 100000 in
theorem refrecord_any (A : Option Addr) (c m : Nat) (key : ByteArray) (l : List Vr) (hm : l.length = m) (hm2 : m ≤ 140737488355328) (hk2 : key.size ≤ 140737488355328) (w : World) (hv : Vs w 0 w.heap.size A l) :
  Calls Tryz.prog 64 #[.agg #[.string key, .slice A m c]] w (fun e w' => e = .returned (.bool (decide (okR (key, l)))) ∧ Below w.heap.size w w') := by
 obtain ⟨W, hW⟩ : ∃ W, w.alloc (.cells #[.string key, .slice A m c] 70) = W := ⟨_, rfl⟩
 have hB : Bn w.heap.size 70 [.string key, .slice A m c] W := by rw [← hW]; exact heap_alloc_new _ _
 have k0 := hB.cell 0
 have k1 := hB.cell 1
 simp only [List.getElem?_cons_zero, List.getElem?_cons_succ] at k0 k1
 have hbW : Below w.heap.size w W := by rw [← hW]; exact (Below.refl _ w).alloc (Nat.le_refl _) _
 have h1 := ref_rightV_any A c m l hm W ((hv.below hbW).more hbW.size) hm2
 have hsz := hbW.size
 have HB := Lib.hid hbW
 clear hB hbW hv
 obtain ⟨R, hR⟩ : ∃ R, decide (okR (key, l)) = R := ⟨_, rfl⟩
 rw [hR]
 have hkl : key.toList.length = key.size := by rw [Lib.toList_data, Array.length_toList]; rfl
 by_cases c0 : 1 ≤ key.size
 case neg =>
  have hem : key.toList.isEmpty = true := by rw [List.isEmpty_iff_length_eq_zero]; omega
  have HR := Lib.hid (show R = false by rw [← hR]; exact decide_eq_false fun h => c0 h.1)
  clear h1 hR hkl
  go_enter Tryz.func64, Tryz.ntmps64
  go_wp2_with fail
  go_ret
  exact ⟨by rw [HR.out]; rfl, HB.out⟩
 have hem : key.toList.isEmpty = false := by rw [← Bool.not_eq_true, List.isEmpty_iff_length_eq_zero]; omega
 clear hkl
 by_cases c1 : key.size ≤ 32
 case neg =>
  have d1 : decide ((key.size : Int) ≤ 32) = false := decide_eq_false (by omega)
  have HR := Lib.hid (show R = false by rw [← hR]; exact decide_eq_false fun h => c1 h.2.1)
  clear h1 hR
  go_enter Tryz.func64, Tryz.ntmps64
  go_wp2_with fail
  go_ret
  exact ⟨by rw [HR.out]; rfl, HB.out⟩
 have d1 : decide ((key.size : Int) ≤ 32) = true := decide_eq_true (by omega)
 have HR := Lib.hid (show R = decide (RightV l) by rw [← hR]; exact decide_eq_decide.2 ⟨fun h => h.2.2, fun h => ⟨c0, c1, h⟩⟩)
 have H1 := Lib.hid h1
 clear h1 hR
 go_enter Tryz.func64, Tryz.ntmps64
 go_wp2_with fail
 refine H1.out.mono ?_
 rintro e w1 ⟨rfl, hb1⟩
 have HE := Lib.hid (HB.out.trans (hb1.mono hsz))
 obtain ⟨D, hD⟩ : ∃ D, decide (RightV l) = D := ⟨_, rfl⟩
 have hRD : R = D := by rw [HR.out, hD]
 rw [hD]
 clear hb1 H1 HR hD
 go_wp2_with fail
 go_ret
 exact ⟨by rw [hRD]; rfl, HE.out⟩

end Code
end Go.Proofs.YtkfdplfgaddkmaaGreat

/-
 firthref06.Same and its parts: whether numbers, records, messages are the same.
-/
namespace Go.Proofs.YtkfdplfgaddkmaaGreat
namespace Code
open Go.RowKit Num Span Vers
attribute [local go_sem ↓] Go.wp_at_zero Go.wp_at_succ

theorem nsk_cell {kd : IntKind} {w w' : World} {B : Nat} {A : Option Addr} {l : List Int} {n : Nat} (h : Ns kd w B A l) (hn : l.length = n) (hb : Below B w w') {k : Nat} (hk : k < n) {x : Int} (hx : l.getD k 0 = x) :
  ∃ b off, A = some ⟨b, off, none⟩ ∧ b < B ∧ w'.cell? ⟨b, off + k, none⟩ = some (.int kd x) := by
 subst hn
 subst hx
 obtain ⟨b, off, e, hbB, hc⟩ := h (by omega)
 exact ⟨b, off, e, hbB, (hb.cell (by exact hbB)).trans (hc k hk)⟩
theorem taken_eq {α : Type} (d : α) {l m : List α} {k : Nat} (hl : k < l.length) (hm : k < m.length) (h : l.take k = m.take k) (he : l.getD k d = m.getD k d) : l.take (k + 1) = m.take (k + 1) := by
 rw [List.take_succ_eq_append_getElem hl, List.take_succ_eq_append_getElem hm, h]
 have e1 : l.getD k d = l[k] := by simp [List.getD_eq_getElem?_getD, hl]
 have e2 : m.getD k d = m[k] := by simp [List.getD_eq_getElem?_getD, hm]
 rw [← e1, ← e2, he]

set_option maxHeartbeats 1000000 in
theorem svec_any (A A' : Option Addr) (c c' n n' : Nat) (l m : List Int) (hn : l.length = n) (hn' : m.length = n') (w : World) (hr : Ns .i64 w w.heap.size A l) (hr' : Ns .i64 w w.heap.size A' m) (hbig : n ≤ 140737488355328) (hbig' : n' ≤ 140737488355328) :
  Calls Tryz.prog 17 #[.slice A n c, .slice A' n' c'] w fun e w' => e = .returned (.bool (decide (l = m))) ∧ Below w.heap.size w w' := by
 by_cases hlen : n = n'
 ·subst hlen
  go_enter Tryz.func17, Tryz.ntmps17
  go_wp2
  go_loopw [5] (fun q wr => ∃ k : Nat, k ≤ n ∧ q = .int .i64 k ∧ Below w.heap.size w wr ∧ Hid (l.take k = m.take k)) (fun q _ => n - (intOf q).toNat)
  case atStart => exact ⟨0, by omega, rfl, Below.refl _ _, rfl⟩
  case round =>
   obtain ⟨k, hk, rfl, hb, hst⟩ := hrel
   by_cases hlt : k < n
   ·have hy := taken_eq (0 : Int) (l := l) (m := m) (by omega) (by omega) hst.out
    have hz : l.getD k 0 ≠ m.getD k 0 → ¬ l = m := fun h e => h (by rw [e])
    obtain ⟨x, hx⟩ : ∃ x, l.getD k 0 = x := ⟨_, rfl⟩
    obtain ⟨y, hx'⟩ : ∃ x, m.getD k 0 = x := ⟨_, rfl⟩
    obtain ⟨b, off, rfl, hbB, d0⟩ := nsk_cell hr hn hb hlt hx
    obtain ⟨b', off', rfl, hbB', d0'⟩ := nsk_cell hr' hn' hb hlt hx'
    rw [hx, hx'] at hy hz
    have r0 : (0 : Int) ≤ (k : Int) := by omega
    have r1 : (k : Int) < (n : Int) := by omega
    by_cases he : x = y
    ·have HY := Lib.hid (hy he)
     subst he
     clear hr hr' hst hy hz hx hx' hn hn'
     go_wp2
     go_quiet (fail)
     go_wp2
     exact ⟨⟨k + 1, by omega, rfl, hb.trans (Span.below_drewN _ _ _), HY⟩, by simp only [intOf]; omega⟩
    ·have HZ := Lib.hid (decide_eq_false (hz he))
     have g0 : (x == y) = false := by simp [he]
     clear hr hr' hst hy hz hx hx' hn hn' he
     go_wp2
     go_quiet (fail)
     go_wp2
     go_ret
     exact ⟨by rw [HZ.out]; rfl, hb.trans (Span.below_drewN _ _ _)⟩
   ·have hres := hst.out
    rw [List.take_of_length_le (by omega), List.take_of_length_le (by omega)] at hres
    have HR := Lib.hid (decide_eq_true hres)
    have hk0 : k = n := by omega
    clear hst hr hr' hn hn' hres
    go_wp2
    go_ret
    exact ⟨by rw [HR.out]; rfl, hb⟩
 ·have hne : ¬ l = m := fun h => hlen (by rw [← hn, ← hn', h])
  have HR := Lib.hid (decide_eq_false hne)
  clear hr hr' hn hn' hne
  go_enter Tryz.func17, Tryz.ntmps17
  go_wp2
  go_ret
  exact ⟨by rw [HR.out]; rfl, Below.refl _ _⟩

set_option maxHeartbeats 1000000 in
theorem shashes_any (A A' : Option Addr) (c c' n n' : Nat) (l m : List Int) (hn : l.length = n) (hn' : m.length = n') (w : World) (hr : Ns .u64 w w.heap.size A l) (hr' : Ns .u64 w w.heap.size A' m) (hbig : n ≤ 140737488355328) (hbig' : n' ≤ 140737488355328) :
  Calls Tryz.prog 15 #[.slice A n c, .slice A' n' c'] w fun e w' => e = .returned (.bool (decide (l = m))) ∧ Below w.heap.size w w' := by
 by_cases hlen : n = n'
 ·subst hlen
  go_enter Tryz.func15, Tryz.ntmps15
  go_wp2
  go_loopw [5] (fun q wr => ∃ k : Nat, k ≤ n ∧ q = .int .i64 k ∧ Below w.heap.size w wr ∧ Hid (l.take k = m.take k)) (fun q _ => n - (intOf q).toNat)
  case atStart => exact ⟨0, by omega, rfl, Below.refl _ _, rfl⟩
  case round =>
   obtain ⟨k, hk, rfl, hb, hst⟩ := hrel
   by_cases hlt : k < n
   ·have hy := taken_eq (0 : Int) (l := l) (m := m) (by omega) (by omega) hst.out
    have hz : l.getD k 0 ≠ m.getD k 0 → ¬ l = m := fun h e => h (by rw [e])
    obtain ⟨x, hx⟩ : ∃ x, l.getD k 0 = x := ⟨_, rfl⟩
    obtain ⟨y, hx'⟩ : ∃ x, m.getD k 0 = x := ⟨_, rfl⟩
    obtain ⟨b, off, rfl, hbB, d0⟩ := nsk_cell hr hn hb hlt hx
    obtain ⟨b', off', rfl, hbB', d0'⟩ := nsk_cell hr' hn' hb hlt hx'
    rw [hx, hx'] at hy hz
    have r0 : (0 : Int) ≤ (k : Int) := by omega
    have r1 : (k : Int) < (n : Int) := by omega
    by_cases he : x = y
    ·have HY := Lib.hid (hy he)
     subst he
     clear hr hr' hst hy hz hx hx' hn hn'
     go_wp2
     go_quiet (fail)
     go_wp2
     exact ⟨⟨k + 1, by omega, rfl, hb.trans (Span.below_drewN _ _ _), HY⟩, by simp only [intOf]; omega⟩
    ·have HZ := Lib.hid (decide_eq_false (hz he))
     have g0 : (x == y) = false := by simp [he]
     clear hr hr' hst hy hz hx hx' hn hn' he
     go_wp2
     go_quiet (fail)
     go_wp2
     go_ret
     exact ⟨by rw [HZ.out]; rfl, hb.trans (Span.below_drewN _ _ _)⟩
   ·have hres := hst.out
    rw [List.take_of_length_le (by omega), List.take_of_length_le (by omega)] at hres
    have HR := Lib.hid (decide_eq_true hres)
    have hk0 : k = n := by omega
    clear hst hr hr' hn hn' hres
    go_wp2
    go_ret
    exact ⟨by rw [HR.out]; rfl, hb⟩
 ·have hne : ¬ l = m := fun h => hlen (by rw [← hn, ← hn', h])
  have HR := Lib.hid (decide_eq_false hne)
  clear hr hr' hn hn' hne
  go_enter Tryz.func15, Tryz.ntmps15
  go_wp2
  go_ret
  exact ⟨by rw [HR.out]; rfl, Below.refl _ _⟩

set_option maxRecDepth 100000 in
set_option maxHeartbeats 4000000 in
theorem srecs_any (A A' : Option Addr) (c c' n n' : Nat) (l l' : List Rc) (hn : l.length = n) (hn' : l'.length = n') (w : World) (hv : Rs w 0 w.heap.size A l) (hv' : Rs w 0 w.heap.size A' l') (hb : n ≤ 140737488355328) (hb' : n' ≤ 140737488355328) :
  Calls Tryz.prog 16 #[.slice A n c, .slice A' n' c'] w fun e w' => e = .returned (.bool (decide (l = l'))) ∧ Below w.heap.size w w' := by
 obtain ⟨R, hR⟩ : ∃ R, decide (l = l') = R := ⟨_, rfl⟩
 rw [hR]
 by_cases hlen : n = n'
 ·subst hlen
  have HV := Lib.hid (And.intro hv (And.intro hv' (And.intro hn (And.intro hn' hR))))
  clear hv hv' hn hn' hR
  go_enter Tryz.func16, Tryz.ntmps16
  go_wp2
  go_loopw [5] (fun q wr => ∃ k : Nat, q = .int .i64 k ∧ k ≤ n ∧ Below w.heap.size w wr ∧ Hid (l.take k = l'.take k)) (fun q _ => n - (intOf q).toNat)
  case atStart => exact ⟨0, rfl, by omega, Below.refl _ _, Lib.hid rfl⟩
  case round =>
   obtain ⟨k, rfl, hk, hb1, hst⟩ := hrel
   have hsz := hb1.size
   by_cases hlt : k < n
   ·obtain ⟨b, off, A1, c1, rfl, _, hbB, a0, a1, hps, hz1⟩ := HV.out.1.at HV.out.2.2.1 hb1 hlt rfl
    obtain ⟨b', off', A1', c1', rfl, _, hbB', a0', a1', hps', hz1'⟩ := HV.out.2.1.at HV.out.2.2.2.1 hb1 hlt rfl
    have hy := taken_eq r0 (l := l) (m := l') (by have := HV.out.2.2.1; omega) (by have := HV.out.2.2.2.1; omega) hst.out
    have hz : l.getD k r0 ≠ l'.getD k r0 → ¬ l = l' := fun h e => h (by rw [e])
    obtain ⟨v, hvv⟩ : ∃ v, l.getD k r0 = v := ⟨_, rfl⟩
    obtain ⟨v', hvv'⟩ : ∃ v, l'.getD k r0 = v := ⟨_, rfl⟩
    rw [hvv] at a0 a1 hps hz1
    rw [hvv'] at a0' a1' hps' hz1'
    rw [hvv, hvv'] at hy hz
    clear hvv hvv'
    obtain ⟨x, vl⟩ := v
    obtain ⟨x', vl'⟩ := v'
    simp only at a0 a1 hps hz1 a0' a1' hps' hz1'
    obtain ⟨kp, hkp⟩ : ∃ kp, vl.length = kp := ⟨_, rfl⟩
    obtain ⟨kp', hkp'⟩ : ∃ kp, vl'.length = kp := ⟨_, rfl⟩
    rw [hkp] at a1 hz1
    rw [hkp'] at a1' hz1'
    have lb : b < wr.heap.size := by omega
    have lb' : b' < wr.heap.size := by omega
    have d1 : (0 : Int) ≤ (k : Int) := by omega
    have d2 : (k : Int) < (n : Int) := by omega
    by_cases hx : x = x'
    ·subst hx
     have h1 := ref_sameV_any A1 A1' c1 c1' kp kp' vl vl' hkp hkp' wr.drew (hps.more (B' := wr.drew.heap.size) (by exact hsz)) (hps'.more (B' := wr.drew.heap.size) (by exact hsz)) hz1.2.1 hz1'.2.1
     obtain ⟨q, hq⟩ : ∃ q, decide (vl = vl') = q := ⟨_, rfl⟩
     rw [hq] at h1
     have HN := Lib.hid (show (q = true → l.take (k + 1) = l'.take (k + 1)) ∧ (q = false → R = false) from ⟨fun h => hy (by rw [of_decide_eq_true (hq.trans h)]), fun h => by
      rw [← HV.out.2.2.2.2]
      exact decide_eq_false (hz (fun e => of_decide_eq_false (hq.trans h) (by injection e)))⟩)
     have H1 := Lib.hid h1
     clear h1 hy hz hq hkp hkp' hps hps' hst hz1 hz1'
     go_wp2
     go_region_held3 (fun V => V.cell? ⟨b, off + k * 2, none⟩ = some (.string x) ∧ V.cell? ⟨b, off + k * 2 + 1, none⟩ = some (.slice A1 kp c1) ∧ V.cell? ⟨b', off' + k * 2, none⟩ = some (.string x) ∧ V.cell? ⟨b', off' + k * 2 + 1, none⟩ = some (.slice A1' kp' c1'))
      (first | exact ⟨a0, a1, a0', a1'⟩ | exact ⟨cell_below b1 lb a0, cell_below b1 lb a1, cell_below b1 lb' a0', cell_below b1 lb' a1'⟩)
      (first | (go_at_call 39; refine H1.out.mono ?_; rintro e w1 ⟨rfl, b1⟩))
     have BE : Below w.heap.size w w1 := hb1.drew.trans (Below.mono b1 (by exact hsz))
     clear b1 H1 hb1
     cases q
     ·have HF := Lib.hid (HN.out.2 rfl)
      clear HN
      go_wp2
      go_ret
      exact ⟨by rw [HF.out]; rfl, BE⟩
     ·have HF := Lib.hid (HN.out.1 rfl)
      clear HN
      go_wp2
      exact ⟨⟨k + 1, rfl, by omega, BE, HF⟩, by simp only [intOf]; omega⟩
    ·have HZ := Lib.hid (show R = false by rw [← HV.out.2.2.2.2]; exact decide_eq_false (hz (fun e => hx (by injection e))))
     have g0 : (x.toList == x'.toList) = false := by rw [str_eq]; exact decide_eq_false hx
     clear hy hz hkp hkp' hps hps' hst hz1 hz1' hx
     go_wp2
     go_quiet (fail)
     go_wp2
     go_ret
     exact ⟨by rw [HZ.out]; rfl, hb1.trans (Span.below_drewN _ _ _)⟩
   ·have hkn : k = n := by omega
    subst hkn
    have HF := Lib.hid (show R = true by
     rw [← HV.out.2.2.2.2]
     refine decide_eq_true ?_
     have := hst.out
     rwa [List.take_of_length_le (by have := HV.out.2.2.1; omega), List.take_of_length_le (by have := HV.out.2.2.2.1; omega)] at this)
    clear hst
    go_wp2
    go_ret
    exact ⟨by rw [HF.out]; rfl, hb1⟩
 ·have HF := Lib.hid (show R = false by rw [← hR]; exact decide_eq_false fun h => hlen (by rw [← hn, ← hn', h]))
  clear hv hv' hn hn' hR
  go_enter Tryz.func16, Tryz.ntmps16
  go_wp2
  go_ret
  exact ⟨by rw [HF.out]; rfl, Below.refl _ _⟩
end Code
end Go.Proofs.YtkfdplfgaddkmaaGreat

/-
 firthlaw05.has: is a version of that dot among these?
-/
namespace Go.Proofs.YtkfdplfgaddkmaaGreat
namespace Vers
open Go.RowKit Span
attribute [local go_sem ↓] Go.wp_at_zero Go.wp_at_succ

def hasD (l : List Vr) (s n : Int) : Prop := ∃ v ∈ l, v.s = s ∧ v.n = n
instance (l : List Vr) (s n : Int) : Decidable (hasD l s n) := by unfold hasD; infer_instance
end Vers
end Go.Proofs.YtkfdplfgaddkmaaGreat

/-
 What comes of merging in another order, and twice; on plain lists.
-/
namespace Go.Proofs.YtkfdplfgaddkmaaGreat
namespace Vers
open Span

def plainP (x y : Vr) : Prop := (mem x.past y.s y.n → withinF y.past x.past = true ∧ ¬ mem y.past x.s x.n) ∧ (same x y → x = y)
instance (x y : Vr) : Decidable (plainP x y) := by unfold plainP; infer_instance
def plainF (l : List Vr) : Prop := ∀ x ∈ l, ∀ y ∈ l, plainP x y
instance (l : List Vr) : Decidable (plainF l) := by unfold plainF; infer_instance
section
variable {a b c : List Vr} (hp : plainF (a ++ b ++ c))
include hp
end
end Vers
end Go.Proofs.YtkfdplfgaddkmaaGreat
