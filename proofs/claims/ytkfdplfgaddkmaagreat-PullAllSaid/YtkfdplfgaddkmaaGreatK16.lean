/-
  Several texts of this family in one: CodeSame, MendDoubt, MendAnswerRef, MendFewPlain, MendKeyPlain, MendStepP, MendAnswer, MendSame, MendTake, MendAwake, CodeArgs, TreeArgs, MendBulk, MendHeldUp, MendBothPlain, PullSort.
-/
import Derived.Test.YtkfdplfgaddkmaaGreatK10
import Derived.Test.YtkfdplfgaddkmaaGreatK9
import Derived.Test.YtkfdplfgaddkmaaGreatK15
import Derived.Deep.RegionHeld3
import Derived.Deep.DrawnRows
import Derived.Test.YtkfdplfgaddkmaaGreatK12
import Derived.Test.YtkfdplfgaddkmaaGreatK11
import Derived.Test.YtkfdplfgaddkmaaGreatK13
import Derived.Deep.OwnRows
import Derived.Test.YtkfdplfgaddkmaaGreatK3
import Derived.Test.YtkfdplfgaddkmaaGreatK1
import Derived.Test.YtkfdplfgaddkmaaGreatK2
/-
 firthref06.Same and its parts: whether numbers, records, messages are the same.
-/
namespace Go.Proofs.YtkfdplfgaddkmaaGreat
namespace Code
open Go.RowKit Num Span Vers
attribute [local go_sem ↓] Go.wp_at_zero Go.wp_at_succ

theorem nsk_cell {kd : IntKind} {w w' : World} {B : Nat} {A : Option Addr} {l : List Int} {n : Nat} (h : Ns kd w B A l) (hn : l.length = n) (hb : Below B w w') {k : Nat} (hk : k < n) {x : Int} (hx : l.getD k 0 = x) :
  ∃ b off, A = some ⟨b, off, none⟩ ∧ b < B ∧ w'.cell? ⟨b, off + k, none⟩ = some (.int kd x) := by
 subst hn
 subst hx
 obtain ⟨b, off, e, hbB, hc⟩ := h (by omega)
 exact ⟨b, off, e, hbB, (hb.cell (by exact hbB)).trans (hc k hk)⟩
theorem taken_eq {α : Type} (d : α) {l m : List α} {k : Nat} (hl : k < l.length) (hm : k < m.length) (h : l.take k = m.take k) (he : l.getD k d = m.getD k d) : l.take (k + 1) = m.take (k + 1) := by
 rw [List.take_succ_eq_append_getElem hl, List.take_succ_eq_append_getElem hm, h]
 have e1 : l.getD k d = l[k] := by simp [List.getD_eq_getElem?_getD, hl]
 have e2 : m.getD k d = m[k] := by simp [List.getD_eq_getElem?_getD, hm]
 rw [← e1, ← e2, he]

set_option maxHeartbeats 1000000 in
theorem svec_any (A A' : Option Addr) (c c' n n' : Nat) (l m : List Int) (hn : l.length = n) (hn' : m.length = n') (w : World) (hr : Ns .i64 w w.heap.size A l) (hr' : Ns .i64 w w.heap.size A' m) (hbig : n ≤ 140737488355328) (hbig' : n' ≤ 140737488355328) :
  Calls Tryz.prog 17 #[.slice A n c, .slice A' n' c'] w fun e w' => e = .returned (.bool (decide (l = m))) ∧ Below w.heap.size w w' := by
 by_cases hlen : n = n'
 ·subst hlen
  go_enter Tryz.func17, Tryz.ntmps17
  go_wp2
  go_loopw [5] (fun q wr => ∃ k : Nat, k ≤ n ∧ q = .int .i64 k ∧ Below w.heap.size w wr ∧ Hid (l.take k = m.take k)) (fun q _ => n - (intOf q).toNat)
  case atStart => exact ⟨0, by omega, rfl, Below.refl _ _, rfl⟩
  case round =>
   obtain ⟨k, hk, rfl, hb, hst⟩ := hrel
   by_cases hlt : k < n
   ·have hy := taken_eq (0 : Int) (l := l) (m := m) (by omega) (by omega) hst.out
    have hz : l.getD k 0 ≠ m.getD k 0 → ¬ l = m := fun h e => h (by rw [e])
    obtain ⟨x, hx⟩ : ∃ x, l.getD k 0 = x := ⟨_, rfl⟩
    obtain ⟨y, hx'⟩ : ∃ x, m.getD k 0 = x := ⟨_, rfl⟩
    obtain ⟨b, off, rfl, hbB, d0⟩ := nsk_cell hr hn hb hlt hx
    obtain ⟨b', off', rfl, hbB', d0'⟩ := nsk_cell hr' hn' hb hlt hx'
    rw [hx, hx'] at hy hz
    have r0 : (0 : Int) ≤ (k : Int) := by omega
    have r1 : (k : Int) < (n : Int) := by omega
    by_cases he : x = y
    ·have HY := Lib.hid (hy he)
     subst he
     clear hr hr' hst hy hz hx hx' hn hn'
     go_wp2
     go_quiet (fail)
     go_wp2
     exact ⟨⟨k + 1, by omega, rfl, hb.trans (Span.below_drewN _ _ _), HY⟩, by simp only [intOf]; omega⟩
    ·have HZ := Lib.hid (decide_eq_false (hz he))
     have g0 : (x == y) = false := by simp [he]
     clear hr hr' hst hy hz hx hx' hn hn' he
     go_wp2
     go_quiet (fail)
     go_wp2
     go_ret
     exact ⟨by rw [HZ.out]; rfl, hb.trans (Span.below_drewN _ _ _)⟩
   ·have hres := hst.out
    rw [List.take_of_length_le (by omega), List.take_of_length_le (by omega)] at hres
    have HR := Lib.hid (decide_eq_true hres)
    have hk0 : k = n := by omega
    clear hst hr hr' hn hn' hres
    go_wp2
    go_ret
    exact ⟨by rw [HR.out]; rfl, hb⟩
 ·have hne : ¬ l = m := fun h => hlen (by rw [← hn, ← hn', h])
  have HR := Lib.hid (decide_eq_false hne)
  clear hr hr' hn hn' hne
  go_enter Tryz.func17, Tryz.ntmps17
  go_wp2
  go_ret
  exact ⟨by rw [HR.out]; rfl, Below.refl _ _⟩

set_option maxHeartbeats 1000000 in
theorem sints_any (A A' : Option Addr) (c c' n n' : Nat) (l m : List Int) (hn : l.length = n) (hn' : m.length = n') (w : World) (hr : Ns .i64 w w.heap.size A l) (hr' : Ns .i64 w w.heap.size A' m) (hbig : n ≤ 140737488355328) (hbig' : n' ≤ 140737488355328) :
  Calls Tryz.prog 41 #[.slice A n c, .slice A' n' c'] w fun e w' => e = .returned (.bool (decide (l = m))) ∧ Below w.heap.size w w' := by
 by_cases hlen : n = n'
 ·subst hlen
  go_enter Tryz.func41, Tryz.ntmps41
  go_wp2
  go_loopw [5] (fun q wr => ∃ k : Nat, k ≤ n ∧ q = .int .i64 k ∧ Below w.heap.size w wr ∧ Hid (l.take k = m.take k)) (fun q _ => n - (intOf q).toNat)
  case atStart => exact ⟨0, by omega, rfl, Below.refl _ _, rfl⟩
  case round =>
   obtain ⟨k, hk, rfl, hb, hst⟩ := hrel
   by_cases hlt : k < n
   ·have hy := taken_eq (0 : Int) (l := l) (m := m) (by omega) (by omega) hst.out
    have hz : l.getD k 0 ≠ m.getD k 0 → ¬ l = m := fun h e => h (by rw [e])
    obtain ⟨x, hx⟩ : ∃ x, l.getD k 0 = x := ⟨_, rfl⟩
    obtain ⟨y, hx'⟩ : ∃ x, m.getD k 0 = x := ⟨_, rfl⟩
    obtain ⟨b, off, rfl, hbB, d0⟩ := nsk_cell hr hn hb hlt hx
    obtain ⟨b', off', rfl, hbB', d0'⟩ := nsk_cell hr' hn' hb hlt hx'
    rw [hx, hx'] at hy hz
    have r0 : (0 : Int) ≤ (k : Int) := by omega
    have r1 : (k : Int) < (n : Int) := by omega
    by_cases he : x = y
    ·have HY := Lib.hid (hy he)
     subst he
     clear hr hr' hst hy hz hx hx' hn hn'
     go_wp2
     go_quiet (fail)
     go_wp2
     exact ⟨⟨k + 1, by omega, rfl, hb.trans (Span.below_drewN _ _ _), HY⟩, by simp only [intOf]; omega⟩
    ·have HZ := Lib.hid (decide_eq_false (hz he))
     have g0 : (x == y) = false := by simp [he]
     clear hr hr' hst hy hz hx hx' hn hn' he
     go_wp2
     go_quiet (fail)
     go_wp2
     go_ret
     exact ⟨by rw [HZ.out]; rfl, hb.trans (Span.below_drewN _ _ _)⟩
   ·have hres := hst.out
    rw [List.take_of_length_le (by omega), List.take_of_length_le (by omega)] at hres
    have HR := Lib.hid (decide_eq_true hres)
    have hk0 : k = n := by omega
    clear hst hr hr' hn hn' hres
    go_wp2
    go_ret
    exact ⟨by rw [HR.out]; rfl, hb⟩
 ·have hne : ¬ l = m := fun h => hlen (by rw [← hn, ← hn', h])
  have HR := Lib.hid (decide_eq_false hne)
  clear hr hr' hn hn' hne
  go_enter Tryz.func41, Tryz.ntmps41
  go_wp2
  go_ret
  exact ⟨by rw [HR.out]; rfl, Below.refl _ _⟩

set_option maxRecDepth 100000 in
set_option maxHeartbeats 4000000 in
theorem srecs_any (A A' : Option Addr) (c c' n n' : Nat) (l l' : List Rc) (hn : l.length = n) (hn' : l'.length = n') (w : World) (hv : Rs w 0 w.heap.size A l) (hv' : Rs w 0 w.heap.size A' l') (hb : n ≤ 140737488355328) (hb' : n' ≤ 140737488355328) :
  Calls Tryz.prog 16 #[.slice A n c, .slice A' n' c'] w fun e w' => e = .returned (.bool (decide (l = l'))) ∧ Below w.heap.size w w' := by
 obtain ⟨R, hR⟩ : ∃ R, decide (l = l') = R := ⟨_, rfl⟩
 rw [hR]
 by_cases hlen : n = n'
 ·subst hlen
  have HV := Lib.hid (And.intro hv (And.intro hv' (And.intro hn (And.intro hn' hR))))
  clear hv hv' hn hn' hR
  go_enter Tryz.func16, Tryz.ntmps16
  go_wp2
  go_loopw [5] (fun q wr => ∃ k : Nat, q = .int .i64 k ∧ k ≤ n ∧ Below w.heap.size w wr ∧ Hid (l.take k = l'.take k)) (fun q _ => n - (intOf q).toNat)
  case atStart => exact ⟨0, rfl, by omega, Below.refl _ _, Lib.hid rfl⟩
  case round =>
   obtain ⟨k, rfl, hk, hb1, hst⟩ := hrel
   have hsz := hb1.size
   by_cases hlt : k < n
   ·obtain ⟨b, off, A1, c1, rfl, _, hbB, a0, a1, hps, hz1⟩ := HV.out.1.at HV.out.2.2.1 hb1 hlt rfl
    obtain ⟨b', off', A1', c1', rfl, _, hbB', a0', a1', hps', hz1'⟩ := HV.out.2.1.at HV.out.2.2.2.1 hb1 hlt rfl
    have hy := taken_eq r0 (l := l) (m := l') (by have := HV.out.2.2.1; omega) (by have := HV.out.2.2.2.1; omega) hst.out
    have hz : l.getD k r0 ≠ l'.getD k r0 → ¬ l = l' := fun h e => h (by rw [e])
    obtain ⟨v, hvv⟩ : ∃ v, l.getD k r0 = v := ⟨_, rfl⟩
    obtain ⟨v', hvv'⟩ : ∃ v, l'.getD k r0 = v := ⟨_, rfl⟩
    rw [hvv] at a0 a1 hps hz1
    rw [hvv'] at a0' a1' hps' hz1'
    rw [hvv, hvv'] at hy hz
    clear hvv hvv'
    obtain ⟨x, vl⟩ := v
    obtain ⟨x', vl'⟩ := v'
    simp only at a0 a1 hps hz1 a0' a1' hps' hz1'
    obtain ⟨kp, hkp⟩ : ∃ kp, vl.length = kp := ⟨_, rfl⟩
    obtain ⟨kp', hkp'⟩ : ∃ kp, vl'.length = kp := ⟨_, rfl⟩
    rw [hkp] at a1 hz1
    rw [hkp'] at a1' hz1'
    have lb : b < wr.heap.size := by omega
    have lb' : b' < wr.heap.size := by omega
    have d1 : (0 : Int) ≤ (k : Int) := by omega
    have d2 : (k : Int) < (n : Int) := by omega
    by_cases hx : x = x'
    ·subst hx
     have h1 := ref_sameV_any A1 A1' c1 c1' kp kp' vl vl' hkp hkp' wr.drew (hps.more (B' := wr.drew.heap.size) (by exact hsz)) (hps'.more (B' := wr.drew.heap.size) (by exact hsz)) hz1.2.1 hz1'.2.1
     obtain ⟨q, hq⟩ : ∃ q, decide (vl = vl') = q := ⟨_, rfl⟩
     rw [hq] at h1
     have HN := Lib.hid (show (q = true → l.take (k + 1) = l'.take (k + 1)) ∧ (q = false → R = false) from ⟨fun h => hy (by rw [of_decide_eq_true (hq.trans h)]), fun h => by
      rw [← HV.out.2.2.2.2]
      exact decide_eq_false (hz (fun e => of_decide_eq_false (hq.trans h) (by injection e)))⟩)
     have H1 := Lib.hid h1
     clear h1 hy hz hq hkp hkp' hps hps' hst hz1 hz1'
     go_wp2
     go_region_held3 (fun V => V.cell? ⟨b, off + k * 2, none⟩ = some (.string x) ∧ V.cell? ⟨b, off + k * 2 + 1, none⟩ = some (.slice A1 kp c1) ∧ V.cell? ⟨b', off' + k * 2, none⟩ = some (.string x) ∧ V.cell? ⟨b', off' + k * 2 + 1, none⟩ = some (.slice A1' kp' c1'))
      (first | exact ⟨a0, a1, a0', a1'⟩ | exact ⟨cell_below b1 lb a0, cell_below b1 lb a1, cell_below b1 lb' a0', cell_below b1 lb' a1'⟩)
      (first | (go_at_call 39; refine H1.out.mono ?_; rintro e w1 ⟨rfl, b1⟩))
     have BE : Below w.heap.size w w1 := hb1.drew.trans (Below.mono b1 (by exact hsz))
     clear b1 H1 hb1
     cases q
     ·have HF := Lib.hid (HN.out.2 rfl)
      clear HN
      go_wp2
      go_ret
      exact ⟨by rw [HF.out]; rfl, BE⟩
     ·have HF := Lib.hid (HN.out.1 rfl)
      clear HN
      go_wp2
      exact ⟨⟨k + 1, rfl, by omega, BE, HF⟩, by simp only [intOf]; omega⟩
    ·have HZ := Lib.hid (show R = false by rw [← HV.out.2.2.2.2]; exact decide_eq_false (hz (fun e => hx (by injection e))))
     have g0 : (x.toList == x'.toList) = false := by rw [str_eq]; exact decide_eq_false hx
     clear hy hz hkp hkp' hps hps' hst hz1 hz1' hx
     go_wp2
     go_quiet (fail)
     go_wp2
     go_ret
     exact ⟨by rw [HZ.out]; rfl, hb1.trans (Span.below_drewN _ _ _)⟩
   ·have hkn : k = n := by omega
    subst hkn
    have HF := Lib.hid (show R = true by
     rw [← HV.out.2.2.2.2]
     refine decide_eq_true ?_
     have := hst.out
     rwa [List.take_of_length_le (by have := HV.out.2.2.1; omega), List.take_of_length_le (by have := HV.out.2.2.2.1; omega)] at this)
    clear hst
    go_wp2
    go_ret
    exact ⟨by rw [HF.out]; rfl, hb1⟩
 ·have HF := Lib.hid (show R = false by rw [← hR]; exact decide_eq_false fun h => hlen (by rw [← hn, ← hn', h]))
  clear hv hv' hn hn' hR
  go_enter Tryz.func16, Tryz.ntmps16
  go_wp2
  go_ret
  exact ⟨by rw [HF.out]; rfl, Below.refl _ _⟩
end Code
end Go.Proofs.YtkfdplfgaddkmaaGreat

/-
 firthref14.doubt and Doubt: has an unlike place one hash? (layer 14)
-/
namespace Go.Proofs.YtkfdplfgaddkmaaGreat
namespace Mend
open Go.RowKit Vers Num Ring Disk Blk Tree
open Go.Proofs.YtkfdplfgaddkmaaGreat.Code hiding Bn
attribute [local go_sem ↓] Go.wp_at_zero Go.wp_at_succ
def dbF (x y : List Rc) (p : List Int) : Prop := hashF x p = hashF y p ∧ recsF x p ≠ recsF y p
instance (x y : List Rc) (p : List Int) : Decidable (dbF x y p) := by unfold dbF; infer_instance
theorem newS_rs {l : List Rc} {w w' : World} {e : Ending} (h : NewS l w e w') : ∃ A m c, e = .returned (.slice A m c) ∧ l.length = m ∧ Rs w' 0 w'.heap.size A l ∧ Below w.heap.size w w' := by
 obtain ⟨A, m, c, ps, he, h1, hb⟩ := h
 refine ⟨A, m, c, he, h1.out.2.1, ?_, hb⟩
 have h2 := h1.out.2.2.2.rs hb.size
 rwa [h1.out.1] at h2
theorem recs_len (all : List Rc) (p : List Int) : (recsF all p).length ≤ all.length := by
 unfold recsF
 split
 ·exact beneath_len _ _
 ·simp
set_option maxRecDepth 100000 in
set_option maxHeartbeats 4000000 in
theorem doubt_any (A A' Ap : Option Addr) (c c' cp n n' np : Nat) (x y : List Rc) (p : List Int) (hx : x.length = n) (hy : y.length = n') (hp : p.length = np) (hb1 : n ≤ 3518437208780) (hb2 : n' ≤ 3518437208780) (hbp : np ≤ 140737488355328) (hox : okL x) (hoy : okL y) (V : World) (hr : Rs V 0 V.heap.size A x) (hr' : Rs V 0 V.heap.size A' y) (hn : Ns .i64 V V.heap.size Ap p) :
  Calls Tryz.prog 70 #[.slice A n c, .slice A' n' c', .slice Ap np cp] V (fun e w' => e = .returned (.bool (decide (dbF x y p))) ∧ Below V.heap.size V w') := by
 have HP : Hid (∀ W, Below V.heap.size V W → Rs W 0 W.heap.size A x ∧ Rs W 0 W.heap.size A' y ∧ Ns .i64 W W.heap.size Ap p) := Lib.hid fun W hW => ⟨(hr.below hW).more hW.size, (hr'.below hW).more hW.size, (hn.below hW).more hW.size⟩
 have HL := Lib.hid (And.intro hx (And.intro hy (And.intro hp (And.intro hox hoy))))
 have h0 := HP.out V (Below.refl _ _)
 have H1 := Lib.hid (ref_hash_tell V A c n x hx (by omega) hox h0.1 Ap cp np p hp hbp h0.2.2)
 obtain ⟨h1, hh1⟩ : ∃ h, hashF x p = h := ⟨_, rfl⟩
 obtain ⟨h2, hh2⟩ : ∃ h, hashF y p = h := ⟨_, rfl⟩
 rw [hh1] at H1
 have HH := Lib.hid (And.intro hh1 hh2)
 clear hx hy hp hox hoy hr hr' hn h0 hh1 hh2
 go_enter Tryz.func70, Tryz.ntmps70
 go_wp2_with fail
 refine H1.out.mono ?_
 rintro e1 w1 ⟨rfl, b1⟩
 have H2 := ref_hash_tell w1 A' c' n' y HL.out.2.1 (by omega) HL.out.2.2.2.2 (HP.out w1 b1).2.1 Ap cp np p HL.out.2.2.1 hbp (HP.out w1 b1).2.2
 rw [HH.out.2] at H2
 have H2 := Lib.hid H2
 have B1 := Lib.hid b1
 clear b1 H1
 go_wp2_with fail
 refine H2.out.mono ?_
 rintro e2 w2 ⟨rfl, b2⟩
 have B2 := Lib.hid (B1.out.trans (b2.mono B1.out.size))
 clear b2 H2 B1
 by_cases hq : h1 = h2
 ·have e9 : (h1 == h2) = true := by simp [hq]
  have H3 := Lib.hid (ref_recs_tell A Ap c cp np n x p HL.out.1 (by omega) HL.out.2.2.1 hbp w2 (HP.out w2 B2.out).1 (HP.out w2 B2.out).2.2)
  have HQ := Lib.hid hq
  clear hq
  go_wp2_with fail
  refine H3.out.mono ?_
  rintro e3 w3 h3
  obtain ⟨A3, m3, c3, rfl, g3, hr3, b3⟩ := newS_rs h3
  have B3 := Lib.hid (B2.out.trans (b3.mono B2.out.size))
  have H4 := Lib.hid (ref_recs_tell A' Ap c' cp np n' y p HL.out.2.1 (by omega) HL.out.2.2.1 hbp w3 (HP.out w3 B3.out).2.1 (HP.out w3 B3.out).2.2)
  have HR3 := Lib.hid (And.intro g3 hr3)
  clear h3 g3 hr3 b3 H3 B2
  go_wp2_with fail
  refine H4.out.mono ?_
  rintro e4 w4 h4
  obtain ⟨A4, m4, c4, rfl, g4, hr4, b4⟩ := newS_rs h4
  have B4 := Lib.hid (B3.out.trans (b4.mono B3.out.size))
  have hl3 := recs_len x p
  have hl4 := recs_len y p
  rw [HR3.out.1, HL.out.1] at hl3
  rw [g4, HL.out.2.1] at hl4
  have H5 := srecs_any A3 A4 c3 c4 m3 m4 _ _ HR3.out.1 g4 w4 ((HR3.out.2.below b4).more b4.size) hr4 (by omega) (by omega)
  obtain ⟨b, hb⟩ : ∃ b, decide (recsF x p = recsF y p) = b := ⟨_, rfl⟩
  rw [hb] at H5
  have H5 := Lib.hid H5
  have HF : Hid (decide (dbF x y p) = !b) := Lib.hid (by
   have hd : dbF x y p ↔ ¬ recsF x p = recsF y p := ⟨fun h => h.2, fun h => ⟨by rw [HH.out.1, HH.out.2]; exact HQ.out, h⟩⟩
   rw [← hb]
   by_cases hxy : recsF x p = recsF y p
   ·rw [decide_eq_false (fun h => hd.1 h hxy), decide_eq_true hxy]; rfl
   ·rw [decide_eq_true (hd.2 hxy), decide_eq_false hxy]; rfl)
  clear h4 g4 hr4 b4 hl3 hl4 hb H4 HR3 B3
  go_wp2_with fail
  refine H5.out.mono ?_
  rintro e5 w5 ⟨rfl, b5⟩
  have HE := Lib.hid (B4.out.trans (b5.mono B4.out.size))
  clear b5 H5 B4
  go_wp2_with fail
  go_ret
  exact ⟨by rw [HF.out]; rfl, HE.out⟩
 ·have e9 : (h1 == h2) = false := by simp [hq]
  have HF : Hid (decide (dbF x y p) = false) := Lib.hid (decide_eq_false fun h => hq (by rw [← HH.out.1, ← HH.out.2]; exact h.1))
  clear hq
  go_wp2_with fail
  go_ret
  exact ⟨by rw [HF.out]; rfl, B2.out⟩
theorem okL_held {l : List Rc} (h : okL l) : okL (heldF l) := by
 have hf : ∀ (l acc : List Rc), okL l → okL acc → okL (l.foldl withR acc) := by
  intro l
  induction l with
  | nil => exact fun _ _ h => h
  | cons r l ih =>
   intro acc h1 h2
   refine ih _ (fun x hx => h1 x (List.mem_cons_of_mem _ hx)) fun x hx => ?_
   rcases with_mem.1 hx with ⟨rfl, _⟩ | ⟨hx, _⟩
   ·exact h1 _ (by simp)
   ·exact h2 x hx
 exact hf l [] h fun _ hr => by cases hr
def DoubtT (x y : List Rc) (V : World) (e : Ending) (w' : World) : Prop := (∃ d, e = .returned (.bool d) ∧ (d = false → ∀ p, okP p → ¬ dbF x y p)) ∧ Below V.heap.size V w'
theorem ns_p1 (w : World) (x : Int) : Ns .i64 (w.alloc (.cells #[.int .i64 x] 3)) (w.alloc (.cells #[.int .i64 x] 3)).heap.size (some ⟨w.heap.size, 0, none⟩) [x] := fun _ =>
 ⟨w.heap.size, 0, rfl, by simp, fun j hj => by
  obtain rfl : j = 0 := by simp at hj; omega
  simp⟩
theorem ns_p2 (w : World) (x y : Int) : Ns .i64 (w.alloc (.cells #[.int .i64 x, .int .i64 y] 3)) (w.alloc (.cells #[.int .i64 x, .int .i64 y] 3)).heap.size (some ⟨w.heap.size, 0, none⟩) [x, y] := fun _ =>
 ⟨w.heap.size, 0, rfl, by simp, fun j hj => by
  obtain rfl | rfl : j = 0 ∨ j = 1 := by simp at hj; omega
  all_goals simp⟩
def noneP (x y : List Rc) (p : Nat) : Prop := ¬ dbF x y [] ∧ ∀ i : Nat, i < p → ¬ dbF x y [(i : Int)] ∧ ∀ j : Nat, j < 16 → ¬ dbF x y [(i : Int), (j : Int)]
theorem none_all {x y : List Rc} (h : noneP x y 16) : ∀ p, okP p → ¬ dbF x y p := fun p hp => by
 rcases ok_cases hp with rfl | ⟨a, rfl, h1, h2⟩ | ⟨a, b, rfl, h1, h2⟩
 ·exact h.1
 ·obtain ⟨k, rfl⟩ := Int.eq_ofNat_of_zero_le h1
  exact (h.2 k (by omega)).1
 ·obtain ⟨k, rfl⟩ := Int.eq_ofNat_of_zero_le h1.1
  obtain ⟨j, rfl⟩ := Int.eq_ofNat_of_zero_le h2.1
  exact (h.2 k (by omega)).2 j (by omega)
set_option maxRecDepth 100000 in
set_option maxHeartbeats 4000000 in
theorem doubts_any (A A' : Option Addr) (c c' n n' : Nat) (l l' : List Rc) (hn : l.length = n) (hn' : l'.length = n') (hb1 : n ≤ 3518437208780) (hb2 : n' ≤ 3518437208780) (hok : okL l) (hok' : okL l') (V : World) (hr : Rs V 0 V.heap.size A l) (hr' : Rs V 0 V.heap.size A' l') :
  Calls Tryz.prog 36 #[.slice A n c, .slice A' n' c'] V (DoubtT (heldF l) (heldF l') V) := by
 have H1 := Lib.hid (held_any A c n V.heap.size l hn (by omega) V (Nat.le_refl _) (rs_rb hr))
 have HP := Lib.hid (And.intro hn (And.intro hn' (And.intro (rs_rb hr') (And.intro hok hok'))))
 clear hn hn' hr hr' hok hok'
 go_enter Tryz.func36, Tryz.ntmps36
 go_wp2_with fail
 refine H1.out.mono ?_
 rintro e1 w1 (⟨_, Aa, na, ca, ps, rfl, h1, b1⟩ | ⟨hno, _, _⟩)
 rotate_left
 ·exact absurd HP.out.2.2.2.1 hno
 have H2 := Lib.hid (held_any A' c' n' V.heap.size l' HP.out.2.1 (by omega) w1 b1.size (Rb.below HP.out.2.2.1 (Nat.le_refl _) b1))
 have HA := Lib.hid (And.intro h1.out b1)
 clear H1 h1 b1
 go_wp2_with fail
 refine H2.out.mono ?_
 rintro e2 w2 (⟨_, Ab, nb, cb, ps2, rfl, h2, b2⟩ | ⟨hno, _, _⟩)
 rotate_left
 ·exact absurd HP.out.2.2.2.2 hno
 have b12 : Below V.heap.size V w2 := HA.out.2.trans (b2.mono HA.out.2.size)
 obtain ⟨x, hx⟩ : ∃ x, heldF l = x := ⟨_, rfl⟩
 obtain ⟨y, hy⟩ : ∃ y, heldF l' = y := ⟨_, rfl⟩
 have hxl : na ≤ 3518437208780 := by have := held_len l; rw [HP.out.1, HA.out.1.2.1] at this; omega
 have hyl : nb ≤ 3518437208780 := by have := held_len l'; rw [HP.out.2.1, h2.out.2.1] at this; omega
 have hrx : Rs w2 0 w2.heap.size Aa x := by
  have h := (RowX.keepB HA.out.1.2.2.2 b2 HA.out.2.size).rb
  rw [HA.out.1.1, hx] at h
  exact rb_rs h b12.size
 have hry : Rs w2 0 w2.heap.size Ab y := by
  have h := h2.out.2.2.2.rb
  rw [h2.out.1, hy] at h
  exact rb_rs h b12.size
 have hlx : x.length = na := by rw [← hx]; exact HA.out.1.2.1
 have hly : y.length = nb := by rw [← hy]; exact h2.out.2.1
 have hox : okL x := by rw [← hx]; exact okL_held HP.out.2.2.2.1
 have hoy : okL y := by rw [← hy]; exact okL_held HP.out.2.2.2.2
 have HXY := Lib.hid (And.intro hx hy)
 have HD : Hid (∀ W (Ap : Option Addr) (cp np : Nat) (p : List Int), Below w2.heap.size w2 W → p.length = np → np ≤ 2 → Ns .i64 W W.heap.size Ap p → Calls Tryz.prog 70 #[.slice Aa na ca, .slice Ab nb cb, .slice Ap np cp] W (fun e w' => e = .returned (.bool (decide (dbF x y p))) ∧ Below W.heap.size W w')) := Lib.hid fun W Ap cp np p hW h3 h4 h5 =>
  doubt_any Aa Ab Ap ca cb cp na nb np x y p hlx hly h3 hxl hyl (by omega) hox hoy W ((hrx.below hW).more hW.size) ((hry.below hW).more hW.size) h5
 have H3 := HD.out w2 none 0 0 [] (Below.refl _ _) rfl (by omega) (fun h => by simp at h)
 obtain ⟨d0, hd0⟩ : ∃ d, decide (dbF x y []) = d := ⟨_, rfl⟩
 rw [hd0] at H3
 have H3 := Lib.hid H3
 have HB := Lib.hid b12
 have HD0 := Lib.hid hd0
 clear H2 h2 b2 b12 hx hy hrx hry hlx hly hox hoy hxl hyl HA hd0
 go_wp2_with fail
 refine H3.out.mono ?_
 rintro e3 w3 ⟨rfl, b3⟩
 have HI : Hid (Below w2.heap.size w2 w3) := Lib.hid b3
 clear b3 H3
 cases d0
 ·have HN0 := Lib.hid (of_decide_eq_false HD0.out)
  go_wp2_with fail
  go_loopw [9] (fun q wr => ∃ p : Nat, q = .int .i64 p ∧ p ≤ 16 ∧ Hid (noneP x y p ∧ Below w2.heap.size w2 wr)) (fun q _ => 16 - (intOf q).toNat)
  case atStart => exact ⟨0, rfl, by omega, Lib.hid ⟨⟨HN0.out, fun i hi => by omega⟩, HI.out⟩⟩
  case round =>
   clear HI
   obtain ⟨p, rfl, hp, hst⟩ := hrel
   by_cases hlt : p < 16
   ·have d1 : (p : Int) < 16 := by omega
    have ba : Below wr.heap.size wr (wr.alloc (.cells #[.int .i64 p] 3)) := (Below.refl _ _).alloc (Nat.le_refl _) _
    have ba2 := hst.out.2.trans (ba.mono hst.out.2.size)
    have H4 := HD.out _ (some ⟨wr.heap.size, 0, none⟩) 1 1 [(p : Int)] ba2 rfl (by omega) (ns_p1 wr p)
    obtain ⟨d, hd⟩ : ∃ d, decide (dbF x y [(p : Int)]) = d := ⟨_, rfl⟩
    rw [hd] at H4
    have H4 := Lib.hid H4
    have HST := Lib.hid (And.intro hst.out.1 (And.intro hd ba2))
    clear hst ba ba2 hd
    go_wp2_with fail
    refine H4.out.mono ?_
    rintro e4 w4 ⟨rfl, b4⟩
    have HI4 : Hid (Below w2.heap.size w2 w4) := Lib.hid (HST.out.2.2.trans (b4.mono HST.out.2.2.size))
    clear b4 H4
    cases d
    ·have HN1 := Lib.hid (of_decide_eq_false HST.out.2.1)
     go_wp2_with fail
     go_loopw [10] (fun q wr => ∃ j : Nat, q = .int .i64 j ∧ j ≤ 16 ∧ Hid ((∀ i : Nat, i < j → ¬ dbF x y [(p : Int), (i : Int)]) ∧ Below w2.heap.size w2 wr)) (fun q _ => 16 - (intOf q).toNat)
     case atStart => exact ⟨0, rfl, by omega, Lib.hid ⟨fun i hi => by omega, HI4.out⟩⟩
     case round =>
      clear HI4
      obtain ⟨j, rfl, hj, hst⟩ := hrel
      by_cases hlt2 : j < 16
      ·have d2 : (j : Int) < 16 := by omega
       have bb : Below wr.heap.size wr (wr.alloc (.cells #[.int .i64 p, .int .i64 j] 3)) := (Below.refl _ _).alloc (Nat.le_refl _) _
       have bb2 := hst.out.2.trans (bb.mono hst.out.2.size)
       have H5 := HD.out _ (some ⟨wr.heap.size, 0, none⟩) 2 2 [(p : Int), (j : Int)] bb2 rfl (by omega) (ns_p2 wr p j)
       obtain ⟨d, hd⟩ : ∃ d, decide (dbF x y [(p : Int), (j : Int)]) = d := ⟨_, rfl⟩
       rw [hd] at H5
       have H5 := Lib.hid H5
       have HS2 := Lib.hid (And.intro hst.out.1 (And.intro hd bb2))
       clear hst bb bb2 hd
       go_wp2_with fail
       refine H5.out.mono ?_
       rintro e5 w5 ⟨rfl, b5⟩
       have HI5 : Hid (Below w2.heap.size w2 w5) := Lib.hid (HS2.out.2.2.trans (b5.mono HS2.out.2.2.size))
       clear b5 H5
       cases d
       ·have HN2 := Lib.hid (of_decide_eq_false HS2.out.2.1)
        go_wp2_with fail
        go_roundw
        case rel => exact ⟨j + 1, by go_num, by omega, Lib.hid ⟨fun i hi => by
         rcases Nat.lt_or_ge i j with h | h
         ·exact HS2.out.1 i h
         ·rw [show i = j by omega]; exact HN2.out, HI5.out⟩⟩
        case measure => simp only [intOf]; omega
       ·go_wp2_with fail
        go_ret
        exact ⟨⟨true, rfl, fun h => by cases h⟩, HB.out.trans (HI5.out.mono HB.out.size)⟩
      ·have hjm : j = 16 := by omega
       subst hjm
       have HF := Lib.hid (And.intro (show noneP x y (p + 1) from ⟨HST.out.1.1, fun i hi => by
        rcases Nat.lt_or_ge i p with h | h
        ·exact HST.out.1.2 i h
        ·rw [show i = p by omega]; exact ⟨HN1.out, hst.out.1⟩⟩) hst.out.2)
       clear hst
       go_wp2_with fail
       go_roundw
       case rel => exact ⟨p + 1, by go_num, by omega, HF⟩
       case measure => simp only [intOf]; omega
    ·go_wp2_with fail
     go_ret
     exact ⟨⟨true, rfl, fun h => by cases h⟩, HB.out.trans (HI4.out.mono HB.out.size)⟩
   ·have hpm : p = 16 := by omega
    subst hpm
    have HF := Lib.hid (And.intro (none_all hst.out.1) hst.out.2)
    clear hst
    go_wp2_with fail
    go_ret
    exact ⟨⟨false, rfl, fun _ => by rw [HXY.out.1, HXY.out.2]; exact HF.out.1⟩, HB.out.trans (HF.out.2.mono HB.out.size)⟩
 ·go_wp2_with fail
  go_ret
  exact ⟨⟨true, rfl, fun h => by cases h⟩, HB.out.trans (HI.out.mono HB.out.size)⟩
end Mend
end Go.Proofs.YtkfdplfgaddkmaaGreat

/-
 The document's Answer (layer 14).
-/
namespace Go.Proofs.YtkfdplfgaddkmaaGreat
namespace Mend
open Go.RowKit Vers Num Ring Disk Blk Tree
open Go.Proofs.YtkfdplfgaddkmaaGreat.Code hiding Bn
attribute [local go_sem ↓] Go.wp_at_zero Go.wp_at_succ
theorem sta_ns {k : IntKind} {G : Nat → Prop} {Z : World} {base n c : Nat} {t : TypeId} {A : Option Addr} {zs : List Int} (ho : Z.ownsRow base t 1 (.slice A n c) n (nums k zs)) (hl : zs.length = n) (hG : ∀ g, base ≤ g → ¬ G g) : Sta G Z (fun W => Ns k W W.heap.size A zs) := fun w' _ hk => by
 have h := Blk.own_keep ho fun g hg => hk g (ho.lt g hg).2 (hG g (ho.lt g hg).1)
 rw [← hl] at h
 exact own_ns h
theorem diff_range {a b : List Int} {d : Int} (h : d ∈ diffF a b) : 0 ≤ d ∧ d < 16 := by
 unfold diffF at h
 obtain ⟨i, hi, rfl⟩ := List.mem_map.1 h
 have := List.mem_range.1 (List.mem_filter.1 hi).1
 omega
end Mend
end Go.Proofs.YtkfdplfgaddkmaaGreat

/-
 Where two differ under some keys alone: how many places are found (layer 14).
-/
namespace Go.Proofs.YtkfdplfgaddkmaaGreat
namespace Mend
open Go.RowKit Vers Num Ring Disk Blk Tree
open Go.Proofs.YtkfdplfgaddkmaaGreat.Code hiding Bn
theorem find_append {β : Type} (l m : List (Nm × β)) (k : Nm) : find (l ++ m) k = (find l k).or (find m k) := by
 induction l with
 | nil => simp [find]
 | cons x l ih =>
  show (if x.1 = k then some x.2 else find (l ++ m) k) = (if x.1 = k then some x.2 else find l k).or (find m k)
  by_cases h : x.1 = k
  ·rw [if_pos h, if_pos h]; rfl
  ·rw [if_neg h, if_neg h, ih]
theorem hel_snoc {l : List Rc} {r : Rc} (h : Hel (l ++ [r])) : Hel l ∧ r.2 ≠ [] ∧ find l r.1 = none := by
 obtain ⟨h1, h2⟩ := h
 have h3 := List.pairwise_append.1 h1
 refine ⟨⟨h3.1, fun x hx => h2 x (by simp [hx])⟩, h2 r (by simp), find_none.2 fun x hx e => ?_⟩
 exact nlt_ne (h3.2.2 x hx r (by simp)) e
theorem with_snoc {l : List Rc} {r : Rc} (h : Hel (l ++ [r])) : withR l r = l ++ [r] := by
 obtain ⟨h1, h2, h3⟩ := hel_snoc h
 refine hel_ext (h1.with r) h fun k => ?_
 rw [get_with]
 unfold getF
 rw [find_append]
 by_cases hk : k = r.1
 ·subst hk
  rw [if_pos rfl, h3]
  simp [find]
 ·rw [if_neg hk]
  have : find [r] k = none := find_none.2 fun x hx e => by
   rw [List.mem_singleton.1 hx] at e
   exact hk e.symm
  rw [this, Option.or_none]
theorem held_self : ∀ {l : List Rc}, Hel l → heldF l = l := by
 have h : ∀ (n : Nat) (l : List Rc), l.length = n → Hel l → heldF l = l := by
  intro n
  induction n with
  | zero =>
   intro l hn _
   rw [List.eq_nil_of_length_eq_zero hn]
   rfl
  | succ n ih =>
   intro l hn hl
   have hne : l ≠ [] := by intro e; rw [e] at hn; simp at hn
   have e := List.dropLast_concat_getLast hne
   rw [← e] at hl ⊢
   rw [held_snoc, ih _ (by simp; omega) (hel_snoc hl).1, with_snoc hl]
 intro l hl
 exact h _ _ rfl hl
theorem diff_nodup (a b : List Int) : (diffF a b).Nodup := by
 unfold diffF
 rw [List.Nodup, List.pairwise_map]
 refine List.Pairwise.imp ?_ (List.Pairwise.filter _ List.nodup_range)
 intro x y h e
 exact h (by omega)
theorem diff_mem {a b : List Int} {d : Int} (h : d ∈ diffF a b) : ∃ i : Nat, d = i ∧ i < 16 ∧ a.getD i 0 ≠ b.getD i 0 := by
 unfold diffF at h
 obtain ⟨i, hi, rfl⟩ := List.mem_map.1 h
 obtain ⟨h1, h2⟩ := List.mem_filter.1 hi
 exact ⟨i, rfl, List.mem_range.1 h1, by simpa using h2⟩
theorem kids_at {all : List Rc} {p : List Int} (hp : okP p) (h2 : p.length < 2) {i : Nat} (hi : i < 16) : (kidsF all p).getD i 0 = hashF all (p ++ [(i : Int)]) := by
 unfold kidsF
 rw [if_pos ⟨hp, h2⟩, List.getD_eq_getElem?_getD, List.getElem?_map, List.getElem?_range hi]
 rfl
theorem beneath_with {all : List Rc} (hs : Srt all) {r : Rc} {p : List Int} (h : inP p r.1 = false) : beneath (withR all r) p = beneath all p := by
 refine srt_mem (beneath_srt (with_srt hs r) p) (beneath_srt hs p) fun x => ?_
 rw [beneath_mem, beneath_mem, with_mem]
 constructor
 ·rintro ⟨⟨rfl, _⟩ | ⟨h1, _⟩, h2⟩
  ·rw [h] at h2; cases h2
  ·exact ⟨h1, h2⟩
 ·rintro ⟨h1, h2⟩
  refine ⟨.inr ⟨h1, fun e => ?_⟩, h2⟩
  rw [e, h] at h2
  cases h2
theorem beneath_fold {p : List Int} (m : List Rc) : ∀ a : List Rc, Srt a → (∀ r ∈ m, inP p r.1 = false) → beneath (m.foldl withR a) p = beneath a p := by
 induction m with
 | nil => exact fun _ _ _ => rfl
 | cons r m ih =>
  intro a hs h
  rw [List.foldl_cons, ih _ (with_srt hs r) (fun x hx => h x (by simp [hx])), beneath_with hs (h r (by simp))]
theorem hash_same {a b : List Rc} {p : List Int} (hp : okP p) (h : beneath a p = beneath b p) : hashF a p = hashF b p := by
 unfold hashF
 rw [if_pos hp, if_pos hp]
 exact hF_congr _ _ _ _ hp (by have := hp.2; omega) h
theorem differ_key {a m : List Rc} (hs : Srt a) {p : List Int} (hp : okP p) (h : hashF (m.foldl withR a) p ≠ hashF a p) : ∃ r ∈ m, inP p r.1 = true := by
 refine Classical.byContradiction fun hn => h (hash_same hp (beneath_fold m a hs fun r hr => ?_))
 cases e : inP p r.1 with
 | false => rfl
 | true => exact absurd ⟨r, hr, e⟩ hn
theorem in_one {d : Int} {k : Nm} (h : inP [d] k = true) : dig0 k = d := by simpa [inP] using h
theorem in_two {d e : Int} {k : Nm} (h : inP [d, e] k = true) : dig0 k = d ∧ dig1 k = e := by simpa [inP] using h
theorem first_len {a m : List Rc} (hs : Srt a) : (diffF (kidsF (m.foldl withR a) []) (kidsF a [])).length ≤ m.length := by
 have h := nodup_len (l := diffF (kidsF (m.foldl withR a) []) (kidsF a [])) (m := m.map fun r => dig0 r.1) (diff_nodup _ _) fun d hd => by
  obtain ⟨i, rfl, hi, hne⟩ := diff_mem hd
  rw [kids_at ok_zero (by simp) hi, kids_at ok_zero (by simp) hi] at hne
  obtain ⟨r, hr, hin⟩ := differ_key hs (ok_one.2 (by omega)) hne
  exact List.mem_map.2 ⟨r, hr, in_one hin⟩
 simpa using h
def leavesF (a b : List Rc) (d : Int) : List (Int × Int) := (diffF (kidsF a [d]) (kidsF b [d])).map fun e => (d, e)
theorem leaves_nodup (a b : List Rc) : ∀ D : List Int, D.Nodup → (D.flatMap (leavesF a b)).Nodup := by
 intro D
 induction D with
 | nil => intro _; simp
 | cons d D ih =>
  intro h
  obtain ⟨h1, h2⟩ := List.nodup_cons.1 h
  rw [List.flatMap_cons, List.nodup_append]
  refine ⟨?_, ih h2, fun x hx y hy e => ?_⟩
  ·unfold leavesF
   rw [List.Nodup, List.pairwise_map]
   refine List.Pairwise.imp ?_ (diff_nodup (kidsF a [d]) (kidsF b [d]))
   intro x y hxy e
   exact hxy (by injection e)
  ·obtain ⟨d', hd', hy'⟩ := List.mem_flatMap.1 hy
   unfold leavesF at hx hy'
   obtain ⟨_, _, rfl⟩ := List.mem_map.1 hx
   obtain ⟨_, _, rfl⟩ := List.mem_map.1 hy'
   injection e with e1 e2
   exact h1 (e1 ▸ hd')
theorem leaves_len {a m : List Rc} (hs : Srt a) : ((diffF (kidsF (m.foldl withR a) []) (kidsF a [])).flatMap (leavesF a (m.foldl withR a))).length ≤ m.length := by
 have h := nodup_len (m := m.map fun r => (dig0 r.1, dig1 r.1)) (leaves_nodup a (m.foldl withR a) _ (diff_nodup (kidsF (m.foldl withR a) []) (kidsF a []))) fun x hx => by
  obtain ⟨d, hd, hx⟩ := List.mem_flatMap.1 hx
  unfold leavesF at hx
  obtain ⟨e, he, rfl⟩ := List.mem_map.1 hx
  have hd2 := diff_range hd
  have ok1 : okP [d] := ok_one.2 hd2
  obtain ⟨i, rfl, hi, hne⟩ := diff_mem he
  rw [kids_at ok1 (by simp) hi, kids_at ok1 (by simp) hi] at hne
  obtain ⟨r, hr, hin⟩ := differ_key hs (ok_two.2 ⟨hd2, by omega⟩) (Ne.symm hne)
  obtain ⟨e1, e2⟩ := in_two hin
  exact List.mem_map.2 ⟨r, hr, by rw [e1, e2]⟩
 simpa using h
end Mend
end Go.Proofs.YtkfdplfgaddkmaaGreat

/-
 What is merged, taken and laid, key by key (layer 14).
-/
namespace Go.Proofs.YtkfdplfgaddkmaaGreat
namespace Mend
open Go.RowKit Vers Num Ring Disk Blk Tree
open Go.Proofs.YtkfdplfgaddkmaaGreat.Code hiding Bn
/-! ### Key by key -/
theorem getF_mem {a : List Rc} (ha : Srt a) {r : Rc} (hr : r ∈ a) : getF a r.1 = r.2 := by
 unfold getF
 rw [find_mem ha hr]
 rfl
theorem mem_getF {a : List Rc} {k : Nm} (h : getF a k ≠ []) : (k, getF a k) ∈ a := by
 unfold getF at h ⊢
 cases hf : find a k with
 | none => rw [hf] at h; exact absurd rfl h
 | some v => exact find_some hf
def mg1 (a b : List Vr) : List Vr := if (mergeF a b).2 = 0 then (mergeF a b).1 else a
theorem get_merge (now : List Rc) (r : Rc) (k : Nm) : getF (mergeR now r) k = if k = r.1 then mg1 (getF now k) r.2 else getF now k := by
 unfold mergeR mg1
 by_cases hk : k = r.1
 ·subst hk
  rw [if_pos rfl]
  split
  ·rw [get_with, if_pos rfl]
  ·rfl
 ·rw [if_neg hk]
  split
  ·rw [get_with, if_neg hk]
  ·rfl
theorem hel_cons {r : Rc} {l : List Rc} (h : Hel (r :: l)) : Hel l ∧ r.2 ≠ [] ∧ find l r.1 = none := by
 obtain ⟨h1, h2⟩ := h
 have h3 := List.pairwise_cons.1 h1
 exact ⟨⟨h3.2, fun x hx => h2 x (by simp [hx])⟩, h2 r (by simp), find_none.2 fun x hx e => nlt_ne (h3.1 x hx) e.symm⟩
theorem get_cons (r : Rc) (l : List Rc) (k : Nm) : getF (r :: l) k = if r.1 = k then r.2 else getF l k := by
 show (if r.1 = k then some r.2 else find l k).getD [] = _
 by_cases h : r.1 = k
 ·rw [if_pos h, if_pos h]; rfl
 ·rw [if_neg h, if_neg h]; rfl
theorem get_laid : ∀ (l : List Rc), Hel l → ∀ (a : List Rc) (k : Nm), getF (l.foldl withR a) k = if getF l k = [] then getF a k else getF l k := by
 intro l
 induction l with
 | nil => intro _ a k; rfl
 | cons r l ih =>
  intro h a k
  obtain ⟨h1, h2, h3⟩ := hel_cons h
  rw [List.foldl_cons, ih h1, get_with, get_cons]
  by_cases hk : k = r.1
  ·subst hk
   have h0 : getF l r.1 = [] := by unfold getF; rw [h3]; rfl
   rw [h0, if_pos rfl, if_pos rfl, if_pos rfl, if_neg h2]
  ·have hk2 : ¬ r.1 = k := fun e => hk e.symm
   rw [if_neg hk, if_neg hk2]
theorem hel_filter {l : List Rc} (h : Hel l) (f : Rc → Bool) : Hel (l.filter f) := ⟨List.Pairwise.filter _ h.1, fun x hx => h.2 x (List.mem_filter.1 hx).1⟩
theorem get_filter {l : List Rc} (h : Hel l) (f : Rc → Bool) (k : Nm) : getF (l.filter f) k = if f (k, getF l k) = true then getF l k else [] := by
 by_cases hg : getF l k = []
 ·rw [hg, ite_self]
  refine Classical.byContradiction fun hne => ?_
  have h1 := (List.mem_filter.1 (mem_getF hne)).1
  have h2 := getF_mem h.1 h1
  exact hne (h2.symm.trans hg)
 ·have hm := mem_getF hg
  by_cases hf : f (k, getF l k) = true
  ·rw [if_pos hf]
   exact getF_mem (hel_filter h f).1 (List.mem_filter.2 ⟨hm, hf⟩)
  ·rw [if_neg hf]
   refine Classical.byContradiction fun hne => ?_
   have h1 := List.mem_filter.1 (mem_getF hne)
   have h2 : getF l k = getF (l.filter f) k := getF_mem h.1 h1.1
   rw [← h2] at h1
   exact hf h1.2
/-! ### Where all can be merged -/
theorem okB_cons {a t : List Rc} {r : Rc} (h : okB a (r :: t)) : (mergeF (getF a r.1) r.2).2 = 0 ∧ okB (mergeR a r) t := by
 refine ⟨by simpa using h 0 (by simp), fun k hk => ?_⟩
 have := h (k + 1) (by simpa using hk)
 simpa using this
theorem fine_at : ∀ {t : List Rc}, Hel t → ∀ {a : List Rc}, okB a t → ∀ {k : Nm}, getF t k ≠ [] → (mergeF (getF a k) (getF t k)).2 = 0 := by
 intro t
 induction t with
 | nil => intro _ a _ k h; exact absurd rfl h
 | cons r t ih =>
  intro h a hf k hk
  obtain ⟨h1, _, h3⟩ := hel_cons h
  obtain ⟨f1, f2⟩ := okB_cons hf
  rw [get_cons] at hk ⊢
  by_cases e : r.1 = k
  ·subst e
   rw [if_pos rfl]
   exact f1
  ·rw [if_neg e] at hk ⊢
   have := ih h1 f2 hk
   rwa [get_merge, if_neg (fun q => e q.symm)] at this
end Mend
end Go.Proofs.YtkfdplfgaddkmaaGreat

/-
 The closure of mend.Answer: one step (layer 14).
-/
namespace Go.Proofs.YtkfdplfgaddkmaaGreat
namespace Mend
open Go.RowKit Vers Num Ring Disk Blk Tree
open Go.Proofs.YtkfdplfgaddkmaaGreat.Code hiding Bn
attribute [local go_sem ↓] Go.wp_at_zero Go.wp_at_succ
section
variable {F : Nat → Prop} {w V : World} {tb : Nat} {all : List Rc}
end
theorem sta_got {G : Nat → Prop} {Z : World} {base : Nat} {A : Option Addr} {ps : List Pr} (h : Got base Z A ps) (hG : ∀ g, base ≤ g → ¬ G g) : Sta G Z (fun W => Rs W 0 W.heap.size A (ps.map Prod.fst)) := fun _ hs hk => (h.keep hs fun k h1 h2 => hk k h2 (hG k h1)).rs.less (Nat.zero_le _)
end Mend
end Go.Proofs.YtkfdplfgaddkmaaGreat

/-
 mend.Answer (layer 14).
-/
namespace Go.Proofs.YtkfdplfgaddkmaaGreat
namespace Mend
open Go.RowKit Vers Num Ring Disk Blk Tree
open Go.Proofs.YtkfdplfgaddkmaaGreat.Code hiding Bn
attribute [local go_sem ↓] Go.wp_at_zero Go.wp_at_succ
section
variable {F : Nat → Prop} {w V : World} {tb : Nat} {all : List Rc}
end
end Mend
end Go.Proofs.YtkfdplfgaddkmaaGreat

/-
 firthlaw14.steps: two lists of the same steps are the same.
-/
namespace Go.Proofs.YtkfdplfgaddkmaaGreat
namespace Mend
open Go.RowKit Vers Num Ring Disk Blk Tree
open Go.Proofs.YtkfdplfgaddkmaaGreat.Code hiding Bn
attribute [local go_sem ↓] Go.wp_at_zero Go.wp_at_succ
theorem StepsR.at {X : Nat → Prop} {t : TypeId} {base : Nat} {L : List Stp3} {A : Option Addr} {m c : Nat} {w : World} (h : StepsR X t base L (.slice A m c) w) (hL : L.length = m) {j : Nat} (hj : j < m) {s : Stp3} (hs : L[j]? = some s) :
  ∃ g, ∃ x : St, A = some ⟨g, 0, none⟩ ∧ base ≤ g ∧ g < w.heap.size ∧ w.cell? ⟨g, j * 3, none⟩ = some (slV x.1) ∧ w.cell? ⟨g, j * 3 + 1, none⟩ = some (slV x.2.1) ∧ w.cell? ⟨g, j * 3 + 2, none⟩ = some (slV x.2.2) ∧ StIs w x s := by
 obtain ⟨sts, h1, h2, h3⟩ := h
 have hj2 : j < sts.length := by omega
 have hx : sts[j]? = some sts[j] := List.getElem?_eq_getElem hj2
 have hst := (h3 j s _ hs hx).now
 rcases h2.2 with ⟨_, h0⟩ | ⟨g, cap, cur, hv, hbg, hg, rest⟩
 ·omega
 ·injection hv with e1 e2 e3
  subst e1
  rw [hL] at h2
  have hat := stcs_at sts j _ hx
  have hc := fun r (hr : r < 3) => (World.ownsRow.cellAt h2 (j * 3 + r) (by omega)).trans (hat r hr)
  refine ⟨g, sts[j], rfl, hbg, (Array.getElem?_eq_some_iff.1 hg).1, ?_, ?_, ?_, hst⟩
  ·exact hc 0 (by omega)
  ·exact hc 1 (by omega)
  ·exact hc 2 (by omega)
end Mend
end Go.Proofs.YtkfdplfgaddkmaaGreat

/-
 mend.Take (layer 14).
-/
namespace Go.Proofs.YtkfdplfgaddkmaaGreat
namespace Mend
open Go.RowKit Vers Num Ring Disk Blk Tree Go.Maps
open Go.Proofs.YtkfdplfgaddkmaaGreat.Code hiding Bn
attribute [local go_sem ↓] Go.wp_at_zero Go.wp_at_succ
def HoldN (w : World) (L B : Nat) (D : Vl) (M : List Rc) : Prop := ∀ k, (find M k = none ∧ find D k = none) ∨ ∃ lv A c, find M k = some lv ∧ find D k = some (.slice A lv.length c) ∧ Vs w L B A lv ∧ lv.length ≤ c ∧ RightV lv ∧ k.size ≤ 140737488355328
theorem HoldN.keep {w w' : World} {L B : Nat} {D : Vl} {M : List Rc} (h : HoldN w L B D M) (hk : ∀ p : Addr, L ≤ p.block → p.block < B → w'.cell? p = w.cell? p) : HoldN w' L B D M := fun k => by
 rcases h k with h | ⟨lv, A, c, h1, h2, h3, h4⟩
 ·exact .inl h
 ·exact .inr ⟨lv, A, c, h1, h2, h3.keep hk, h4⟩
theorem HoldN.more {w : World} {L B B' : Nat} {D : Vl} {M : List Rc} (h : HoldN w L B D M) (hB : B ≤ B') : HoldN w L B' D M := fun k => by
 rcases h k with h | ⟨lv, A, c, h1, h2, h3, h4⟩
 ·exact .inl h
 ·exact .inr ⟨lv, A, c, h1, h2, h3.more hB, h4⟩
theorem HoldN.put {w : World} {L B : Nat} {D : Vl} {M : List Rc} (h : HoldN w L B D M) {key : Nm} {lv : List Vr} {A : Option Addr} {c m : Nat} (hm : lv.length = m) (hv : Vs w L B A lv) (hc : m ≤ c) (h5 : RightV lv) (hz : key.size ≤ 140737488355328) : HoldN w L B (wit D key (.slice A m c)) (wit M key lv) := fun k => by
 rw [find_wit, find_wit]
 by_cases hk : k = key
 ·rw [if_pos hk, if_pos hk]
  exact .inr ⟨lv, A, c, rfl, by rw [hm], hv, by omega, h5, by rw [hk]; exact hz⟩
 ·rw [if_neg hk, if_neg hk]
  exact h k
def CollT (all : List Rc) (pick : Rc → Bool) (more : Rc → Prop) (ps : List Pr) : Prop := (ps.map Prod.fst).Nodup ∧ ∀ r, r ∈ ps.map Prod.fst ↔ r ∈ all ∧ pick r = true ∧ more r
theorem CollT.same {all : List Rc} {pick : Rc → Bool} {more more' : Rc → Prop} {ps : List Pr} (h : CollT all pick more ps) (hm : ∀ r, r ∈ all → pick r = true → (more r ↔ more' r)) : CollT all pick more' ps := by
 refine ⟨h.1, fun r => (h.2 r).trans ?_⟩
 constructor
 ·rintro ⟨h1, h2, h3⟩
  exact ⟨h1, h2, (hm r h1 h2).1 h3⟩
 ·rintro ⟨h1, h2, h3⟩
  exact ⟨h1, h2, (hm r h1 h2).2 h3⟩
theorem CollT.add {all : List Rc} {pick : Rc → Bool} {more more' : Rc → Prop} {ps : List Pr} (h : CollT all pick more ps) (p : Pr) (hp : p.1 ∈ all) (hl : pick p.1 = true) (hno : ¬ more p.1) (hm : ∀ r, r ∈ all → pick r = true → (more' r ↔ more r ∨ r = p.1)) : CollT all pick more' (ps ++ [p]) := by
 refine ⟨?_, fun r => ?_⟩
 ·rw [List.map_append, List.nodup_append]
  refine ⟨h.1, by simp, fun x hx y hy e => ?_⟩
  simp at hy
  subst hy
  subst e
  exact hno ((h.2 _).1 hx).2.2
 ·rw [List.map_append, List.mem_append, h.2 r]
  simp only [List.map_cons, List.map_nil, List.mem_singleton]
  constructor
  ·rintro (⟨h1, h2, h3⟩ | rfl)
   ·exact ⟨h1, h2, (hm r h1 h2).2 (.inl h3)⟩
   ·exact ⟨hp, hl, (hm _ hp hl).2 (.inr rfl)⟩
  ·rintro ⟨h1, h2, h3⟩
   rcases (hm r h1 h2).1 h3 with h4 | rfl
   ·exact .inl ⟨h1, h2, h4⟩
   ·exact .inr rfl
theorem CollT.len {all : List Rc} {pick : Rc → Bool} {more : Rc → Prop} {ps : List Pr} (h : CollT all pick more ps) : ps.length ≤ all.length := by
 have := nodup_len h.1 fun x hx => ((h.2 x).1 hx).1
 simpa using this
theorem collT_end {all : List Rc} (hs : Srt all) {pick : Rc → Bool} {more : Rc → Prop} {ps ps' : List Pr} (h : CollT all pick more ps) (hall : ∀ r ∈ all, more r) (h1 : ps'.Perm ps) (h2 : ps'.Pairwise fun x y => nlt y.1.1 x.1.1 = false) : ps'.map Prod.fst = all.filter pick := by
 have hmem : ∀ r, r ∈ ps'.map Prod.fst ↔ r ∈ all.filter pick := fun r => by
  rw [(h1.map Prod.fst).mem_iff, h.2 r, List.mem_filter]
  constructor
  ·rintro ⟨q1, q2, _⟩
   exact ⟨q1, q2⟩
  ·rintro ⟨q1, q2⟩
   exact ⟨q1, q2, hall r q1⟩
 have hnd : (ps'.map Prod.fst).Nodup := (h1.map Prod.fst).nodup_iff.2 h.1
 have hsrt : Srt (ps'.map Prod.fst) := by
  unfold Srt
  rw [List.pairwise_map]
  have hk : ps'.Pairwise fun x y => x.1 ≠ y.1 := by
   unfold List.Nodup at hnd
   rwa [List.pairwise_map] at hnd
  refine List.Pairwise.imp_of_mem ?_ (List.Pairwise.and hk h2)
  rintro x y hx hy ⟨e1, e2⟩
  have m1 := (List.mem_filter.1 ((hmem _).1 (List.mem_map.2 ⟨x, hx, rfl⟩))).1
  have m2 := (List.mem_filter.1 ((hmem _).1 (List.mem_map.2 ⟨y, hy, rfl⟩))).1
  refine nlt_tri e2 fun e => e1 ?_
  have f1 := find_mem hs m1
  have f2 := find_mem hs m2
  rw [← e, f2] at f1
  exact Prod.ext e.symm (by injection f1 with f1; exact f1.symm)
 exact srt_mem hsrt (List.Pairwise.filter _ hs) hmem
end Mend
end Go.Proofs.YtkfdplfgaddkmaaGreat

/-
 firthlaw14.awake.
-/
namespace Go.Proofs.YtkfdplfgaddkmaaGreat
namespace Mend
open Go.RowKit Vers Num Ring Disk Blk Tree
open Go.Proofs.YtkfdplfgaddkmaaGreat.Code hiding Bn
attribute [local go_sem ↓] Go.wp_at_zero Go.wp_at_succ
theorem vs_kk (w : World) : Vs (w.alloc (.cells #[.int .i64 1, .int .i64 1, .slice none 0 0, .bool false, .string ⟨#[118]⟩] 119)) 0 (w.heap.size + 1) (some ⟨w.heap.size, 0, none⟩) [kV] := fun _ => by
 have h1 := World.alloc_heap_new w (.cells #[.int .i64 1, .int .i64 1, .slice none 0 0, .bool false, .string ⟨#[118]⟩] 119)
 refine ⟨w.heap.size, 0, rfl, Nat.zero_le _, by omega, fun j hj => ?_⟩
 have hj0 : j = 0 := by simp at hj; omega
 subst hj0
 refine ⟨none, 0, ?_, ?_, ?_, ?_, ?_, fun h => by simp [kV, v0] at h, by simp [kV], by simp [kV], by simp [kV, ByteArray.size], fun h => by simp [kV] at h⟩
 all_goals (unfold World.cell?; rw [h1]; rfl)
theorem rs_one (w : World) {key : Nm} {A : Option Addr} {n c : Nat} {lv : List Vr} (hn : lv.length = n) (hc : n ≤ c) (hn2 : n ≤ 140737488355328) (hk : key.size ≤ 140737488355328) (hv : Vs w 0 w.heap.size A lv) : Rs (w.alloc (.cells #[.string key, .slice A n c] 70)) 0 (w.alloc (.cells #[.string key, .slice A n c] 70)).heap.size (some ⟨w.heap.size, 0, none⟩) [(key, lv)] := fun _ => by
 have h1 := World.alloc_heap_new w (.cells #[.string key, .slice A n c] 70)
 refine ⟨w.heap.size, 0, rfl, Nat.zero_le _, by simp, fun j hj => ?_⟩
 have hj0 : j = 0 := by simp at hj; omega
 subst hj0
 refine ⟨A, c, ?_, ?_, ?_, ?_, ?_, ?_⟩
 ·unfold World.cell?; rw [h1]; rfl
 ·unfold World.cell?; rw [h1]; subst hn; rfl
 ·exact (hv.alloc (Nat.le_refl _) _).more (by simp)
 ·subst hn; exact hc
 ·subst hn; exact hn2
 ·exact hk
end Mend
end Go.Proofs.YtkfdplfgaddkmaaGreat

/-
 Records and messages among a law's arguments.
-/
namespace Go.Proofs.YtkfdplfgaddkmaaGreat
namespace Code
open Go.ChangeShapes Go.WideShapes Go.ChangeAt Go.RowKit Go.Joins Go.Deep Span Vers Num

theorem cells_rec : Tryz.prog.cellsOf 70 = 2 := by kernel_rfl
theorem bytes_rec : Tryz.prog.bytesOf 70 = 40 := by kernel_rfl
theorem cells_vers : Tryz.prog.cellsOf 67 = 1 := by kernel_rfl
section
variable {H : Type} {enc : TypeId × Value → H} {W : World}
theorem vs_at {n : Nat} {cs : List Value} {D : DataW H} {Pl : List MemPlace} (h : DataW.trod enc Tryz.prog W 0 (fun _ => true) true n 67 cs = some (D, Pl)) (hw : Wt Tryz.prog 67 D) :
  ∃ (A : Option Addr) (c : Nat) (l : List Vr), cs = [.slice A l.length c] ∧ Vs W 0 W.heap.size A l ∧ l.length ≤ c ∧ l.length ≤ 140737488355328 := by
 obtain ⟨A, c, ps, rfl, hc, hb, hq, hp⟩ := slice_at Tryz.underlying67 h hw cells_ver bytes_ver (by omega) vcc (fun p => Pa W 0 W.heap.size p.2.1 p.2.2 p.1) z0 (fun _ => rfl) (fun n cs D Pl h hw => by
  obtain ⟨v, A, c, rfl, hpa, _⟩ := ver_at h hw
  exact ⟨(v, A, c), rfl, hpa⟩)
 refine ⟨A, c, ps.map Prod.fst, by rw [List.length_map], fun h0 => ?_, by rw [List.length_map]; exact hc, by rw [List.length_map]; omega⟩
 rw [List.length_map] at h0
 obtain ⟨b, off, e, hbl, hat⟩ := hp h0
 refine ⟨b, off, e, Nat.zero_le _, hbl, fun j hj => ?_⟩
 rw [List.length_map] at hj
 have e2 : (ps.map Prod.fst).getD j v0 = (ps.getD j z0).1 := by simp [List.getD_eq_getElem?_getD, hj]
 have hm : ps.getD j z0 ∈ ps := by
  rw [List.getD_eq_getElem?_getD, List.getElem?_eq_getElem hj]
  exact List.getElem_mem _
 rw [e2]
 exact ⟨_, _, hat j hj 0 _ (by simp [vcc]), hat j hj 1 _ (by simp [vcc]), hat j hj 2 _ (by simp [vcc]), hat j hj 3 _ (by simp [vcc]), hat j hj 4 _ (by simp [vcc]), hq _ hm⟩
set_option maxRecDepth 100000 in
theorem rec_at {n : Nat} {cs : List Value} {D : DataW H} {Pl : List MemPlace} (h : DataW.trod enc Tryz.prog W 0 (fun _ => true) true n 70 cs = some (D, Pl)) (hw : Wt Tryz.prog 70 D) :
  ∃ p : Pr, cs = rcc p ∧ (Vs W 0 W.heap.size p.2.1 p.1.2 ∧ (p.1.2.length ≤ p.2.2 ∧ p.1.2.length ≤ 140737488355328 ∧ p.1.1.size ≤ 140737488355328)) := by
 obtain ⟨y0, y1, m, hx, hl, h0, h1⟩ := trod_struct2 Tryz.underlying70 h
 rw [cells_rec] at hl
 match cs, hl with
 | [q0, q1], _ =>
  simp only [cells_vers, cells_string, List.drop_zero, List.take_succ_cons, List.take_zero, List.drop_succ_cons] at h0 h1
  obtain ⟨x, e0, x0, hxl⟩ := DataW.trod_string Tryz.underlying9 h0
  simp only [Prod.mk.injEq] at hx
  have hww := wt_struct Tryz.underlying70 (hx.1 ▸ hw)
  obtain ⟨A, c, l, e1, hs, hlc, hlw⟩ := vs_at (D := y1.1) (Pl := y1.2) h1 (hww 1 67 y1.1 rfl rfl)
  have hv := hww 0 9 y0.1 rfl rfl
  rw [show y0 = (.lit (.string x.data.toList), []) from x0] at hv
  have hvl := wt_string hv
  have hsz : x.data.toList.length = x.size := by rw [Array.length_toList]; rfl
  rw [hsz] at hvl
  simp only [List.cons.injEq, and_true] at e0 e1
  subst e0 e1
  exact ⟨((x, l), A, c), rfl, hs, hlc, hlw, by simp only; omega⟩
/-! ### Bulks -/
theorem bulk_pos (d : DataW H) : 1 ≤ Rows.uptoBulk d := by
 cases d with
 | lit x => cases x <;> simp [Rows.uptoBulk]
 | _ => simp [Rows.uptoBulk]
theorem bulk_len : ∀ (l : List (DataW H)), l.length ≤ Rows.uptoBulkAll l
 | [] => by simp
 | d :: l => by
  have h1 := bulk_pos d
  have h2 := bulk_len l
  simp only [Rows.uptoBulkAll, List.length_cons]
  omega
/-! ### Messages among the arguments -/
end
end Code
end Go.Proofs.YtkfdplfgaddkmaaGreat

/-
 Records, and lists of them, among a law's arguments (layer 11).
-/
namespace Go.Proofs.YtkfdplfgaddkmaaGreat
theorem Facts.cells3 : Tryz.prog.cellsOf 3 = 1 := by kernel_rfl
theorem Facts.bytes3 : Tryz.prog.bytesOf 3 = 8 := by kernel_rfl
namespace Tree
open Go.ChangeShapes Go.WideShapes Go.ChangeAt Go.RowKit Go.Joins Go.Deep Span Vers Num
open Go.Proofs.YtkfdplfgaddkmaaGreat.Code
set_option maxRecDepth 100000 in
theorem arg_recs {H : Type} {enc : TypeId × Value → H} {W : World} {v : Value} {d : DataW H} {p : List MemPlace} {r : Reach} {b0 : Nat} (hv : Value.okWide Tryz.prog W r b0 23 v) (h : DataW.Trod enc Tryz.prog W 0 (fun _ => true) true 23 v d p) (hw : Wt Tryz.prog 23 d) :
  ∃ (A : Option Addr) (c : Nat) (l : List Rc), v = .slice A l.length c ∧ Rs W 0 W.heap.size A l ∧ l.length ≤ c ∧ l.length * 40 ≤ 140737488351232 := by
 obtain ⟨A0, len0, c0, rfl⟩ := okWide_slice Tryz.underlying23 hv
 obtain ⟨fuel, hf⟩ := h
 obtain ⟨A, c, ps, hcs, hc, hb, hq, hp⟩ := slice_at Tryz.underlying23 hf hw cells_rec bytes_rec (by omega) rcc (fun p => Vs W 0 W.heap.size p.2.1 p.1.2 ∧ (p.1.2.length ≤ p.2.2 ∧ p.1.2.length ≤ 140737488355328 ∧ p.1.1.size ≤ 140737488355328)) (r0, none, 0) (fun _ => rfl) (fun n cs D Pl h hw => rec_at h hw)
 simp [Value.cells] at hcs
 obtain ⟨rfl, rfl, rfl⟩ := hcs
 refine ⟨A0, c0, ps.map Prod.fst, by rw [List.length_map], fun h0 => ?_, by rw [List.length_map]; exact hc, by rw [List.length_map]; omega⟩
 rw [List.length_map] at h0
 obtain ⟨b, off, e, hbl, hat⟩ := hp h0
 refine ⟨b, off, e, Nat.zero_le _, hbl, fun j hj => ?_⟩
 rw [List.length_map] at hj
 have e2 : (ps.map Prod.fst).getD j r0 = (ps.getD j (r0, none, 0)).1 := by simp [List.getD_eq_getElem?_getD, hj]
 have hm : ps.getD j (r0, none, 0) ∈ ps := by
  rw [List.getD_eq_getElem?_getD, List.getElem?_eq_getElem hj]
  exact List.getElem_mem _
 rw [e2]
 exact ⟨_, _, hat j hj 0 _ (by simp [rcc]), hat j hj 1 _ (by simp [rcc]), (hq _ hm).1, (hq _ hm).2⟩
end Tree
end Go.Proofs.YtkfdplfgaddkmaaGreat

/-
 The bulk of records among a law's arguments: they are no more than it (layer 14).
-/
namespace Go.Proofs.YtkfdplfgaddkmaaGreat
namespace Mend
open Go.ChangeShapes Go.WideShapes Go.ChangeAt Go.RowKit Go.Joins Go.Deep Vers Span Blk Tree
open Go.Proofs.YtkfdplfgaddkmaaGreat.Code hiding Bn
section
variable {H : Type} {enc : TypeId × Value → H} {W : World}
theorem bulk_pos (d : DataW H) : 1 ≤ Rows.uptoBulk d := by
 cases d with
 | lit l => cases l <;> simp [Rows.uptoBulk]
 | _ => simp [Rows.uptoBulk]
theorem bulk_len (ds : List (DataW H)) : ds.length ≤ Rows.uptoBulkAll ds := by
 induction ds with
 | nil => simp [Rows.uptoBulkAll]
 | cons d ds ih =>
  have := bulk_pos d
  simp only [List.length_cons, Rows.uptoBulkAll]
  omega
theorem recs_bulk {A : Option Addr} {c : Nat} {l : List Rc} {d : DataW H} {p : List MemPlace} (h : DataW.Trod enc Tryz.prog W 0 (fun _ => true) true 23 (.slice A l.length c) d p) : l.length ≤ Rows.uptoBulk d := by
 obtain ⟨fuel, hf⟩ := h
 simp only [Value.cells] at hf
 rcases open_slice Tryz.underlying23 hf with ⟨hcs, hx⟩ | ⟨a, len, cap, m, n', D', Pl', hcs, _, hl, hm, hmm, hx, hi⟩
 ·simp at hcs
  rw [hcs.2.1]
  exact Nat.zero_le _
 ·simp at hcs
  obtain ⟨rfl, hlen, rfl⟩ := hcs
  simp only [Prod.mk.injEq] at hx
  rw [hx.1]
  simp only [if_true] at hmm
  subst hmm
  simp only [Rows.uptoBulk]
  have := bulk_len ((List.range len).map D')
  simp only [List.length_map, List.length_range] at this
  omega
end
end Mend
end Go.Proofs.YtkfdplfgaddkmaaGreat

/-
 What is held, as a law looks at it: right, and as it is (layer 14).
-/
namespace Go.Proofs.YtkfdplfgaddkmaaGreat
namespace Mend
open Go.RowKit Vers Num Ring Disk Blk Tree
open Go.Proofs.YtkfdplfgaddkmaaGreat.Code hiding Bn
def Lst (a : List Rc) : Prop := Hel a ∧ okL a
theorem Lst.held {l : List Rc} (h : okL l) : Lst (heldF l) := ⟨held_hel l, okL_held h⟩
theorem okL_fold (m : List Rc) (hm : okL m) : ∀ a, okL a → okL (m.foldl withR a) := by
 induction m with
 | nil => exact fun _ h => h
 | cons r m ih =>
  intro a h
  refine ih (fun x hx => hm x (by simp [hx])) _ fun x hx => ?_
  rcases with_mem.1 hx with ⟨rfl, _⟩ | ⟨h1, _⟩
  ·exact hm _ (by simp)
  ·exact h x h1
theorem Lst.fold {a m : List Rc} (h : Lst a) (hm : okL m) : Lst (m.foldl withR a) := ⟨hel_fold m a h.1, okL_fold m hm a h.2⟩
theorem held_up (A : Option Addr) (c n : Nat) (l : List Rc) (hn : l.length = n) (hbig : n ≤ 3518437208882) (V : World) (hr : Rs V 0 V.heap.size A l) :
  Calls Tryz.prog 35 #[.slice A n c] V (fun e w' => (okL l ∧ ∃ A m c, e = .returned (.tuple #[.slice A m c, .bool true]) ∧ Hid ((heldF l).length = m ∧ m ≤ c ∧ m ≤ n ∧ Rs w' 0 w'.heap.size A (heldF l)) ∧ Below V.heap.size V w') ∨ (¬ okL l ∧ e = .returned (.tuple #[.slice none 0 0, .bool false]) ∧ Below V.heap.size V w')) := by
 refine (held_any A c n V.heap.size l hn hbig V (Nat.le_refl _) (rs_rb hr)).mono ?_
 rintro e w' (⟨hok, Aa, m, ca, ps, rfl, h, hb⟩ | ⟨hno, rfl, hb⟩)
 ·refine .inl ⟨hok, Aa, m, ca, rfl, Lib.hid ⟨h.out.2.1, h.out.2.2.1, ?_, ?_⟩, hb⟩
  ·have := held_len l
   rw [hn, h.out.2.1] at this
   exact this
  ·have h1 := h.out.2.2.2.rb
   rw [h.out.1] at h1
   exact rb_rs h1 hb.size
 ·exact .inr ⟨hno, rfl, hb⟩
theorem diff_16 (a b : List Int) : (diffF a b).length ≤ 16 := by
 have h := dk_len a b 16
 rwa [dk_full] at h
end Mend
end Go.Proofs.YtkfdplfgaddkmaaGreat

/-
 Two who exchange leaf by leaf come to hold the same (layer 14).
-/
namespace Go.Proofs.YtkfdplfgaddkmaaGreat
namespace Mend
open Go.RowKit Vers Num Ring Disk Blk Tree
open Go.Proofs.YtkfdplfgaddkmaaGreat.Code hiding Bn
def leafOf (k : Nm) : Int × Int := (dig0 k, dig1 k)
theorem in_leafOf (d e : Int) (k : Nm) : inP [d, e] k = true ↔ leafOf k = (d, e) := by
 unfold leafOf
 simp [inP, Prod.ext_iff]
structure Two (a b : List Rc) : Prop where
 la : Lst a
 lb : Lst b
 fine : okB a b
 pl : ∀ k, getF a k ≠ [] ∨ getF b k ≠ [] → plB (getF a k ++ getF b k) = true
section
variable {a b x y : List Rc} {P : List (Int × Int)}
theorem beneath_hel {x : List Rc} (h : Hel x) (p : List Int) : Hel (beneath x p) := hel_filter h _
theorem get_beneath {x : List Rc} (h : Hel x) (p : List Int) (k : Nm) : getF (beneath x p) k = if inP p k = true then getF x k else [] := by
 unfold beneath
 rw [get_filter h]
theorem okL_sub {x y : List Rc} (h : okL x) (hs : ∀ r ∈ y, r ∈ x) : okL y := fun r hr => h r (hs r hr)
end
end Mend
end Go.Proofs.YtkfdplfgaddkmaaGreat

/-
 The records that are staged are sorted by their keys (layer 19).
-/
namespace Go.Proofs.YtkfdplfgaddkmaaGreat
namespace Pull
open Go.RowKit Vers Num Ring Disk Blk Tree
open Go.Proofs.YtkfdplfgaddkmaaGreat.Code hiding Bn
attribute [local go_sem ↓] Go.wp_at_zero Go.wp_at_succ

set_option maxRecDepth 100000 in
theorem less_any (k k' : Nm) (A A' : Option Addr) (n c n' c' : Nat) (w : World) :
  Calls Tryz.prog 68 #[.agg #[.string k, .slice A n c], .agg #[.string k', .slice A' n' c']] w fun e w' => e = .returned (.int .i64 (Lib.compareBytes k.data.toList k'.data.toList)) ∧ ∃ q os, w' = Go.Sort.grow (w.drewN q) os := by
 have H1 := Lib.hid (fun W => Tryz.strings_Compare k k' W)
 obtain ⟨r, hr⟩ : ∃ r, Lib.compareBytes k.data.toList k'.data.toList = r := ⟨_, rfl⟩
 rw [hr] at H1 ⊢
 have HB : Hid (∃ q' os, (w.alloc (.cells #[.string k, .slice A n c] 70)).alloc (.cells #[.string k', .slice A' n' c'] 70) = Go.Sort.grow (w.drewN q') os) := Lib.hid ⟨0, _, by
  rw [Go.Sort.alloc_eq_grow, Go.Sort.alloc_eq_grow, Go.Sort.grow_grow]
  rfl⟩
 clear hr
 go_enter Tryz.func68, Tryz.ntmps68
 go_wp2_with fail
 refine (H1.out _).mono ?_
 rintro e w1 ⟨rfl, rfl⟩
 go_wp2_with fail
 go_ret
 exact ⟨rfl, HB.out⟩

set_option maxRecDepth 100000 in
theorem sort_any (g cap n base : Nat) (l : List Pr) (hn : l.length = n) (w : World) (ho : w.ownsRow base 70 2 (.slice (some ⟨g, 0, none⟩) n cap) n (rcs l)) (hn2 : n < 4611686018427387904) :
  Calls Tryz.prog 67 #[.slice (some ⟨g, 0, none⟩) n cap, .func (.func 68) #[] #[]] w fun e w' => e = .returned (.tuple #[]) ∧ ∃ l', Hid (l'.Perm l ∧ l'.Pairwise (fun p q => nlt q.1.1 p.1.1 = false) ∧ Prs w' g l' ∧ w.grownBy w' (some g) ∧ ∃ cur, w'.heap[g]? = some (.cells cur 70 (0, 0))) := by
 have eg : ∀ args w, (callFunc 68 args).run Tryz.prog w = .ok (.enter 68 args) w := enters_of Tryz.func68 (by kernel_rfl) rfl
 have hH := holds_own hn ho
 have hlt := ho.lt g rfl
 have hcon := AnyQ.slices_SortFunc Tryz.sortRec 2 Tryz.isAgg70 Tryz.sizeOf70 rcc (fun _ => rfl) (fun x v hv => by simp [rcc] at hv; rcases hv with rfl | rfl <;> rfl) cmpK swoK 68 #[] g 0 cap l.toArray w eg (fun m os dk _ x y => less_any x.1.1 y.1.1 x.2.1 y.2.1 _ _ _ _ _) hH hlt.2 (by simpa [hn] using hn2)
 simp only [List.size_toArray, hn] at hcon
 refine Calls.mono hcon ?_
 rintro e w' ⟨he, d', m, os, hp, hs, hw⟩
 have hsz : d'.size = n := by have := hp.1; simpa [hn] using this
 have hH' := holdsK_sortWorldK_c rcc 2 w g 0 l.toArray d' m os hH hlt.2 (by rw [hsz]; simp [hn])
 rw [← hw] at hH'
 have hget : ∀ i, i < n → d'[i]! = d'.toList.getD i (r0, none, 0) := fun i hi => by
  rw [getElem!_pos _ _ (by omega)]
  simp [List.getD_eq_getElem?_getD, show i < d'.size by omega]
 obtain ⟨cur, hcur⟩ := own_block ho (g := g) rfl
 refine ⟨he, d'.toList, Lib.hid ⟨?_, ?_, fun j hj => ?_, ?_, ?_⟩⟩
 ·have h3 := hp.2.2
  have e1 : d'.extract 0 n = d' := by rw [← hsz]; exact Array.extract_size
  have e2 : l.toArray.extract 0 n = l.toArray := by have h := Array.extract_size (xs := l.toArray); simpa [hn] using h
  rw [e1, e2] at h3
  simpa using h3
 ·rw [List.pairwise_iff_getElem]
  intro i j hi hj hij
  have hi' : i < d'.size := by simpa using hi
  have hj' : j < d'.size := by simpa using hj
  have h3 := hs i j (Nat.zero_le _) hij (by omega)
  unfold ltOf at h3
  rw [decide_eq_false_iff_not, cmpK_lt, Bool.not_eq_true] at h3
  rw [getElem!_pos d' i hi', getElem!_pos d' j hj'] at h3
  simpa only [Array.getElem_toList] using h3
 ·have hj' : j < d'.size := by simpa using hj
  have c0 := (hH'.cell hj' (c := 0) (by omega)).1
  have c1 := (hH'.cell hj' (c := 1) (by omega)).1
  rw [hget j (by omega), Nat.zero_add] at c0 c1
  exact ⟨c0, c1⟩
 ·rw [hw]
  refine ⟨rfl, rfl, rfl, size_sortWorldK_c _ _ _ _ _ _ _ _, fun k hk hne => ?_⟩
  have hkg : k ≠ g := fun e => hne (by rw [e])
  unfold sortWorldK
  rw [Go.Sort.heap_grow_old _ _ (by rw [Go.Sort.size_putRowK]; show k < w.heap.size; omega)]
  unfold Go.Sort.putRowK Go.Sort.putRow Go.Sort.mapBlock
  simp only [Go.Sort.heap_ahead, Array.getElem?_modify]
  rw [if_neg (fun e => hkg e.symm)]
 ·rw [hw]
  unfold sortWorldK
  rw [Go.Sort.heap_grow_old _ _ (by rw [Go.Sort.size_putRowK]; show g < w.heap.size; omega)]
  unfold Go.Sort.putRowK Go.Sort.putRow Go.Sort.mapBlock
  simp only [Go.Sort.heap_ahead, Array.getElem?_modify, hcur, if_true, Option.map_some]
  exact ⟨_, rfl⟩

end Pull
end Go.Proofs.YtkfdplfgaddkmaaGreat
