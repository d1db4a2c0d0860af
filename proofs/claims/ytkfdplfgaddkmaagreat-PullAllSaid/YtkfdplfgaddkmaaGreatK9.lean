/-
  Several texts of this family in one: VersRightRef, VersSame, VersSames, VersOwn, PullPath, PullDel, VersTog, VersPut, VersMergeRef, VersKeep, VersSlice, VersTogether, VersHas.
-/
import Derived.Test.YtkfdplfgaddkmaaGreatK6
import Derived.Test.YtkfdplfgaddkmaaGreatK8
import Derived.Test.YtkfdplfgaddkmaaGreatK1
import Derived.Test.YtkfdplfgaddkmaaGreatK3
import Derived.Test.YtkfdplfgaddkmaaGreatK2
import Derived.Laws.CopyOwn
import Derived.ChangeKeysEq
import Derived.Lib.SliceRun
import Derived.Deep.AppendLies
import Derived.Deep.RegionHeld3
import Derived.Deep.DrawnRows
import Derived.Deep.RegionLaw
import Derived.Lib.Hide
import Derived.RangeFuncBox
/-
 firthref05.Behind and firthref05.Right.
-/
namespace Go.Proofs.YtkfdplfgaddkmaaGreat
namespace Vers
open Go.RowKit Span
attribute [local go_sem ↓] Go.wp_at_zero Go.wp_at_succ

theorem behind_drop {l : List Vr} {k : Nat} (h : k < l.length) (s n : Int) : decide (behind (l.drop k) s n) = (hasL (l.getD k v0).past s n || decide (behind (l.drop (k + 1)) s n)) := by
 rw [hasL_mem, ← Bool.decide_or]
 congr 1
 rw [List.drop_eq_getElem_cons h]
 have e : l.getD k v0 = l[k] := by simp [List.getD_eq_getElem?_getD, h]
 rw [e]
 refine propext ⟨?_, ?_⟩
 ·rintro ⟨v, hv, hm⟩
  rcases List.mem_cons.1 hv with rfl | hv
  ·exact .inl hm
  ·exact .inr ⟨v, hv, hm⟩
 ·rintro (hm | ⟨v, hv, hm⟩)
  ·exact ⟨_, List.mem_cons_self, hm⟩
  ·exact ⟨v, List.mem_cons_of_mem _ hv, hm⟩

set_option maxRecDepth 100000 in
set_option maxHeartbeats 1000000 in
theorem behind_any (A : Option Addr) (c n : Nat) (l : List Vr) (hn : l.length = n) (s m : Int) (w : World) (hv : Vs w 0 w.heap.size A l) (hn2 : n ≤ 140737488355328) :
  Calls Tryz.prog 103 #[.slice A n c, .agg #[.int .i64 s, .int .i64 m]] w fun e w' => e = .returned (.bool (decide (behind l s m))) ∧ Below w.heap.size w w' := by
 obtain ⟨R, hR⟩ : ∃ R, decide (behind l s m) = R := ⟨_, rfl⟩
 rw [hR]
 have HV := Lib.hid (And.intro hv hn)
 have HR := Lib.hid hR
 clear hv hn hR
 go_enter Tryz.func103, Tryz.ntmps103
 go_wp2
 obtain ⟨W0, hW0⟩ : ∃ W0, w.alloc (.cells #[.int .i64 s, .int .i64 m] 116) = W0 := ⟨_, rfl⟩
 obtain ⟨p, hp⟩ : ∃ p, w.heap.size = p := ⟨_, rfl⟩
 have y0 : W0.cell? ⟨p, 0, none⟩ = some (.int .i64 s) := by rw [← hW0, ← hp]; simp
 have y1 : W0.cell? ⟨p, 1, none⟩ = some (.int .i64 m) := by rw [← hW0, ← hp]; simp
 have hpl : p < W0.heap.size := by rw [← hW0, ← hp]; simp
 have B0 : Below w.heap.size w W0 := by rw [← hW0]; exact (Below.refl _ w).alloc (Nat.le_refl _) _
 have HB0 := Lib.hid B0
 have hsz0 := B0.size
 rw [hW0, hp]
 have HPS := Lib.hid hp
 clear hW0 hp B0
 go_loopw [5] (fun iv wr => ∃ k : Nat, iv = .int .i64 k ∧ k ≤ n ∧ Below W0.heap.size W0 wr ∧ Hid (R = decide (behind (l.drop k) s m))) (fun iv _ => n - (intOf iv).toNat)
 case atStart => exact ⟨0, rfl, by omega, Below.refl _ _, Lib.hid HR.out.symm⟩
 case round =>
  obtain ⟨k, rfl, hk, hb, hst⟩ := hrel
  have hbw := Lib.hid (HB0.out.trans (hb.mono hsz0))
  have hsz := hb.size
  by_cases hlt : k < n
  ·obtain ⟨b, off, A1, c1, rfl, _, hbB, a0, a1, a2, a3, a4, hpa⟩ := HV.out.1.at HV.out.2 hbw.out hlt rfl
   have hd := behind_drop (l := l) (k := k) (by have := HV.out.2; omega) s m
   obtain ⟨v, hvv⟩ : ∃ v, l.getD k v0 = v := ⟨_, rfl⟩
   rw [hvv] at a2 hpa hd
   obtain ⟨vs, vn, vp, vg, vx⟩ := v
   simp only at a2 hd
   obtain ⟨hps, _, hpb, hxb, _⟩ := hpa
   simp only at hps hpb
   obtain ⟨kp, hkp⟩ : ∃ kp, vp.length = kp := ⟨_, rfl⟩
   rw [hkp] at a2 hpb
   have h1 := ref_has_any A1 c1 kp vp hkp s m wr.drew (hps.more (B' := wr.drew.heap.size) (by show w.heap.size ≤ wr.heap.size; omega)) hpb
   obtain ⟨q, hq⟩ : ∃ q, hasL vp s m = q := ⟨_, rfl⟩
   rw [hq] at h1 hd
   have HD := Lib.hid (hst.out.trans hd)
   have H1 := Lib.hid h1
   have e0 := (hb.cell (p := ⟨p, 0, none⟩) hpl).trans y0
   have e1 := (hb.cell (p := ⟨p, 1, none⟩) hpl).trans y1
   have d1 : (0 : Int) ≤ (k : Int) := by omega
   have d2 : (k : Int) < (n : Int) := by omega
   have lp : p < wr.heap.size := by omega
   have lb : b < wr.heap.size := by have := HPS.out; omega
   clear a0 a1 a3 a4 hps hkp hq h1 hd hst hvv y0 y1
   go_wp2
   go_region_held3 (fun V => V.cell? ⟨b, off + k * 5 + 2, none⟩ = some (.slice A1 kp c1) ∧ V.cell? ⟨p, 0, none⟩ = some (.int .i64 s) ∧ V.cell? ⟨p, 1, none⟩ = some (.int .i64 m))
    (first | exact ⟨a2, e0, e1⟩ | exact ⟨cell_below b1 lb a2, cell_below b1 lp e0, cell_below b1 lp e1⟩)
    (first | (go_at_call 130; refine H1.out.mono ?_; rintro e w1 ⟨rfl, b1⟩))
   have hb2 : Below W0.heap.size W0 w1 := hb.drew.trans (Below.mono b1 (by exact hsz))
   cases q
   ·have HN := Lib.hid (show R = decide (behind (l.drop (k + 1)) s m) by rw [HD.out]; simp)
    clear HD b1 hb
    go_wp2
    exact ⟨⟨k + 1, rfl, by omega, hb2, HN⟩, by simp only [intOf]; omega⟩
   ·have HN := Lib.hid (show R = true by rw [HD.out]; simp)
    have hfin := HB0.out.trans (hb2.mono hsz0)
    clear HD b1 hb
    go_wp2
    go_ret
    exact ⟨by rw [HN.out]; rfl, hfin⟩
  ·have hkn : k = n := by omega
   subst hkn
   have HN := Lib.hid (show R = false by rw [hst.out, List.drop_of_length_le (by have := HV.out.2; omega)]; simp [behind])
   clear hst
   go_wp2
   go_ret
   exact ⟨by rw [HN.out]; rfl, hbw.out⟩

set_option maxRecDepth 100000 in
set_option maxHeartbeats 2000000 in
theorem ref_rightV_any (A : Option Addr) (c n : Nat) (l : List Vr) (hn : l.length = n) (w : World) (hv : Vs w 0 w.heap.size A l) (hn2 : n ≤ 140737488355328) :
  Calls Tryz.prog 87 #[.slice A n c] w fun e w' => e = .returned (.bool (decide (RightV l))) ∧ Below w.heap.size w w' := by
 obtain ⟨R, hR⟩ : ∃ R, decide (RightV l) = R := ⟨_, rfl⟩
 rw [hR]
 by_cases hlong : 512 < n
 ·have HF := Lib.hid (show R = false by rw [← hR]; exact decide_eq_false fun h => by have := h.1; omega)
  clear hv hn hR
  go_enter Tryz.func87, Tryz.ntmps87
  go_wp2
  go_ret
  exact ⟨by rw [HF.out]; rfl, Below.refl _ _⟩
 ·have HV := Lib.hid (And.intro hv (And.intro hn hR))
  clear hv hn hR
  go_enter Tryz.func87, Tryz.ntmps87
  go_wp2
  go_loopw [3] (fun iv wr => ∃ k : Nat, iv = .int .i64 k ∧ k ≤ n ∧ Below w.heap.size w wr ∧ Hid (FineV (l.take k) ∧ ∀ v ∈ l.take k, ¬ behind l v.s v.n)) (fun iv _ => n - (intOf iv).toNat)
  case atStart => exact ⟨0, rfl, by omega, Below.refl _ _, Lib.hid ⟨fineV_nil, by simp⟩⟩
  case round =>
   obtain ⟨k, rfl, hk, hb, hst⟩ := hrel
   have hsz := hb.size
   by_cases hlt : k < n
   ·obtain ⟨b, off, A1, c1, rfl, _, hbB, a0, a1, a2, a3, a4, hpa⟩ := HV.out.1.at HV.out.2.1 hb hlt rfl
    have hkl : k < l.length := by have := HV.out.2.1; omega
    have hstep := fineV_step hkl hst.out.1
    have hbad := fineV_bad hkl
    have hord := fun h0 => fineV_order hkl h0
    have hnb : behind l (l.getD k v0).s (l.getD k v0).n → decide (RightV l) = false := fun h => decide_eq_false fun hr => hr.2.2 _ (mem_v hkl) h
    have hpass : FineV (l.take (k + 1)) → ¬ behind l (l.getD k v0).s (l.getD k v0).n → FineV (l.take (k + 1)) ∧ ∀ v ∈ l.take (k + 1), ¬ behind l v.s v.n := fun h1 h2 => ⟨h1, fun v hv => by
     rw [take_v hkl] at hv
     rcases List.mem_append.1 hv with hv | hv
     ·exact hst.out.2 v hv
     ·rw [List.mem_singleton.1 hv]; exact h2⟩
    have hprev : 0 < k → ∃ ps pn, (l.getD (k - 1) v0).s = ps ∧ (l.getD (k - 1) v0).n = pn ∧ ∀ V, Below w.heap.size w V → V.cell? ⟨b, off + (k - 1) * 5, none⟩ = some (.int .i64 ps) ∧ V.cell? ⟨b, off + (k - 1) * 5 + 1, none⟩ = some (.int .i64 pn) := fun h0 => by
     refine ⟨_, _, rfl, rfl, fun V hbV => ?_⟩
     obtain ⟨b', off', A2, c2, e, _, _, p0, p1, _⟩ := HV.out.1.at HV.out.2.1 hbV (show k - 1 < n by omega) rfl
     injection e with e
     injection e with e1 e2
     subst e1 e2
     exact ⟨p0, p1⟩
    have hpr : ∀ v : Vr, 0 < k → (dlt (l.getD (k - 1) v0) v ↔ ((l.getD (k - 1) v0).s < v.s ∨ ((l.getD (k - 1) v0).s = v.s ∧ (l.getD (k - 1) v0).n < v.n))) := fun v _ => Iff.rfl
    obtain ⟨v, hvv⟩ : ∃ v, l.getD k v0 = v := ⟨_, rfl⟩
    rw [hvv] at a0 a1 a2 a3 a4 hpa hstep hbad hnb hpass
    have hord' : ∀ (_ : 0 < k), ¬ dlt (l.getD (k - 1) v0) v → decide (RightV l) = false := fun h0 h => hord h0 (by rw [hvv]; exact h)
    clear hord hvv
    obtain ⟨s, vn, vp, vg, vx⟩ := v
    simp only at a0 a1 a2 a3 a4 hnb hpass
    obtain ⟨hps, _, hpb, hxb, _⟩ := hpa
    simp only at hps hpb hxb
    obtain ⟨kp, hkp⟩ : ∃ kp, vp.length = kp := ⟨_, rfl⟩
    rw [hkp] at a2 hpb
    have h1 := ref_rightone_any A1 c1 kp s vn vp vg vx hkp wr (hps.more hsz) hpb hxb
    have h2 := fun V (hbV : Below w.heap.size w V) => behind_any (some ⟨b, off, none⟩) c n l HV.out.2.1 s vn V ((HV.out.1.below hbV).more hbV.size) hn2
    have d1 : (0 : Int) ≤ (k : Int) := by omega
    have d2 : (k : Int) < (n : Int) := by omega
    by_cases cA : okV ⟨s, vn, vp, vg, vx⟩
    ·rw [decide_eq_true cA] at h1
     have H1 := Lib.hid h1
     by_cases cB : behind l s vn
     ·have HF := Lib.hid (HV.out.2.2.symm.trans (hnb cB))
      have H2 := Lib.hid (fun V hbV => (decide_eq_true cB) ▸ h2 V hbV)
      have HB := Lib.hid hb
      clear h1 h2 hpr hord' hbad hstep hnb hpass hprev cA cB hst hps hkp hb
      go_wp2_with fail
      refine H1.out.mono ?_
      rintro e w1 ⟨rfl, b1⟩
      have hb1 := HB.out.trans (b1.mono hsz)
      have z0 := (b1.cell (p := ⟨b, off + k * 5, none⟩) (by simp only; omega)).trans a0
      have z1 := (b1.cell (p := ⟨b, off + k * 5 + 1, none⟩) (by simp only; omega)).trans a1
      have H2' := Lib.hid (H2.out _ hb1)
      have HB1 := Lib.hid hb1
      have hsz1 := hb1.size
      clear b1 hb1 H2
      go_wp2_with fail
      refine H2'.out.mono ?_
      rintro e w2 ⟨rfl, b2⟩
      have BE := HB1.out.trans (b2.mono hsz1)
      clear b2
      go_wp2_with fail
      go_ret
      exact ⟨by rw [HF.out]; rfl, BE⟩
     ·have H2 := Lib.hid (fun V hbV => (decide_eq_false cB) ▸ h2 V hbV)
      have HB := Lib.hid hb
      have HSP := Lib.hid (fun h => hpass h cB)
      have HT := Lib.hid (And.intro (hstep cA) (And.intro hord' (And.intro hpr hprev)))
      clear h1 h2 hpr hord' hbad hstep hnb hpass hprev cA cB hst hps hkp hb
      go_wp2_with fail
      refine H1.out.mono ?_
      rintro e w1 ⟨rfl, b1⟩
      have hb1 := HB.out.trans (b1.mono hsz)
      have z0 := (b1.cell (p := ⟨b, off + k * 5, none⟩) (by simp only; omega)).trans a0
      have z1 := (b1.cell (p := ⟨b, off + k * 5 + 1, none⟩) (by simp only; omega)).trans a1
      have H2' := Lib.hid (H2.out _ hb1)
      have HB1 := Lib.hid hb1
      have hsz1 := hb1.size
      clear b1 hb1 H2
      go_wp2_with fail
      refine H2'.out.mono ?_
      rintro e w2 ⟨rfl, b2⟩
      have hb2 := HB1.out.trans (b2.mono hsz1)
      have z0' := (b2.cell (p := ⟨b, off + k * 5, none⟩) (by simp only; omega)).trans z0
      have z1' := (b2.cell (p := ⟨b, off + k * 5 + 1, none⟩) (by simp only; omega)).trans z1
      have HB2 := Lib.hid hb2
      have hsz2 := hb2.size
      have lb : b < w2.heap.size := by omega
      clear b2 hb2 H2' z0 z1 H1
      by_cases h0 : 0 < k
      ·obtain ⟨ps, pn, e1, e2, hcells⟩ := HT.out.2.2.2 h0
       obtain ⟨p0, p1⟩ := hcells w2 HB2.out
       have hpr' := HT.out.2.2.1 ⟨s, vn, vp, vg, vx⟩ h0
       rw [e1, e2] at hpr'
       simp only at hpr'
       have h3 := less_any ps pn s vn w2.drew
       obtain ⟨q, hq⟩ : ∃ q, decide (ps < s ∨ (ps = s ∧ pn < vn)) = q := ⟨_, rfl⟩
       have HN := Lib.hid (show (q = true → FineV (l.take (k + 1)) ∧ ∀ v ∈ l.take (k + 1), ¬ behind l v.s v.n) ∧ (q = false → R = false) from
        ⟨fun h => HSP.out (HT.out.1 fun _ => hpr'.2 (of_decide_eq_true (hq.trans h))), fun h => HV.out.2.2.symm.trans (HT.out.2.1 h0 fun hd => (of_decide_eq_false (hq.trans h)) (hpr'.1 hd))⟩)
       rw [hq] at h3
       have H3 := Lib.hid h3
       have f0 : ((k : Int) - 1).toNat = k - 1 := by omega
       have f1 : (0 : Int) ≤ (k : Int) - 1 := by omega
       have f2 : (k : Int) - 1 < (n : Int) := by omega
       have f5 : (1 : Int) ≤ (k : Int) := by omega
       have f6 : (k : Int) ≤ (n : Int) := by omega
       have f7 : 1 ≤ k := by omega
       have f8 : ((k : Int) - 1 < (n : Int)) = True := eq_true (by omega)
       have f9 : (0 ≤ (k : Int) - 1) = True := eq_true (by omega)
       have f3 : decide ((0 : Int) < (k : Int)) = true := decide_eq_true (by omega)
       have f4 : IntKind.i64.wrap ((k : Int) - 1) = (k : Int) - 1 := IntWalk.i64_in _ (by omega)
       clear hpr' e1 e2 hcells h3 hq HT HSP a0 a1 a2 a3 a4
       go_wp2_with fail
       go_region_held3 (fun V => V.cell? ⟨b, off + (k - 1) * 5, none⟩ = some (.int .i64 ps) ∧ V.cell? ⟨b, off + (k - 1) * 5 + 1, none⟩ = some (.int .i64 pn) ∧ V.cell? ⟨b, off + k * 5, none⟩ = some (.int .i64 s) ∧ V.cell? ⟨b, off + k * 5 + 1, none⟩ = some (.int .i64 vn))
        (first | exact ⟨p0, p1, z0', z1'⟩ | exact ⟨cell_below b3 lb p0, cell_below b3 lb p1, cell_below b3 lb z0', cell_below b3 lb z1'⟩)
        (first | (go_at_call 104; refine H3.out.mono ?_; rintro e w3 ⟨rfl, b3⟩))
       have BE : Below w.heap.size w w3 := HB2.out.drew.trans (Below.mono b3 (by exact hsz2))
       cases q
       ·have HF := Lib.hid (HN.out.2 rfl)
        clear HN b3
        go_wp2_with fail
        go_ret
        exact ⟨by rw [HF.out]; rfl, BE⟩
       ·have HF := Lib.hid (HN.out.1 rfl)
        clear HN b3
        go_wp2_with fail
        exact ⟨⟨k + 1, rfl, by omega, BE, HF⟩, by simp only [intOf]; omega⟩
      ·have HF := Lib.hid (HSP.out (HT.out.1 fun h => absurd h h0))
       have f3 : decide ((0 : Int) < (k : Int)) = false := decide_eq_false (by omega)
       have f3' : decide (0 < k) = false := decide_eq_false h0
       clear HT HSP
       go_wp2_with fail
       go_quiet (fail)
       go_wp2_with fail
       exact ⟨⟨k + 1, rfl, by omega, HB2.out.trans (below_drewN _ _ _), HF⟩, by simp only [intOf]; omega⟩
    ·rw [decide_eq_false cA] at h1
     have H1 := Lib.hid h1
     have HF := Lib.hid (HV.out.2.2.symm.trans (hbad cA))
     have HB := Lib.hid hb
     clear h1 h2 hpr hord' hbad hstep hnb hpass hprev cA hst hps hkp hb
     go_wp2_with fail
     refine H1.out.mono ?_
     rintro e w1 ⟨rfl, b1⟩
     have BE := HB.out.trans (b1.mono hsz)
     clear b1
     go_wp2_with fail
     go_ret
     exact ⟨by rw [HF.out]; rfl, BE⟩
   ·have hkn : k = n := by omega
    subst hkn
    have HF := Lib.hid (show R = true by
     rw [← HV.out.2.2]
     refine decide_eq_true ⟨by have := HV.out.2.1; omega, ?_⟩
     have := hst.out
     rwa [List.take_of_length_le (by have := HV.out.2.1; omega)] at this)
    clear hst
    go_wp2_with fail
    go_ret
    exact ⟨by rw [HF.out]; rfl, hb⟩
end Vers
end Go.Proofs.YtkfdplfgaddkmaaGreat

/-
 Whether two versions, two lists of them, are the same.
-/
namespace Go.Proofs.YtkfdplfgaddkmaaGreat
namespace Vers
open Go.RowKit Span

theorem str_eq (x y : ByteArray) : (x.toList == y.toList) = decide (x = y) := by
 rw [Lib.toList_data, Lib.toList_data]
 by_cases h : x = y
 ·subst h; simp
 ·rw [decide_eq_false h]
  have h2 : ¬ x.data.toList = y.data.toList := fun e => h (ByteArray.ext (Array.toList_inj.1 e))
  simpa using h2

set_option maxRecDepth 100000 in
set_option maxHeartbeats 1000000 in
theorem ref_sameone_any (A A' : Option Addr) (c c' k k' : Nat) (s n s' n' : Int) (p p' : List Sp) (g g' : Bool) (x x' : ByteArray) (hk : p.length = k) (hk' : p'.length = k') (w : World) (hp : Ss w w.heap.size A p) (hp' : Ss w w.heap.size A' p') (hb : k ≤ 140737488355328) (hb' : k' ≤ 140737488355328) :
  Calls Tryz.prog 71 #[.agg #[.int .i64 s, .int .i64 n, .slice A k c, .bool g, .string x], .agg #[.int .i64 s', .int .i64 n', .slice A' k' c', .bool g', .string x']] w fun e w' => e = .returned (.bool (decide ((⟨s, n, p, g, x⟩ : Vr) = ⟨s', n', p', g', x'⟩))) ∧ Below w.heap.size w w' := by
 obtain ⟨R, hR⟩ : ∃ R, decide ((⟨s, n, p, g, x⟩ : Vr) = ⟨s', n', p', g', x'⟩) = R := ⟨_, rfl⟩
 rw [hR]
 have hRR : ((⟨s, n, p, g, x⟩ : Vr) = ⟨s', n', p', g', x'⟩) ↔ s = s' ∧ n = n' ∧ p = p' ∧ g = g' ∧ x = x' := by simp
 have h1 := fun W (hbW : Below w.heap.size w W) => same_any A A' c c' k k' p p' hk hk' W ((hp.below hbW).more hbW.size) ((hp'.below hbW).more hbW.size) hb hb'
 have hbb : Below w.heap.size w ((w.alloc (.cells #[.int .i64 s, .int .i64 n, .slice A k c, .bool g, .string x] 119)).alloc (.cells #[.int .i64 s', .int .i64 n', .slice A' k' c', .bool g', .string x'] 119)) := ((Below.refl _ w).alloc (Nat.le_refl _) _).alloc (by simp) _
 have HB := Lib.hid hbb
 clear hp hp' hk hk' hbb
 by_cases cd : s = s' ∧ n = n'
 ·by_cases cg : g = g'
  ·by_cases cx : x = x'
   ·obtain ⟨q, hq⟩ : ∃ q, decide (p = p') = q := ⟨_, rfl⟩
    have HF := Lib.hid (show R = q by
     rw [← hR, ← hq]
     congr 1
     exact propext ⟨fun h => (hRR.1 h).2.2.1, fun h => hRR.2 ⟨cd.1, cd.2, h, cg, cx⟩⟩)
    rw [hq] at h1
    have H1 := Lib.hid h1
    obtain ⟨rfl, rfl⟩ := cd
    subst cg cx
    clear hR hRR h1 hq
    have gg : (g == g) = true := by simp
    go_enter Tryz.func71, Tryz.ntmps71
    go_wp2_with fail
    refine (H1.out _ HB.out).mono ?_
    rintro e w1 ⟨rfl, b1⟩
    have BE := HB.out.trans (b1.mono HB.out.size)
    clear b1 H1
    go_wp2_with fail
    go_ret
    exact ⟨by rw [HF.out]; rfl, BE⟩
   ·have HF := Lib.hid (show R = false by rw [← hR]; exact decide_eq_false fun h => cx (hRR.1 h).2.2.2.2)
    have gx : (x.toList == x'.toList) = false := by rw [str_eq]; exact decide_eq_false cx
    have gx' : ¬ x.toList = x'.toList := by simpa using gx
    obtain ⟨rfl, rfl⟩ := cd
    subst cg
    clear hR hRR h1 cx
    have gg : (g == g) = true := by simp
    go_enter Tryz.func71, Tryz.ntmps71
    go_wp2_with fail
    go_ret
    exact ⟨by rw [HF.out]; rfl, HB.out⟩
  ·have HF := Lib.hid (show R = false by rw [← hR]; exact decide_eq_false fun h => cg (hRR.1 h).2.2.2.1)
   have gg : (g == g') = false := by simpa using cg
   obtain ⟨rfl, rfl⟩ := cd
   clear hR hRR h1 cg
   go_enter Tryz.func71, Tryz.ntmps71
   go_wp2_with fail
   go_ret
   exact ⟨by rw [HF.out]; rfl, HB.out⟩
 ·have HF := Lib.hid (show R = false by rw [← hR]; exact decide_eq_false fun h => cd ⟨(hRR.1 h).1, (hRR.1 h).2.1⟩)
  clear hR hRR h1
  by_cases cs : s = s'
  ·have cn : ¬ n = n' := fun h => cd ⟨cs, h⟩
   have gn : (n == n') = false := by simpa using cn
   subst cs
   clear cd cn
   go_enter Tryz.func71, Tryz.ntmps71
   go_wp2_with fail
   go_ret
   exact ⟨by rw [HF.out]; rfl, HB.out⟩
  ·have gs : (s == s') = false := by simpa using cs
   clear cd cs
   go_enter Tryz.func71, Tryz.ntmps71
   go_wp2_with fail
   go_ret
   exact ⟨by rw [HF.out]; rfl, HB.out⟩

end Vers
end Go.Proofs.YtkfdplfgaddkmaaGreat

/-
 Whether two lists of versions are the same.
-/
namespace Go.Proofs.YtkfdplfgaddkmaaGreat
namespace Vers
open Go.RowKit Span
attribute [local go_sem ↓] Go.wp_at_zero Go.wp_at_succ

theorem takeV_eq {l m : List Vr} {k : Nat} (hl : k < l.length) (hm : k < m.length) (h : l.take k = m.take k) (he : l.getD k v0 = m.getD k v0) : l.take (k + 1) = m.take (k + 1) := by
 rw [take_v hl, take_v hm, h, he]
theorem takeV_ne {l m : List Vr} {k : Nat} (he : l.getD k v0 ≠ m.getD k v0) : ¬ l = m := fun h => he (by rw [h])

set_option maxRecDepth 100000 in
set_option maxHeartbeats 4000000 in
theorem ref_sameV_any (A A' : Option Addr) (c c' n n' : Nat) (l l' : List Vr) (hn : l.length = n) (hn' : l'.length = n') (w : World) (hv : Vs w 0 w.heap.size A l) (hv' : Vs w 0 w.heap.size A' l') (hb : n ≤ 140737488355328) (hb' : n' ≤ 140737488355328) :
  Calls Tryz.prog 39 #[.slice A n c, .slice A' n' c'] w fun e w' => e = .returned (.bool (decide (l = l'))) ∧ Below w.heap.size w w' := by
 obtain ⟨R, hR⟩ : ∃ R, decide (l = l') = R := ⟨_, rfl⟩
 rw [hR]
 by_cases hlen : n = n'
 ·subst hlen
  have HV := Lib.hid (And.intro hv (And.intro hv' (And.intro hn (And.intro hn' hR))))
  clear hv hv' hn hn' hR
  go_enter Tryz.func39, Tryz.ntmps39
  go_wp2
  go_loopw [5] (fun q wr => ∃ k : Nat, q = .int .i64 k ∧ k ≤ n ∧ Below w.heap.size w wr ∧ Hid (l.take k = l'.take k)) (fun q _ => n - (intOf q).toNat)
  case atStart => exact ⟨0, rfl, by omega, Below.refl _ _, Lib.hid rfl⟩
  case round =>
   obtain ⟨k, rfl, hk, hb1, hst⟩ := hrel
   have hsz := hb1.size
   by_cases hlt : k < n
   ·obtain ⟨b, off, A1, c1, rfl, _, hbB, a0, a1, a2, a3, a4, hpa⟩ := HV.out.1.at HV.out.2.2.1 hb1 hlt rfl
    obtain ⟨b', off', A1', c1', rfl, _, hbB', a0', a1', a2', a3', a4', hpa'⟩ := HV.out.2.1.at HV.out.2.2.2.1 hb1 hlt rfl
    have hy := takeV_eq (l := l) (m := l') (by have := HV.out.2.2.1; omega) (by have := HV.out.2.2.2.1; omega) hst.out
    have hz := takeV_ne (l := l) (m := l') (k := k)
    obtain ⟨v, hvv⟩ : ∃ v, l.getD k v0 = v := ⟨_, rfl⟩
    obtain ⟨v', hvv'⟩ : ∃ v, l'.getD k v0 = v := ⟨_, rfl⟩
    rw [hvv] at a0 a1 a2 a3 a4 hpa
    rw [hvv'] at a0' a1' a2' a3' a4' hpa'
    rw [hvv, hvv'] at hy hz
    clear hvv hvv'
    obtain ⟨s, vn, vp, vg, vx⟩ := v
    obtain ⟨s', vn', vp', vg', vx'⟩ := v'
    simp only at a0 a1 a2 a3 a4 a0' a1' a2' a3' a4'
    obtain ⟨hps, _, hpb, _, _⟩ := hpa
    obtain ⟨hps', _, hpb', _, _⟩ := hpa'
    simp only at hps hpb hps' hpb'
    obtain ⟨kp, hkp⟩ : ∃ kp, vp.length = kp := ⟨_, rfl⟩
    obtain ⟨kp', hkp'⟩ : ∃ kp, vp'.length = kp := ⟨_, rfl⟩
    rw [hkp] at a2 hpb
    rw [hkp'] at a2' hpb'
    have h1 := ref_sameone_any A1 A1' c1 c1' kp kp' s vn s' vn' vp vp' vg vg' vx vx' hkp hkp' wr.drew (hps.more (B' := wr.drew.heap.size) (by exact hsz)) (hps'.more (B' := wr.drew.heap.size) (by exact hsz)) hpb hpb'
    obtain ⟨q, hq⟩ : ∃ q, decide ((⟨s, vn, vp, vg, vx⟩ : Vr) = ⟨s', vn', vp', vg', vx'⟩) = q := ⟨_, rfl⟩
    rw [hq] at h1
    have HN := Lib.hid (show (q = true → l.take (k + 1) = l'.take (k + 1)) ∧ (q = false → R = false) from ⟨fun h => hy (of_decide_eq_true (hq.trans h)), fun h => by
     rw [← HV.out.2.2.2.2]
     exact decide_eq_false (hz (of_decide_eq_false (hq.trans h)))⟩)
    have H1 := Lib.hid h1
    have lb : b < wr.heap.size := by omega
    have lb' : b' < wr.heap.size := by omega
    have d1 : (0 : Int) ≤ (k : Int) := by omega
    have d2 : (k : Int) < (n : Int) := by omega
    clear h1 hy hz hq hkp hkp' hps hps' hst
    go_wp2
    go_region_held3 (fun V => V.cell? ⟨b, off + k * 5, none⟩ = some (.int .i64 s) ∧ V.cell? ⟨b, off + k * 5 + 1, none⟩ = some (.int .i64 vn) ∧ V.cell? ⟨b, off + k * 5 + 2, none⟩ = some (.slice A1 kp c1) ∧ V.cell? ⟨b, off + k * 5 + 3, none⟩ = some (.bool vg) ∧ V.cell? ⟨b, off + k * 5 + 4, none⟩ = some (.string vx) ∧
      V.cell? ⟨b', off' + k * 5, none⟩ = some (.int .i64 s') ∧ V.cell? ⟨b', off' + k * 5 + 1, none⟩ = some (.int .i64 vn') ∧ V.cell? ⟨b', off' + k * 5 + 2, none⟩ = some (.slice A1' kp' c1') ∧ V.cell? ⟨b', off' + k * 5 + 3, none⟩ = some (.bool vg') ∧ V.cell? ⟨b', off' + k * 5 + 4, none⟩ = some (.string vx'))
     (first | exact ⟨a0, a1, a2, a3, a4, a0', a1', a2', a3', a4'⟩ | exact ⟨cell_below b1 lb a0, cell_below b1 lb a1, cell_below b1 lb a2, cell_below b1 lb a3, cell_below b1 lb a4, cell_below b1 lb' a0', cell_below b1 lb' a1', cell_below b1 lb' a2', cell_below b1 lb' a3', cell_below b1 lb' a4'⟩)
     (first | (go_at_call 71; refine H1.out.mono ?_; rintro e w1 ⟨rfl, b1⟩))
    have BE : Below w.heap.size w w1 := hb1.drew.trans (Below.mono b1 (by exact hsz))
    clear b1 H1 hb1
    cases q
    ·have HF := Lib.hid (HN.out.2 rfl)
     clear HN
     go_wp2
     go_ret
     exact ⟨by rw [HF.out]; rfl, BE⟩
    ·have HF := Lib.hid (HN.out.1 rfl)
     clear HN
     go_wp2
     exact ⟨⟨k + 1, rfl, by omega, BE, HF⟩, by simp only [intOf]; omega⟩
   ·have hkn : k = n := by omega
    subst hkn
    have HF := Lib.hid (show R = true by
     rw [← HV.out.2.2.2.2]
     refine decide_eq_true ?_
     have := hst.out
     rwa [List.take_of_length_le (by have := HV.out.2.2.1; omega), List.take_of_length_le (by have := HV.out.2.2.2.1; omega)] at this)
    clear hst
    go_wp2
    go_ret
    exact ⟨by rw [HF.out]; rfl, hb1⟩
 ·have HF := Lib.hid (show R = false by rw [← hR]; exact decide_eq_false fun h => hlen (by rw [← hn, ← hn', h]))
  clear hv hv' hn hn' hR
  go_enter Tryz.func39, Tryz.ntmps39
  go_wp2
  go_ret
  exact ⟨by rw [HF.out]; rfl, Below.refl _ _⟩
end Vers
end Go.Proofs.YtkfdplfgaddkmaaGreat

/-
 Versions in a row of the call's own, five cells to a version; append onto such a row.
-/
namespace Go.Proofs.YtkfdplfgaddkmaaGreat
namespace Vers
open Go.RowKit Span

abbrev Pv := Vr × Option Addr × Nat
def z0 : Pv := (v0, none, 0)
def vcc (p : Pv) : List Value := [.int .i64 p.1.s, .int .i64 p.1.n, .slice p.2.1 p.1.past.length p.2.2, .bool p.1.gone, .string p.1.val]
def vcs (ps : List Pv) : List Value := ps.flatMap vcc
theorem vcs_cons (p : Pv) (ps : List Pv) : vcs (p :: ps) = vcc p ++ vcs ps := by simp [vcs]
theorem vcs_append (ps qs : List Pv) : vcs (ps ++ qs) = vcs ps ++ vcs qs := by simp [vcs]
theorem vcs_one (p : Pv) : vcs [p] = vcc p := by simp [vcs]
theorem vcs_length (ps : List Pv) : (vcs ps).length = ps.length * 5 := by
 induction ps with
 | nil => rfl
 | cons p ps ih =>
  rw [vcs_cons, List.length_append, ih]
  simp [vcc]
  omega
theorem vcs_at (ps : List Pv) : ∀ j, j < ps.length → ∀ r, r < 5 → (vcs ps)[j * 5 + r]? = (vcc (ps.getD j z0))[r]? := by
 induction ps with
 | nil => intro j h; simp at h
 | cons p ps ih =>
  intro j hj r hr
  rw [vcs_cons]
  rcases j with _ | j
  ·rw [List.getElem?_append_left (by simp [vcc]; omega)]
   simp
  ·have h := ih j (by simpa using hj) r hr
   rw [List.getElem?_append_right (by simp [vcc]; omega)]
   rw [show (j + 1) * 5 + r - (vcc p).length = j * 5 + r by simp [vcc]; omega, h]
   simp
theorem add_plain (b off k : Nat) : (⟨b, off, none⟩ : Addr).add k = ⟨b, off + k, none⟩ := by unfold Addr.add; split <;> simp_all

def OwnVs (base L B : Nat) (w : World) (v : Value) (ps : List Pv) : Prop := w.ownsRow base 119 5 v ps.length (vcs ps) ∧ ∀ p ∈ ps, Pa w L B p.2.1 p.2.2 p.1

theorem OwnVs.vs {base L B n c : Nat} {w : World} {A : Option Addr} {ps : List Pv} (h : OwnVs base L B w (.slice A n c) ps) (hL : L ≤ base) (hB : B ≤ w.heap.size) : Vs w L w.heap.size A (ps.map Prod.fst) := by
 intro hp
 rw [List.length_map] at hp
 obtain ⟨ho, hpa⟩ := h
 rcases ho.2 with ⟨_, h0⟩ | ⟨g, cap, cur, hv, hbg, hg, rest⟩
 ·omega
 ·injection hv with h1 h2 h3
  subst h1
  refine ⟨g, 0, rfl, by omega, (Array.getElem?_eq_some_iff.1 hg).1, fun j hj => ?_⟩
  rw [List.length_map] at hj
  have e : (ps.map Prod.fst).getD j v0 = (ps.getD j z0).1 := by simp [List.getD_eq_getElem?_getD, hj]
  have hm : ps.getD j z0 ∈ ps := by
   rw [List.getD_eq_getElem?_getD, List.getElem?_eq_getElem hj]
   exact List.getElem_mem _
  rw [e]
  have hat : ∀ r, r < 5 → ∀ u, (vcc (ps.getD j z0))[r]? = some u → w.cell? ⟨g, 0 + j * 5 + r, none⟩ = some u := fun r hr u hu => by
   have hc := ho.cells (g := g) rfl (j * 5 + r) u (by rw [vcs_at ps j hj r hr]; exact hu)
   rw [add_plain] at hc
   rw [show 0 + j * 5 + r = 0 + (j * 5 + r) by omega]
   exact hc
  exact ⟨_, _, hat 0 (by omega) _ (by simp [vcc]), hat 1 (by omega) _ (by simp [vcc]), hat 2 (by omega) _ (by simp [vcc]), hat 3 (by omega) _ (by simp [vcc]), hat 4 (by omega) _ (by simp [vcc]), (hpa _ hm).more hB⟩
theorem OwnVs.below {base L B : Nat} {w w' : World} {v : Value} {ps : List Pv} (h : OwnVs base L B w v ps) (hB : B ≤ w.heap.size) (hb : Below w.heap.size w w') : OwnVs base L B w' v ps :=
 ⟨own_below h.1 hb (Nat.le_refl _), fun p hp => (h.2 p hp).below (hb.mono hB)⟩
theorem info_ver : (Tryz.prog.info? 119).map (fun i => (i.zero, i.size, i.bytes)) = some (some (.agg #[.int .i64 0, .int .i64 0, .slice none 0 0, .bool false, .string ⟨#[]⟩]), 5, 64) := by kernel_rfl

section
variable {P : Program} (w : World)
end
end Vers
end Go.Proofs.YtkfdplfgaddkmaaGreat

/-
 Paths in memory: arrays of three numbers; the path of some digits, and whether two are the same (layer 19).
-/
namespace Go.Proofs.YtkfdplfgaddkmaaGreat
namespace Pull
open Go.RowKit Blk Num Tree
attribute [local go_sem ↓] Go.wp_at_zero Go.wp_at_succ
def pcell (p : List Int) : List Value := [.int .i64 p.length, .int .i64 (p.getD 0 0), .int .i64 (p.getD 1 0)]
def pV (p : List Int) : Value := .agg #[.int .i64 p.length, .int .i64 (p.getD 0 0), .int .i64 (p.getD 1 0)]
def pcells (W : List (List Int)) : List Value := W.flatMap pcell
theorem pcells_append (l m : List (List Int)) : pcells (l ++ m) = pcells l ++ pcells m := by simp [pcells]
theorem pcells_one (x : List Int) : pcells [x] = pcell x := by simp [pcells]
theorem pcells_length (l : List (List Int)) : (pcells l).length = l.length * 3 := by
 induction l with
 | nil => rfl
 | cons x l ih =>
  have h : pcells (x :: l) = pcell x ++ pcells l := by simp [pcells]
  rw [h, List.length_append, ih]
  simp [pcell]
  omega
theorem pcells_at (l : List (List Int)) : ∀ (j : Nat), j < l.length → ∀ r, r < 3 → (pcells l)[j * 3 + r]? = (pcell (l.getD j []))[r]? := by
 induction l with
 | nil => intro j h; simp at h
 | cons y l ih =>
  intro j hj r hr
  have hc : pcells (y :: l) = pcell y ++ pcells l := by simp [pcells]
  rw [hc]
  cases j with
  | zero => rw [Nat.zero_mul, Nat.zero_add, List.getElem?_append_left (by simp [pcell]; omega)]; rfl
  | succ j =>
   rw [List.getElem?_append_right (by simp [pcell]; omega)]
   have e : (j + 1) * 3 + r - (pcell y).length = j * 3 + r := by simp [pcell]; omega
   rw [e]
   simpa using ih j (by simpa using hj) r hr
theorem pcells_drop (l : List (List Int)) : ∀ j, (pcells l).drop (j * 3) = pcells (l.drop j) := by
 induction l with
 | nil => intro j; simp [pcells]
 | cons y l ih =>
  intro j
  cases j with
  | zero => simp
  | succ j =>
   have hc : pcells (y :: l) = pcell y ++ pcells l := by simp [pcells]
   rw [hc, List.drop_succ_cons, ← ih j, List.drop_append]
   have e : (j + 1) * 3 - (pcell y).length = j * 3 := by simp [pcell]; omega
   rw [e, List.drop_of_length_le (by simp [pcell]; omega), List.nil_append]
theorem pcells_take (l : List (List Int)) : ∀ j, (pcells l).take (j * 3) = pcells (l.take j) := by
 induction l with
 | nil => intro j; simp [pcells]
 | cons y l ih =>
  intro j
  cases j with
  | zero => simp [pcells]
  | succ j =>
   have hc : pcells (y :: l) = pcell y ++ pcells l := by simp [pcells]
   have hc2 : pcells ((y :: l).take (j + 1)) = pcell y ++ pcells (l.take j) := by simp [pcells]
   rw [hc, hc2, ← ih j, List.take_append]
   have e : (j + 1) * 3 - (pcell y).length = j * 3 := by simp [pcell]; omega
   rw [e, List.take_of_length_le (by simp [pcell]; omega)]
theorem pcells_one_cell (l : List (List Int)) : ∀ u ∈ pcells l, u.oneCell' = true := by
 intro u hu
 obtain ⟨x, _, hx⟩ := List.mem_flatMap.1 hu
 simp [pcell] at hx
 rcases hx with rfl | rfl | rfl <;> rfl
def pkey (p : List Int) : Int × Int × Int := (p.length, p.getD 0 0, p.getD 1 0)
def okW (p : List Int) : Prop := okP p ∧ (p.length = 1 ∨ p.length = 2)
theorem pkey_inj {p q : List Int} (hp : okW p) (h : pkey p = pkey q) : p = q := by
 unfold pkey at h
 simp only [Prod.mk.injEq] at h
 obtain ⟨h1, h2, h3⟩ := h
 have h1' : p.length = q.length := by omega
 rcases hp.2 with hl | hl
 ·match p, q, hl, h1' with
  | [a], [b], _, _ => simp at h2; rw [h2]
 ·match p, q, hl, h1' with
  | [a, a'], [b, b'], _, _ => simp at h2 h3; rw [h2, h3]
theorem info_int' : (Tryz.prog.info? 3).map (·.size) = some 1 := by kernel_rfl
theorem splice_path (n : Value) (p : List Int) : splice [n, .int .i64 0, .int .i64 0] 1 (nums .i64 (p.take 2)) = [n, .int .i64 (p.getD 0 0), .int .i64 (p.getD 1 0)] := by
 match p with
 | [] => rfl
 | [a] => rfl
 | a :: b :: r => rfl
set_option maxRecDepth 100000 in
theorem pathOf_any (A : Option Addr) (c n : Nat) (p : List Int) (hn : p.length = n) (w : World) (hr : Ns .i64 w w.heap.size A p) :
  Calls Tryz.prog 59 #[.slice A n c] w (fun e w' => e = .returned (pV p) ∧ Below w.heap.size w w') := by
 obtain ⟨x0, hx0⟩ : ∃ x, p.getD 0 0 = x := ⟨_, rfl⟩
 obtain ⟨x1, hx1⟩ : ∃ x, p.getD 1 0 = x := ⟨_, rfl⟩
 obtain ⟨rb, hrb⟩ : ∃ rb, w.heap.size = rb := ⟨_, rfl⟩
 obtain ⟨V, hV⟩ : ∃ V, w.alloc (.cells #[.int .i64 0, .int .i64 0, .int .i64 0] 101) = V := ⟨_, rfl⟩
 have bV : Below w.heap.size w V := by rw [← hV]; exact (Below.refl _ w).alloc (Nat.le_refl _) _
 have BV : Bn rb 101 [.int .i64 0, .int .i64 0, .int .i64 0] V := by rw [← hV, ← hrb]; exact World.alloc_heap_new _ _
 obtain ⟨pb, hpb⟩ : ∃ pb, V.heap.size = pb := ⟨_, rfl⟩
 obtain ⟨U, hU⟩ : ∃ U, V.alloc (.cells #[.int .i64 n, .int .i64 0, .int .i64 0] 101) = U := ⟨_, rfl⟩
 have bU : Below V.heap.size V U := by rw [← hU]; exact (Below.refl _ V).alloc (Nat.le_refl _) _
 have BU : Bn pb 101 [.int .i64 n, .int .i64 0, .int .i64 0] U := by rw [← hU, ← hpb]; exact World.alloc_heap_new _ _
 have hrU : Ns .i64 U w.heap.size A p := hr.below (bV.trans (bU.mono bV.size))
 have Hcl : Hid ((nums .i64 (p.take 2)).length = Nat.min n 2) := Lib.hid (by rw [nums_length, List.length_take, hn]; exact Nat.min_comm _ _)
 have Hpos : Hid (0 < (nums .i64 (p.take 2)).length → (some (⟨pb, 1, none⟩ : Addr)) = some ⟨pb, 1, none⟩ ∧ ∃ ad, A = some ad ∧ ∀ j v, (nums .i64 (p.take 2))[j]? = some v → U.cell? (ad.add j) = some v) := Lib.hid (fun h0 => by
  have hp : 0 < p.length := by rw [nums_length, List.length_take] at h0; omega
  obtain ⟨b, off, e, hb, hc⟩ := hrU hp
  refine ⟨rfl, ⟨b, off, none⟩, e, fun j v hv => ?_⟩
  have hj : j < (p.take 2).length := by
   have := (List.getElem?_eq_some_iff.1 hv).1
   rwa [nums_length] at this
  rw [List.length_take] at hj
  rw [Vers.add_plain, hc j (by omega), ← hv]
  simp [nums, List.getD_eq_getElem?_getD, show j < 2 by omega, show j < p.length by omega])
 have Hfit : Hid (1 + (nums .i64 (p.take 2)).length ≤ [Value.int .i64 n, .int .i64 0, .int .i64 0].length) := Lib.hid (by rw [nums_length, List.length_take]; simp; omega)
 have Hone : Hid (∀ u ∈ nums .i64 (p.take 2), u.oneCell' = true) := Lib.hid (by
  intro u hu
  obtain ⟨y, _, rfl⟩ := List.mem_map.1 hu
  rfl)
 have Hg : Hid (U.heap[pb]? = some (.cells [Value.int .i64 n, .int .i64 0, .int .i64 0].toArray 101 (0, 0))) := Lib.hid BU
 have Hb : Hid (Below pb V U) := Lib.hid (by rw [← hpb]; exact bU)
 have HE : Hid (∀ W, Below pb V W → Hid (W.heap[pb]? = some (.cells (splice [Value.int .i64 n, .int .i64 0, .int .i64 0] 1 (nums .i64 (p.take 2))).toArray 101 (0, 0))) → Bn pb 101 [.int .i64 n, .int .i64 x0, .int .i64 x1] W ∧ Bn rb 101 [.int .i64 0, .int .i64 0, .int .i64 0] W ∧ Below w.heap.size w W) := Lib.hid fun W hb hg => by
  have hg' := hg.out
  rw [splice_path, hx0, hx1] at hg'
  exact ⟨hg', BV.same (hb.block rb (by rw [← hpb]; exact BV.lt)), bV.trans ((show Below V.heap.size V W by rw [hpb]; exact hb).mono bV.size)⟩
 have HP : Hid (pV p = .agg #[.int .i64 n, .int .i64 x0, .int .i64 x1]) := Lib.hid (by unfold pV; rw [hn, hx0, hx1])
 have HRB := Lib.hid hrb
 obtain ⟨N0, hN0⟩ : ∃ N, nums .i64 (p.take 2) = N := ⟨_, rfl⟩
 rw [hN0] at Hcl Hpos Hfit Hone HE
 rw [HP.out]
 have HU := Lib.hid hU
 clear hrU bU BU bV BV hr hn hx0 hx1 hN0 hU
 go_enter Tryz.func59, Tryz.ntmps59
 go_wp2_with (rw [HU.out]; with_reducible refine wpList_copy_splice rfl (.tmp 7) (.tmp 8) _ _ rfl 3 Tryz.underlying24 info_int' (some ⟨pb, 1, none⟩) A 2 2 n c rfl rfl pb 1 [Value.int .i64 n, .int .i64 0, .int .i64 0] 101 Hg.out N0 Hcl.out Hpos.out Hfit.out Hone.out pb V Hb.out (Nat.le_refl _) ?_; intro w2 HG2 hb2; obtain ⟨B1, B2, b2⟩ := HE.out w2 hb2 HG2; have c0 := B1.cell 0; have c1 := B1.cell 1; have c2 := B1.cell 2; simp only [List.getElem?_cons_zero, List.getElem?_cons_succ] at c0 c1 c2; have r0 := B2.cell 0; have r1 := B2.cell 1; have r2 := B2.cell 2; simp only [List.getElem?_cons_zero, List.getElem?_cons_succ] at r0 r1 r2; have f0 := B2.frozen 0; have f1 := B2.frozen 1; have f2 := B2.frozen 2; have BX := ((B2.set 0 (.int .i64 n)).set 1 (.int .i64 x0)).set 2 (.int .i64 x1); have gX := Blk.grown_trans_one (Blk.grown_trans_one (Blk.gset w2 rb 0 (.int .i64 n)) (Blk.gset _ rb 1 (.int .i64 x0))) (Blk.gset _ rb 2 (.int .i64 x1)); obtain ⟨X, hX⟩ : ∃ X, ((w2.setCell ⟨rb, 0, none⟩ (.int .i64 n)).setCell ⟨rb, 1, none⟩ (.int .i64 x0)).setCell ⟨rb, 2, none⟩ (.int .i64 x1) = X := ⟨_, rfl⟩; rw [hX] at BX gX; have y0 := BX.cell 0; have y1 := BX.cell 1; have y2 := BX.cell 2; simp [List.set] at y0 y1 y2)
 have HF : Hid (Below w.heap.size w X) := Lib.hid (b2.grown gX b2.size (fun j hj => by injection hj with hj; omega))
 clear BX gX b2 HG2 hb2 B1 B2 HE Hg Hcl Hpos Hfit Hone
 go_wp2_with fail
 refine bodyPost_ret (v := .agg #[.int .i64 n, .int .i64 x0, .int .i64 x1]) ?_ rfl ⟨rfl, by have h := HF.out; rwa [HRB.out] at h⟩
 rw [Blk.results_cell1 rfl]
 go_simp
def eq3 (a b : Int × Int × Int) : Bool := a.1 == b.1 && (a.2.1 == b.2.1 && a.2.2 == b.2.2)
theorem eq3_iff {a b : Int × Int × Int} : eq3 a b = true ↔ a = b := by
 unfold eq3
 obtain ⟨a1, a2, a3⟩ := a
 obtain ⟨b1, b2, b3⟩ := b
 simp
theorem run_eq3 (x1 x2 x3 y1 y2 y3 : Int) (e : Bool) (he : eq3 (x1, x2, x3) (y1, y2, y3) = e) (W : World) : (binOp .eql 101 (.agg #[.int .i64 x1, .int .i64 x2, .int .i64 x3]) (.agg #[.int .i64 y1, .int .i64 y2, .int .i64 y3])).run Tryz.prog W = .ok (.bool e) W := by
 subst he
 have hi : ∃ i, Tryz.prog.info? 3 = some i := by
  have h : (Tryz.prog.info? 3).map (·.size) = some 1 := by kernel_rfl
  obtain ⟨i, hi, _⟩ := Option.map_eq_some_iff.1 h
  exact ⟨i, hi⟩
 obtain ⟨i, hi⟩ := hi
 have hc : Tryz.prog.cellsOf 3 = 1 := by kernel_rfl
 have hq := run_equalIn_array (P := Tryz.prog) (w := W) 9999 #[.int .i64 x1, .int .i64 x2, .int .i64 x3] #[.int .i64 y1, .int .i64 y2, .int .i64 y3] Tryz.underlying101 hi
 rw [hc] at hq
 have hf : ∀ a b : Int, (a = b ∧ (a == b) = true) ∨ ((a == b) = false ∧ a ≠ b) := fun a b => by
  by_cases h : a = b
  ·exact .inl ⟨h, by simp [h]⟩
  ·exact .inr ⟨by simp [h], h⟩
 have hr : (Op.equalIn 10000 101 (.agg #[.int .i64 x1, .int .i64 x2, .int .i64 x3]) (.agg #[.int .i64 y1, .int .i64 y2, .int .i64 y3])).run Tryz.prog W = .ok (eq3 (x1, x2, x3) (y1, y2, y3)) W := by
  refine hq.trans ?_
  unfold eq3
  simp only [show List.range 3 = [0, 1, 2] from rfl, Op.eqItems]
  rcases hf x1 y1 with ⟨rfl, h1⟩ | ⟨h1, n1⟩
  ·rcases hf x2 y2 with ⟨rfl, h2⟩ | ⟨h2, n2⟩
   ·rcases hf x3 y3 with ⟨rfl, h3⟩ | ⟨h3, n3⟩
    ·simp [go_sem, part]
    ·simp [go_sem, part, h3]
   ·simp [go_sem, part, h2]
  ·simp [go_sem, part, h1]
 clear hq
 go_simp
theorem is3_any (a0 a1 a2 b0 b1 b2 : Int) (E : Bool) (hE : eq3 (a0, a1, a2) (b0, b1, b2) = E) (w : World) : Calls Tryz.prog 60 #[.agg #[.int .i64 a0, .int .i64 a1, .int .i64 a2], .agg #[.int .i64 b0, .int .i64 b1, .int .i64 b2]] w (fun e w' => e = .returned (.bool E) ∧ Below w.heap.size w w') := by
 have heq := fun W => run_eq3 a0 a1 a2 b0 b1 b2 E hE W
 have HB : Hid (Below w.heap.size w ((w.alloc (.cells #[.int .i64 a0, .int .i64 a1, .int .i64 a2] 101)).alloc (.cells #[.int .i64 b0, .int .i64 b1, .int .i64 b2] 101))) := Lib.hid (((Below.refl _ w).alloc (Nat.le_refl _) _).alloc (by simp) _)
 clear hE
 go_enter Tryz.func60, Tryz.ntmps60
 go_wp2_with fail
 go_ret
 exact ⟨rfl, HB.out⟩
theorem pat {w : World} {base n c k : Nat} {A : Option Addr} {W : List (List Int)} (ho : w.ownsRow base 101 3 (.slice A n c) n (pcells W)) (hn : W.length = n) (hk : k < n) {x : List Int} (hx : W.getD k [] = x) :
  ∃ g, A = some ⟨g, 0, none⟩ ∧ base ≤ g ∧ g < w.heap.size ∧ w.cell? ⟨g, k * 3, none⟩ = some (.int .i64 x.length) ∧ w.cell? ⟨g, k * 3 + 1, none⟩ = some (.int .i64 (x.getD 0 0)) ∧ w.cell? ⟨g, k * 3 + 2, none⟩ = some (.int .i64 (x.getD 1 0)) := by
 rcases ho.2 with ⟨_, h0⟩ | ⟨g, cap, cur, hv, hbg, hg, rest⟩
 ·omega
 ·injection hv with e1 e2 e3
  subst e1
  have hat := pcells_at W k (by omega)
  rw [hx] at hat
  have hc := fun r (hr : r < 3) => (World.ownsRow.cellAt ho (k * 3 + r) (by omega)).trans (hat r hr)
  exact ⟨g, rfl, hbg, (Array.getElem?_eq_some_iff.1 hg).1, hc 0 (by omega), hc 1 (by omega), hc 2 (by omega)⟩
def Found (W : List (List Int)) (q : List Int) (n : Nat) (w : World) (e : Ending) (w' : World) : Prop :=
 ((∃ i, i < n ∧ pkey (W.getD i []) = pkey q ∧ (∀ j, j < i → pkey (W.getD j []) ≠ pkey q) ∧ e = .returned (.int .i64 i)) ∨ ((∀ j, j < n → pkey (W.getD j []) ≠ pkey q) ∧ e = .returned (.int .i64 (-1)))) ∧ Below w.heap.size w w'
set_option maxRecDepth 100000 in
theorem index_any (A : Option Addr) (base c n : Nat) (W : List (List Int)) (w : World) (ho : w.ownsRow base 101 3 (.slice A n c) n (pcells W)) (hn : W.length = n) (q : List Int) (hbig : n ≤ 4096) :
  Calls Tryz.prog 58 #[.slice A n c, .func (.func 60) #[pV q] #[]] w (Found W q n w) := by
 obtain ⟨b0, hb0⟩ : ∃ a, (q.length : Int) = a := ⟨_, rfl⟩
 obtain ⟨b1, hb1⟩ : ∃ a, q.getD 0 0 = a := ⟨_, rfl⟩
 obtain ⟨b2, hb2⟩ : ∃ a, q.getD 1 0 = a := ⟨_, rfl⟩
 have hq : pkey q = (b0, b1, b2) := by unfold pkey; rw [hb0, hb1, hb2]
 unfold Found pV
 rw [hq, hb0, hb1, hb2]
 have HO := Lib.hid (And.intro ho hn)
 clear ho hn hq hb0 hb1 hb2
 go_enter Tryz.func58, Tryz.ntmps58
 go_wp2_with fail
 go_loopw [8] (fun v wr => ∃ k : Nat, v = .int .i64 k ∧ k ≤ n ∧ Hid (Below w.heap.size w wr ∧ ∀ j, j < k → pkey (W.getD j []) ≠ (b0, b1, b2))) (fun v _ => n - (intOf v).toNat)
 case atStart => exact ⟨0, rfl, by omega, Lib.hid ⟨Below.refl _ _, fun j hj => by omega⟩⟩
 case round =>
  obtain ⟨k, rfl, hk, hst⟩ := hrel
  by_cases hlt : k < n
  ·have d1 : (0 : Int) ≤ (k : Int) := by omega
   have d2 : (k : Int) < (n : Int) := by omega
   obtain ⟨x, hx⟩ : ∃ x, W.getD k [] = x := ⟨_, rfl⟩
   obtain ⟨g, rfl, _, hgl, a0, a1, a2⟩ := pat (own_below HO.out.1 hst.out.1 (Nat.le_refl _)) HO.out.2 hlt hx
   obtain ⟨y0, hy0⟩ : ∃ a, (x.length : Int) = a := ⟨_, rfl⟩
   obtain ⟨y1, hy1⟩ : ∃ a, x.getD 0 0 = a := ⟨_, rfl⟩
   obtain ⟨y2, hy2⟩ : ∃ a, x.getD 1 0 = a := ⟨_, rfl⟩
   have hk3 : pkey (W.getD k []) = (y0, y1, y2) := by rw [hx]; unfold pkey; rw [hy0, hy1, hy2]
   rw [hy0] at a0
   rw [hy1] at a1
   rw [hy2] at a2
   obtain ⟨E, hE⟩ : ∃ E, eq3 (b0, b1, b2) (y0, y1, y2) = E := ⟨_, rfl⟩
   have HC := Lib.hid (is3_any b0 b1 b2 y0 y1 y2 E hE wr)
   have HK := Lib.hid (And.intro hk3 hE)
   clear hx hy0 hy1 hy2 hk3 hE
   go_wp2_with fail
   refine HC.out.mono ?_
   rintro e w1 ⟨rfl, b1'⟩
   have hb1 : Below w.heap.size w w1 := hst.out.1.trans (b1'.mono hst.out.1.size)
   cases E
   ·have hne : pkey (W.getD k []) ≠ (b0, b1, b2) := fun e => by
     have h1 := HK.out.2
     rw [← HK.out.1, e, eq3_iff.2 rfl] at h1
     cases h1
    have HN : Hid (Below w.heap.size w w1 ∧ ∀ j, j < k + 1 → pkey (W.getD j []) ≠ (b0, b1, b2)) := Lib.hid ⟨hb1, fun j hj => by
     rcases Nat.lt_or_ge j k with h | h
     ·exact hst.out.2 j h
     ·rw [show j = k by omega]
      exact hne⟩
    clear hst hne b1' hb1 HC HK a0 a1 a2
    go_wp2_with fail
    go_roundw
    case rel => exact ⟨k + 1, by go_num, by omega, HN⟩
    case measure => simp only [intOf]; omega
   ·have HF : Hid (pkey (W.getD k []) = (b0, b1, b2) ∧ (∀ j, j < k → pkey (W.getD j []) ≠ (b0, b1, b2)) ∧ Below w.heap.size w w1) := Lib.hid ⟨by rw [HK.out.1]; exact (eq3_iff.1 HK.out.2).symm, hst.out.2, hb1⟩
    clear hst b1' hb1 HC HK a0 a1 a2
    go_wp2_with fail
    go_ret
    exact ⟨.inl ⟨k, hlt, HF.out.1, HF.out.2.1, rfl⟩, HF.out.2.2⟩
  ·have hkn : k = n := by omega
   subst hkn
   go_wp2_with fail
   go_ret
   exact ⟨.inr ⟨hst.out.2, rfl⟩, hst.out.1⟩
end Pull
end Go.Proofs.YtkfdplfgaddkmaaGreat

/-
 slices.Delete of one path (layer 19).
-/
namespace Go.Proofs.YtkfdplfgaddkmaaGreat
namespace Pull
open Go.RowKit Blk Go.Maps
attribute [local go_sem ↓] Go.wp_at_zero Go.wp_at_succ
theorem heap_setCells_same (g : Nat) (e : TypeId) : ∀ (vs : List Value) (o : Nat) (w : World) (cur : Array Value), w.heap[g]? = some (.cells cur e (0, 0)) → o + vs.length ≤ cur.size →
  ∃ cur', (w.setCells g o vs).heap[g]? = some (.cells cur' e (0, 0)) ∧ cur'.toList = cur.toList.take o ++ vs ++ cur.toList.drop (o + vs.length)
 | [], o, w, cur, h, _ => ⟨cur, h, by simp⟩
 | v :: r, o, w, cur, h, hl => by
  have h1 : (w.setCell ⟨g, o, none⟩ v).heap[g]? = some (.cells (cur.setIfInBounds o v) e (0, 0)) := by
   simp [World.setCell, Array.getElem?_modify, h]
  obtain ⟨cur', h2, h3⟩ := heap_setCells_same g e r (o + 1) (w.setCell ⟨g, o, none⟩ v) (cur.setIfInBounds o v) h1 (by simp at hl ⊢; omega)
  refine ⟨cur', h2, ?_⟩
  simp only [List.length_cons] at hl
  have hlo : o < cur.toList.length := by rw [Array.length_toList]; omega
  rw [h3, Array.toList_setIfInBounds, List.length_cons, show o + 1 + r.length = o + (r.length + 1) by omega, List.drop_set_of_lt (by omega), List.take_set, List.take_succ_eq_append_getElem hlo, List.set_append_right _ _ (by rw [List.length_take]; omega), List.length_take, show o - min o cur.toList.length = 0 by omega, List.set_cons_zero]
  simp

def zeroP : List Value := [.int .i64 0, .int .i64 0, .int .i64 0]
theorem run_clear_one (w : World) (ty : TypeId) (b o c : Nat) (hc : ∀ j, j < 3 → (w.cell? ⟨b, o + j, none⟩).isSome = true) (hf : ∀ j, w.frozen? ⟨b, j, none⟩ = false) :
  (Builtin.clear_ #[94] ty #[.slice (some ⟨b, o, none⟩) 1 c]).run Tryz.prog w = .ok (.tuple #[]) (w.setCells b o zeroP) := by
 have hzc : (Builtin.zeroCells (Value.agg #[.int .i64 0, .int .i64 0, .int .i64 0]).cells 1).toList = zeroP := by kernel_rfl
 have hst := run_storeCells_cells (P := Tryz.prog) b o zeroP 0 w (fun j hj => by rw [Nat.add_zero]; exact hc j hj) (fun j _ => hf _) (by intro v hv; simp [zeroP] at hv; rcases hv with rfl | rfl <;> rfl)
 simp only [Nat.add_zero] at hst
 simp [Builtin.clear_, run_underlying Tryz.underlying94, hzc, hst]
theorem info_path : (Tryz.prog.info? 101).map (fun i => (i.zero, i.size, i.bytes)) = some (some (.agg #[.int .i64 0, .int .i64 0, .int .i64 0]), 3, 24) := by kernel_rfl

set_option maxRecDepth 100000 in
set_option maxHeartbeats 1000000 in
theorem del_any {w : World} {A : Option Addr} {c n n' i j : Nat} {l : List (List Int)} (ho : w.ownsRow 0 101 3 (.slice A n c) n (pcells l)) (hl : l.length = n) (hn : n' + 1 = n) (hi : i < n) (hj : i + 1 = j) (hbig : n ≤ 4096) :
  Calls Tryz.prog 62 #[.slice A n c, .int .i64 i, .int .i64 j] w (fun e w' => e = .returned (.slice A n' c) ∧ Hid (w'.ownsRow 0 101 3 (.slice A n' c) n' (pcells (l.eraseIdx i)) ∧ w.grownBy w' (Value.slice A n c).ownBlock)) := by
 obtain ⟨i0, hi0, hz0, hz1, hz2⟩ := info_parts info_path
 rcases ho.2 with ⟨_, h0⟩ | ⟨g, cap, cur, hv, hbg, hg, hnc, hcm, hcs, htake⟩
 ·omega
 injection hv with hA _ hcap
 subst hA
 subst hcap
 have hcl : cur.toList.length = c * 3 := by rw [Array.length_toList]; exact hcs
 obtain ⟨news, hnews⟩ : ∃ news, pcells (l.drop j) = news := ⟨_, rfl⟩
 have hln : news.length = (n - j) * 3 := by rw [← hnews, pcells_length, List.length_drop, hl]
 have hdrop : (cur.toList.take (n * 3)).drop (j * 3) = news := by rw [htake, pcells_drop, hnews]
 have hcell : ∀ V : World, V.heap[g]? = some (.cells cur 101 (0, 0)) → ∀ t, V.cell? ⟨g, t, none⟩ = cur[t]? := fun V hV t => by rw [cell_of_row V g t cur 101 (0, 0) hV]
 have hfz : ∀ (V : World) (cur' : Array Value), V.heap[g]? = some (.cells cur' 101 (0, 0)) → ∀ t, V.frozen? ⟨g, t, none⟩ = false := fun V cur' hV t => by simp [World.frozen?, hV]
 obtain ⟨AA, hAA, hsrc⟩ : ∃ AA : Addr, (if c = j then some (⟨g, 0, none⟩ : Addr) else some ⟨g, j * 3, none⟩) = some AA ∧ Hid (∀ t u, news[t]? = some u → w.drew.cell? (AA.add t) = some u) := by
  by_cases h : c = j
  ·refine ⟨⟨g, 0, none⟩, by simp [h], fun t u hu => ?_⟩
   have h0 : news.length = 0 := by rw [hln]; omega
   rw [List.length_eq_zero_iff.1 h0] at hu
   simp at hu
  ·refine ⟨⟨g, j * 3, none⟩, by simp [h], fun t u hu => ?_⟩
   have ht := (List.getElem?_eq_some_iff.1 hu).1
   rw [hln] at ht
   rw [Addr.add_lit]
   show w.cell? ⟨g, j * 3 + t, none⟩ = some u
   rw [hcell w hg, ← hu, ← hdrop, List.getElem?_drop, List.getElem?_take_of_lt (by omega), Array.getElem?_toList]
 have s1 : Hid (news.length = (n - j) * 3) := hln
 have s2 : Hid (∀ u ∈ news, u.oneCell' = true) := by rw [← hnews]; exact pcells_one_cell _
 have s3 : Hid (∀ t, t < news.length → (w.drew.cell? ⟨g, 0 + i * 3 + t, none⟩).isSome = true ∧ w.drew.frozen? ⟨g, 0 + i * 3 + t, none⟩ = false) := by
  intro t ht
  rw [hln] at ht
  refine ⟨?_, hfz w cur hg _⟩
  show (w.cell? _).isSome = true
  rw [hcell w hg, Array.getElem?_eq_getElem (by omega)]
  rfl
 have hgd : w.drew.heap[g]? = some (.cells cur 101 (0, 0)) := hg
 obtain ⟨cur1, hc1, hl1⟩ := heap_setCells_same g 101 news (i * 3) w.drew cur hgd (by rw [hln]; omega)
 obtain ⟨W1, hW1⟩ : ∃ W1, W1 = w.drew.setCells g (0 + i * 3) news := ⟨_, rfl⟩
 rw [Nat.zero_add, ] at hW1
 rw [← hW1] at hc1
 have hs1 : cur1.size = c * 3 := by rw [← Array.length_toList, hl1]; simp; omega
 obtain ⟨cur2, hc2, hl2⟩ := heap_setCells_same g 101 zeroP (n' * 3) W1 cur1 hc1 (by simp [zeroP]; omega)
 have hcr : ∀ ty, (Builtin.clear_ #[94] ty #[.slice (some ⟨g, n' * 3, none⟩) 1 (c - n')]).run Tryz.prog W1 = .ok (.tuple #[]) (W1.setCells g (n' * 3) zeroP) := fun ty =>
  run_clear_one W1 ty g (n' * 3) (c - n') (fun t ht => by rw [cell_of_row W1 g _ cur1 101 (0, 0) hc1, Array.getElem?_eq_getElem (by omega)]; rfl) (hfz W1 cur1 hc1)
 obtain ⟨W2, hW2⟩ : ∃ W2, W1.setCells g (n' * 3) zeroP = W2 := ⟨_, rfl⟩
 rw [hW2] at hcr hc2
 have hown : W2.ownsRow 0 101 3 (.slice (some ⟨g, 0, none⟩) n' c) n' (pcells (l.eraseIdx i)) := by
  refine ⟨by rw [pcells_length, List.length_eraseIdx_of_lt (by omega)]; omega, .inr ⟨g, c, cur2, rfl, hbg, hc2, by omega, hcm, ?_, ?_⟩⟩
  ·rw [← Array.length_toList, hl2]
   simp [zeroP]
   omega
  ·have e1 : (cur.toList.take (i * 3) ++ news).length = n' * 3 := by rw [List.length_append, List.length_take]; omega
   have e2 : (cur1.toList.take (n' * 3)).length = n' * 3 := by rw [List.length_take, Array.length_toList]; omega
   rw [hl2, List.append_assoc, List.take_left' e2, hl1, List.take_left' e1, List.eraseIdx_eq_take_drop_succ, hj, pcells_append, hnews, ← pcells_take, ← htake, List.take_take, show min (i * 3) (n * 3) = i * 3 by omega]
 have hgr : w.grownBy W2 (some g) := by
  have k1 : ∀ (vs : List Value) (o : Nat) (V : World), V.grownBy (V.setCells g o vs) (some g) := fun vs => by
   induction vs with
   | nil => exact fun o V => World.grownBy.refl V _
   | cons v r ih => exact fun o V => grown_trans_one (gset V g o v) (ih (o + 1) _)
  rw [← hW2, hW1]
  exact grown_trans_one (gdrew (World.grownBy.refl w _)) (grown_trans_one (k1 news _ _) (k1 zeroP _ _))
 have HE := Lib.hid (And.intro hown hgr)
 have hW : Hid (W1 = w.drew.setCells g (0 + i * 3) news) := by rw [Nat.zero_add]; exact hW1
 have hic : i ≤ c := by omega
 have hjc : j ≤ c := by omega
 have hjn : j ≤ n := by omega
 have hij : i ≤ j := by omega
 have hne : ((i : Int) == (j : Int)) = false := by simp; omega
 have hsum : i + (n - j) = n' := by omega
 have hone : n - n' = 1 := by omega
 clear hc1 hc2 hl1 hl2 hs1 hown hgr hW1 hW2 hg hgd htake hdrop hcell hfz hcs hcl hnews hln ho
 go_enter Tryz.func62, Tryz.ntmps62
 go_wp2_with fail
 go_region_law (refine step_append_room rfl (.tmp 22) (.tmp 25) 94 rfl 101 i0 3 Tryz.underlying94 hi0 hz1 g 0 i c (by simp [Act.eval, Act.put]) AA (n - j) (c - j) news (by simp [Act.eval, Act.put]) s1.out hsrc.out s2.out (by omega) s3.out ?_; rw [← hW.out, hsum])
 go_wp2_with fail
 go_ret
 exact ⟨rfl, HE⟩
end Pull
end Go.Proofs.YtkfdplfgaddkmaaGreat

/-
 Plain words of layer 5: two sets gone through side by side.
-/
namespace Go.Proofs.YtkfdplfgaddkmaaGreat
namespace Vers
open Go.RowKit Span

structure Tog (a b : List Vr) (i j : Nat) (us : List Vr) : Prop where
 ri : i ≤ a.length
 rj : j ≤ b.length
 rise : us.Pairwise dlt
 mem : ∀ v, v ∈ us ↔ v ∈ a.take i ∨ v ∈ b.take j
 la : ∀ u ∈ us, ∀ x ∈ a.drop i, dlt u x
 lb : ∀ u ∈ us, ∀ y ∈ b.drop j, dlt u y ∨ same u y
 twin : ∀ x ∈ a.take i, ∀ y ∈ b.take j, same x y → x = y

end Vers
end Go.Proofs.YtkfdplfgaddkmaaGreat

/-
 firthref05.put lays a version where its dot belongs.
-/
namespace Go.Proofs.YtkfdplfgaddkmaaGreat
namespace Vers
open Go.RowKit Span
attribute [local go_sem ↓] Go.wp_at_zero Go.wp_at_succ

theorem Vs.take {w : World} {L B : Nat} {A : Option Addr} {l : List Vr} (h : Vs w L B A l) (k : Nat) : Vs w L B A (l.take k) := fun hp => by
 rw [List.length_take] at hp
 obtain ⟨b, off, e, hL, hb, hc⟩ := h (by omega)
 refine ⟨b, off, e, hL, hb, fun j hj => ?_⟩
 rw [List.length_take] at hj
 have e1 : (l.take k).getD j v0 = l.getD j v0 := by simp [List.getD_eq_getElem?_getD, show j < k by omega]
 rw [e1]
 exact hc j (by omega)
theorem Vs.drop {w : World} {L B b off : Nat} {l : List Vr} (h : Vs w L B (some ⟨b, off, none⟩) l) (k : Nat) : Vs w L B (some ⟨b, off + k * 5, none⟩) (l.drop k) := fun hp => by
 rw [List.length_drop] at hp
 obtain ⟨b', off', e, hL, hb, hc⟩ := h (by omega)
 injection e with e
 injection e with e1 e2
 subst e1 e2
 refine ⟨b, off + k * 5, rfl, hL, hb, fun j hj => ?_⟩
 rw [List.length_drop] at hj
 have e1 : (l.drop k).getD j v0 = l.getD (k + j) v0 := by simp [List.getD_eq_getElem?_getD, List.getElem?_drop]
 rw [e1, show off + k * 5 + j * 5 = off + (k + j) * 5 by omega]
 exact hc (k + j) (by omega)

theorem Vs.grown {w w' : World} {L B : Nat} {A : Option Addr} {l : List Vr} {row : Option Nat} (h : Vs w L B A l) (hg : w.grownBy w' row) (hB : B ≤ w.heap.size) (hr : ∀ k, row = some k → B ≤ k) : Vs w' L B A l :=
 h.keep fun a _ ha => World.cell?_of_block (hg.block a.block (by omega) (fun e => by have := hr _ e.symm; omega))

end Vers
end Go.Proofs.YtkfdplfgaddkmaaGreat

/-
 firthref05.Merge tells what mergeF tells.
-/
namespace Go.Proofs.YtkfdplfgaddkmaaGreat
namespace Vers
open Go.RowKit Span
attribute [local go_sem ↓] Go.wp_at_zero Go.wp_at_succ

end Vers
end Go.Proofs.YtkfdplfgaddkmaaGreat

/-
 The closure of vers.together: a version is kept behind those that are kept, unless the last one has its dot.
-/
namespace Go.Proofs.YtkfdplfgaddkmaaGreat
namespace Vers
open Go.RowKit Span
attribute [local go_sem ↓] Go.wp_at_zero Go.wp_at_succ

def Box (base B ab : Nat) (w : World) (ps : List Pv) : Prop := ∃ v, Boxed w ab 67 v ∧ OwnVs base 0 B w v ps

theorem Box.below {base B ab : Nat} {w w' : World} {ps : List Pv} (h : Box base B ab w ps) (hB : B ≤ w.heap.size) (hb : Below w.heap.size w w') : Box base B ab w' ps := by
 obtain ⟨v, h1, h2⟩ := h
 exact ⟨v, (hb.block ab h1.lt).trans h1, h2.below hB hb⟩

end Vers
end Go.Proofs.YtkfdplfgaddkmaaGreat

/-
 A slice of versions without its first one.
-/
namespace Go.Proofs.YtkfdplfgaddkmaaGreat
namespace Vers
open Go.RowKit Span

section
variable {V : World} {m b o : Nat} {u0 u1 u2 u3 u4 : Value}
def put5 (V : World) (m : Nat) (u0 u1 u2 u3 u4 : Value) : World := (((((V.setCell ⟨m, 0, none⟩ u0).setCell ⟨m, 1, none⟩ u1).setCell ⟨m, 2, none⟩ u2).setCell ⟨m, 3, none⟩ u3).setCell ⟨m, 4, none⟩ u4).drew
theorem drew_heap (X : World) : X.drew.heap = X.heap := rfl
theorem drew_cell (X : World) (a : Addr) : X.drew.cell? a = X.cell? a := rfl
theorem setCell_size (X : World) (a : Addr) (v : Value) : (X.setCell a v).heap.size = X.heap.size := by simp [World.setCell]
theorem below_set (X : World) (k r : Nat) (v : Value) : Below k X (X.setCell ⟨k, r, none⟩ v) := (Below.refl k X).setCell (Nat.le_refl _) v
theorem off_ne (X : World) (m i j : Nat) (v : Value) (h : i ≠ j) : (X.setCell ⟨m, i, none⟩ v).cell? ⟨m, j, none⟩ = X.cell? ⟨m, j, none⟩ := by apply World.cell?_setCell_other; intro e; apply h; injection e
theorem put5_heap {k : Nat} (h : k ≠ m) : (put5 V m u0 u1 u2 u3 u4).heap[k]? = V.heap[k]? := by
 unfold put5
 rw [drew_heap, Below.heap_setCell _ _ _ _ h, Below.heap_setCell _ _ _ _ h, Below.heap_setCell _ _ _ _ h, Below.heap_setCell _ _ _ _ h, Below.heap_setCell _ _ _ _ h]
theorem put5_size : (put5 V m u0 u1 u2 u3 u4).heap.size = V.heap.size := by
 unfold put5
 rw [drew_heap, setCell_size, setCell_size, setCell_size, setCell_size, setCell_size]
theorem put5_new {z0 z1 z2 z3 z4 : Value} (h : V.cell? ⟨m, 0, none⟩ = some z0 ∧ V.cell? ⟨m, 1, none⟩ = some z1 ∧ V.cell? ⟨m, 2, none⟩ = some z2 ∧ V.cell? ⟨m, 3, none⟩ = some z3 ∧ V.cell? ⟨m, 4, none⟩ = some z4) :
  (put5 V m u0 u1 u2 u3 u4).cell? ⟨m, 0, none⟩ = some u0 ∧ (put5 V m u0 u1 u2 u3 u4).cell? ⟨m, 1, none⟩ = some u1 ∧ (put5 V m u0 u1 u2 u3 u4).cell? ⟨m, 2, none⟩ = some u2 ∧ (put5 V m u0 u1 u2 u3 u4).cell? ⟨m, 3, none⟩ = some u3 ∧ (put5 V m u0 u1 u2 u3 u4).cell? ⟨m, 4, none⟩ = some u4 := by
 have e : ∀ a, (put5 V m u0 u1 u2 u3 u4).cell? a = (((((V.setCell ⟨m, 0, none⟩ u0).setCell ⟨m, 1, none⟩ u1).setCell ⟨m, 2, none⟩ u2).setCell ⟨m, 3, none⟩ u3).setCell ⟨m, 4, none⟩ u4).cell? a := fun a => by unfold put5; rw [drew_cell]
 obtain ⟨h0, h1, h2, h3, h4⟩ := h
 have s0 : (V.setCell ⟨m, 0, none⟩ u0).cell? ⟨m, 0, none⟩ = some u0 := World.cell?_setCell_same' _ _ _ (by rw [h0]; rfl)
 have s1 : ((V.setCell ⟨m, 0, none⟩ u0).setCell ⟨m, 1, none⟩ u1).cell? ⟨m, 1, none⟩ = some u1 := World.cell?_setCell_same' _ _ _ (by rw [off_ne _ _ _ _ _ (by omega), h1]; rfl)
 have s2 : (((V.setCell ⟨m, 0, none⟩ u0).setCell ⟨m, 1, none⟩ u1).setCell ⟨m, 2, none⟩ u2).cell? ⟨m, 2, none⟩ = some u2 := World.cell?_setCell_same' _ _ _ (by rw [off_ne _ _ _ _ _ (by omega), off_ne _ _ _ _ _ (by omega), h2]; rfl)
 have s3 : ((((V.setCell ⟨m, 0, none⟩ u0).setCell ⟨m, 1, none⟩ u1).setCell ⟨m, 2, none⟩ u2).setCell ⟨m, 3, none⟩ u3).cell? ⟨m, 3, none⟩ = some u3 := World.cell?_setCell_same' _ _ _ (by rw [off_ne _ _ _ _ _ (by omega), off_ne _ _ _ _ _ (by omega), off_ne _ _ _ _ _ (by omega), h3]; rfl)
 have s4 : (((((V.setCell ⟨m, 0, none⟩ u0).setCell ⟨m, 1, none⟩ u1).setCell ⟨m, 2, none⟩ u2).setCell ⟨m, 3, none⟩ u3).setCell ⟨m, 4, none⟩ u4).cell? ⟨m, 4, none⟩ = some u4 := World.cell?_setCell_same' _ _ _ (by rw [off_ne _ _ _ _ _ (by omega), off_ne _ _ _ _ _ (by omega), off_ne _ _ _ _ _ (by omega), off_ne _ _ _ _ _ (by omega), h4]; rfl)
 refine ⟨?_, ?_, ?_, ?_, ?_⟩
 ·rw [e, off_ne _ _ _ _ _ (by omega), off_ne _ _ _ _ _ (by omega), off_ne _ _ _ _ _ (by omega), off_ne _ _ _ _ _ (by omega), s0]
 ·rw [e, off_ne _ _ _ _ _ (by omega), off_ne _ _ _ _ _ (by omega), off_ne _ _ _ _ _ (by omega), s1]
 ·rw [e, off_ne _ _ _ _ _ (by omega), off_ne _ _ _ _ _ (by omega), s2]
 ·rw [e, off_ne _ _ _ _ _ (by omega), s3]
 ·rw [e, s4]
end
end Vers
end Go.Proofs.YtkfdplfgaddkmaaGreat

/-
 vers.together tells all versions of both sets by rising dots, each once, or that two unlike ones have one dot.
-/
namespace Go.Proofs.YtkfdplfgaddkmaaGreat
namespace Vers
open Go.RowKit Span
attribute [local go_sem ↓] Go.wp_at_zero Go.wp_at_succ

def Going (a b : List Vr) (base ab : Nat) (w : World) (av bv : Value) (wr : World) : Prop :=
 ∃ (i j na nb : Nat) (Aa Ab : Option Addr) (ca cb : Nat) (ps : List Pv), av = .slice Aa na ca ∧ bv = .slice Ab nb cb ∧ Hid ((a.drop i).length = na ∧ (b.drop j).length = nb ∧ Tog a b i j (ps.map Prod.fst) ∧ ps.length ≤ i + j) ∧ na ≤ ca ∧ nb ≤ cb ∧
  Hid (Vs wr 0 w.heap.size Aa (a.drop i)) ∧ Hid (Vs wr 0 w.heap.size Ab (b.drop j)) ∧ Hid (Box base w.heap.size ab wr ps) ∧ Hid (Below w.heap.size w wr) ∧ base ≤ wr.heap.size

section
variable {a b : List Vr} {i j ka kb na nb base ab : Nat} {w wr w4 : World} {ps : List Pv} {x y : Vr} {la lb : List Vr} {Aa Ab Ax P : Option Addr} {ca cb cx q : Nat}
end

end Vers
end Go.Proofs.YtkfdplfgaddkmaaGreat

/-
 firthlaw05.has: is a version of that dot among these?
-/
namespace Go.Proofs.YtkfdplfgaddkmaaGreat
namespace Vers
open Go.RowKit Span
attribute [local go_sem ↓] Go.wp_at_zero Go.wp_at_succ

def hasD (l : List Vr) (s n : Int) : Prop := ∃ v ∈ l, v.s = s ∧ v.n = n
instance (l : List Vr) (s n : Int) : Decidable (hasD l s n) := by unfold hasD; infer_instance
end Vers
end Go.Proofs.YtkfdplfgaddkmaaGreat
