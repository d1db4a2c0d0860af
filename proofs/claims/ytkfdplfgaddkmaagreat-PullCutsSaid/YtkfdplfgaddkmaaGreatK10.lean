/-
  Several texts of this family in one: VersRightRef, VersSame, VersSames, VersOwn, VersTog, VersPut, VersMergeRef, VersKeep, VersSlice, VersTogether, CodeRows, CodeRdVer, CodeRdList, CodeRdRec, CodeRdMsg, CodeRecs, CodeRight, CodeRightMsg.
-/
import Derived.Test.YtkfdplfgaddkmaaGreatK7
import Derived.Test.YtkfdplfgaddkmaaGreatK9
import Derived.Test.YtkfdplfgaddkmaaGreatK2
import Derived.RangeFuncBox
import Derived.Test.YtkfdplfgaddkmaaGreatK3
import Derived.Test.YtkfdplfgaddkmaaGreatK14
/-
 firthref05.Behind and firthref05.Right.
-/
namespace Go.Proofs.YtkfdplfgaddkmaaGreat
namespace Vers
open Go.RowKit Span
attribute [local go_sem ↓] Go.wp_at_zero Go.wp_at_succ

theorem behind_drop {l : List Vr} {k : Nat} (h : k < l.length) (s n : Int) : decide (behind (l.drop k) s n) = (hasL (l.getD k v0).past s n || decide (behind (l.drop (k + 1)) s n)) := by
 rw [hasL_mem, ← Bool.decide_or]
 congr 1
 rw [List.drop_eq_getElem_cons h]
 have e : l.getD k v0 = l[k] := by simp [List.getD_eq_getElem?_getD, h]
 rw [e]
 refine propext ⟨?_, ?_⟩
 ·rintro ⟨v, hv, hm⟩
  rcases List.mem_cons.1 hv with rfl | hv
  ·exact .inl hm
  ·exact .inr ⟨v, hv, hm⟩
 ·rintro (hm | ⟨v, hv, hm⟩)
  ·exact ⟨_, List.mem_cons_self, hm⟩
  ·exact ⟨v, List.mem_cons_of_mem _ hv, hm⟩

set_option maxRecDepth 100000 in
set_option maxHeartbeats 1000000 in
theorem behind_any (A : Option Addr) (c n : Nat) (l : List Vr) (hn : l.length = n) (s m : Int) (w : World) (hv : Vs w 0 w.heap.size A l) (hn2 : n ≤ 140737488355328) :
  Calls Tryz.prog 103 #[.slice A n c, .agg #[.int .i64 s, .int .i64 m]] w fun e w' => e = .returned (.bool (decide (behind l s m))) ∧ Below w.heap.size w w' := by
 obtain ⟨R, hR⟩ : ∃ R, decide (behind l s m) = R := ⟨_, rfl⟩
 rw [hR]
 have HV := Lib.hid (And.intro hv hn)
 have HR := Lib.hid hR
 clear hv hn hR
 go_enter Tryz.func103, Tryz.ntmps103
 go_wp2
 obtain ⟨W0, hW0⟩ : ∃ W0, w.alloc (.cells #[.int .i64 s, .int .i64 m] 116) = W0 := ⟨_, rfl⟩
 obtain ⟨p, hp⟩ : ∃ p, w.heap.size = p := ⟨_, rfl⟩
 have y0 : W0.cell? ⟨p, 0, none⟩ = some (.int .i64 s) := by rw [← hW0, ← hp]; simp
 have y1 : W0.cell? ⟨p, 1, none⟩ = some (.int .i64 m) := by rw [← hW0, ← hp]; simp
 have hpl : p < W0.heap.size := by rw [← hW0, ← hp]; simp
 have B0 : Below w.heap.size w W0 := by rw [← hW0]; exact (Below.refl _ w).alloc (Nat.le_refl _) _
 have HB0 := Lib.hid B0
 have hsz0 := B0.size
 rw [hW0, hp]
 have HPS := Lib.hid hp
 clear hW0 hp B0
 go_loopw [5] (fun iv wr => ∃ k : Nat, iv = .int .i64 k ∧ k ≤ n ∧ Below W0.heap.size W0 wr ∧ Hid (R = decide (behind (l.drop k) s m))) (fun iv _ => n - (intOf iv).toNat)
 case atStart => exact ⟨0, rfl, by omega, Below.refl _ _, Lib.hid HR.out.symm⟩
 case round =>
  obtain ⟨k, rfl, hk, hb, hst⟩ := hrel
  have hbw := Lib.hid (HB0.out.trans (hb.mono hsz0))
  have hsz := hb.size
  by_cases hlt : k < n
  ·obtain ⟨b, off, A1, c1, rfl, _, hbB, a0, a1, a2, a3, a4, hpa⟩ := HV.out.1.at HV.out.2 hbw.out hlt rfl
   have hd := behind_drop (l := l) (k := k) (by have := HV.out.2; omega) s m
   obtain ⟨v, hvv⟩ : ∃ v, l.getD k v0 = v := ⟨_, rfl⟩
   rw [hvv] at a2 hpa hd
   obtain ⟨vs, vn, vp, vg, vx⟩ := v
   simp only at a2 hd
   obtain ⟨hps, _, hpb, hxb, _⟩ := hpa
   simp only at hps hpb
   obtain ⟨kp, hkp⟩ : ∃ kp, vp.length = kp := ⟨_, rfl⟩
   rw [hkp] at a2 hpb
   have h1 := ref_has_any A1 c1 kp vp hkp s m wr.drew (hps.more (B' := wr.drew.heap.size) (by show w.heap.size ≤ wr.heap.size; omega)) hpb
   obtain ⟨q, hq⟩ : ∃ q, hasL vp s m = q := ⟨_, rfl⟩
   rw [hq] at h1 hd
   have HD := Lib.hid (hst.out.trans hd)
   have H1 := Lib.hid h1
   have e0 := (hb.cell (p := ⟨p, 0, none⟩) hpl).trans y0
   have e1 := (hb.cell (p := ⟨p, 1, none⟩) hpl).trans y1
   have d1 : (0 : Int) ≤ (k : Int) := by omega
   have d2 : (k : Int) < (n : Int) := by omega
   have lp : p < wr.heap.size := by omega
   have lb : b < wr.heap.size := by have := HPS.out; omega
   clear a0 a1 a3 a4 hps hkp hq h1 hd hst hvv y0 y1
   go_wp2
   go_region_held3 (fun V => V.cell? ⟨b, off + k * 5 + 2, none⟩ = some (.slice A1 kp c1) ∧ V.cell? ⟨p, 0, none⟩ = some (.int .i64 s) ∧ V.cell? ⟨p, 1, none⟩ = some (.int .i64 m))
    (first | exact ⟨a2, e0, e1⟩ | exact ⟨cell_below b1 lb a2, cell_below b1 lp e0, cell_below b1 lp e1⟩)
    (first | (go_at_call 130; refine H1.out.mono ?_; rintro e w1 ⟨rfl, b1⟩))
   have hb2 : Below W0.heap.size W0 w1 := hb.drew.trans (Below.mono b1 (by exact hsz))
   cases q
   ·have HN := Lib.hid (show R = decide (behind (l.drop (k + 1)) s m) by rw [HD.out]; simp)
    clear HD b1 hb
    go_wp2
    exact ⟨⟨k + 1, rfl, by omega, hb2, HN⟩, by simp only [intOf]; omega⟩
   ·have HN := Lib.hid (show R = true by rw [HD.out]; simp)
    have hfin := HB0.out.trans (hb2.mono hsz0)
    clear HD b1 hb
    go_wp2
    go_ret
    exact ⟨by rw [HN.out]; rfl, hfin⟩
  ·have hkn : k = n := by omega
   subst hkn
   have HN := Lib.hid (show R = false by rw [hst.out, List.drop_of_length_le (by have := HV.out.2; omega)]; simp [behind])
   clear hst
   go_wp2
   go_ret
   exact ⟨by rw [HN.out]; rfl, hbw.out⟩

set_option maxRecDepth 100000 in
set_option maxHeartbeats 2000000 in
theorem ref_rightV_any (A : Option Addr) (c n : Nat) (l : List Vr) (hn : l.length = n) (w : World) (hv : Vs w 0 w.heap.size A l) (hn2 : n ≤ 140737488355328) :
  Calls Tryz.prog 87 #[.slice A n c] w fun e w' => e = .returned (.bool (decide (RightV l))) ∧ Below w.heap.size w w' := by
 obtain ⟨R, hR⟩ : ∃ R, decide (RightV l) = R := ⟨_, rfl⟩
 rw [hR]
 by_cases hlong : 512 < n
 ·have HF := Lib.hid (show R = false by rw [← hR]; exact decide_eq_false fun h => by have := h.1; omega)
  clear hv hn hR
  go_enter Tryz.func87, Tryz.ntmps87
  go_wp2
  go_ret
  exact ⟨by rw [HF.out]; rfl, Below.refl _ _⟩
 ·have HV := Lib.hid (And.intro hv (And.intro hn hR))
  clear hv hn hR
  go_enter Tryz.func87, Tryz.ntmps87
  go_wp2
  go_loopw [3] (fun iv wr => ∃ k : Nat, iv = .int .i64 k ∧ k ≤ n ∧ Below w.heap.size w wr ∧ Hid (FineV (l.take k) ∧ ∀ v ∈ l.take k, ¬ behind l v.s v.n)) (fun iv _ => n - (intOf iv).toNat)
  case atStart => exact ⟨0, rfl, by omega, Below.refl _ _, Lib.hid ⟨fineV_nil, by simp⟩⟩
  case round =>
   obtain ⟨k, rfl, hk, hb, hst⟩ := hrel
   have hsz := hb.size
   by_cases hlt : k < n
   ·obtain ⟨b, off, A1, c1, rfl, _, hbB, a0, a1, a2, a3, a4, hpa⟩ := HV.out.1.at HV.out.2.1 hb hlt rfl
    have hkl : k < l.length := by have := HV.out.2.1; omega
    have hstep := fineV_step hkl hst.out.1
    have hbad := fineV_bad hkl
    have hord := fun h0 => fineV_order hkl h0
    have hnb : behind l (l.getD k v0).s (l.getD k v0).n → decide (RightV l) = false := fun h => decide_eq_false fun hr => hr.2.2 _ (mem_v hkl) h
    have hpass : FineV (l.take (k + 1)) → ¬ behind l (l.getD k v0).s (l.getD k v0).n → FineV (l.take (k + 1)) ∧ ∀ v ∈ l.take (k + 1), ¬ behind l v.s v.n := fun h1 h2 => ⟨h1, fun v hv => by
     rw [take_v hkl] at hv
     rcases List.mem_append.1 hv with hv | hv
     ·exact hst.out.2 v hv
     ·rw [List.mem_singleton.1 hv]; exact h2⟩
    have hprev : 0 < k → ∃ ps pn, (l.getD (k - 1) v0).s = ps ∧ (l.getD (k - 1) v0).n = pn ∧ ∀ V, Below w.heap.size w V → V.cell? ⟨b, off + (k - 1) * 5, none⟩ = some (.int .i64 ps) ∧ V.cell? ⟨b, off + (k - 1) * 5 + 1, none⟩ = some (.int .i64 pn) := fun h0 => by
     refine ⟨_, _, rfl, rfl, fun V hbV => ?_⟩
     obtain ⟨b', off', A2, c2, e, _, _, p0, p1, _⟩ := HV.out.1.at HV.out.2.1 hbV (show k - 1 < n by omega) rfl
     injection e with e
     injection e with e1 e2
     subst e1 e2
     exact ⟨p0, p1⟩
    have hpr : ∀ v : Vr, 0 < k → (dlt (l.getD (k - 1) v0) v ↔ ((l.getD (k - 1) v0).s < v.s ∨ ((l.getD (k - 1) v0).s = v.s ∧ (l.getD (k - 1) v0).n < v.n))) := fun v _ => Iff.rfl
    obtain ⟨v, hvv⟩ : ∃ v, l.getD k v0 = v := ⟨_, rfl⟩
    rw [hvv] at a0 a1 a2 a3 a4 hpa hstep hbad hnb hpass
    have hord' : ∀ (_ : 0 < k), ¬ dlt (l.getD (k - 1) v0) v → decide (RightV l) = false := fun h0 h => hord h0 (by rw [hvv]; exact h)
    clear hord hvv
    obtain ⟨s, vn, vp, vg, vx⟩ := v
    simp only at a0 a1 a2 a3 a4 hnb hpass
    obtain ⟨hps, _, hpb, hxb, _⟩ := hpa
    simp only at hps hpb hxb
    obtain ⟨kp, hkp⟩ : ∃ kp, vp.length = kp := ⟨_, rfl⟩
    rw [hkp] at a2 hpb
    have h1 := ref_rightone_any A1 c1 kp s vn vp vg vx hkp wr (hps.more hsz) hpb hxb
    have h2 := fun V (hbV : Below w.heap.size w V) => behind_any (some ⟨b, off, none⟩) c n l HV.out.2.1 s vn V ((HV.out.1.below hbV).more hbV.size) hn2
    have d1 : (0 : Int) ≤ (k : Int) := by omega
    have d2 : (k : Int) < (n : Int) := by omega
    by_cases cA : okV ⟨s, vn, vp, vg, vx⟩
    ·rw [decide_eq_true cA] at h1
     have H1 := Lib.hid h1
     by_cases cB : behind l s vn
     ·have HF := Lib.hid (HV.out.2.2.symm.trans (hnb cB))
      have H2 := Lib.hid (fun V hbV => (decide_eq_true cB) ▸ h2 V hbV)
      have HB := Lib.hid hb
      clear h1 h2 hpr hord' hbad hstep hnb hpass hprev cA cB hst hps hkp hb
      go_wp2_with fail
      refine H1.out.mono ?_
      rintro e w1 ⟨rfl, b1⟩
      have hb1 := HB.out.trans (b1.mono hsz)
      have z0 := (b1.cell (p := ⟨b, off + k * 5, none⟩) (by simp only; omega)).trans a0
      have z1 := (b1.cell (p := ⟨b, off + k * 5 + 1, none⟩) (by simp only; omega)).trans a1
      have H2' := Lib.hid (H2.out _ hb1)
      have HB1 := Lib.hid hb1
      have hsz1 := hb1.size
      clear b1 hb1 H2
      go_wp2_with fail
      refine H2'.out.mono ?_
      rintro e w2 ⟨rfl, b2⟩
      have BE := HB1.out.trans (b2.mono hsz1)
      clear b2
      go_wp2_with fail
      go_ret
      exact ⟨by rw [HF.out]; rfl, BE⟩
     ·have H2 := Lib.hid (fun V hbV => (decide_eq_false cB) ▸ h2 V hbV)
      have HB := Lib.hid hb
      have HSP := Lib.hid (fun h => hpass h cB)
      have HT := Lib.hid (And.intro (hstep cA) (And.intro hord' (And.intro hpr hprev)))
      clear h1 h2 hpr hord' hbad hstep hnb hpass hprev cA cB hst hps hkp hb
      go_wp2_with fail
      refine H1.out.mono ?_
      rintro e w1 ⟨rfl, b1⟩
      have hb1 := HB.out.trans (b1.mono hsz)
      have z0 := (b1.cell (p := ⟨b, off + k * 5, none⟩) (by simp only; omega)).trans a0
      have z1 := (b1.cell (p := ⟨b, off + k * 5 + 1, none⟩) (by simp only; omega)).trans a1
      have H2' := Lib.hid (H2.out _ hb1)
      have HB1 := Lib.hid hb1
      have hsz1 := hb1.size
      clear b1 hb1 H2
      go_wp2_with fail
      refine H2'.out.mono ?_
      rintro e w2 ⟨rfl, b2⟩
      have hb2 := HB1.out.trans (b2.mono hsz1)
      have z0' := (b2.cell (p := ⟨b, off + k * 5, none⟩) (by simp only; omega)).trans z0
      have z1' := (b2.cell (p := ⟨b, off + k * 5 + 1, none⟩) (by simp only; omega)).trans z1
      have HB2 := Lib.hid hb2
      have hsz2 := hb2.size
      have lb : b < w2.heap.size := by omega
      clear b2 hb2 H2' z0 z1 H1
      by_cases h0 : 0 < k
      ·obtain ⟨ps, pn, e1, e2, hcells⟩ := HT.out.2.2.2 h0
       obtain ⟨p0, p1⟩ := hcells w2 HB2.out
       have hpr' := HT.out.2.2.1 ⟨s, vn, vp, vg, vx⟩ h0
       rw [e1, e2] at hpr'
       simp only at hpr'
       have h3 := less_any ps pn s vn w2.drew
       obtain ⟨q, hq⟩ : ∃ q, decide (ps < s ∨ (ps = s ∧ pn < vn)) = q := ⟨_, rfl⟩
       have HN := Lib.hid (show (q = true → FineV (l.take (k + 1)) ∧ ∀ v ∈ l.take (k + 1), ¬ behind l v.s v.n) ∧ (q = false → R = false) from
        ⟨fun h => HSP.out (HT.out.1 fun _ => hpr'.2 (of_decide_eq_true (hq.trans h))), fun h => HV.out.2.2.symm.trans (HT.out.2.1 h0 fun hd => (of_decide_eq_false (hq.trans h)) (hpr'.1 hd))⟩)
       rw [hq] at h3
       have H3 := Lib.hid h3
       have f0 : ((k : Int) - 1).toNat = k - 1 := by omega
       have f1 : (0 : Int) ≤ (k : Int) - 1 := by omega
       have f2 : (k : Int) - 1 < (n : Int) := by omega
       have f5 : (1 : Int) ≤ (k : Int) := by omega
       have f6 : (k : Int) ≤ (n : Int) := by omega
       have f7 : 1 ≤ k := by omega
       have f8 : ((k : Int) - 1 < (n : Int)) = True := eq_true (by omega)
       have f9 : (0 ≤ (k : Int) - 1) = True := eq_true (by omega)
       have f3 : decide ((0 : Int) < (k : Int)) = true := decide_eq_true (by omega)
       have f4 : IntKind.i64.wrap ((k : Int) - 1) = (k : Int) - 1 := IntWalk.i64_in _ (by omega)
       clear hpr' e1 e2 hcells h3 hq HT HSP a0 a1 a2 a3 a4
       go_wp2_with fail
       go_region_held3 (fun V => V.cell? ⟨b, off + (k - 1) * 5, none⟩ = some (.int .i64 ps) ∧ V.cell? ⟨b, off + (k - 1) * 5 + 1, none⟩ = some (.int .i64 pn) ∧ V.cell? ⟨b, off + k * 5, none⟩ = some (.int .i64 s) ∧ V.cell? ⟨b, off + k * 5 + 1, none⟩ = some (.int .i64 vn))
        (first | exact ⟨p0, p1, z0', z1'⟩ | exact ⟨cell_below b3 lb p0, cell_below b3 lb p1, cell_below b3 lb z0', cell_below b3 lb z1'⟩)
        (first | (go_at_call 104; refine H3.out.mono ?_; rintro e w3 ⟨rfl, b3⟩))
       have BE : Below w.heap.size w w3 := HB2.out.drew.trans (Below.mono b3 (by exact hsz2))
       cases q
       ·have HF := Lib.hid (HN.out.2 rfl)
        clear HN b3
        go_wp2_with fail
        go_ret
        exact ⟨by rw [HF.out]; rfl, BE⟩
       ·have HF := Lib.hid (HN.out.1 rfl)
        clear HN b3
        go_wp2_with fail
        exact ⟨⟨k + 1, rfl, by omega, BE, HF⟩, by simp only [intOf]; omega⟩
      ·have HF := Lib.hid (HSP.out (HT.out.1 fun h => absurd h h0))
       have f3 : decide ((0 : Int) < (k : Int)) = false := decide_eq_false (by omega)
       have f3' : decide (0 < k) = false := decide_eq_false h0
       clear HT HSP
       go_wp2_with fail
       go_quiet (fail)
       go_wp2_with fail
       exact ⟨⟨k + 1, rfl, by omega, HB2.out.trans (Span.below_drewN _ _ _), HF⟩, by simp only [intOf]; omega⟩
    ·rw [decide_eq_false cA] at h1
     have H1 := Lib.hid h1
     have HF := Lib.hid (HV.out.2.2.symm.trans (hbad cA))
     have HB := Lib.hid hb
     clear h1 h2 hpr hord' hbad hstep hnb hpass hprev cA hst hps hkp hb
     go_wp2_with fail
     refine H1.out.mono ?_
     rintro e w1 ⟨rfl, b1⟩
     have BE := HB.out.trans (b1.mono hsz)
     clear b1
     go_wp2_with fail
     go_ret
     exact ⟨by rw [HF.out]; rfl, BE⟩
   ·have hkn : k = n := by omega
    subst hkn
    have HF := Lib.hid (show R = true by
     rw [← HV.out.2.2]
     refine decide_eq_true ⟨by have := HV.out.2.1; omega, ?_⟩
     have := hst.out
     rwa [List.take_of_length_le (by have := HV.out.2.1; omega)] at this)
    clear hst
    go_wp2_with fail
    go_ret
    exact ⟨by rw [HF.out]; rfl, hb⟩
end Vers
end Go.Proofs.YtkfdplfgaddkmaaGreat

/-
 Whether two versions, two lists of them, are the same.
-/
namespace Go.Proofs.YtkfdplfgaddkmaaGreat
namespace Vers
open Go.RowKit Span

theorem str_eq (x y : ByteArray) : (x.toList == y.toList) = decide (x = y) := by
 rw [Lib.toList_data, Lib.toList_data]
 by_cases h : x = y
 ·subst h; simp
 ·rw [decide_eq_false h]
  have h2 : ¬ x.data.toList = y.data.toList := fun e => h (ByteArray.ext (Array.toList_inj.1 e))
  simpa using h2

set_option maxRecDepth 100000 in
set_option maxHeartbeats 1000000 in
theorem ref_sameone_any (A A' : Option Addr) (c c' k k' : Nat) (s n s' n' : Int) (p p' : List Sp) (g g' : Bool) (x x' : ByteArray) (hk : p.length = k) (hk' : p'.length = k') (w : World) (hp : Ss w w.heap.size A p) (hp' : Ss w w.heap.size A' p') (hb : k ≤ 140737488355328) (hb' : k' ≤ 140737488355328) :
  Calls Tryz.prog 71 #[.agg #[.int .i64 s, .int .i64 n, .slice A k c, .bool g, .string x], .agg #[.int .i64 s', .int .i64 n', .slice A' k' c', .bool g', .string x']] w fun e w' => e = .returned (.bool (decide ((⟨s, n, p, g, x⟩ : Vr) = ⟨s', n', p', g', x'⟩))) ∧ Below w.heap.size w w' := by
 obtain ⟨R, hR⟩ : ∃ R, decide ((⟨s, n, p, g, x⟩ : Vr) = ⟨s', n', p', g', x'⟩) = R := ⟨_, rfl⟩
 rw [hR]
 have hRR : ((⟨s, n, p, g, x⟩ : Vr) = ⟨s', n', p', g', x'⟩) ↔ s = s' ∧ n = n' ∧ p = p' ∧ g = g' ∧ x = x' := by simp
 have h1 := fun W (hbW : Below w.heap.size w W) => same_any A A' c c' k k' p p' hk hk' W ((hp.below hbW).more hbW.size) ((hp'.below hbW).more hbW.size) hb hb'
 have hbb : Below w.heap.size w ((w.alloc (.cells #[.int .i64 s, .int .i64 n, .slice A k c, .bool g, .string x] 119)).alloc (.cells #[.int .i64 s', .int .i64 n', .slice A' k' c', .bool g', .string x'] 119)) := ((Below.refl _ w).alloc (Nat.le_refl _) _).alloc (by simp) _
 have HB := Lib.hid hbb
 clear hp hp' hk hk' hbb
 by_cases cd : s = s' ∧ n = n'
 ·by_cases cg : g = g'
  ·by_cases cx : x = x'
   ·obtain ⟨q, hq⟩ : ∃ q, decide (p = p') = q := ⟨_, rfl⟩
    have HF := Lib.hid (show R = q by
     rw [← hR, ← hq]
     congr 1
     exact propext ⟨fun h => (hRR.1 h).2.2.1, fun h => hRR.2 ⟨cd.1, cd.2, h, cg, cx⟩⟩)
    rw [hq] at h1
    have H1 := Lib.hid h1
    obtain ⟨rfl, rfl⟩ := cd
    subst cg cx
    clear hR hRR h1 hq
    have gg : (g == g) = true := by simp
    go_enter Tryz.func71, Tryz.ntmps71
    go_wp2_with fail
    refine (H1.out _ HB.out).mono ?_
    rintro e w1 ⟨rfl, b1⟩
    have BE := HB.out.trans (b1.mono HB.out.size)
    clear b1 H1
    go_wp2_with fail
    go_ret
    exact ⟨by rw [HF.out]; rfl, BE⟩
   ·have HF := Lib.hid (show R = false by rw [← hR]; exact decide_eq_false fun h => cx (hRR.1 h).2.2.2.2)
    have gx : (x.toList == x'.toList) = false := by rw [str_eq]; exact decide_eq_false cx
    have gx' : ¬ x.toList = x'.toList := by simpa using gx
    obtain ⟨rfl, rfl⟩ := cd
    subst cg
    clear hR hRR h1 cx
    have gg : (g == g) = true := by simp
    go_enter Tryz.func71, Tryz.ntmps71
    go_wp2_with fail
    go_ret
    exact ⟨by rw [HF.out]; rfl, HB.out⟩
  ·have HF := Lib.hid (show R = false by rw [← hR]; exact decide_eq_false fun h => cg (hRR.1 h).2.2.2.1)
   have gg : (g == g') = false := by simpa using cg
   obtain ⟨rfl, rfl⟩ := cd
   clear hR hRR h1 cg
   go_enter Tryz.func71, Tryz.ntmps71
   go_wp2_with fail
   go_ret
   exact ⟨by rw [HF.out]; rfl, HB.out⟩
 ·have HF := Lib.hid (show R = false by rw [← hR]; exact decide_eq_false fun h => cd ⟨(hRR.1 h).1, (hRR.1 h).2.1⟩)
  clear hR hRR h1
  by_cases cs : s = s'
  ·have cn : ¬ n = n' := fun h => cd ⟨cs, h⟩
   have gn : (n == n') = false := by simpa using cn
   subst cs
   clear cd cn
   go_enter Tryz.func71, Tryz.ntmps71
   go_wp2_with fail
   go_ret
   exact ⟨by rw [HF.out]; rfl, HB.out⟩
  ·have gs : (s == s') = false := by simpa using cs
   clear cd cs
   go_enter Tryz.func71, Tryz.ntmps71
   go_wp2_with fail
   go_ret
   exact ⟨by rw [HF.out]; rfl, HB.out⟩

end Vers
end Go.Proofs.YtkfdplfgaddkmaaGreat

/-
 Whether two lists of versions are the same.
-/
namespace Go.Proofs.YtkfdplfgaddkmaaGreat
namespace Vers
open Go.RowKit Span
attribute [local go_sem ↓] Go.wp_at_zero Go.wp_at_succ

theorem takeV_eq {l m : List Vr} {k : Nat} (hl : k < l.length) (hm : k < m.length) (h : l.take k = m.take k) (he : l.getD k v0 = m.getD k v0) : l.take (k + 1) = m.take (k + 1) := by
 rw [take_v hl, take_v hm, h, he]
theorem takeV_ne {l m : List Vr} {k : Nat} (he : l.getD k v0 ≠ m.getD k v0) : ¬ l = m := fun h => he (by rw [h])

set_option maxRecDepth 100000 in
set_option maxHeartbeats 4000000 in
theorem ref_sameV_any (A A' : Option Addr) (c c' n n' : Nat) (l l' : List Vr) (hn : l.length = n) (hn' : l'.length = n') (w : World) (hv : Vs w 0 w.heap.size A l) (hv' : Vs w 0 w.heap.size A' l') (hb : n ≤ 140737488355328) (hb' : n' ≤ 140737488355328) :
  Calls Tryz.prog 39 #[.slice A n c, .slice A' n' c'] w fun e w' => e = .returned (.bool (decide (l = l'))) ∧ Below w.heap.size w w' := by
 obtain ⟨R, hR⟩ : ∃ R, decide (l = l') = R := ⟨_, rfl⟩
 rw [hR]
 by_cases hlen : n = n'
 ·subst hlen
  have HV := Lib.hid (And.intro hv (And.intro hv' (And.intro hn (And.intro hn' hR))))
  clear hv hv' hn hn' hR
  go_enter Tryz.func39, Tryz.ntmps39
  go_wp2
  go_loopw [5] (fun q wr => ∃ k : Nat, q = .int .i64 k ∧ k ≤ n ∧ Below w.heap.size w wr ∧ Hid (l.take k = l'.take k)) (fun q _ => n - (intOf q).toNat)
  case atStart => exact ⟨0, rfl, by omega, Below.refl _ _, Lib.hid rfl⟩
  case round =>
   obtain ⟨k, rfl, hk, hb1, hst⟩ := hrel
   have hsz := hb1.size
   by_cases hlt : k < n
   ·obtain ⟨b, off, A1, c1, rfl, _, hbB, a0, a1, a2, a3, a4, hpa⟩ := HV.out.1.at HV.out.2.2.1 hb1 hlt rfl
    obtain ⟨b', off', A1', c1', rfl, _, hbB', a0', a1', a2', a3', a4', hpa'⟩ := HV.out.2.1.at HV.out.2.2.2.1 hb1 hlt rfl
    have hy := takeV_eq (l := l) (m := l') (by have := HV.out.2.2.1; omega) (by have := HV.out.2.2.2.1; omega) hst.out
    have hz := takeV_ne (l := l) (m := l') (k := k)
    obtain ⟨v, hvv⟩ : ∃ v, l.getD k v0 = v := ⟨_, rfl⟩
    obtain ⟨v', hvv'⟩ : ∃ v, l'.getD k v0 = v := ⟨_, rfl⟩
    rw [hvv] at a0 a1 a2 a3 a4 hpa
    rw [hvv'] at a0' a1' a2' a3' a4' hpa'
    rw [hvv, hvv'] at hy hz
    clear hvv hvv'
    obtain ⟨s, vn, vp, vg, vx⟩ := v
    obtain ⟨s', vn', vp', vg', vx'⟩ := v'
    simp only at a0 a1 a2 a3 a4 a0' a1' a2' a3' a4'
    obtain ⟨hps, _, hpb, _, _⟩ := hpa
    obtain ⟨hps', _, hpb', _, _⟩ := hpa'
    simp only at hps hpb hps' hpb'
    obtain ⟨kp, hkp⟩ : ∃ kp, vp.length = kp := ⟨_, rfl⟩
    obtain ⟨kp', hkp'⟩ : ∃ kp, vp'.length = kp := ⟨_, rfl⟩
    rw [hkp] at a2 hpb
    rw [hkp'] at a2' hpb'
    have h1 := ref_sameone_any A1 A1' c1 c1' kp kp' s vn s' vn' vp vp' vg vg' vx vx' hkp hkp' wr.drew (hps.more (B' := wr.drew.heap.size) (by exact hsz)) (hps'.more (B' := wr.drew.heap.size) (by exact hsz)) hpb hpb'
    obtain ⟨q, hq⟩ : ∃ q, decide ((⟨s, vn, vp, vg, vx⟩ : Vr) = ⟨s', vn', vp', vg', vx'⟩) = q := ⟨_, rfl⟩
    rw [hq] at h1
    have HN := Lib.hid (show (q = true → l.take (k + 1) = l'.take (k + 1)) ∧ (q = false → R = false) from ⟨fun h => hy (of_decide_eq_true (hq.trans h)), fun h => by
     rw [← HV.out.2.2.2.2]
     exact decide_eq_false (hz (of_decide_eq_false (hq.trans h)))⟩)
    have H1 := Lib.hid h1
    have lb : b < wr.heap.size := by omega
    have lb' : b' < wr.heap.size := by omega
    have d1 : (0 : Int) ≤ (k : Int) := by omega
    have d2 : (k : Int) < (n : Int) := by omega
    clear h1 hy hz hq hkp hkp' hps hps' hst
    go_wp2
    go_region_held3 (fun V => V.cell? ⟨b, off + k * 5, none⟩ = some (.int .i64 s) ∧ V.cell? ⟨b, off + k * 5 + 1, none⟩ = some (.int .i64 vn) ∧ V.cell? ⟨b, off + k * 5 + 2, none⟩ = some (.slice A1 kp c1) ∧ V.cell? ⟨b, off + k * 5 + 3, none⟩ = some (.bool vg) ∧ V.cell? ⟨b, off + k * 5 + 4, none⟩ = some (.string vx) ∧
      V.cell? ⟨b', off' + k * 5, none⟩ = some (.int .i64 s') ∧ V.cell? ⟨b', off' + k * 5 + 1, none⟩ = some (.int .i64 vn') ∧ V.cell? ⟨b', off' + k * 5 + 2, none⟩ = some (.slice A1' kp' c1') ∧ V.cell? ⟨b', off' + k * 5 + 3, none⟩ = some (.bool vg') ∧ V.cell? ⟨b', off' + k * 5 + 4, none⟩ = some (.string vx'))
     (first | exact ⟨a0, a1, a2, a3, a4, a0', a1', a2', a3', a4'⟩ | exact ⟨cell_below b1 lb a0, cell_below b1 lb a1, cell_below b1 lb a2, cell_below b1 lb a3, cell_below b1 lb a4, cell_below b1 lb' a0', cell_below b1 lb' a1', cell_below b1 lb' a2', cell_below b1 lb' a3', cell_below b1 lb' a4'⟩)
     (first | (go_at_call 71; refine H1.out.mono ?_; rintro e w1 ⟨rfl, b1⟩))
    have BE : Below w.heap.size w w1 := hb1.drew.trans (Below.mono b1 (by exact hsz))
    clear b1 H1 hb1
    cases q
    ·have HF := Lib.hid (HN.out.2 rfl)
     clear HN
     go_wp2
     go_ret
     exact ⟨by rw [HF.out]; rfl, BE⟩
    ·have HF := Lib.hid (HN.out.1 rfl)
     clear HN
     go_wp2
     exact ⟨⟨k + 1, rfl, by omega, BE, HF⟩, by simp only [intOf]; omega⟩
   ·have hkn : k = n := by omega
    subst hkn
    have HF := Lib.hid (show R = true by
     rw [← HV.out.2.2.2.2]
     refine decide_eq_true ?_
     have := hst.out
     rwa [List.take_of_length_le (by have := HV.out.2.2.1; omega), List.take_of_length_le (by have := HV.out.2.2.2.1; omega)] at this)
    clear hst
    go_wp2
    go_ret
    exact ⟨by rw [HF.out]; rfl, hb1⟩
 ·have HF := Lib.hid (show R = false by rw [← hR]; exact decide_eq_false fun h => hlen (by rw [← hn, ← hn', h]))
  clear hv hv' hn hn' hR
  go_enter Tryz.func39, Tryz.ntmps39
  go_wp2
  go_ret
  exact ⟨by rw [HF.out]; rfl, Below.refl _ _⟩
end Vers
end Go.Proofs.YtkfdplfgaddkmaaGreat

/-
 Versions in a row of the call's own, five cells to a version; append onto such a row.
-/
namespace Go.Proofs.YtkfdplfgaddkmaaGreat
namespace Vers
open Go.RowKit Span

abbrev Pv := Vr × Option Addr × Nat
def z0 : Pv := (v0, none, 0)
def vcc (p : Pv) : List Value := [.int .i64 p.1.s, .int .i64 p.1.n, .slice p.2.1 p.1.past.length p.2.2, .bool p.1.gone, .string p.1.val]
def vcs (ps : List Pv) : List Value := ps.flatMap vcc
theorem vcs_cons (p : Pv) (ps : List Pv) : vcs (p :: ps) = vcc p ++ vcs ps := by simp [vcs]
theorem vcs_append (ps qs : List Pv) : vcs (ps ++ qs) = vcs ps ++ vcs qs := by simp [vcs]
theorem vcs_one (p : Pv) : vcs [p] = vcc p := by simp [vcs]
theorem vcs_length (ps : List Pv) : (vcs ps).length = ps.length * 5 := by
 induction ps with
 | nil => rfl
 | cons p ps ih =>
  rw [vcs_cons, List.length_append, ih]
  simp [vcc]
  omega
theorem vcs_at (ps : List Pv) : ∀ j, j < ps.length → ∀ r, r < 5 → (vcs ps)[j * 5 + r]? = (vcc (ps.getD j z0))[r]? := by
 induction ps with
 | nil => intro j h; simp at h
 | cons p ps ih =>
  intro j hj r hr
  rw [vcs_cons]
  rcases j with _ | j
  ·rw [List.getElem?_append_left (by simp [vcc]; omega)]
   simp
  ·have h := ih j (by simpa using hj) r hr
   rw [List.getElem?_append_right (by simp [vcc]; omega)]
   rw [show (j + 1) * 5 + r - (vcc p).length = j * 5 + r by simp [vcc]; omega, h]
   simp
theorem vcs_cell (ps : List Pv) : ∀ u ∈ vcs ps, u.oneCell' = true := by
 intro u hu
 obtain ⟨p, _, hp⟩ := List.mem_flatMap.1 hu
 simp [vcc] at hp
 rcases hp with rfl | rfl | rfl | rfl | rfl <;> rfl
theorem add_plain (b off k : Nat) : (⟨b, off, none⟩ : Addr).add k = ⟨b, off + k, none⟩ := by unfold Addr.add; split <;> simp_all

def OwnVs (base L B : Nat) (w : World) (v : Value) (ps : List Pv) : Prop := w.ownsRow base 119 5 v ps.length (vcs ps) ∧ ∀ p ∈ ps, Pa w L B p.2.1 p.2.2 p.1

theorem OwnVs.vs {base L B n c : Nat} {w : World} {A : Option Addr} {ps : List Pv} (h : OwnVs base L B w (.slice A n c) ps) (hL : L ≤ base) (hB : B ≤ w.heap.size) : Vs w L w.heap.size A (ps.map Prod.fst) := by
 intro hp
 rw [List.length_map] at hp
 obtain ⟨ho, hpa⟩ := h
 rcases ho.2 with ⟨_, h0⟩ | ⟨g, cap, cur, hv, hbg, hg, rest⟩
 ·omega
 ·injection hv with h1 h2 h3
  subst h1
  refine ⟨g, 0, rfl, by omega, (Array.getElem?_eq_some_iff.1 hg).1, fun j hj => ?_⟩
  rw [List.length_map] at hj
  have e : (ps.map Prod.fst).getD j v0 = (ps.getD j z0).1 := by simp [List.getD_eq_getElem?_getD, hj]
  have hm : ps.getD j z0 ∈ ps := by
   rw [List.getD_eq_getElem?_getD, List.getElem?_eq_getElem hj]
   exact List.getElem_mem _
  rw [e]
  have hat : ∀ r, r < 5 → ∀ u, (vcc (ps.getD j z0))[r]? = some u → w.cell? ⟨g, 0 + j * 5 + r, none⟩ = some u := fun r hr u hu => by
   have hc := ho.cells (g := g) rfl (j * 5 + r) u (by rw [vcs_at ps j hj r hr]; exact hu)
   rw [add_plain] at hc
   rw [show 0 + j * 5 + r = 0 + (j * 5 + r) by omega]
   exact hc
  exact ⟨_, _, hat 0 (by omega) _ (by simp [vcc]), hat 1 (by omega) _ (by simp [vcc]), hat 2 (by omega) _ (by simp [vcc]), hat 3 (by omega) _ (by simp [vcc]), hat 4 (by omega) _ (by simp [vcc]), (hpa _ hm).more hB⟩
theorem OwnVs.below {base L B : Nat} {w w' : World} {v : Value} {ps : List Pv} (h : OwnVs base L B w v ps) (hB : B ≤ w.heap.size) (hb : Below w.heap.size w w') : OwnVs base L B w' v ps :=
 ⟨own_below h.1 hb (Nat.le_refl _), fun p hp => (h.2 p hp).below (hb.mono hB)⟩
theorem info_ver : (Tryz.prog.info? 119).map (fun i => (i.zero, i.size, i.bytes)) = some (some (.agg #[.int .i64 0, .int .i64 0, .slice none 0 0, .bool false, .string ⟨#[]⟩]), 5, 64) := by kernel_rfl

section
variable {P : Program} (w : World)
theorem wpList_append_v {ops : Array Oper} {rest : List Oper} {o : Oper} {a : Act} {Q : Exit → Act → World → Prop} (hgd : o.guard = none) (s x : Operand) (t : TypeId)
  (ho : o.op = .call { callee := .builtin .append, args := #[s, x], argTypes := #[t, t] })
  (base : Nat) (e : TypeId) (i : TypeInfo) (z : Value) (bytes : Nat) (ht : P.underlying t = some (.slice e)) (hi : P.info? e = some i) (hz : i.zero = some z)
  (hsize : i.size = 5) (hby : i.bytes = bytes) (hzs : z.cells.size = 5)
  (v : Value) (n : Nat) (ps : List Pv) (hs : a.eval s = v) (hown : w.ownsRow base e 5 v n (vcs ps)) (p : Pv) (k : Nat) (hk : p.1.past.length = k) (c : Nat)
  (hx : a.eval x = .slice (some ⟨w.heap.size, 0, none⟩) 1 c)
  (hbytes : (n + 1) * bytes ≤ 140737488355328) (hn : n + 1 ≤ 140737488355328) (hbase : base ≤ w.heap.size)
  (h : ∀ v' w', w'.ownsRow base e 5 v' (n + 1) (vcs (ps ++ [p])) → w.grownBy w' v.ownBlock → (v'.ownBlock = v.ownBlock ∨ ∃ g, v'.ownBlock = some g ∧ w.heap.size ≤ g) → wpList P ops Q rest (a.put o.dst v') w') :
  wpList P ops Q (o :: rest) a (w.alloc (.cells #[.int .i64 p.1.s, .int .i64 p.1.n, .slice p.2.1 k p.2.2, .bool p.1.gone, .string p.1.val] e)) := by
 subst hk
 refine wpList_append_own_at _ hgd s x t ho base e i z 5 bytes ht hi hz hsize hby hzs (by omega) v n (vcs ps) hs (hown.alloc _) ⟨w.heap.size, 0, none⟩ 1 c (vcc p) hx rfl ?_ ?_ (by unfold maxLen; omega) hbytes (by simp; omega) ?_
 ·intro j u' hj
  match j, hj with
  | 0, hj => simp [vcc] at hj; subst hj; simp [Addr.add]
  | 1, hj => simp [vcc] at hj; subst hj; simp [Addr.add]
  | 2, hj => simp [vcc] at hj; subst hj; simp [Addr.add]
  | 3, hj => simp [vcc] at hj; subst hj; simp [Addr.add]
  | 4, hj => simp [vcc] at hj; subst hj; simp [Addr.add]
 ·intro u' hu
  exact vcs_cell [p] u' (by rw [vcs_one]; exact hu)
 ·intro v' w' hown' hg _ hat
  refine h v' w' ?_ ?_ ?_
  ·rw [vcs_append, vcs_one]; exact hown'
  ·exact ⟨hg.os, hg.tape, hg.output, Nat.le_trans (by simp) hg.size, fun k hk hne => (hg.block k (by simp; omega) hne).trans (Below.heap_alloc w _ k hk)⟩
  ·rcases hat with h1 | h1
   ·exact .inl h1
   ·exact .inr ⟨_, h1, by simp⟩

end
end Vers
end Go.Proofs.YtkfdplfgaddkmaaGreat

/-
 Plain words of layer 5: two sets gone through side by side.
-/
namespace Go.Proofs.YtkfdplfgaddkmaaGreat
namespace Vers
open Go.RowKit Span

structure Tog (a b : List Vr) (i j : Nat) (us : List Vr) : Prop where
 ri : i ≤ a.length
 rj : j ≤ b.length
 rise : us.Pairwise dlt
 mem : ∀ v, v ∈ us ↔ v ∈ a.take i ∨ v ∈ b.take j
 la : ∀ u ∈ us, ∀ x ∈ a.drop i, dlt u x
 lb : ∀ u ∈ us, ∀ y ∈ b.drop j, dlt u y ∨ same u y
 twin : ∀ x ∈ a.take i, ∀ y ∈ b.take j, same x y → x = y

end Vers
end Go.Proofs.YtkfdplfgaddkmaaGreat

/-
 firthref05.put lays a version where its dot belongs.
-/
namespace Go.Proofs.YtkfdplfgaddkmaaGreat
namespace Vers
open Go.RowKit Span
attribute [local go_sem ↓] Go.wp_at_zero Go.wp_at_succ

theorem Vs.take {w : World} {L B : Nat} {A : Option Addr} {l : List Vr} (h : Vs w L B A l) (k : Nat) : Vs w L B A (l.take k) := fun hp => by
 rw [List.length_take] at hp
 obtain ⟨b, off, e, hL, hb, hc⟩ := h (by omega)
 refine ⟨b, off, e, hL, hb, fun j hj => ?_⟩
 rw [List.length_take] at hj
 have e1 : (l.take k).getD j v0 = l.getD j v0 := by simp [List.getD_eq_getElem?_getD, show j < k by omega]
 rw [e1]
 exact hc j (by omega)
theorem Vs.drop {w : World} {L B b off : Nat} {l : List Vr} (h : Vs w L B (some ⟨b, off, none⟩) l) (k : Nat) : Vs w L B (some ⟨b, off + k * 5, none⟩) (l.drop k) := fun hp => by
 rw [List.length_drop] at hp
 obtain ⟨b', off', e, hL, hb, hc⟩ := h (by omega)
 injection e with e
 injection e with e1 e2
 subst e1 e2
 refine ⟨b, off + k * 5, rfl, hL, hb, fun j hj => ?_⟩
 rw [List.length_drop] at hj
 have e1 : (l.drop k).getD j v0 = l.getD (k + j) v0 := by simp [List.getD_eq_getElem?_getD, List.getElem?_drop]
 rw [e1, show off + k * 5 + j * 5 = off + (k + j) * 5 by omega]
 exact hc (k + j) (by omega)

theorem Vs.grown {w w' : World} {L B : Nat} {A : Option Addr} {l : List Vr} {row : Option Nat} (h : Vs w L B A l) (hg : w.grownBy w' row) (hB : B ≤ w.heap.size) (hr : ∀ k, row = some k → B ≤ k) : Vs w' L B A l :=
 h.keep fun a _ ha => World.cell?_of_block (hg.block a.block (by omega) (fun e => by have := hr _ e.symm; omega))

end Vers
end Go.Proofs.YtkfdplfgaddkmaaGreat

/-
 firthref05.Merge tells what mergeF tells.
-/
namespace Go.Proofs.YtkfdplfgaddkmaaGreat
namespace Vers
open Go.RowKit Span
attribute [local go_sem ↓] Go.wp_at_zero Go.wp_at_succ

end Vers
end Go.Proofs.YtkfdplfgaddkmaaGreat

/-
 The closure of vers.together: a version is kept behind those that are kept, unless the last one has its dot.
-/
namespace Go.Proofs.YtkfdplfgaddkmaaGreat
namespace Vers
open Go.RowKit Span
attribute [local go_sem ↓] Go.wp_at_zero Go.wp_at_succ

def Box (base B ab : Nat) (w : World) (ps : List Pv) : Prop := ∃ v, Boxed w ab 67 v ∧ OwnVs base 0 B w v ps

theorem Box.below {base B ab : Nat} {w w' : World} {ps : List Pv} (h : Box base B ab w ps) (hB : B ≤ w.heap.size) (hb : Below w.heap.size w w') : Box base B ab w' ps := by
 obtain ⟨v, h1, h2⟩ := h
 exact ⟨v, (hb.block ab h1.lt).trans h1, h2.below hB hb⟩

end Vers
end Go.Proofs.YtkfdplfgaddkmaaGreat

/-
 A slice of versions without its first one.
-/
namespace Go.Proofs.YtkfdplfgaddkmaaGreat
namespace Vers
open Go.RowKit Span

section
variable {V : World} {m b o : Nat} {u0 u1 u2 u3 u4 : Value}
def put5 (V : World) (m : Nat) (u0 u1 u2 u3 u4 : Value) : World := (((((V.setCell ⟨m, 0, none⟩ u0).setCell ⟨m, 1, none⟩ u1).setCell ⟨m, 2, none⟩ u2).setCell ⟨m, 3, none⟩ u3).setCell ⟨m, 4, none⟩ u4).drew
theorem drew_heap (X : World) : X.drew.heap = X.heap := rfl
theorem drew_cell (X : World) (a : Addr) : X.drew.cell? a = X.cell? a := rfl
theorem setCell_size (X : World) (a : Addr) (v : Value) : (X.setCell a v).heap.size = X.heap.size := by simp [World.setCell]
theorem below_set (X : World) (k r : Nat) (v : Value) : Below k X (X.setCell ⟨k, r, none⟩ v) := (Below.refl k X).setCell (Nat.le_refl _) v
theorem off_ne (X : World) (m i j : Nat) (v : Value) (h : i ≠ j) : (X.setCell ⟨m, i, none⟩ v).cell? ⟨m, j, none⟩ = X.cell? ⟨m, j, none⟩ := by apply World.cell?_setCell_other; intro e; apply h; injection e
theorem put5_heap {k : Nat} (h : k ≠ m) : (put5 V m u0 u1 u2 u3 u4).heap[k]? = V.heap[k]? := by
 unfold put5
 rw [drew_heap, Below.heap_setCell _ _ _ _ h, Below.heap_setCell _ _ _ _ h, Below.heap_setCell _ _ _ _ h, Below.heap_setCell _ _ _ _ h, Below.heap_setCell _ _ _ _ h]
theorem put5_size : (put5 V m u0 u1 u2 u3 u4).heap.size = V.heap.size := by
 unfold put5
 rw [drew_heap, setCell_size, setCell_size, setCell_size, setCell_size, setCell_size]
theorem put5_new {z0 z1 z2 z3 z4 : Value} (h : V.cell? ⟨m, 0, none⟩ = some z0 ∧ V.cell? ⟨m, 1, none⟩ = some z1 ∧ V.cell? ⟨m, 2, none⟩ = some z2 ∧ V.cell? ⟨m, 3, none⟩ = some z3 ∧ V.cell? ⟨m, 4, none⟩ = some z4) :
  (put5 V m u0 u1 u2 u3 u4).cell? ⟨m, 0, none⟩ = some u0 ∧ (put5 V m u0 u1 u2 u3 u4).cell? ⟨m, 1, none⟩ = some u1 ∧ (put5 V m u0 u1 u2 u3 u4).cell? ⟨m, 2, none⟩ = some u2 ∧ (put5 V m u0 u1 u2 u3 u4).cell? ⟨m, 3, none⟩ = some u3 ∧ (put5 V m u0 u1 u2 u3 u4).cell? ⟨m, 4, none⟩ = some u4 := by
 have e : ∀ a, (put5 V m u0 u1 u2 u3 u4).cell? a = (((((V.setCell ⟨m, 0, none⟩ u0).setCell ⟨m, 1, none⟩ u1).setCell ⟨m, 2, none⟩ u2).setCell ⟨m, 3, none⟩ u3).setCell ⟨m, 4, none⟩ u4).cell? a := fun a => by unfold put5; rw [drew_cell]
 obtain ⟨h0, h1, h2, h3, h4⟩ := h
 have s0 : (V.setCell ⟨m, 0, none⟩ u0).cell? ⟨m, 0, none⟩ = some u0 := World.cell?_setCell_same' _ _ _ (by rw [h0]; rfl)
 have s1 : ((V.setCell ⟨m, 0, none⟩ u0).setCell ⟨m, 1, none⟩ u1).cell? ⟨m, 1, none⟩ = some u1 := World.cell?_setCell_same' _ _ _ (by rw [off_ne _ _ _ _ _ (by omega), h1]; rfl)
 have s2 : (((V.setCell ⟨m, 0, none⟩ u0).setCell ⟨m, 1, none⟩ u1).setCell ⟨m, 2, none⟩ u2).cell? ⟨m, 2, none⟩ = some u2 := World.cell?_setCell_same' _ _ _ (by rw [off_ne _ _ _ _ _ (by omega), off_ne _ _ _ _ _ (by omega), h2]; rfl)
 have s3 : ((((V.setCell ⟨m, 0, none⟩ u0).setCell ⟨m, 1, none⟩ u1).setCell ⟨m, 2, none⟩ u2).setCell ⟨m, 3, none⟩ u3).cell? ⟨m, 3, none⟩ = some u3 := World.cell?_setCell_same' _ _ _ (by rw [off_ne _ _ _ _ _ (by omega), off_ne _ _ _ _ _ (by omega), off_ne _ _ _ _ _ (by omega), h3]; rfl)
 have s4 : (((((V.setCell ⟨m, 0, none⟩ u0).setCell ⟨m, 1, none⟩ u1).setCell ⟨m, 2, none⟩ u2).setCell ⟨m, 3, none⟩ u3).setCell ⟨m, 4, none⟩ u4).cell? ⟨m, 4, none⟩ = some u4 := World.cell?_setCell_same' _ _ _ (by rw [off_ne _ _ _ _ _ (by omega), off_ne _ _ _ _ _ (by omega), off_ne _ _ _ _ _ (by omega), off_ne _ _ _ _ _ (by omega), h4]; rfl)
 refine ⟨?_, ?_, ?_, ?_, ?_⟩
 ·rw [e, off_ne _ _ _ _ _ (by omega), off_ne _ _ _ _ _ (by omega), off_ne _ _ _ _ _ (by omega), off_ne _ _ _ _ _ (by omega), s0]
 ·rw [e, off_ne _ _ _ _ _ (by omega), off_ne _ _ _ _ _ (by omega), off_ne _ _ _ _ _ (by omega), s1]
 ·rw [e, off_ne _ _ _ _ _ (by omega), off_ne _ _ _ _ _ (by omega), s2]
 ·rw [e, off_ne _ _ _ _ _ (by omega), s3]
 ·rw [e, s4]
end
end Vers
end Go.Proofs.YtkfdplfgaddkmaaGreat

/-
 vers.together tells all versions of both sets by rising dots, each once, or that two unlike ones have one dot.
-/
namespace Go.Proofs.YtkfdplfgaddkmaaGreat
namespace Vers
open Go.RowKit Span
attribute [local go_sem ↓] Go.wp_at_zero Go.wp_at_succ

def Going (a b : List Vr) (base ab : Nat) (w : World) (av bv : Value) (wr : World) : Prop :=
 ∃ (i j na nb : Nat) (Aa Ab : Option Addr) (ca cb : Nat) (ps : List Pv), av = .slice Aa na ca ∧ bv = .slice Ab nb cb ∧ Hid ((a.drop i).length = na ∧ (b.drop j).length = nb ∧ Tog a b i j (ps.map Prod.fst) ∧ ps.length ≤ i + j) ∧ na ≤ ca ∧ nb ≤ cb ∧
  Hid (Vs wr 0 w.heap.size Aa (a.drop i)) ∧ Hid (Vs wr 0 w.heap.size Ab (b.drop j)) ∧ Hid (Box base w.heap.size ab wr ps) ∧ Hid (Below w.heap.size w wr) ∧ base ≤ wr.heap.size

section
variable {a b : List Vr} {i j ka kb na nb base ab : Nat} {w wr w4 : World} {ps : List Pv} {x y : Vr} {la lb : List Vr} {Aa Ab Ax P : Option Addr} {ca cb cx q : Nat}
end

end Vers
end Go.Proofs.YtkfdplfgaddkmaaGreat

/-
 Rows of versions and of records that a reader makes: what an element points to lies in blocks apart from the row's.
-/
namespace Go.Proofs.YtkfdplfgaddkmaaGreat
namespace Code
open Go.RowKit Num Span Vers

theorem own_same {w w' : World} {base : Nat} {e : TypeId} {size : Nat} {v : Value} {n : Nat} {xs : List Value} (h : w.ownsRow base e size v n xs) (hk : ∀ g, v.ownBlock = some g → w'.heap[g]? = w.heap[g]?) : w'.ownsRow base e size v n xs := by
 refine ⟨h.1, ?_⟩
 rcases h.2 with hn | ⟨g, cap, cur, rfl, hbg, hg, rest⟩
 ·exact .inl hn
 ·exact .inr ⟨g, cap, cur, rfl, hbg, by rw [hk g rfl]; exact hg, rest⟩

def VerO (w : World) (L B : Nat) (p : Pv) : Prop :=
 Pa w L B p.2.1 p.2.2 p.1 ∧ w.ownsRow L 121 3 (.slice p.2.1 p.1.past.length p.2.2) p.1.past.length (sps p.1.past) ∧ ∀ g, (Value.slice p.2.1 p.1.past.length p.2.2).ownBlock = some g → g < B
theorem VerO.keep {w w' : World} {L B : Nat} {p : Pv} (h : VerO w L B p) (hk : ∀ k, L ≤ k → k < B → w'.heap[k]? = w.heap[k]?) : VerO w' L B p :=
 ⟨h.1.keep fun a h1 h2 => World.cell?_of_block (hk a.block h1 h2), own_same h.2.1 fun g hg => hk g (h.2.1.lt g hg).1 (h.2.2 g hg), h.2.2⟩

def RowV (base B : Nat) (w : World) (v : Value) (ps : List Pv) : Prop :=
 w.ownsRow base 119 5 v ps.length (vcs ps) ∧ (∀ g, v.ownBlock = some g → g < B) ∧ ∀ p ∈ ps, ∃ L B', base ≤ L ∧ B' ≤ B ∧ (∀ g, v.ownBlock = some g → g < L ∨ B' ≤ g) ∧ VerO w L B' p
theorem rowV_nil (base B : Nat) (w : World) : RowV base B w (.slice none 0 0) [] := by
 refine ⟨World.ownsRow_nil _ _ _ _, fun g h => ?_, fun p hp => ?_⟩
 ·cases h
 ·cases hp
theorem RowV.keep {base B : Nat} {w w' : World} {v : Value} {ps : List Pv} (h : RowV base B w v ps) (hk : ∀ k, base ≤ k → k < B → w'.heap[k]? = w.heap[k]?) : RowV base B w' v ps := by
 refine ⟨own_same h.1 fun g hg => hk g (h.1.lt g hg).1 (h.2.1 g hg), h.2.1, fun p hp => ?_⟩
 obtain ⟨L, B', h1, h2, h3, h4⟩ := h.2.2 p hp
 exact ⟨L, B', h1, h2, h3, h4.keep fun k a b => hk k (by omega) (by omega)⟩
theorem RowV.more {base B B' : Nat} {w : World} {v : Value} {ps : List Pv} (h : RowV base B w v ps) (hB : B ≤ B') : RowV base B' w v ps := by
 refine ⟨h.1, fun g hg => by have := h.2.1 g hg; omega, fun p hp => ?_⟩
 obtain ⟨L, C, h1, h2, h3, h4⟩ := h.2.2 p hp
 exact ⟨L, C, h1, by omega, h3, h4⟩
theorem RowV.less {base base' B : Nat} {w : World} {v : Value} {ps : List Pv} (h : RowV base B w v ps) (hb : base' ≤ base) : RowV base' B w v ps := by
 refine ⟨own_base h.1 hb, h.2.1, fun p hp => ?_⟩
 obtain ⟨L, C, h1, h2, h3, h4⟩ := h.2.2 p hp
 exact ⟨L, C, by omega, h2, h3, h4⟩
theorem RowV.add {base : Nat} {w w1 w2 : World} {v v' : Value} {ps : List Pv} {p : Pv} (h : RowV base w.heap.size w v ps) (hg : ∀ k, base ≤ k → k < w.heap.size → w1.heap[k]? = w.heap[k]?) (hs : w.heap.size ≤ w1.heap.size)
  (hp : VerO w1 w.heap.size w1.heap.size p) (hb : base ≤ w.heap.size) (ho : w2.ownsRow base 119 5 v' (ps.length + 1) (vcs (ps ++ [p]))) (h2 : w1.grownBy w2 v.ownBlock) (hat : v'.ownBlock = v.ownBlock ∨ ∃ g, v'.ownBlock = some g ∧ w1.heap.size ≤ g) : RowV base w2.heap.size w2 v' (ps ++ [p]) := by
 have hs2 := h2.size
 refine ⟨by simpa using ho, fun g hg => (ho.lt g hg).2, fun q hq => ?_⟩
 rcases List.mem_append.1 hq with hq | hq
 ·obtain ⟨L, B', h1, h3, h4, h5⟩ := h.2.2 q hq
  refine ⟨L, B', h1, by omega, fun g hg' => ?_, (h5.keep fun k a b => hg k (by omega) (by omega)).keep fun k a b => h2.block k (by omega) (fun e => ?_)⟩
  ·rcases hat with e | ⟨g', e, hge⟩
   ·exact h4 g (e ▸ hg')
   ·rw [hg'] at e
    injection e with e
    subst e
    exact .inr (by omega)
  ·have := h4 k e.symm
   omega
 ·obtain rfl := List.mem_singleton.1 hq
  refine ⟨w.heap.size, w1.heap.size, hb, hs2, fun g hg' => ?_, hp.keep fun k a b => h2.block k b (fun e => by have := h.2.1 k e.symm; omega)⟩
  rcases hat with e | ⟨g', e, hge⟩
  ·exact .inl (h.2.1 g (e ▸ hg'))
  ·rw [hg'] at e
   injection e with e
   subst e
   exact .inr hge
theorem RowV.vs {base B n c : Nat} {w : World} {A : Option Addr} {ps : List Pv} (h : RowV base B w (.slice A n c) ps) (_hB : B ≤ w.heap.size) : Vs w base B A (ps.map Prod.fst) := by
 intro hp
 rw [List.length_map] at hp
 obtain ⟨ho, hrow, hpa⟩ := h
 rcases ho.2 with ⟨_, h0⟩ | ⟨g, cap, cur, hv, hbg, hg, rest⟩
 ·omega
 ·injection hv with h1 h2 h3
  subst h1
  refine ⟨g, 0, rfl, by omega, hrow g rfl, fun j hj => ?_⟩
  rw [List.length_map] at hj
  have e : (ps.map Prod.fst).getD j v0 = (ps.getD j z0).1 := by simp [List.getD_eq_getElem?_getD, hj]
  have hm : ps.getD j z0 ∈ ps := by
   rw [List.getD_eq_getElem?_getD, List.getElem?_eq_getElem hj]
   exact List.getElem_mem _
  rw [e]
  have hat : ∀ r, r < 5 → ∀ u, (vcc (ps.getD j z0))[r]? = some u → w.cell? ⟨g, 0 + j * 5 + r, none⟩ = some u := fun r hr u hu => by
   have hc := ho.cells (g := g) rfl (j * 5 + r) u (by rw [vcs_at ps j hj r hr]; exact hu)
   rw [Vers.add_plain] at hc
   rw [show 0 + j * 5 + r = 0 + (j * 5 + r) by omega]
   exact hc
  obtain ⟨L, B', k1, k2, _, k4⟩ := hpa _ hm
  exact ⟨_, _, hat 0 (by omega) _ (by simp [vcc]), hat 1 (by omega) _ (by simp [vcc]), hat 2 (by omega) _ (by simp [vcc]), hat 3 (by omega) _ (by simp [vcc]), hat 4 (by omega) _ (by simp [vcc]), (k4.1.more k2).less k1⟩

/-! ### Records -/
abbrev Pr := Rc × Option Addr × Nat
def rcc (p : Pr) : List Value := [.string p.1.1, .slice p.2.1 p.1.2.length p.2.2]
def rcs (ps : List Pr) : List Value := ps.flatMap rcc
theorem rcs_append (ps qs : List Pr) : rcs (ps ++ qs) = rcs ps ++ rcs qs := by simp [rcs]
theorem rcs_one (p : Pr) : rcs [p] = rcc p := by simp [rcs]
theorem rcs_cell (ps : List Pr) : ∀ u ∈ rcs ps, u.oneCell' = true := by
 intro u hu
 obtain ⟨p, _, hp⟩ := List.mem_flatMap.1 hu
 simp [rcc] at hp
 rcases hp with rfl | rfl <;> rfl
def RecO (w : World) (L B : Nat) (p : Pr) : Prop := p.1.2.length ≤ p.2.2 ∧ ∃ ps, ps.map Prod.fst = p.1.2 ∧ RowV L B w (.slice p.2.1 p.1.2.length p.2.2) ps
theorem RecO.keep {w w' : World} {L B : Nat} {p : Pr} (h : RecO w L B p) (hk : ∀ k, L ≤ k → k < B → w'.heap[k]? = w.heap[k]?) : RecO w' L B p := by
 obtain ⟨h0, ps, h1, h2⟩ := h
 exact ⟨h0, ps, h1, h2.keep hk⟩
def RowR (base B : Nat) (w : World) (v : Value) (ps : List Pr) : Prop :=
 w.ownsRow base 70 2 v ps.length (rcs ps) ∧ (∀ g, v.ownBlock = some g → g < B) ∧ ∀ p ∈ ps, ∃ L B', base ≤ L ∧ B' ≤ B ∧ (∀ g, v.ownBlock = some g → g < L ∨ B' ≤ g) ∧ RecO w L B' p
theorem rowR_nil (base B : Nat) (w : World) : RowR base B w (.slice none 0 0) [] := by
 refine ⟨World.ownsRow_nil _ _ _ _, fun g h => ?_, fun p hp => ?_⟩
 ·cases h
 ·cases hp
theorem RowR.keep {base B : Nat} {w w' : World} {v : Value} {ps : List Pr} (h : RowR base B w v ps) (hk : ∀ k, base ≤ k → k < B → w'.heap[k]? = w.heap[k]?) : RowR base B w' v ps := by
 refine ⟨own_same h.1 fun g hg => hk g (h.1.lt g hg).1 (h.2.1 g hg), h.2.1, fun p hp => ?_⟩
 obtain ⟨L, B', h1, h2, h3, h4⟩ := h.2.2 p hp
 exact ⟨L, B', h1, h2, h3, h4.keep fun k a b => hk k (by omega) (by omega)⟩
theorem RowR.more {base B B' : Nat} {w : World} {v : Value} {ps : List Pr} (h : RowR base B w v ps) (hB : B ≤ B') : RowR base B' w v ps := by
 refine ⟨h.1, fun g hg => by have := h.2.1 g hg; omega, fun p hp => ?_⟩
 obtain ⟨L, C, h1, h2, h3, h4⟩ := h.2.2 p hp
 exact ⟨L, C, h1, by omega, h3, h4⟩
theorem RowR.add {base : Nat} {w w1 w2 : World} {v v' : Value} {ps : List Pr} {p : Pr} (h : RowR base w.heap.size w v ps) (hg : ∀ k, base ≤ k → k < w.heap.size → w1.heap[k]? = w.heap[k]?) (hs : w.heap.size ≤ w1.heap.size)
  (hp : RecO w1 w.heap.size w1.heap.size p) (hb : base ≤ w.heap.size) (ho : w2.ownsRow base 70 2 v' (ps.length + 1) (rcs (ps ++ [p]))) (h2 : w1.grownBy w2 v.ownBlock) (hat : v'.ownBlock = v.ownBlock ∨ ∃ g, v'.ownBlock = some g ∧ w1.heap.size ≤ g) : RowR base w2.heap.size w2 v' (ps ++ [p]) := by
 have hs2 := h2.size
 refine ⟨by simpa using ho, fun g hg => (ho.lt g hg).2, fun q hq => ?_⟩
 rcases List.mem_append.1 hq with hq | hq
 ·obtain ⟨L, B', h1, h3, h4, h5⟩ := h.2.2 q hq
  refine ⟨L, B', h1, by omega, fun g hg' => ?_, (h5.keep fun k a b => hg k (by omega) (by omega)).keep fun k a b => h2.block k (by omega) (fun e => ?_)⟩
  ·rcases hat with e | ⟨g', e, hge⟩
   ·exact h4 g (e ▸ hg')
   ·rw [hg'] at e
    injection e with e
    subst e
    exact .inr (by omega)
  ·have := h4 k e.symm
   omega
 ·obtain rfl := List.mem_singleton.1 hq
  refine ⟨w.heap.size, w1.heap.size, hb, hs2, fun g hg' => ?_, hp.keep fun k a b => h2.block k b (fun e => by have := h.2.1 k e.symm; omega)⟩
  rcases hat with e | ⟨g', e, hge⟩
  ·exact .inl (h.2.1 g (e ▸ hg'))
  ·rw [hg'] at e
   injection e with e
   subst e
   exact .inr hge

theorem info_rec : (Tryz.prog.info? 70).map (fun i => (i.zero, i.size, i.bytes)) = some (some (.agg #[.string ⟨#[]⟩, .slice none 0 0]), 2, 40) := by kernel_rfl
section
variable {P : Program} (w : World)
theorem wpList_append_r {ops : Array Oper} {rest : List Oper} {o : Oper} {a : Act} {Q : Exit → Act → World → Prop} (hgd : o.guard = none) (s x : Operand) (t : TypeId)
  (ho : o.op = .call { callee := .builtin .append, args := #[s, x], argTypes := #[t, t] })
  (base : Nat) (e : TypeId) (i : TypeInfo) (z : Value) (bytes : Nat) (ht : P.underlying t = some (.slice e)) (hi : P.info? e = some i) (hz : i.zero = some z)
  (hsize : i.size = 2) (hby : i.bytes = bytes) (hzs : z.cells.size = 2)
  (v : Value) (n : Nat) (ps : List Pr) (hs : a.eval s = v) (hown : w.ownsRow base e 2 v n (rcs ps)) (p : Pr) (k : Nat) (hk : p.1.2.length = k) (c : Nat)
  (hx : a.eval x = .slice (some ⟨w.heap.size, 0, none⟩) 1 c)
  (hbytes : (n + 1) * bytes ≤ 140737488355328) (hn : n + 1 ≤ 140737488355328) (hbase : base ≤ w.heap.size)
  (h : ∀ v' w', w'.ownsRow base e 2 v' (n + 1) (rcs (ps ++ [p])) → w.grownBy w' v.ownBlock → (v'.ownBlock = v.ownBlock ∨ ∃ g, v'.ownBlock = some g ∧ w.heap.size ≤ g) → wpList P ops Q rest (a.put o.dst v') w') :
  wpList P ops Q (o :: rest) a (w.alloc (.cells #[.string p.1.1, .slice p.2.1 k p.2.2] e)) := by
 subst hk
 refine wpList_append_own_at _ hgd s x t ho base e i z 2 bytes ht hi hz hsize hby hzs (by omega) v n (rcs ps) hs (hown.alloc _) ⟨w.heap.size, 0, none⟩ 1 c (rcc p) hx rfl ?_ ?_ (by unfold maxLen; omega) hbytes (by simp; omega) ?_
 ·intro j u' hj
  match j, hj with
  | 0, hj => simp [rcc] at hj; subst hj; simp [Addr.add]
  | 1, hj => simp [rcc] at hj; subst hj; simp [Addr.add]
 ·intro u' hu
  exact rcs_cell [p] u' (by rw [rcs_one]; exact hu)
 ·intro v' w' hown' hg _ hat
  refine h v' w' ?_ ?_ ?_
  ·rw [rcs_append, rcs_one]; exact hown'
  ·exact ⟨hg.os, hg.tape, hg.output, Nat.le_trans (by simp) hg.size, fun k hk hne => (hg.block k (by simp; omega) hne).trans (Below.heap_alloc w _ k hk)⟩
  ·rcases hat with h1 | h1
   ·exact .inl h1
   ·exact .inr ⟨_, h1, by simp⟩
end

/-! ### Blocks of cells -/
def Bn (B : Nat) (t : TypeId) (cs : List Value) (w : World) : Prop := w.heap[B]? = some (.cells cs.toArray t (0, 0))
section
variable {B : Nat} {t : TypeId} {cs : List Value} {w w' : World}
theorem Bn.lt (h : Bn B t cs w) : B < w.heap.size := (Array.getElem?_eq_some_iff.1 h).1
theorem Bn.cell (h : Bn B t cs w) (k : Nat) : w.cell? ⟨B, k, none⟩ = cs[k]? := by
 have h' : w.heap[B]? = _ := h
 simp [World.cell?, h']
theorem Bn.frozen (h : Bn B t cs w) (j : Nat) : w.frozen? ⟨B, j, none⟩ = false := by simp [World.frozen?, show w.heap[B]? = _ from h]
theorem Bn.kept {row : Option Nat} (h : Bn B t cs w) (hg : w.grownBy w' row) (hne : some B ≠ row) : Bn B t cs w' := (hg.block B h.lt hne).trans h
theorem Bn.set (h : Bn B t cs w) (k : Nat) (v : Value) : Bn B t (cs.set k v) (w.setCell ⟨B, k, none⟩ v) := by
 have h' : w.heap[B]? = some (.cells cs.toArray t (0, 0)) := h
 show (w.setCell ⟨B, k, none⟩ v).heap[B]? = _
 simp [World.setCell, Array.getElem?_modify, h']
end
end Code
end Go.Proofs.YtkfdplfgaddkmaaGreat

/-
 The reader of layer 6: addresses, hashes, versions and records.
-/
namespace Go.Proofs.YtkfdplfgaddkmaaGreat
namespace Code
open Go.RowKit Num Span Vers
attribute [local go_sem ↓] Go.wp_at_zero Go.wp_at_succ

section
variable {g c n B p q : Nat} {A : Option Addr} {zs : List Int} {T : TypeId} {z vs : List Value} {w x x' : World}
end

end Code
end Go.Proofs.YtkfdplfgaddkmaaGreat

/-
 The reader of layer 6: lists of versions, of records, of numbers.
-/
namespace Go.Proofs.YtkfdplfgaddkmaaGreat
namespace Code
open Go.RowKit Num Span Vers
attribute [local go_sem ↓] Go.wp_at_zero Go.wp_at_succ

end Code
end Go.Proofs.YtkfdplfgaddkmaaGreat

/-
 The reader of layer 6: records and lists of them.
-/
namespace Go.Proofs.YtkfdplfgaddkmaaGreat
namespace Code
open Go.RowKit Num Span Vers
attribute [local go_sem ↓] Go.wp_at_zero Go.wp_at_succ

end Code
end Go.Proofs.YtkfdplfgaddkmaaGreat

/-
 The reader of layer 6: messages.
-/
namespace Go.Proofs.YtkfdplfgaddkmaaGreat
namespace Code
open Go.RowKit Num Span Vers
attribute [local go_sem ↓] Go.wp_at_zero Go.wp_at_succ

section
variable {g c n B p q : Nat} {A : Option Addr} {zs : List Int} {T : TypeId} {z vs : List Value} {w x x' : World} {O O' : World → Prop}
end

abbrev Pl := (Option Addr × Nat) × (Option Addr × Nat) × (Option Addr × Nat) × (Option Addr × Nat) × (Option Addr × Nat)
theorem RowR.less {base base' B : Nat} {w : World} {v : Value} {ps : List Pr} (h : RowR base B w v ps) (hb : base' ≤ base) : RowR base' B w v ps := by
 refine ⟨own_base h.1 hb, h.2.1, fun p hp => ?_⟩
 obtain ⟨L, C, h1, h2, h3, h4⟩ := h.2.2 p hp
 exact ⟨L, C, by omega, h2, h3, h4⟩

end Code
end Go.Proofs.YtkfdplfgaddkmaaGreat

/-
 Records in memory.
-/
namespace Go.Proofs.YtkfdplfgaddkmaaGreat
namespace Code
open Go.RowKit Num Span Vers

def r0 : Rc := (⟨#[]⟩, [])
def Rat (w : World) (L B b off : Nat) (r : Rc) (A : Option Addr) (c : Nat) : Prop :=
 w.cell? ⟨b, off, none⟩ = some (.string r.1) ∧ w.cell? ⟨b, off + 1, none⟩ = some (.slice A r.2.length c) ∧ Vs w L B A r.2 ∧ (r.2.length ≤ c ∧ r.2.length ≤ 140737488355328 ∧ r.1.size ≤ 140737488355328)
def Rs (w : World) (L B : Nat) (A : Option Addr) (l : List Rc) : Prop :=
 0 < l.length → ∃ b off, A = some ⟨b, off, none⟩ ∧ L ≤ b ∧ b < B ∧ ∀ j, j < l.length → ∃ A' c', Rat w L B b (off + j * 2) (l.getD j r0) A' c'
section
variable {w w' : World} {L L' B B' b off c : Nat} {A : Option Addr} {l : List Rc} {r : Rc}
theorem Rat.keep (h : Rat w L B b off r A c) (hL : L ≤ b) (hb : b < B) (hk : ∀ p : Addr, L ≤ p.block → p.block < B → w'.cell? p = w.cell? p) : Rat w' L B b off r A c := by
 obtain ⟨h0, h1, h2, h3⟩ := h
 exact ⟨(hk ⟨b, _, none⟩ hL hb).trans h0, (hk ⟨b, _, none⟩ hL hb).trans h1, h2.keep hk, h3⟩
theorem Rs.nil (A : Option Addr) : Rs w L B A [] := fun h => absurd h (by simp)
theorem Rs.keep (h : Rs w L B A l) (hk : ∀ p : Addr, L ≤ p.block → p.block < B → w'.cell? p = w.cell? p) : Rs w' L B A l := fun hp => by
 obtain ⟨b, off, e, hL, hb, hc⟩ := h hp
 refine ⟨b, off, e, hL, hb, fun j hj => ?_⟩
 obtain ⟨A', c', h1⟩ := hc j hj
 exact ⟨A', c', h1.keep hL hb hk⟩
theorem Rs.more (h : Rs w L B A l) (hB : B ≤ B') : Rs w L B' A l := fun hp => by
 obtain ⟨b, off, e, hL, hb, hc⟩ := h hp
 refine ⟨b, off, e, hL, by omega, fun j hj => ?_⟩
 obtain ⟨A', c', h0, h1, h2, h3⟩ := hc j hj
 exact ⟨A', c', h0, h1, h2.more hB, h3⟩
theorem Rs.less (h : Rs w L B A l) (hL : L' ≤ L) : Rs w L' B A l := fun hp => by
 obtain ⟨b, off, e, hLb, hb, hc⟩ := h hp
 refine ⟨b, off, e, by omega, hb, fun j hj => ?_⟩
 obtain ⟨A', c', h0, h1, h2, h3⟩ := hc j hj
 exact ⟨A', c', h0, h1, h2.less hL, h3⟩
theorem Rs.below (h : Rs w L B A l) (hb : Below B w w') : Rs w' L B A l := h.keep fun _ _ hp => hb.cell hp
theorem Rs.alloc (h : Rs w L B A l) (hB : B ≤ w.heap.size) (o : Obj) : Rs (w.alloc o) L B A l := h.keep fun p _ hp => World.cell?_alloc_lt w o p (by omega)
theorem Rs.at {n k : Nat} (h : Rs w L B A l) (hn : l.length = n) (hb : Below B w w') (hk : k < n) (hv : l.getD k r0 = r) : ∃ b off A' c', A = some ⟨b, off, none⟩ ∧ L ≤ b ∧ b < B ∧ Rat w' L B b (off + k * 2) r A' c' := by
 obtain ⟨b, off, e, hL, hbB, hc⟩ := (h.below hb) (by omega)
 obtain ⟨A', c', h1⟩ := hc k (by omega)
 rw [hv] at h1
 exact ⟨b, off, A', c', e, hL, hbB, h1⟩
end
theorem rcs_at (ps : List Pr) : ∀ j, j < ps.length → ∀ r, r < 2 → (rcs ps)[j * 2 + r]? = (rcc (ps.getD j (r0, none, 0)))[r]? := by
 induction ps with
 | nil => intro j h; simp at h
 | cons x l ih =>
  intro j hj r hr
  have h0 : rcs (x :: l) = rcc x ++ rcs l := by simp [rcs]
  rw [h0]
  rcases j with _ | j
  ·rw [List.getElem?_append_left (by simp [rcc]; omega)]
   simp
  ·have hh := ih j (by simpa using hj) r hr
   rw [List.getElem?_append_right (by simp [rcc]; omega)]
   rw [show (j + 1) * 2 + r - (rcc x).length = j * 2 + r by simp [rcc]; omega, hh]
   simp
theorem RowR.rs {base B n c : Nat} {w : World} {A : Option Addr} {ps : List Pr} (h : RowR base B w (.slice A n c) ps) (hB : B ≤ w.heap.size) (hz : ∀ p ∈ ps, p.1.1.size ≤ 140737488355328 ∧ p.1.2.length ≤ 140737488355328) : Rs w base B A (ps.map Prod.fst) := by
 intro hp
 rw [List.length_map] at hp
 obtain ⟨ho, hrow, hpa⟩ := h
 rcases ho.2 with ⟨_, h0⟩ | ⟨g, cap, cur, hv, hbg, hg, rest⟩
 ·omega
 ·injection hv with h1 h2 h3
  subst h1
  refine ⟨g, 0, rfl, by omega, hrow g rfl, fun j hj => ?_⟩
  rw [List.length_map] at hj
  have e : (ps.map Prod.fst).getD j r0 = (ps.getD j (r0, none, 0)).1 := by simp [List.getD_eq_getElem?_getD, hj]
  have hm : ps.getD j (r0, none, 0) ∈ ps := by
   rw [List.getD_eq_getElem?_getD, List.getElem?_eq_getElem hj]
   exact List.getElem_mem _
  rw [e]
  have hat : ∀ r, r < 2 → ∀ u, (rcc (ps.getD j (r0, none, 0)))[r]? = some u → w.cell? ⟨g, 0 + j * 2 + r, none⟩ = some u := fun r hr u hu => by
   have hc := ho.cells (g := g) rfl (j * 2 + r) u (by rw [rcs_at ps j hj r hr]; exact hu)
   rw [Vers.add_plain] at hc
   rw [show 0 + j * 2 + r = 0 + (j * 2 + r) by omega]
   exact hc
  obtain ⟨L, B', k1, k2, _, k4, qs, hq, hrow⟩ := hpa _ hm
  obtain ⟨z1, z2⟩ := hz _ hm
  have hvs := hrow.vs (by omega)
  rw [hq] at hvs
  exact ⟨_, _, hat 0 (by omega) _ (by simp [rcc]), hat 1 (by omega) _ (by simp [rcc]), (hvs.more k2).less k1, k4, z2, z1⟩
end Code
end Go.Proofs.YtkfdplfgaddkmaaGreat

/-
 What is right in layer 6: numbers, addresses, records, lists of them.
-/
namespace Go.Proofs.YtkfdplfgaddkmaaGreat
namespace Code
open Go.RowKit Num Span Vers
attribute [local go_sem ↓] Go.wp_at_zero Go.wp_at_succ

theorem all_step {α : Type} {R : α → Prop} {l : List α} {k : Nat} (d : α) (hk : k < l.length) (h : ∀ x ∈ l.take k, R x) (hx : R (l.getD k d)) : ∀ x ∈ l.take (k + 1), R x := by
 intro x hm
 rw [List.take_succ_eq_append_getElem hk] at hm
 rcases List.mem_append.1 hm with hm | hm
 ·exact h x hm
 ·rw [List.mem_singleton.1 hm]
  simpa [List.getD_eq_getElem?_getD, hk] using hx
theorem all_bad {α : Type} {R : α → Prop} [DecidablePred R] {l : List α} {k : Nat} (d : α) (hk : k < l.length) (hx : ¬ R (l.getD k d)) : decide (∀ x ∈ l, R x) = false := by
 refine decide_eq_false fun h => hx (h _ ?_)
 rw [List.getD_eq_getElem?_getD, List.getElem?_eq_getElem hk]
 exact List.getElem_mem _
instance (a : Int × Int) : Decidable (okA a) := by unfold okA; infer_instance
set_option maxRecDepth 100000 in
theorem rrecord_any (A : Option Addr) (c m : Nat) (key : ByteArray) (l : List Vr) (hm : l.length = m) (hm2 : m ≤ 140737488355328) (hk2 : key.size ≤ 140737488355328) (w : World) (hv : Vs w 0 w.heap.size A l) :
  Calls Tryz.prog 82 #[.agg #[.string key, .slice A m c]] w (fun e w' => e = .returned (.bool (decide (okR (key, l)))) ∧ Below w.heap.size w w') := by
 obtain ⟨W, hW⟩ : ∃ W, w.alloc (.cells #[.string key, .slice A m c] 70) = W := ⟨_, rfl⟩
 have hB : Bn w.heap.size 70 [.string key, .slice A m c] W := by rw [← hW]; exact heap_alloc_new _ _
 have k0 := hB.cell 0
 have k1 := hB.cell 1
 simp only [List.getElem?_cons_zero, List.getElem?_cons_succ] at k0 k1
 have hbW : Below w.heap.size w W := by rw [← hW]; exact (Below.refl _ w).alloc (Nat.le_refl _) _
 have h1 := rightV_any A c m l hm W ((hv.below hbW).more hbW.size) hm2
 have hsz := hbW.size
 have HB := Lib.hid hbW
 clear hB hbW hv
 obtain ⟨R, hR⟩ : ∃ R, decide (okR (key, l)) = R := ⟨_, rfl⟩
 rw [hR]
 by_cases c0 : 1 ≤ key.size
 ·have d0 : (1 : Int) ≤ (key.size : Int) := by omega
  by_cases c1 : key.size ≤ 32
  ·have d1 : (key.size : Int) ≤ 32 := by omega
   have HR := Lib.hid (show R = decide (RightV l) by rw [← hR]; exact decide_eq_decide.2 ⟨fun h => h.2.2, fun h => ⟨c0, c1, h⟩⟩)
   have H1 := Lib.hid h1
   clear h1 hR
   go_enter Tryz.func82, Tryz.ntmps82
   go_wp2_with fail
   refine H1.out.mono ?_
   rintro e w1 ⟨rfl, hb1⟩
   have HE := Lib.hid (HB.out.trans (hb1.mono hsz))
   obtain ⟨D, hD⟩ : ∃ D, decide (RightV l) = D := ⟨_, rfl⟩
   have hRD : R = D := by rw [HR.out, hD]
   rw [hD]
   clear hb1 H1 HR hD
   go_wp2_with fail
   go_ret
   exact ⟨by rw [hRD]; rfl, HE.out⟩
  ·have d1 : ¬ (key.size : Int) ≤ 32 := by omega
   have HR := Lib.hid (show R = false by rw [← hR]; exact decide_eq_false fun h => c1 h.2.1)
   clear h1 hR
   go_enter Tryz.func82, Tryz.ntmps82
   go_wp2_with fail
   go_ret
   exact ⟨by rw [HR.out]; rfl, HB.out⟩
 ·have d0 : ¬ (1 : Int) ≤ (key.size : Int) := by omega
  have HR := Lib.hid (show R = false by rw [← hR]; exact decide_eq_false fun h => c0 h.1)
  clear h1 hR
  go_enter Tryz.func82, Tryz.ntmps82
  go_wp2_with fail
  go_ret
  exact ⟨by rw [HR.out]; rfl, HB.out⟩

end Code
end Go.Proofs.YtkfdplfgaddkmaaGreat

/-
 What is right in layer 6: messages.
-/
namespace Go.Proofs.YtkfdplfgaddkmaaGreat
namespace Code
open Go.RowKit Num Span Vers
attribute [local go_sem ↓] Go.wp_at_zero Go.wp_at_succ

theorem Bn.below {B M : Nat} {t : TypeId} {cs : List Value} {w w' : World} (h : Bn B t cs w) (hb : Below M w w') (hM : B < M) : Bn B t cs w' := (hb.block B hM).trans h
instance : DecidablePred okM := by
 rintro ⟨kind, fr, to_, id, n, for_, code, key, recs, vec, path, hashes, route⟩
 unfold okM
 infer_instance

end Code
end Go.Proofs.YtkfdplfgaddkmaaGreat
