/-
  Several texts of this family in one: VersRightRef, VersSame, VersSames, VersOwn, VersTog, VersHas, VersMore.
-/
import Derived.Test.YtbhidndgnldheaaGreatK5
import Derived.Test.YtbhidndgnldheaaGreatK7
import Derived.Test.YtbhidndgnldheaaGreatK1
import Derived.Test.YtbhidndgnldheaaGreatK6
/-
 firthref05.Behind and firthref05.Right.
-/
namespace Go.Proofs.YtbhidndgnldheaaGreat
namespace Vers
open Go.RowKit Span
attribute [local go_sem ↓] Go.wp_at_zero Go.wp_at_succ

theorem behind_drop {l : List Vr} {k : Nat} (h : k < l.length) (s n : Int) : decide (behind (l.drop k) s n) = (hasL (l.getD k v0).past s n || decide (behind (l.drop (k + 1)) s n)) := by
 rw [hasL_mem, ← Bool.decide_or]
 congr 1
 rw [List.drop_eq_getElem_cons h]
 have e : l.getD k v0 = l[k] := by simp [List.getD_eq_getElem?_getD, h]
 rw [e]
 refine propext ⟨?_, ?_⟩
 ·rintro ⟨v, hv, hm⟩
  rcases List.mem_cons.1 hv with rfl | hv
  ·exact .inl hm
  ·exact .inr ⟨v, hv, hm⟩
 ·rintro (hm | ⟨v, hv, hm⟩)
  ·exact ⟨_, List.mem_cons_self, hm⟩
  ·exact ⟨v, List.mem_cons_of_mem _ hv, hm⟩

set_option maxRecDepth 100000 in
set_option maxHeartbeats 1000000 in
theorem behind_any (A : Option Addr) (c n : Nat) (l : List Vr) (hn : l.length = n) (s m : Int) (w : World) (hv : Vs w 0 w.heap.size A l) (hn2 : n ≤ 140737488355328) :
  Calls Tryz.prog 22 #[.slice A n c, .agg #[.int .i64 s, .int .i64 m]] w fun e w' => e = .returned (.bool (decide (behind l s m))) ∧ Below w.heap.size w w' := by
 obtain ⟨R, hR⟩ : ∃ R, decide (behind l s m) = R := ⟨_, rfl⟩
 rw [hR]
 have HV := Lib.hid (And.intro hv hn)
 have HR := Lib.hid hR
 clear hv hn hR
 go_enter Tryz.func22, Tryz.ntmps22
 go_wp2
 obtain ⟨W0, hW0⟩ : ∃ W0, w.alloc (.cells #[.int .i64 s, .int .i64 m] 37) = W0 := ⟨_, rfl⟩
 obtain ⟨p, hp⟩ : ∃ p, w.heap.size = p := ⟨_, rfl⟩
 have y0 : W0.cell? ⟨p, 0, none⟩ = some (.int .i64 s) := by rw [← hW0, ← hp]; simp
 have y1 : W0.cell? ⟨p, 1, none⟩ = some (.int .i64 m) := by rw [← hW0, ← hp]; simp
 have hpl : p < W0.heap.size := by rw [← hW0, ← hp]; simp
 have B0 : Below w.heap.size w W0 := by rw [← hW0]; exact (Below.refl _ w).alloc (Nat.le_refl _) _
 have HB0 := Lib.hid B0
 have hsz0 := B0.size
 rw [hW0, hp]
 have HPS := Lib.hid hp
 clear hW0 hp B0
 go_loopw [5] (fun iv wr => ∃ k : Nat, iv = .int .i64 k ∧ k ≤ n ∧ Below W0.heap.size W0 wr ∧ Hid (R = decide (behind (l.drop k) s m))) (fun iv _ => n - (intOf iv).toNat)
 case atStart => exact ⟨0, rfl, by omega, Below.refl _ _, Lib.hid HR.out.symm⟩
 case round =>
  obtain ⟨k, rfl, hk, hb, hst⟩ := hrel
  have hbw := Lib.hid (HB0.out.trans (hb.mono hsz0))
  have hsz := hb.size
  by_cases hlt : k < n
  ·obtain ⟨b, off, A1, c1, rfl, _, hbB, a0, a1, a2, a3, a4, hpa⟩ := HV.out.1.at HV.out.2 hbw.out hlt rfl
   have hd := behind_drop (l := l) (k := k) (by have := HV.out.2; omega) s m
   obtain ⟨v, hvv⟩ : ∃ v, l.getD k v0 = v := ⟨_, rfl⟩
   rw [hvv] at a2 hpa hd
   obtain ⟨vs, vn, vp, vg, vx⟩ := v
   simp only at a2 hd
   obtain ⟨hps, _, hpb, hxb, _⟩ := hpa
   simp only at hps hpb
   obtain ⟨kp, hkp⟩ : ∃ kp, vp.length = kp := ⟨_, rfl⟩
   rw [hkp] at a2 hpb
   have h1 := ref_has_any A1 c1 kp vp hkp s m wr.drew (hps.more (B' := wr.drew.heap.size) (by show w.heap.size ≤ wr.heap.size; omega)) hpb
   obtain ⟨q, hq⟩ : ∃ q, hasL vp s m = q := ⟨_, rfl⟩
   rw [hq] at h1 hd
   have HD := Lib.hid (hst.out.trans hd)
   have H1 := Lib.hid h1
   have e0 := (hb.cell (p := ⟨p, 0, none⟩) hpl).trans y0
   have e1 := (hb.cell (p := ⟨p, 1, none⟩) hpl).trans y1
   have d1 : (0 : Int) ≤ (k : Int) := by omega
   have d2 : (k : Int) < (n : Int) := by omega
   have lp : p < wr.heap.size := by omega
   have lb : b < wr.heap.size := by have := HPS.out; omega
   clear a0 a1 a3 a4 hps hkp hq h1 hd hst hvv y0 y1
   go_wp2
   go_region_held3 (fun V => V.cell? ⟨b, off + k * 5 + 2, none⟩ = some (.slice A1 kp c1) ∧ V.cell? ⟨p, 0, none⟩ = some (.int .i64 s) ∧ V.cell? ⟨p, 1, none⟩ = some (.int .i64 m))
    (first | exact ⟨a2, e0, e1⟩ | exact ⟨cell_below b1 lb a2, cell_below b1 lp e0, cell_below b1 lp e1⟩)
    (first | (go_at_call 48; refine H1.out.mono ?_; rintro e w1 ⟨rfl, b1⟩))
   have hb2 : Below W0.heap.size W0 w1 := hb.drew.trans (Below.mono b1 (by exact hsz))
   cases q
   ·have HN := Lib.hid (show R = decide (behind (l.drop (k + 1)) s m) by rw [HD.out]; simp)
    clear HD b1 hb
    go_wp2
    exact ⟨⟨k + 1, rfl, by omega, hb2, HN⟩, by simp only [intOf]; omega⟩
   ·have HN := Lib.hid (show R = true by rw [HD.out]; simp)
    have hfin := HB0.out.trans (hb2.mono hsz0)
    clear HD b1 hb
    go_wp2
    go_ret
    exact ⟨by rw [HN.out]; rfl, hfin⟩
  ·have hkn : k = n := by omega
   subst hkn
   have HN := Lib.hid (show R = false by rw [hst.out, List.drop_of_length_le (by have := HV.out.2; omega)]; simp [behind])
   clear hst
   go_wp2
   go_ret
   exact ⟨by rw [HN.out]; rfl, hbw.out⟩

set_option maxRecDepth 100000 in
set_option maxHeartbeats 2000000 in
theorem ref_rightV_any (A : Option Addr) (c n : Nat) (l : List Vr) (hn : l.length = n) (w : World) (hv : Vs w 0 w.heap.size A l) (hn2 : n ≤ 140737488355328) :
  Calls Tryz.prog 5 #[.slice A n c] w fun e w' => e = .returned (.bool (decide (RightV l))) ∧ Below w.heap.size w w' := by
 obtain ⟨R, hR⟩ : ∃ R, decide (RightV l) = R := ⟨_, rfl⟩
 rw [hR]
 by_cases hlong : 512 < n
 ·have HF := Lib.hid (show R = false by rw [← hR]; exact decide_eq_false fun h => by have := h.1; omega)
  clear hv hn hR
  go_enter Tryz.func5, Tryz.ntmps5
  go_wp2
  go_ret
  exact ⟨by rw [HF.out]; rfl, Below.refl _ _⟩
 ·have HV := Lib.hid (And.intro hv (And.intro hn hR))
  clear hv hn hR
  go_enter Tryz.func5, Tryz.ntmps5
  go_wp2
  go_loopw [3] (fun iv wr => ∃ k : Nat, iv = .int .i64 k ∧ k ≤ n ∧ Below w.heap.size w wr ∧ Hid (FineV (l.take k) ∧ ∀ v ∈ l.take k, ¬ behind l v.s v.n)) (fun iv _ => n - (intOf iv).toNat)
  case atStart => exact ⟨0, rfl, by omega, Below.refl _ _, Lib.hid ⟨fineV_nil, by simp⟩⟩
  case round =>
   obtain ⟨k, rfl, hk, hb, hst⟩ := hrel
   have hsz := hb.size
   by_cases hlt : k < n
   ·obtain ⟨b, off, A1, c1, rfl, _, hbB, a0, a1, a2, a3, a4, hpa⟩ := HV.out.1.at HV.out.2.1 hb hlt rfl
    have hkl : k < l.length := by have := HV.out.2.1; omega
    have hstep := fineV_step hkl hst.out.1
    have hbad := fineV_bad hkl
    have hord := fun h0 => fineV_order hkl h0
    have hnb : behind l (l.getD k v0).s (l.getD k v0).n → decide (RightV l) = false := fun h => decide_eq_false fun hr => hr.2.2 _ (mem_v hkl) h
    have hpass : FineV (l.take (k + 1)) → ¬ behind l (l.getD k v0).s (l.getD k v0).n → FineV (l.take (k + 1)) ∧ ∀ v ∈ l.take (k + 1), ¬ behind l v.s v.n := fun h1 h2 => ⟨h1, fun v hv => by
     rw [take_v hkl] at hv
     rcases List.mem_append.1 hv with hv | hv
     ·exact hst.out.2 v hv
     ·rw [List.mem_singleton.1 hv]; exact h2⟩
    have hprev : 0 < k → ∃ ps pn, (l.getD (k - 1) v0).s = ps ∧ (l.getD (k - 1) v0).n = pn ∧ ∀ V, Below w.heap.size w V → V.cell? ⟨b, off + (k - 1) * 5, none⟩ = some (.int .i64 ps) ∧ V.cell? ⟨b, off + (k - 1) * 5 + 1, none⟩ = some (.int .i64 pn) := fun h0 => by
     refine ⟨_, _, rfl, rfl, fun V hbV => ?_⟩
     obtain ⟨b', off', A2, c2, e, _, _, p0, p1, _⟩ := HV.out.1.at HV.out.2.1 hbV (show k - 1 < n by omega) rfl
     injection e with e
     injection e with e1 e2
     subst e1 e2
     exact ⟨p0, p1⟩
    have hpr : ∀ v : Vr, 0 < k → (dlt (l.getD (k - 1) v0) v ↔ ((l.getD (k - 1) v0).s < v.s ∨ ((l.getD (k - 1) v0).s = v.s ∧ (l.getD (k - 1) v0).n < v.n))) := fun v _ => Iff.rfl
    obtain ⟨v, hvv⟩ : ∃ v, l.getD k v0 = v := ⟨_, rfl⟩
    rw [hvv] at a0 a1 a2 a3 a4 hpa hstep hbad hnb hpass
    have hord' : ∀ (_ : 0 < k), ¬ dlt (l.getD (k - 1) v0) v → decide (RightV l) = false := fun h0 h => hord h0 (by rw [hvv]; exact h)
    clear hord hvv
    obtain ⟨s, vn, vp, vg, vx⟩ := v
    simp only at a0 a1 a2 a3 a4 hnb hpass
    obtain ⟨hps, _, hpb, hxb, _⟩ := hpa
    simp only at hps hpb hxb
    obtain ⟨kp, hkp⟩ : ∃ kp, vp.length = kp := ⟨_, rfl⟩
    rw [hkp] at a2 hpb
    have h1 := ref_rightone_any A1 c1 kp s vn vp vg vx hkp wr (hps.more hsz) hpb hxb
    have h2 := fun V (hbV : Below w.heap.size w V) => behind_any (some ⟨b, off, none⟩) c n l HV.out.2.1 s vn V ((HV.out.1.below hbV).more hbV.size) hn2
    have d1 : (0 : Int) ≤ (k : Int) := by omega
    have d2 : (k : Int) < (n : Int) := by omega
    by_cases cA : okV ⟨s, vn, vp, vg, vx⟩
    ·rw [decide_eq_true cA] at h1
     have H1 := Lib.hid h1
     by_cases cB : behind l s vn
     ·have HF := Lib.hid (HV.out.2.2.symm.trans (hnb cB))
      have H2 := Lib.hid (fun V hbV => (decide_eq_true cB) ▸ h2 V hbV)
      have HB := Lib.hid hb
      clear h1 h2 hpr hord' hbad hstep hnb hpass hprev cA cB hst hps hkp hb
      go_wp2_with fail
      refine H1.out.mono ?_
      rintro e w1 ⟨rfl, b1⟩
      have hb1 := HB.out.trans (b1.mono hsz)
      have z0 := (b1.cell (p := ⟨b, off + k * 5, none⟩) (by simp only; omega)).trans a0
      have z1 := (b1.cell (p := ⟨b, off + k * 5 + 1, none⟩) (by simp only; omega)).trans a1
      have H2' := Lib.hid (H2.out _ hb1)
      have HB1 := Lib.hid hb1
      have hsz1 := hb1.size
      clear b1 hb1 H2
      go_wp2_with fail
      refine H2'.out.mono ?_
      rintro e w2 ⟨rfl, b2⟩
      have BE := HB1.out.trans (b2.mono hsz1)
      clear b2
      go_wp2_with fail
      go_ret
      exact ⟨by rw [HF.out]; rfl, BE⟩
     ·have H2 := Lib.hid (fun V hbV => (decide_eq_false cB) ▸ h2 V hbV)
      have HB := Lib.hid hb
      have HSP := Lib.hid (fun h => hpass h cB)
      have HT := Lib.hid (And.intro (hstep cA) (And.intro hord' (And.intro hpr hprev)))
      clear h1 h2 hpr hord' hbad hstep hnb hpass hprev cA cB hst hps hkp hb
      go_wp2_with fail
      refine H1.out.mono ?_
      rintro e w1 ⟨rfl, b1⟩
      have hb1 := HB.out.trans (b1.mono hsz)
      have z0 := (b1.cell (p := ⟨b, off + k * 5, none⟩) (by simp only; omega)).trans a0
      have z1 := (b1.cell (p := ⟨b, off + k * 5 + 1, none⟩) (by simp only; omega)).trans a1
      have H2' := Lib.hid (H2.out _ hb1)
      have HB1 := Lib.hid hb1
      have hsz1 := hb1.size
      clear b1 hb1 H2
      go_wp2_with fail
      refine H2'.out.mono ?_
      rintro e w2 ⟨rfl, b2⟩
      have hb2 := HB1.out.trans (b2.mono hsz1)
      have z0' := (b2.cell (p := ⟨b, off + k * 5, none⟩) (by simp only; omega)).trans z0
      have z1' := (b2.cell (p := ⟨b, off + k * 5 + 1, none⟩) (by simp only; omega)).trans z1
      have HB2 := Lib.hid hb2
      have hsz2 := hb2.size
      have lb : b < w2.heap.size := by omega
      clear b2 hb2 H2' z0 z1 H1
      by_cases h0 : 0 < k
      ·obtain ⟨ps, pn, e1, e2, hcells⟩ := HT.out.2.2.2 h0
       obtain ⟨p0, p1⟩ := hcells w2 HB2.out
       have hpr' := HT.out.2.2.1 ⟨s, vn, vp, vg, vx⟩ h0
       rw [e1, e2] at hpr'
       simp only at hpr'
       have h3 := less_any ps pn s vn w2.drew
       obtain ⟨q, hq⟩ : ∃ q, decide (ps < s ∨ (ps = s ∧ pn < vn)) = q := ⟨_, rfl⟩
       have HN := Lib.hid (show (q = true → FineV (l.take (k + 1)) ∧ ∀ v ∈ l.take (k + 1), ¬ behind l v.s v.n) ∧ (q = false → R = false) from
        ⟨fun h => HSP.out (HT.out.1 fun _ => hpr'.2 (of_decide_eq_true (hq.trans h))), fun h => HV.out.2.2.symm.trans (HT.out.2.1 h0 fun hd => (of_decide_eq_false (hq.trans h)) (hpr'.1 hd))⟩)
       rw [hq] at h3
       have H3 := Lib.hid h3
       have f0 : ((k : Int) - 1).toNat = k - 1 := by omega
       have f1 : (0 : Int) ≤ (k : Int) - 1 := by omega
       have f2 : (k : Int) - 1 < (n : Int) := by omega
       have f5 : (1 : Int) ≤ (k : Int) := by omega
       have f6 : (k : Int) ≤ (n : Int) := by omega
       have f7 : 1 ≤ k := by omega
       have f8 : ((k : Int) - 1 < (n : Int)) = True := eq_true (by omega)
       have f9 : (0 ≤ (k : Int) - 1) = True := eq_true (by omega)
       have f3 : decide ((0 : Int) < (k : Int)) = true := decide_eq_true (by omega)
       have f4 : IntKind.i64.wrap ((k : Int) - 1) = (k : Int) - 1 := IntWalk.i64_in _ (by omega)
       clear hpr' e1 e2 hcells h3 hq HT HSP a0 a1 a2 a3 a4
       go_wp2_with fail
       go_region_held3 (fun V => V.cell? ⟨b, off + (k - 1) * 5, none⟩ = some (.int .i64 ps) ∧ V.cell? ⟨b, off + (k - 1) * 5 + 1, none⟩ = some (.int .i64 pn) ∧ V.cell? ⟨b, off + k * 5, none⟩ = some (.int .i64 s) ∧ V.cell? ⟨b, off + k * 5 + 1, none⟩ = some (.int .i64 vn))
        (first | exact ⟨p0, p1, z0', z1'⟩ | exact ⟨cell_below b3 lb p0, cell_below b3 lb p1, cell_below b3 lb z0', cell_below b3 lb z1'⟩)
        (first | (go_at_call 23; refine H3.out.mono ?_; rintro e w3 ⟨rfl, b3⟩))
       have BE : Below w.heap.size w w3 := HB2.out.drew.trans (Below.mono b3 (by exact hsz2))
       cases q
       ·have HF := Lib.hid (HN.out.2 rfl)
        clear HN b3
        go_wp2_with fail
        go_ret
        exact ⟨by rw [HF.out]; rfl, BE⟩
       ·have HF := Lib.hid (HN.out.1 rfl)
        clear HN b3
        go_wp2_with fail
        exact ⟨⟨k + 1, rfl, by omega, BE, HF⟩, by simp only [intOf]; omega⟩
      ·have HF := Lib.hid (HSP.out (HT.out.1 fun h => absurd h h0))
       have f3 : decide ((0 : Int) < (k : Int)) = false := decide_eq_false (by omega)
       have f3' : decide (0 < k) = false := decide_eq_false h0
       clear HT HSP
       go_wp2_with fail
       go_quiet (fail)
       go_wp2_with fail
       exact ⟨⟨k + 1, rfl, by omega, HB2.out.trans (below_drewN _ _ _), HF⟩, by simp only [intOf]; omega⟩
    ·rw [decide_eq_false cA] at h1
     have H1 := Lib.hid h1
     have HF := Lib.hid (HV.out.2.2.symm.trans (hbad cA))
     have HB := Lib.hid hb
     clear h1 h2 hpr hord' hbad hstep hnb hpass hprev cA hst hps hkp hb
     go_wp2_with fail
     refine H1.out.mono ?_
     rintro e w1 ⟨rfl, b1⟩
     have BE := HB.out.trans (b1.mono hsz)
     clear b1
     go_wp2_with fail
     go_ret
     exact ⟨by rw [HF.out]; rfl, BE⟩
   ·have hkn : k = n := by omega
    subst hkn
    have HF := Lib.hid (show R = true by
     rw [← HV.out.2.2]
     refine decide_eq_true ⟨by have := HV.out.2.1; omega, ?_⟩
     have := hst.out
     rwa [List.take_of_length_le (by have := HV.out.2.1; omega)] at this)
    clear hst
    go_wp2_with fail
    go_ret
    exact ⟨by rw [HF.out]; rfl, hb⟩
end Vers
end Go.Proofs.YtbhidndgnldheaaGreat

/-
 Whether two versions, two lists of them, are the same.
-/
namespace Go.Proofs.YtbhidndgnldheaaGreat
namespace Vers
open Go.RowKit Span

set_option maxHeartbeats 1000000 in
theorem equal_any (A A' : Option Addr) (c c' n n' : Nat) (l m : List Sp) (hn : l.length = n) (hn' : m.length = n') (w : World) (hr : Ss w w.heap.size A l) (hr' : Ss w w.heap.size A' m) (hbig : n ≤ 140737488355328) (hbig' : n' ≤ 140737488355328) :
  Calls Tryz.prog 87 #[.slice A n c, .slice A' n' c'] w fun e w' => e = .returned (.bool (decide (l = m))) ∧ Below w.heap.size w w' := by
 by_cases hlen : n = n'
 ·subst hlen
  go_enter Tryz.func87, Tryz.ntmps87
  go_wp2
  go_loopw [13] (fun q wr => ∃ k : Nat, k ≤ n ∧ q = .int .i64 k ∧ Below w.heap.size w wr ∧ Hid (l.take k = m.take k)) (fun q _ => n - (intOf q).toNat)
  case atStart => exact ⟨0, by omega, rfl, Below.refl _ _, rfl⟩
  case round =>
   obtain ⟨k, hk, rfl, hb, hst⟩ := hrel
   by_cases hlt : k < n
   ·obtain ⟨b, off, rfl, hbB, hc⟩ := hr (by omega)
    obtain ⟨c0, c1, c2⟩ := hc k (by omega)
    have d0 := (hb.cell (p := ⟨b, off + k * 3, none⟩) (by exact hbB)).trans c0
    have d1 := (hb.cell (p := ⟨b, off + k * 3 + 1, none⟩) (by exact hbB)).trans c1
    have d2 := (hb.cell (p := ⟨b, off + k * 3 + 2, none⟩) (by exact hbB)).trans c2
    obtain ⟨b', off', rfl, hbB', hc'⟩ := hr' (by omega)
    obtain ⟨c0', c1', c2'⟩ := hc' k (by omega)
    have d0' := (hb.cell (p := ⟨b', off' + k * 3, none⟩) (by exact hbB')).trans c0'
    have d1' := (hb.cell (p := ⟨b', off' + k * 3 + 1, none⟩) (by exact hbB')).trans c1'
    have d2' := (hb.cell (p := ⟨b', off' + k * 3 + 2, none⟩) (by exact hbB')).trans c2'
    have hy := take_eq_step (l := l) (m := m) (by omega) (by omega) hst.out
    have hz := take_ne (l := l) (m := m) (k := k)
    obtain ⟨⟨x0, x1, x2⟩, hx⟩ : ∃ x, l.getD k (0, 0, 0) = x := ⟨_, rfl⟩
    obtain ⟨⟨y0, y1, y2⟩, hx'⟩ : ∃ x, m.getD k (0, 0, 0) = x := ⟨_, rfl⟩
    rw [hx] at d0 d1 d2
    rw [hx'] at d0' d1' d2'
    rw [hx, hx'] at hy hz
    simp only at d0 d1 d2 d0' d1' d2'
    have r0 : (0 : Int) ≤ (k : Int) := by omega
    have r1 : (k : Int) < (n : Int) := by omega
    by_cases he : (x0, x1, x2) = (y0, y1, y2)
    ·have HY := Lib.hid (hy he)
     injection he with e0 e1
     injection e1 with e1 e2
     subst e0 e1 e2
     clear hr hr' hc hc' c0 c1 c2 c0' c1' c2' hst hy hz hx hx' hn hn'
     go_wp2
     go_quiet (fail)
     go_wp2
     all_goals exact ⟨⟨k + 1, by omega, rfl, hb.trans (below_drewN _ _ _), HY⟩, by simp only [intOf]; omega⟩
    ·have HZ := Lib.hid (decide_eq_false (hz he))
     have hp : (x0 ≠ y0) ∨ (x0 = y0 ∧ x1 ≠ y1) ∨ (x0 = y0 ∧ x1 = y1 ∧ x2 ≠ y2) := by
      by_cases q0 : x0 = y0
      ·by_cases q1 : x1 = y1
       ·exact .inr (.inr ⟨q0, q1, fun q2 => he (by rw [q0, q1, q2])⟩)
       ·exact .inr (.inl ⟨q0, q1⟩)
      ·exact .inl q0
     clear hr hr' hc hc' c0 c1 c2 c0' c1' c2' hst hy hz hx hx' hn hn' he
     rcases hp with q0 | ⟨rfl, q1⟩ | ⟨rfl, rfl, q2⟩
     ·have g0 : (x0 == y0) = false := by simp [q0]
      go_wp2
      go_quiet (fail)
      go_wp2
      go_ret
      exact ⟨by rw [HZ.out]; rfl, hb.trans (below_drewN _ _ _)⟩
     ·have g0 : (x1 == y1) = false := by simp [q1]
      go_wp2
      go_quiet (fail)
      go_wp2
      go_ret
      exact ⟨by rw [HZ.out]; rfl, hb.trans (below_drewN _ _ _)⟩
     ·have g0 : (x2 == y2) = false := by simp [q2]
      go_wp2
      go_quiet (fail)
      go_wp2
      go_ret
      exact ⟨by rw [HZ.out]; rfl, hb.trans (below_drewN _ _ _)⟩
   ·have hk0 : k = n := by omega
    have hres := hst.out
    rw [List.take_of_length_le (by omega), List.take_of_length_le (by omega)] at hres
    have HR := Lib.hid (decide_eq_true hres)
    clear hst hr hr' hn hn' hres
    go_wp2
    go_ret
    exact ⟨by rw [HR.out]; rfl, hb⟩
 ·have hne : ¬ l = m := fun h => hlen (by rw [← hn, ← hn', h])
  have HR := Lib.hid (decide_eq_false hne)
  clear hr hr' hn hn' hne
  go_enter Tryz.func87, Tryz.ntmps87
  go_wp2
  go_ret
  exact ⟨by rw [HR.out]; rfl, Below.refl _ _⟩

theorem str_eq (x y : ByteArray) : (x.toList == y.toList) = decide (x = y) := by
 rw [Lib.toList_data, Lib.toList_data]
 by_cases h : x = y
 ·subst h; simp
 ·rw [decide_eq_false h]
  have h2 : ¬ x.data.toList = y.data.toList := fun e => h (ByteArray.ext (Array.toList_inj.1 e))
  simpa using h2

set_option maxRecDepth 100000 in
set_option maxHeartbeats 1000000 in
theorem sameone_any (A A' : Option Addr) (c c' k k' : Nat) (s n s' n' : Int) (p p' : List Sp) (g g' : Bool) (x x' : ByteArray) (hk : p.length = k) (hk' : p'.length = k') (w : World) (hp : Ss w w.heap.size A p) (hp' : Ss w w.heap.size A' p') (hb : k ≤ 140737488355328) (hb' : k' ≤ 140737488355328) :
  Calls Tryz.prog 79 #[.agg #[.int .i64 s, .int .i64 n, .slice A k c, .bool g, .string x], .agg #[.int .i64 s', .int .i64 n', .slice A' k' c', .bool g', .string x']] w fun e w' => e = .returned (.bool (decide ((⟨s, n, p, g, x⟩ : Vr) = ⟨s', n', p', g', x'⟩))) ∧ Below w.heap.size w w' := by
 obtain ⟨R, hR⟩ : ∃ R, decide ((⟨s, n, p, g, x⟩ : Vr) = ⟨s', n', p', g', x'⟩) = R := ⟨_, rfl⟩
 rw [hR]
 have hRR : ((⟨s, n, p, g, x⟩ : Vr) = ⟨s', n', p', g', x'⟩) ↔ s = s' ∧ n = n' ∧ p = p' ∧ g = g' ∧ x = x' := by simp
 have h1 := fun W (hbW : Below w.heap.size w W) => equal_any A A' c c' k k' p p' hk hk' W ((hp.below hbW).more hbW.size) ((hp'.below hbW).more hbW.size) hb hb'
 have hbb : Below w.heap.size w ((w.alloc (.cells #[.int .i64 s, .int .i64 n, .slice A k c, .bool g, .string x] 40)).alloc (.cells #[.int .i64 s', .int .i64 n', .slice A' k' c', .bool g', .string x'] 40)) := ((Below.refl _ w).alloc (Nat.le_refl _) _).alloc (by simp) _
 have HB := Lib.hid hbb
 clear hp hp' hk hk' hbb
 by_cases cd : s = s' ∧ n = n'
 ·by_cases cg : g = g'
  ·by_cases cx : x = x'
   ·obtain ⟨q, hq⟩ : ∃ q, decide (p = p') = q := ⟨_, rfl⟩
    have HF := Lib.hid (show R = q by
     rw [← hR, ← hq]
     congr 1
     exact propext ⟨fun h => (hRR.1 h).2.2.1, fun h => hRR.2 ⟨cd.1, cd.2, h, cg, cx⟩⟩)
    rw [hq] at h1
    have H1 := Lib.hid h1
    obtain ⟨rfl, rfl⟩ := cd
    subst cg cx
    clear hR hRR h1 hq
    have gg : (g == g) = true := by simp
    go_enter Tryz.func79, Tryz.ntmps79
    go_wp2_with fail
    refine (H1.out _ HB.out).mono ?_
    rintro e w1 ⟨rfl, b1⟩
    have BE := HB.out.trans (b1.mono HB.out.size)
    clear b1 H1
    go_wp2_with fail
    go_ret
    exact ⟨by rw [HF.out]; rfl, BE⟩
   ·have HF := Lib.hid (show R = false by rw [← hR]; exact decide_eq_false fun h => cx (hRR.1 h).2.2.2.2)
    have gx : (x.toList == x'.toList) = false := by rw [str_eq]; exact decide_eq_false cx
    have gx' : ¬ x.toList = x'.toList := by simpa using gx
    obtain ⟨rfl, rfl⟩ := cd
    subst cg
    clear hR hRR h1 cx
    have gg : (g == g) = true := by simp
    go_enter Tryz.func79, Tryz.ntmps79
    go_wp2_with fail
    go_ret
    exact ⟨by rw [HF.out]; rfl, HB.out⟩
  ·have HF := Lib.hid (show R = false by rw [← hR]; exact decide_eq_false fun h => cg (hRR.1 h).2.2.2.1)
   have gg : (g == g') = false := by simpa using cg
   obtain ⟨rfl, rfl⟩ := cd
   clear hR hRR h1 cg
   go_enter Tryz.func79, Tryz.ntmps79
   go_wp2_with fail
   go_ret
   exact ⟨by rw [HF.out]; rfl, HB.out⟩
 ·have HF := Lib.hid (show R = false by rw [← hR]; exact decide_eq_false fun h => cd ⟨(hRR.1 h).1, (hRR.1 h).2.1⟩)
  clear hR hRR h1
  by_cases cs : s = s'
  ·have cn : ¬ n = n' := fun h => cd ⟨cs, h⟩
   have gn : (n == n') = false := by simpa using cn
   subst cs
   clear cd cn
   go_enter Tryz.func79, Tryz.ntmps79
   go_wp2_with fail
   go_ret
   exact ⟨by rw [HF.out]; rfl, HB.out⟩
  ·have gs : (s == s') = false := by simpa using cs
   clear cd cs
   go_enter Tryz.func79, Tryz.ntmps79
   go_wp2_with fail
   go_ret
   exact ⟨by rw [HF.out]; rfl, HB.out⟩

set_option maxRecDepth 100000 in
set_option maxHeartbeats 1000000 in
theorem ref_sameone_any (A A' : Option Addr) (c c' k k' : Nat) (s n s' n' : Int) (p p' : List Sp) (g g' : Bool) (x x' : ByteArray) (hk : p.length = k) (hk' : p'.length = k') (w : World) (hp : Ss w w.heap.size A p) (hp' : Ss w w.heap.size A' p') (hb : k ≤ 140737488355328) (hb' : k' ≤ 140737488355328) :
  Calls Tryz.prog 40 #[.agg #[.int .i64 s, .int .i64 n, .slice A k c, .bool g, .string x], .agg #[.int .i64 s', .int .i64 n', .slice A' k' c', .bool g', .string x']] w fun e w' => e = .returned (.bool (decide ((⟨s, n, p, g, x⟩ : Vr) = ⟨s', n', p', g', x'⟩))) ∧ Below w.heap.size w w' := by
 obtain ⟨R, hR⟩ : ∃ R, decide ((⟨s, n, p, g, x⟩ : Vr) = ⟨s', n', p', g', x'⟩) = R := ⟨_, rfl⟩
 rw [hR]
 have hRR : ((⟨s, n, p, g, x⟩ : Vr) = ⟨s', n', p', g', x'⟩) ↔ s = s' ∧ n = n' ∧ p = p' ∧ g = g' ∧ x = x' := by simp
 have h1 := fun W (hbW : Below w.heap.size w W) => same_any A A' c c' k k' p p' hk hk' W ((hp.below hbW).more hbW.size) ((hp'.below hbW).more hbW.size) hb hb'
 have hbb : Below w.heap.size w ((w.alloc (.cells #[.int .i64 s, .int .i64 n, .slice A k c, .bool g, .string x] 40)).alloc (.cells #[.int .i64 s', .int .i64 n', .slice A' k' c', .bool g', .string x'] 40)) := ((Below.refl _ w).alloc (Nat.le_refl _) _).alloc (by simp) _
 have HB := Lib.hid hbb
 clear hp hp' hk hk' hbb
 by_cases cd : s = s' ∧ n = n'
 ·by_cases cg : g = g'
  ·by_cases cx : x = x'
   ·obtain ⟨q, hq⟩ : ∃ q, decide (p = p') = q := ⟨_, rfl⟩
    have HF := Lib.hid (show R = q by
     rw [← hR, ← hq]
     congr 1
     exact propext ⟨fun h => (hRR.1 h).2.2.1, fun h => hRR.2 ⟨cd.1, cd.2, h, cg, cx⟩⟩)
    rw [hq] at h1
    have H1 := Lib.hid h1
    obtain ⟨rfl, rfl⟩ := cd
    subst cg cx
    clear hR hRR h1 hq
    have gg : (g == g) = true := by simp
    go_enter Tryz.func40, Tryz.ntmps40
    go_wp2_with fail
    refine (H1.out _ HB.out).mono ?_
    rintro e w1 ⟨rfl, b1⟩
    have BE := HB.out.trans (b1.mono HB.out.size)
    clear b1 H1
    go_wp2_with fail
    go_ret
    exact ⟨by rw [HF.out]; rfl, BE⟩
   ·have HF := Lib.hid (show R = false by rw [← hR]; exact decide_eq_false fun h => cx (hRR.1 h).2.2.2.2)
    have gx : (x.toList == x'.toList) = false := by rw [str_eq]; exact decide_eq_false cx
    have gx' : ¬ x.toList = x'.toList := by simpa using gx
    obtain ⟨rfl, rfl⟩ := cd
    subst cg
    clear hR hRR h1 cx
    have gg : (g == g) = true := by simp
    go_enter Tryz.func40, Tryz.ntmps40
    go_wp2_with fail
    go_ret
    exact ⟨by rw [HF.out]; rfl, HB.out⟩
  ·have HF := Lib.hid (show R = false by rw [← hR]; exact decide_eq_false fun h => cg (hRR.1 h).2.2.2.1)
   have gg : (g == g') = false := by simpa using cg
   obtain ⟨rfl, rfl⟩ := cd
   clear hR hRR h1 cg
   go_enter Tryz.func40, Tryz.ntmps40
   go_wp2_with fail
   go_ret
   exact ⟨by rw [HF.out]; rfl, HB.out⟩
 ·have HF := Lib.hid (show R = false by rw [← hR]; exact decide_eq_false fun h => cd ⟨(hRR.1 h).1, (hRR.1 h).2.1⟩)
  clear hR hRR h1
  by_cases cs : s = s'
  ·have cn : ¬ n = n' := fun h => cd ⟨cs, h⟩
   have gn : (n == n') = false := by simpa using cn
   subst cs
   clear cd cn
   go_enter Tryz.func40, Tryz.ntmps40
   go_wp2_with fail
   go_ret
   exact ⟨by rw [HF.out]; rfl, HB.out⟩
  ·have gs : (s == s') = false := by simpa using cs
   clear cd cs
   go_enter Tryz.func40, Tryz.ntmps40
   go_wp2_with fail
   go_ret
   exact ⟨by rw [HF.out]; rfl, HB.out⟩

end Vers
end Go.Proofs.YtbhidndgnldheaaGreat

/-
 Whether two lists of versions are the same.
-/
namespace Go.Proofs.YtbhidndgnldheaaGreat
namespace Vers
open Go.RowKit Span
attribute [local go_sem ↓] Go.wp_at_zero Go.wp_at_succ

theorem takeV_eq {l m : List Vr} {k : Nat} (hl : k < l.length) (hm : k < m.length) (h : l.take k = m.take k) (he : l.getD k v0 = m.getD k v0) : l.take (k + 1) = m.take (k + 1) := by
 rw [take_v hl, take_v hm, h, he]
theorem takeV_ne {l m : List Vr} {k : Nat} (he : l.getD k v0 ≠ m.getD k v0) : ¬ l = m := fun h => he (by rw [h])

set_option maxRecDepth 100000 in
set_option maxHeartbeats 2000000 in
theorem equalfunc_any (A A' : Option Addr) (c c' n n' : Nat) (l l' : List Vr) (hn : l.length = n) (hn' : l'.length = n') (w : World) (hv : Vs w 0 w.heap.size A l) (hv' : Vs w 0 w.heap.size A' l') (hb : n ≤ 140737488355328) (hb' : n' ≤ 140737488355328) :
  Calls Tryz.prog 80 #[.slice A n c, .slice A' n' c', .func (.func 79) #[] #[]] w fun e w' => e = .returned (.bool (decide (l = l'))) ∧ Below w.heap.size w w' := by
 obtain ⟨R, hR⟩ : ∃ R, decide (l = l') = R := ⟨_, rfl⟩
 rw [hR]
 by_cases hlen : n = n'
 ·subst hlen
  have HV := Lib.hid (And.intro hv (And.intro hv' (And.intro hn (And.intro hn' hR))))
  clear hv hv' hn hn' hR
  go_enter Tryz.func80, Tryz.ntmps80
  go_wp2
  go_loopw [17] (fun q wr => ∃ k : Nat, q = .int .i64 k ∧ k ≤ n ∧ Below w.heap.size w wr ∧ Hid (l.take k = l'.take k)) (fun q _ => n - (intOf q).toNat)
  case atStart => exact ⟨0, rfl, by omega, Below.refl _ _, Lib.hid rfl⟩
  case round =>
   obtain ⟨k, rfl, hk, hb1, hst⟩ := hrel
   have hsz := hb1.size
   by_cases hlt : k < n
   ·obtain ⟨b, off, A1, c1, rfl, _, hbB, a0, a1, a2, a3, a4, hpa⟩ := HV.out.1.at HV.out.2.2.1 hb1 hlt rfl
    obtain ⟨b', off', A1', c1', rfl, _, hbB', a0', a1', a2', a3', a4', hpa'⟩ := HV.out.2.1.at HV.out.2.2.2.1 hb1 hlt rfl
    have hy := takeV_eq (l := l) (m := l') (by have := HV.out.2.2.1; omega) (by have := HV.out.2.2.2.1; omega) hst.out
    have hz := takeV_ne (l := l) (m := l') (k := k)
    obtain ⟨v, hvv⟩ : ∃ v, l.getD k v0 = v := ⟨_, rfl⟩
    obtain ⟨v', hvv'⟩ : ∃ v, l'.getD k v0 = v := ⟨_, rfl⟩
    rw [hvv] at a0 a1 a2 a3 a4 hpa
    rw [hvv'] at a0' a1' a2' a3' a4' hpa'
    rw [hvv, hvv'] at hy hz
    clear hvv hvv'
    obtain ⟨s, vn, vp, vg, vx⟩ := v
    obtain ⟨s', vn', vp', vg', vx'⟩ := v'
    simp only at a0 a1 a2 a3 a4 a0' a1' a2' a3' a4'
    obtain ⟨hps, _, hpb, _, _⟩ := hpa
    obtain ⟨hps', _, hpb', _, _⟩ := hpa'
    simp only at hps hpb hps' hpb'
    obtain ⟨kp, hkp⟩ : ∃ kp, vp.length = kp := ⟨_, rfl⟩
    obtain ⟨kp', hkp'⟩ : ∃ kp, vp'.length = kp := ⟨_, rfl⟩
    rw [hkp] at a2 hpb
    rw [hkp'] at a2' hpb'
    have h1 := fun W (hbW : Below wr.heap.size wr W) => sameone_any A1 A1' c1 c1' kp kp' s vn s' vn' vp vp' vg vg' vx vx' hkp hkp' W (((hps.more hsz).below hbW).more hbW.size) (((hps'.more hsz).below hbW).more hbW.size) hpb hpb'
    obtain ⟨q, hq⟩ : ∃ q, decide ((⟨s, vn, vp, vg, vx⟩ : Vr) = ⟨s', vn', vp', vg', vx'⟩) = q := ⟨_, rfl⟩
    rw [hq] at h1
    have HN := Lib.hid (show (q = true → l.take (k + 1) = l'.take (k + 1)) ∧ (q = false → R = false) from ⟨fun h => hy (of_decide_eq_true (hq.trans h)), fun h => by
     rw [← HV.out.2.2.2.2]
     exact decide_eq_false (hz (of_decide_eq_false (hq.trans h)))⟩)
    have H1 := Lib.hid h1
    have hbb : Below wr.heap.size wr ((wr.alloc (.cells #[.int .i64 s, .int .i64 vn, .slice A1 kp c1, .bool vg, .string vx] 40)).alloc (.cells #[.int .i64 s', .int .i64 vn', .slice A1' kp' c1', .bool vg', .string vx'] 40)) := ((Below.refl _ wr).alloc (Nat.le_refl _) _).alloc (by simp) _
    have HB := Lib.hid hbb
    have hbs' : b' < wr.heap.size := by omega
    have d1 : (0 : Int) ≤ (k : Int) := by omega
    have d2 : (k : Int) < (n : Int) := by omega
    clear h1 hy hz hq hkp hkp' hps hps' hst hbb
    go_wp2_with fail
    refine (H1.out _ HB.out).mono ?_
    rintro e w1 ⟨rfl, b1⟩
    have BE := hb1.trans ((HB.out.trans (b1.mono HB.out.size)).mono hsz)
    clear b1 H1 HB hb1
    cases q
    ·have HF := Lib.hid (HN.out.2 rfl)
     clear HN
     go_wp2_with fail
     go_ret
     exact ⟨by rw [HF.out]; rfl, BE⟩
    ·have HF := Lib.hid (HN.out.1 rfl)
     clear HN
     go_wp2_with fail
     exact ⟨⟨k + 1, rfl, by omega, BE, HF⟩, by simp only [intOf]; omega⟩
   ·have hkn : k = n := by omega
    subst hkn
    have HF := Lib.hid (show R = true by
     rw [← HV.out.2.2.2.2]
     refine decide_eq_true ?_
     have := hst.out
     rwa [List.take_of_length_le (by have := HV.out.2.2.1; omega), List.take_of_length_le (by have := HV.out.2.2.2.1; omega)] at this)
    clear hst
    go_wp2_with fail
    go_ret
    exact ⟨by rw [HF.out]; rfl, hb1⟩
 ·have HF := Lib.hid (show R = false by rw [← hR]; exact decide_eq_false fun h => hlen (by rw [← hn, ← hn', h]))
  clear hv hv' hn hn' hR
  go_enter Tryz.func80, Tryz.ntmps80
  go_wp2
  go_ret
  exact ⟨by rw [HF.out]; rfl, Below.refl _ _⟩

theorem sameV_any (A A' : Option Addr) (c c' n n' : Nat) (l l' : List Vr) (hn : l.length = n) (hn' : l'.length = n') (w : World) (hv : Vs w 0 w.heap.size A l) (hv' : Vs w 0 w.heap.size A' l') (hb : n ≤ 140737488355328) (hb' : n' ≤ 140737488355328) :
  Calls Tryz.prog 62 #[.slice A n c, .slice A' n' c'] w fun e w' => e = .returned (.bool (decide (l = l'))) ∧ Below w.heap.size w w' := by
 have h1 := equalfunc_any A A' c c' n n' l l' hn hn' w hv hv' hb hb'
 obtain ⟨R, hR⟩ : ∃ R, decide (l = l') = R := ⟨_, rfl⟩
 rw [hR] at h1 ⊢
 have H1 := Lib.hid h1
 clear h1 hR hv hv' hn hn'
 go_enter Tryz.func62, Tryz.ntmps62
 go_wp2_with fail
 refine H1.out.mono ?_
 rintro e w1 ⟨rfl, b1⟩
 clear H1
 go_wp2_with fail
 go_ret
 exact ⟨rfl, b1⟩

set_option maxRecDepth 100000 in
set_option maxHeartbeats 4000000 in
theorem ref_sameV_any (A A' : Option Addr) (c c' n n' : Nat) (l l' : List Vr) (hn : l.length = n) (hn' : l'.length = n') (w : World) (hv : Vs w 0 w.heap.size A l) (hv' : Vs w 0 w.heap.size A' l') (hb : n ≤ 140737488355328) (hb' : n' ≤ 140737488355328) :
  Calls Tryz.prog 13 #[.slice A n c, .slice A' n' c'] w fun e w' => e = .returned (.bool (decide (l = l'))) ∧ Below w.heap.size w w' := by
 obtain ⟨R, hR⟩ : ∃ R, decide (l = l') = R := ⟨_, rfl⟩
 rw [hR]
 by_cases hlen : n = n'
 ·subst hlen
  have HV := Lib.hid (And.intro hv (And.intro hv' (And.intro hn (And.intro hn' hR))))
  clear hv hv' hn hn' hR
  go_enter Tryz.func13, Tryz.ntmps13
  go_wp2
  go_loopw [5] (fun q wr => ∃ k : Nat, q = .int .i64 k ∧ k ≤ n ∧ Below w.heap.size w wr ∧ Hid (l.take k = l'.take k)) (fun q _ => n - (intOf q).toNat)
  case atStart => exact ⟨0, rfl, by omega, Below.refl _ _, Lib.hid rfl⟩
  case round =>
   obtain ⟨k, rfl, hk, hb1, hst⟩ := hrel
   have hsz := hb1.size
   by_cases hlt : k < n
   ·obtain ⟨b, off, A1, c1, rfl, _, hbB, a0, a1, a2, a3, a4, hpa⟩ := HV.out.1.at HV.out.2.2.1 hb1 hlt rfl
    obtain ⟨b', off', A1', c1', rfl, _, hbB', a0', a1', a2', a3', a4', hpa'⟩ := HV.out.2.1.at HV.out.2.2.2.1 hb1 hlt rfl
    have hy := takeV_eq (l := l) (m := l') (by have := HV.out.2.2.1; omega) (by have := HV.out.2.2.2.1; omega) hst.out
    have hz := takeV_ne (l := l) (m := l') (k := k)
    obtain ⟨v, hvv⟩ : ∃ v, l.getD k v0 = v := ⟨_, rfl⟩
    obtain ⟨v', hvv'⟩ : ∃ v, l'.getD k v0 = v := ⟨_, rfl⟩
    rw [hvv] at a0 a1 a2 a3 a4 hpa
    rw [hvv'] at a0' a1' a2' a3' a4' hpa'
    rw [hvv, hvv'] at hy hz
    clear hvv hvv'
    obtain ⟨s, vn, vp, vg, vx⟩ := v
    obtain ⟨s', vn', vp', vg', vx'⟩ := v'
    simp only at a0 a1 a2 a3 a4 a0' a1' a2' a3' a4'
    obtain ⟨hps, _, hpb, _, _⟩ := hpa
    obtain ⟨hps', _, hpb', _, _⟩ := hpa'
    simp only at hps hpb hps' hpb'
    obtain ⟨kp, hkp⟩ : ∃ kp, vp.length = kp := ⟨_, rfl⟩
    obtain ⟨kp', hkp'⟩ : ∃ kp, vp'.length = kp := ⟨_, rfl⟩
    rw [hkp] at a2 hpb
    rw [hkp'] at a2' hpb'
    have h1 := ref_sameone_any A1 A1' c1 c1' kp kp' s vn s' vn' vp vp' vg vg' vx vx' hkp hkp' wr.drew (hps.more (B' := wr.drew.heap.size) (by exact hsz)) (hps'.more (B' := wr.drew.heap.size) (by exact hsz)) hpb hpb'
    obtain ⟨q, hq⟩ : ∃ q, decide ((⟨s, vn, vp, vg, vx⟩ : Vr) = ⟨s', vn', vp', vg', vx'⟩) = q := ⟨_, rfl⟩
    rw [hq] at h1
    have HN := Lib.hid (show (q = true → l.take (k + 1) = l'.take (k + 1)) ∧ (q = false → R = false) from ⟨fun h => hy (of_decide_eq_true (hq.trans h)), fun h => by
     rw [← HV.out.2.2.2.2]
     exact decide_eq_false (hz (of_decide_eq_false (hq.trans h)))⟩)
    have H1 := Lib.hid h1
    have lb : b < wr.heap.size := by omega
    have lb' : b' < wr.heap.size := by omega
    have d1 : (0 : Int) ≤ (k : Int) := by omega
    have d2 : (k : Int) < (n : Int) := by omega
    clear h1 hy hz hq hkp hkp' hps hps' hst
    go_wp2
    go_region_held3 (fun V => V.cell? ⟨b, off + k * 5, none⟩ = some (.int .i64 s) ∧ V.cell? ⟨b, off + k * 5 + 1, none⟩ = some (.int .i64 vn) ∧ V.cell? ⟨b, off + k * 5 + 2, none⟩ = some (.slice A1 kp c1) ∧ V.cell? ⟨b, off + k * 5 + 3, none⟩ = some (.bool vg) ∧ V.cell? ⟨b, off + k * 5 + 4, none⟩ = some (.string vx) ∧
      V.cell? ⟨b', off' + k * 5, none⟩ = some (.int .i64 s') ∧ V.cell? ⟨b', off' + k * 5 + 1, none⟩ = some (.int .i64 vn') ∧ V.cell? ⟨b', off' + k * 5 + 2, none⟩ = some (.slice A1' kp' c1') ∧ V.cell? ⟨b', off' + k * 5 + 3, none⟩ = some (.bool vg') ∧ V.cell? ⟨b', off' + k * 5 + 4, none⟩ = some (.string vx'))
     (first | exact ⟨a0, a1, a2, a3, a4, a0', a1', a2', a3', a4'⟩ | exact ⟨cell_below b1 lb a0, cell_below b1 lb a1, cell_below b1 lb a2, cell_below b1 lb a3, cell_below b1 lb a4, cell_below b1 lb' a0', cell_below b1 lb' a1', cell_below b1 lb' a2', cell_below b1 lb' a3', cell_below b1 lb' a4'⟩)
     (first | (go_at_call 40; refine H1.out.mono ?_; rintro e w1 ⟨rfl, b1⟩))
    have BE : Below w.heap.size w w1 := hb1.drew.trans (Below.mono b1 (by exact hsz))
    clear b1 H1 hb1
    cases q
    ·have HF := Lib.hid (HN.out.2 rfl)
     clear HN
     go_wp2
     go_ret
     exact ⟨by rw [HF.out]; rfl, BE⟩
    ·have HF := Lib.hid (HN.out.1 rfl)
     clear HN
     go_wp2
     exact ⟨⟨k + 1, rfl, by omega, BE, HF⟩, by simp only [intOf]; omega⟩
   ·have hkn : k = n := by omega
    subst hkn
    have HF := Lib.hid (show R = true by
     rw [← HV.out.2.2.2.2]
     refine decide_eq_true ?_
     have := hst.out
     rwa [List.take_of_length_le (by have := HV.out.2.2.1; omega), List.take_of_length_le (by have := HV.out.2.2.2.1; omega)] at this)
    clear hst
    go_wp2
    go_ret
    exact ⟨by rw [HF.out]; rfl, hb1⟩
 ·have HF := Lib.hid (show R = false by rw [← hR]; exact decide_eq_false fun h => hlen (by rw [← hn, ← hn', h]))
  clear hv hv' hn hn' hR
  go_enter Tryz.func13, Tryz.ntmps13
  go_wp2
  go_ret
  exact ⟨by rw [HF.out]; rfl, Below.refl _ _⟩
end Vers
end Go.Proofs.YtbhidndgnldheaaGreat

/-
 Versions in a row of the call's own, five cells to a version; append onto such a row.
-/
namespace Go.Proofs.YtbhidndgnldheaaGreat
namespace Vers
open Go.RowKit Span

abbrev Pv := Vr × Option Addr × Nat
def z0 : Pv := (v0, none, 0)
def vcc (p : Pv) : List Value := [.int .i64 p.1.s, .int .i64 p.1.n, .slice p.2.1 p.1.past.length p.2.2, .bool p.1.gone, .string p.1.val]
def vcs (ps : List Pv) : List Value := ps.flatMap vcc
theorem vcs_cons (p : Pv) (ps : List Pv) : vcs (p :: ps) = vcc p ++ vcs ps := by simp [vcs]
theorem vcs_append (ps qs : List Pv) : vcs (ps ++ qs) = vcs ps ++ vcs qs := by simp [vcs]
theorem vcs_one (p : Pv) : vcs [p] = vcc p := by simp [vcs]
theorem vcs_length (ps : List Pv) : (vcs ps).length = ps.length * 5 := by
 induction ps with
 | nil => rfl
 | cons p ps ih =>
  rw [vcs_cons, List.length_append, ih]
  simp [vcc]
  omega
theorem vcs_at (ps : List Pv) : ∀ j, j < ps.length → ∀ r, r < 5 → (vcs ps)[j * 5 + r]? = (vcc (ps.getD j z0))[r]? := by
 induction ps with
 | nil => intro j h; simp at h
 | cons p ps ih =>
  intro j hj r hr
  rw [vcs_cons]
  rcases j with _ | j
  ·rw [List.getElem?_append_left (by simp [vcc]; omega)]
   simp
  ·have h := ih j (by simpa using hj) r hr
   rw [List.getElem?_append_right (by simp [vcc]; omega)]
   rw [show (j + 1) * 5 + r - (vcc p).length = j * 5 + r by simp [vcc]; omega, h]
   simp
theorem vcs_cell (ps : List Pv) : ∀ u ∈ vcs ps, u.oneCell' = true := by
 intro u hu
 obtain ⟨p, _, hp⟩ := List.mem_flatMap.1 hu
 simp [vcc] at hp
 rcases hp with rfl | rfl | rfl | rfl | rfl <;> rfl
theorem add_plain (b off k : Nat) : (⟨b, off, none⟩ : Addr).add k = ⟨b, off + k, none⟩ := by unfold Addr.add; split <;> simp_all

theorem vs_pick {w : World} {L B b off : Nat} {l : List Vr} (h : Vs w L B (some ⟨b, off, none⟩) l) (hl : 0 < l.length) :
  ∃ ps : List Pv, ps.map Prod.fst = l ∧ (∀ j u, (vcs ps)[j]? = some u → w.cell? ((⟨b, off, none⟩ : Addr).add j) = some u) ∧ ∀ p ∈ ps, Pa w L B p.2.1 p.2.2 p.1 := by
 obtain ⟨b', off', e, _, hb, hc⟩ := h hl
 injection e with e
 injection e with e1 e2
 subst e1 e2
 obtain ⟨f, hf⟩ : ∃ f : Nat → Option Addr × Nat, ∀ j, j < l.length → Vat w L B b (off + j * 5) (l.getD j v0) (f j).1 (f j).2 :=
  ⟨fun j => if h : j < l.length then ((hc j h).choose, (hc j h).choose_spec.choose) else (none, 0), fun j h => by simp only [dif_pos h]; exact (hc j h).choose_spec.choose_spec⟩
 have hlen : ((List.range l.length).map fun j => ((l.getD j v0, f j) : Pv)).length = l.length := by simp
 have hat : ∀ j, j < l.length → ((List.range l.length).map fun j => ((l.getD j v0, f j) : Pv)).getD j z0 = (l.getD j v0, f j) := fun j hj => by simp [List.getD_eq_getElem?_getD, hj]
 refine ⟨(List.range l.length).map fun j => (l.getD j v0, f j), ?_, fun j u hu => ?_, fun p hp => ?_⟩
 ·rw [List.map_map]
  apply List.ext_getElem?
  intro j
  by_cases hj : j < l.length
  ·simp [hj, List.getD_eq_getElem?_getD]
  ·simp [hj]
 ·have hj : j < (vcs ((List.range l.length).map fun j => ((l.getD j v0, f j) : Pv))).length := by
   rcases Nat.lt_or_ge j (vcs ((List.range l.length).map fun j => ((l.getD j v0, f j) : Pv))).length with h | h
   ·exact h
   ·rw [List.getElem?_eq_none h] at hu; cases hu
  rw [vcs_length, hlen] at hj
  have hq : j / 5 < l.length := by omega
  have hj2 : j = j / 5 * 5 + j % 5 := by omega
  have hr : j % 5 < 5 := Nat.mod_lt _ (by omega)
  rw [hj2, vcs_at _ _ (by rw [hlen]; exact hq) _ hr, hat _ hq] at hu
  obtain ⟨h0, h1, h2, h3, h4, _⟩ := hf (j / 5) hq
  rw [add_plain]
  have e0 : off + j = off + j / 5 * 5 + j % 5 := by omega
  rw [e0]
  obtain ⟨r, hrr⟩ : ∃ r, j % 5 = r := ⟨_, rfl⟩
  rw [hrr] at hu hr ⊢
  match r, hr with
  | 0, _ => simp [vcc] at hu; rw [← hu]; exact h0
  | 1, _ => simp [vcc] at hu; rw [← hu]; exact h1
  | 2, _ => simp [vcc] at hu; rw [← hu]; exact h2
  | 3, _ => simp [vcc] at hu; rw [← hu]; exact h3
  | 4, _ => simp [vcc] at hu; rw [← hu]; exact h4
 ·obtain ⟨j, hj, rfl⟩ := List.mem_map.1 hp
  exact (hf j (List.mem_range.1 hj)).2.2.2.2.2

def OwnVs (base L B : Nat) (w : World) (v : Value) (ps : List Pv) : Prop := w.ownsRow base 40 5 v ps.length (vcs ps) ∧ ∀ p ∈ ps, Pa w L B p.2.1 p.2.2 p.1

theorem OwnVs.vs {base L B n c : Nat} {w : World} {A : Option Addr} {ps : List Pv} (h : OwnVs base L B w (.slice A n c) ps) (hL : L ≤ base) (hB : B ≤ w.heap.size) : Vs w L w.heap.size A (ps.map Prod.fst) := by
 intro hp
 rw [List.length_map] at hp
 obtain ⟨ho, hpa⟩ := h
 rcases ho.2 with ⟨_, h0⟩ | ⟨g, cap, cur, hv, hbg, hg, rest⟩
 ·omega
 ·injection hv with h1 h2 h3
  subst h1
  refine ⟨g, 0, rfl, by omega, (Array.getElem?_eq_some_iff.1 hg).1, fun j hj => ?_⟩
  rw [List.length_map] at hj
  have e : (ps.map Prod.fst).getD j v0 = (ps.getD j z0).1 := by simp [List.getD_eq_getElem?_getD, hj]
  have hm : ps.getD j z0 ∈ ps := by
   rw [List.getD_eq_getElem?_getD, List.getElem?_eq_getElem hj]
   exact List.getElem_mem _
  rw [e]
  have hat : ∀ r, r < 5 → ∀ u, (vcc (ps.getD j z0))[r]? = some u → w.cell? ⟨g, 0 + j * 5 + r, none⟩ = some u := fun r hr u hu => by
   have hc := ho.cells (g := g) rfl (j * 5 + r) u (by rw [vcs_at ps j hj r hr]; exact hu)
   rw [add_plain] at hc
   rw [show 0 + j * 5 + r = 0 + (j * 5 + r) by omega]
   exact hc
  exact ⟨_, _, hat 0 (by omega) _ (by simp [vcc]), hat 1 (by omega) _ (by simp [vcc]), hat 2 (by omega) _ (by simp [vcc]), hat 3 (by omega) _ (by simp [vcc]), hat 4 (by omega) _ (by simp [vcc]), (hpa _ hm).more hB⟩
theorem OwnVs.below {base L B : Nat} {w w' : World} {v : Value} {ps : List Pv} (h : OwnVs base L B w v ps) (hB : B ≤ w.heap.size) (hb : Below w.heap.size w w') : OwnVs base L B w' v ps :=
 ⟨own_below h.1 hb (Nat.le_refl _), fun p hp => (h.2 p hp).below (hb.mono hB)⟩
theorem pa_grown {w w' : World} {L B : Nat} {row : Option Nat} {ps : List Pv} (h : ∀ p ∈ ps, Pa w L B p.2.1 p.2.2 p.1) (hg : w.grownBy w' row) (hB : B ≤ w.heap.size) (hr : ∀ k, row = some k → B ≤ k) : ∀ p ∈ ps, Pa w' L B p.2.1 p.2.2 p.1 :=
 fun p hp => (h p hp).keep fun a _ ha => World.cell?_of_block (hg.block a.block (by omega) (fun e => by have := hr _ e.symm; omega))

theorem info_ver : (Tryz.prog.info? 40).map (fun i => (i.zero, i.size, i.bytes)) = some (some (.agg #[.int .i64 0, .int .i64 0, .slice none 0 0, .bool false, .string ⟨#[]⟩]), 5, 64) := by kernel_rfl

section
variable {P : Program} (w : World)
theorem wpList_append_v {ops : Array Oper} {rest : List Oper} {o : Oper} {a : Act} {Q : Exit → Act → World → Prop} (hgd : o.guard = none) (s x : Operand) (t : TypeId)
  (ho : o.op = .call { callee := .builtin .append, args := #[s, x], argTypes := #[t, t] })
  (base : Nat) (e : TypeId) (i : TypeInfo) (z : Value) (bytes : Nat) (ht : P.underlying t = some (.slice e)) (hi : P.info? e = some i) (hz : i.zero = some z)
  (hsize : i.size = 5) (hby : i.bytes = bytes) (hzs : z.cells.size = 5)
  (v : Value) (n : Nat) (ps : List Pv) (hs : a.eval s = v) (hown : w.ownsRow base e 5 v n (vcs ps)) (p : Pv) (k : Nat) (hk : p.1.past.length = k) (c : Nat)
  (hx : a.eval x = .slice (some ⟨w.heap.size, 0, none⟩) 1 c)
  (hbytes : (n + 1) * bytes ≤ 140737488355328) (hn : n + 1 ≤ 140737488355328) (hbase : base ≤ w.heap.size)
  (h : ∀ v' w', w'.ownsRow base e 5 v' (n + 1) (vcs (ps ++ [p])) → w.grownBy w' v.ownBlock → (v'.ownBlock = v.ownBlock ∨ ∃ g, v'.ownBlock = some g ∧ w.heap.size ≤ g) → wpList P ops Q rest (a.put o.dst v') w') :
  wpList P ops Q (o :: rest) a (w.alloc (.cells #[.int .i64 p.1.s, .int .i64 p.1.n, .slice p.2.1 k p.2.2, .bool p.1.gone, .string p.1.val] e)) := by
 subst hk
 refine wpList_append_own_at _ hgd s x t ho base e i z 5 bytes ht hi hz hsize hby hzs (by omega) v n (vcs ps) hs (hown.alloc _) ⟨w.heap.size, 0, none⟩ 1 c (vcc p) hx rfl ?_ ?_ (by unfold maxLen; omega) hbytes (by simp; omega) ?_
 ·intro j u' hj
  match j, hj with
  | 0, hj => simp [vcc] at hj; subst hj; simp [Addr.add]
  | 1, hj => simp [vcc] at hj; subst hj; simp [Addr.add]
  | 2, hj => simp [vcc] at hj; subst hj; simp [Addr.add]
  | 3, hj => simp [vcc] at hj; subst hj; simp [Addr.add]
  | 4, hj => simp [vcc] at hj; subst hj; simp [Addr.add]
 ·intro u' hu
  exact vcs_cell [p] u' (by rw [vcs_one]; exact hu)
 ·intro v' w' hown' hg _ hat
  refine h v' w' ?_ ?_ ?_
  ·rw [vcs_append, vcs_one]; exact hown'
  ·exact ⟨hg.os, hg.tape, hg.output, Nat.le_trans (by simp) hg.size, fun k hk hne => (hg.block k (by simp; omega) hne).trans (Below.heap_alloc w _ k hk)⟩
  ·rcases hat with h1 | h1
   ·exact .inl h1
   ·exact .inr ⟨_, h1, by simp⟩

theorem wpList_append_vs {ops : Array Oper} {rest : List Oper} {o : Oper} {a : Act} {Q : Exit → Act → World → Prop} (hgd : o.guard = none) (s x : Operand) (t : TypeId)
  (ho : o.op = .call { callee := .builtin .append, args := #[s, x], argTypes := #[t, t] })
  (base : Nat) (e : TypeId) (i : TypeInfo) (z : Value) (bytes : Nat) (ht : P.underlying t = some (.slice e)) (hi : P.info? e = some i) (hz : i.zero = some z)
  (hsize : i.size = 5) (hby : i.bytes = bytes) (hzs : z.cells.size = 5)
  (v : Value) (n : Nat) (ps : List Pv) (hs : a.eval s = v) (hown : w.ownsRow base e 5 v n (vcs ps)) (L B : Nat) (A : Option Addr) (m c : Nat) (ys : List Vr) (hm : ys.length = m)
  (hx : a.eval x = .slice A m c) (hr : Vs w L B A ys)
  (hbytes : (n + m) * bytes ≤ 140737488355328) (hn : n + m ≤ 140737488355328) (hbase : base ≤ w.heap.size)
  (h : ∀ v' w' qs, qs.map Prod.fst = ys → (∀ p ∈ qs, Pa w L B p.2.1 p.2.2 p.1) → w'.ownsRow base e 5 v' (n + m) (vcs (ps ++ qs)) → w.grownBy w' v.ownBlock → (v'.ownBlock = v.ownBlock ∨ v'.ownBlock = some w.heap.size) → wpList P ops Q rest (a.put o.dst v') w') :
  wpList P ops Q (o :: rest) a w := by
 subst hm
 rcases A with _ | ad
 ·have h0 : ys = [] := by
   rcases Nat.eq_zero_or_pos ys.length with h0 | h0
   ·exact List.eq_nil_of_length_eq_zero h0
   ·obtain ⟨b, off, he, _⟩ := hr h0
    cases he
  subst h0
  refine wpList_plain hgd fun K hK => ?_
  have hrun : (Builtin.append_ #[t, t] o.type #[v, .slice none 0 c]).run P w = .ok v w := by
   rcases hown.2 with ⟨rfl, rfl⟩ | ⟨g, cap, cur, rfl, _, _, hnc, _⟩
   ·simp [Builtin.append_, run_underlying ht, sizeOf, typeInfo, hi, Builtin.lenOf, Builtin.firstCells]
   ·simp [Builtin.append_, run_underlying ht, sizeOf, typeInfo, hi, Builtin.lenOf, Builtin.firstCells, hnc, storeCells]
  unfold Oper.wp execOp
  simp only [ho, resolve, invoke, builtin, Sem.run_bind, Sem.run_pure, Result.andThen_ok, List.map_toArray, List.map_cons, List.map_nil, hs, hx, List.length_nil, hrun]
  exact hK _ _ (h v w [] rfl (by simp) (by simpa using hown) (World.grownBy.refl w _) (.inl rfl))
 ·rcases ys with _ | ⟨y, ys⟩
  ·refine wpList_append_own_at w hgd s x t ho base e i z 5 bytes ht hi hz hsize hby hzs (by omega) v n (vcs ps) hs hown ad 0 c [] hx (by simp) (by simp) (by simp) (by unfold maxLen; simp at hn; omega) hbytes hbase
    fun v' w' h1 h2 _ h4 => h v' w' [] rfl (by simp) (by simpa using h1) h2 h4
  ·obtain ⟨b, off, he, _⟩ := hr (by simp)
   injection he with he
   subst he
   obtain ⟨qs, hq1, hq2, hq3⟩ := vs_pick hr (by simp)
   have hql : qs.length = (y :: ys).length := by rw [← hq1, List.length_map]
   exact wpList_append_own_at w hgd s x t ho base e i z 5 bytes ht hi hz hsize hby hzs (by omega) v n (vcs ps) hs hown ⟨b, off, none⟩ _ c (vcs qs) hx (by rw [vcs_length, hql]) hq2 (vcs_cell qs) (by unfold maxLen; omega) hbytes hbase
    fun v' w' h1 h2 _ h4 => h v' w' qs hq1 hq3 (by rw [vcs_append]; exact h1) h2 h4
end
end Vers
end Go.Proofs.YtbhidndgnldheaaGreat

/-
 Plain words of layer 5: two sets gone through side by side.
-/
namespace Go.Proofs.YtbhidndgnldheaaGreat
namespace Vers
open Go.RowKit Span

structure Tog (a b : List Vr) (i j : Nat) (us : List Vr) : Prop where
 ri : i ≤ a.length
 rj : j ≤ b.length
 rise : us.Pairwise dlt
 mem : ∀ v, v ∈ us ↔ v ∈ a.take i ∨ v ∈ b.take j
 la : ∀ u ∈ us, ∀ x ∈ a.drop i, dlt u x
 lb : ∀ u ∈ us, ∀ y ∈ b.drop j, dlt u y ∨ same u y
 twin : ∀ x ∈ a.take i, ∀ y ∈ b.take j, same x y → x = y

theorem tog_start (a b : List Vr) : Tog a b 0 0 [] := ⟨by omega, by omega, List.Pairwise.nil, by simp, by simp, by simp, by simp⟩
theorem drop_split {a : List Vr} {i : Nat} {x : Vr} {l : List Vr} (h : a.drop i = x :: l) : i < a.length ∧ a.take (i + 1) = a.take i ++ [x] ∧ a.drop (i + 1) = l := by
 have hi : i < a.length := by
  rcases Nat.lt_or_ge i a.length with h1 | h1
  ·exact h1
  ·rw [List.drop_of_length_le h1] at h; cases h
 rw [List.drop_eq_getElem_cons hi] at h
 injection h with h1 h2
 exact ⟨hi, by rw [List.take_succ_eq_append_getElem hi, h1], h2⟩
theorem rise_drop {a : List Vr} (h : a.Pairwise dlt) (i : Nat) : (a.drop i).Pairwise dlt := h.sublist (List.drop_sublist _ _)
theorem rise_across {a : List Vr} (h : a.Pairwise dlt) (i : Nat) {u x : Vr} (hu : u ∈ a.take i) (hx : x ∈ a.drop i) : dlt u x := by
 rw [← List.take_append_drop i a] at h
 exact (List.pairwise_append.1 h).2.2 u hu x hx

theorem tog_a {a b us : List Vr} {i j : Nat} {x : Vr} {l : List Vr} (h : Tog a b i j us) (ha : a.Pairwise dlt) (_hb : b.Pairwise dlt) (hx : a.drop i = x :: l) (hle : ∀ y ∈ b.drop j, dlt x y ∨ same x y) : Tog a b (i + 1) j (us ++ [x]) := by
 obtain ⟨hi, ht, hd⟩ := drop_split hx
 have hxl : ∀ z ∈ l, dlt x z := by have := rise_drop ha i; rw [hx, List.pairwise_cons] at this; exact this.1
 have hux : ∀ u ∈ us, dlt u x := fun u hu => h.la u hu x (by rw [hx]; simp)
 refine ⟨hi, h.rj, ?_, ?_, ?_, ?_, ?_⟩
 ·exact List.pairwise_append.2 ⟨h.rise, by simp, fun u hu z hz => by rw [List.mem_singleton.1 hz]; exact hux u hu⟩
 ·intro v
  rw [ht, List.mem_append, List.mem_append, h.mem v]
  constructor
  ·rintro ((h1 | h1) | h1)
   ·exact .inl (.inl h1)
   ·exact .inr h1
   ·exact .inl (.inr h1)
  ·rintro ((h1 | h1) | h1)
   ·exact .inl (.inl h1)
   ·exact .inr h1
   ·exact .inl (.inr h1)
 ·intro u hu z hz
  rw [hd] at hz
  rcases List.mem_append.1 hu with hu | hu
  ·exact h.la u hu z (by rw [hx]; simp [hz])
  ·rw [List.mem_singleton.1 hu]; exact hxl z hz
 ·intro u hu y hy
  rcases List.mem_append.1 hu with hu | hu
  ·exact h.lb u hu y hy
  ·rw [List.mem_singleton.1 hu]; exact hle y hy
 ·intro z hz y hy hs
  rw [ht] at hz
  rcases List.mem_append.1 hz with hz | hz
  ·exact h.twin z hz y hy hs
  ·rw [List.mem_singleton.1 hz] at hs ⊢
   exact (dlt_irrefl (hux y ((h.mem y).2 (.inr hy))) (same_symm hs)).elim

theorem tog_b {a b us : List Vr} {i j : Nat} {y : Vr} {l : List Vr} (h : Tog a b i j us) (hb : b.Pairwise dlt) (hy : b.drop j = y :: l) (hlt : ∀ x ∈ a.drop i, dlt y x) (hnew : ∀ u ∈ us, dlt u y) : Tog a b i (j + 1) (us ++ [y]) := by
 obtain ⟨hj, ht, hd⟩ := drop_split hy
 have hyl : ∀ z ∈ l, dlt y z := by have := rise_drop hb j; rw [hy, List.pairwise_cons] at this; exact this.1
 refine ⟨h.ri, hj, ?_, ?_, ?_, ?_, ?_⟩
 ·exact List.pairwise_append.2 ⟨h.rise, by simp, fun u hu z hz => by rw [List.mem_singleton.1 hz]; exact hnew u hu⟩
 ·intro v
  rw [ht, List.mem_append, List.mem_append, h.mem v, or_assoc]
 ·intro u hu x hx
  rcases List.mem_append.1 hu with hu | hu
  ·exact h.la u hu x hx
  ·rw [List.mem_singleton.1 hu]; exact hlt x hx
 ·intro u hu z hz
  rw [hd] at hz
  rcases List.mem_append.1 hu with hu | hu
  ·exact .inl (dlt_trans (hnew u hu) (hyl z hz))
  ·rw [List.mem_singleton.1 hu]; exact .inl (hyl z hz)
 ·intro x hx z hz hs
  rw [ht] at hz
  rcases List.mem_append.1 hz with hz | hz
  ·exact h.twin x hx z hz hs
  ·rw [List.mem_singleton.1 hz] at hs ⊢
   exact (dlt_irrefl (hnew x ((h.mem x).2 (.inl hx))) hs).elim

theorem tog_again {a b us : List Vr} {i j : Nat} {y : Vr} {l : List Vr} (h : Tog a b i j us) (hb : b.Pairwise dlt) (hy : b.drop j = y :: l) (hu : y ∈ us) : Tog a b i (j + 1) us := by
 obtain ⟨hj, ht, hd⟩ := drop_split hy
 have hyl : ∀ z ∈ l, dlt y z := by have := rise_drop hb j; rw [hy, List.pairwise_cons] at this; exact this.1
 refine ⟨h.ri, hj, h.rise, ?_, h.la, ?_, ?_⟩
 ·intro v
  rw [ht, List.mem_append, h.mem v]
  constructor
  ·rintro (h1 | h1)
   ·exact .inl h1
   ·exact .inr (.inl h1)
  ·rintro (h1 | h1 | h1)
   ·exact .inl h1
   ·exact .inr h1
   ·rw [List.mem_singleton.1 h1]; exact (h.mem y).1 hu
 ·intro u hu' z hz
  rw [hd] at hz
  rcases h.lb u hu' y (by rw [hy]; simp) with h1 | h1
  ·exact .inl (dlt_trans h1 (hyl z hz))
  ·rw [rising_same h.rise hu' hu h1]; exact .inl (hyl z hz)
 ·intro x hx z hz hs
  rw [ht] at hz
  rcases List.mem_append.1 hz with hz | hz
  ·exact h.twin x hx z hz hs
  ·rw [List.mem_singleton.1 hz] at hs ⊢
   exact rising_same h.rise ((h.mem x).2 (.inl hx)) hu hs

theorem tog_twin {a b us : List Vr} {i j : Nat} {y u : Vr} {l : List Vr} (h : Tog a b i j us) (hb : b.Pairwise dlt) (hy : b.drop j = y :: l) (hu : u ∈ us) (hs : same u y) (hne : u ≠ y) : Twin a b := by
 have hyb : y ∈ b := List.mem_of_mem_drop (i := j) (by rw [hy]; simp)
 rcases (h.mem u).1 hu with h1 | h1
 ·exact ⟨u, List.mem_of_mem_take h1, y, hyb, hs, hne⟩
 ·exact (dlt_irrefl (rise_across hb j h1 (by rw [hy]; simp)) hs).elim

theorem tog_new {a b us : List Vr} {i j : Nat} {y : Vr} {l : List Vr} (h : Tog a b i j us) (hy : b.drop j = y :: l) (hne : ∀ _hp : 0 < us.length, ¬ same (us.getD (us.length - 1) v0) y) : ∀ u ∈ us, dlt u y := by
 intro u hu
 obtain ⟨p, hp, rfl⟩ := List.getElem_of_mem hu
 have hpos : 0 < us.length := by omega
 have hlast : us.getD (us.length - 1) v0 ∈ us := by
  rw [List.getD_eq_getElem?_getD, List.getElem?_eq_getElem (by omega)]
  exact List.getElem_mem _
 have hl : dlt (us.getD (us.length - 1) v0) y := by
  rcases h.lb _ hlast y (by rw [hy]; simp) with h1 | h1
  ·exact h1
  ·exact absurd h1 (hne hpos)
 rcases Nat.eq_or_lt_of_le (show p ≤ us.length - 1 by omega) with h1 | h1
 ·have e : us.getD (us.length - 1) v0 = us[p] := by simp [List.getD_eq_getElem?_getD, ← h1, hp]
  rwa [e] at hl
 ·have h2 := rising_at h.rise (p := p) (q := us.length - 1) (by omega) h1
  have e : us.getD p v0 = us[p] := by simp [List.getD_eq_getElem?_getD, hp]
  rw [e] at h2
  exact dlt_trans h2 hl

theorem tog_end {a b us : List Vr} (h : Tog a b a.length b.length us) : us.Pairwise dlt ∧ (∀ v, v ∈ us ↔ v ∈ a ∨ v ∈ b) ∧ ¬ Twin a b := by
 refine ⟨h.rise, fun v => by rw [h.mem v, List.take_length, List.take_length], ?_⟩
 rintro ⟨x, hx, y, hy, hs, hn⟩
 exact hn (h.twin x (by rw [List.take_length]; exact hx) y (by rw [List.take_length]; exact hy) hs)

theorem union_stay {a b us : List Vr} (hr : us.Pairwise dlt) (hm : ∀ v, v ∈ us ↔ v ∈ a ∨ v ∈ b) : IsStay a b (us.filter fun v => !decide (behind us v.s v.n)) := by
 have hb : ∀ s n, behind us s n ↔ behind a s n ∨ behind b s n := by
  intro s n
  constructor
  ·rintro ⟨v, hv, h⟩
   rcases (hm v).1 hv with h1 | h1
   ·exact .inl ⟨v, h1, h⟩
   ·exact .inr ⟨v, h1, h⟩
  ·rintro (⟨v, hv, h⟩ | ⟨v, hv, h⟩)
   ·exact ⟨v, (hm v).2 (.inl hv), h⟩
   ·exact ⟨v, (hm v).2 (.inr hv), h⟩
 refine ⟨hr.sublist List.filter_sublist, fun v => ?_⟩
 rw [List.mem_filter, hm v]
 simp only [Bool.not_eq_true', decide_eq_false_iff_not]
 rw [hb]
 constructor
 ·rintro ⟨h1, h2⟩
  exact ⟨h1, fun h => h2 (.inl h), fun h => h2 (.inr h)⟩
 ·rintro ⟨h1, h2, h3⟩
  exact ⟨h1, fun h => h.elim h2 h3⟩
end Vers
end Go.Proofs.YtbhidndgnldheaaGreat

/-
 firthlaw05.has: is a version of that dot among these?
-/
namespace Go.Proofs.YtbhidndgnldheaaGreat
namespace Vers
open Go.RowKit Span
attribute [local go_sem ↓] Go.wp_at_zero Go.wp_at_succ

def hasD (l : List Vr) (s n : Int) : Prop := ∃ v ∈ l, v.s = s ∧ v.n = n
instance (l : List Vr) (s n : Int) : Decidable (hasD l s n) := by unfold hasD; infer_instance
end Vers
end Go.Proofs.YtbhidndgnldheaaGreat

/-
 What comes of merging in another order, and twice; on plain lists.
-/
namespace Go.Proofs.YtbhidndgnldheaaGreat
namespace Vers
open Span

def plainP (x y : Vr) : Prop := (mem x.past y.s y.n → withinF y.past x.past = true ∧ ¬ mem y.past x.s x.n) ∧ (same x y → x = y)
instance (x y : Vr) : Decidable (plainP x y) := by unfold plainP; infer_instance
def plainF (l : List Vr) : Prop := ∀ x ∈ l, ∀ y ∈ l, plainP x y
instance (l : List Vr) : Decidable (plainF l) := by unfold plainF; infer_instance
section
variable {a b c : List Vr} (hp : plainF (a ++ b ++ c))
include hp
end
end Vers
end Go.Proofs.YtbhidndgnldheaaGreat
