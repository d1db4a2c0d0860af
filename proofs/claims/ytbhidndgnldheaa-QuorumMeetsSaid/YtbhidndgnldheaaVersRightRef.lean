/-
  firthref05.Behind and firthref05.Right.
-/
import Derived.Test.YtbhidndgnldheaaVersRight
import Derived.Test.YtbhidndgnldheaaVersRightOneRef
namespace Go.Proofs.Ytbhidndgnldheaa
namespace Vers
open Go.RowKit Span
attribute [local go_sem ↓] Go.wp_at_zero Go.wp_at_succ

theorem behind_drop {l : List Vr} {k : Nat} (h : k < l.length) (s n : Int) : decide (behind (l.drop k) s n) = (hasL (l.getD k v0).past s n || decide (behind (l.drop (k + 1)) s n)) := by
  rw [hasL_mem, ← Bool.decide_or]
  congr 1
  rw [List.drop_eq_getElem_cons h]
  have e : l.getD k v0 = l[k] := by simp [List.getD_eq_getElem?_getD, h]
  rw [e]
  refine propext ⟨?_, ?_⟩
  · rintro ⟨v, hv, hm⟩
    rcases List.mem_cons.1 hv with rfl | hv
    · exact .inl hm
    · exact .inr ⟨v, hv, hm⟩
  · rintro (hm | ⟨v, hv, hm⟩)
    · exact ⟨_, List.mem_cons_self, hm⟩
    · exact ⟨v, List.mem_cons_of_mem _ hv, hm⟩

set_option maxRecDepth 100000 in
set_option maxHeartbeats 1000000 in
theorem behind_any (A : Option Addr) (c n : Nat) (l : List Vr) (hn : l.length = n) (s m : Int) (w : World) (hv : Vs w 0 w.heap.size A l) (hn2 : n ≤ 140737488355328) :
    Calls Try.prog 32 #[.slice A n c, .agg #[.int .i64 s, .int .i64 m]] w fun e w' => e = .returned (.bool (decide (behind l s m))) ∧ Below w.heap.size w w' := by
  obtain ⟨R, hR⟩ : ∃ R, decide (behind l s m) = R := ⟨_, rfl⟩
  rw [hR]
  have HV := Lib.hid (And.intro hv hn)
  have HR := Lib.hid hR
  clear hv hn hR
  go_enter Try.func32, Try.ntmps32
  go_wp2
  obtain ⟨W0, hW0⟩ : ∃ W0, w.alloc (.cells #[.int .i64 s, .int .i64 m] 66) = W0 := ⟨_, rfl⟩
  obtain ⟨p, hp⟩ : ∃ p, w.heap.size = p := ⟨_, rfl⟩
  have y0 : W0.cell? ⟨p, 0, none⟩ = some (.int .i64 s) := by rw [← hW0, ← hp]; simp
  have y1 : W0.cell? ⟨p, 1, none⟩ = some (.int .i64 m) := by rw [← hW0, ← hp]; simp
  have hpl : p < W0.heap.size := by rw [← hW0, ← hp]; simp
  have B0 : Below w.heap.size w W0 := by rw [← hW0]; exact (Below.refl _ w).alloc (Nat.le_refl _) _
  have HB0 := Lib.hid B0
  have hsz0 := B0.size
  rw [hW0, hp]
  have HPS := Lib.hid hp
  clear hW0 hp B0
  go_loopw [5] (fun iv wr => ∃ k : Nat, iv = .int .i64 k ∧ k ≤ n ∧ Below W0.heap.size W0 wr ∧ Hid (R = decide (behind (l.drop k) s m))) (fun iv _ => n - (intOf iv).toNat)
  case atStart => exact ⟨0, rfl, by omega, Below.refl _ _, Lib.hid HR.out.symm⟩
  case round =>
    obtain ⟨k, rfl, hk, hb, hst⟩ := hrel
    have hbw := Lib.hid (HB0.out.trans (hb.mono hsz0))
    have hsz := hb.size
    by_cases hlt : k < n
    · obtain ⟨b, off, A1, c1, rfl, _, hbB, a0, a1, a2, a3, a4, hpa⟩ := HV.out.1.at HV.out.2 hbw.out hlt rfl
      have hd := behind_drop (l := l) (k := k) (by have := HV.out.2; omega) s m
      obtain ⟨v, hvv⟩ : ∃ v, l.getD k v0 = v := ⟨_, rfl⟩
      rw [hvv] at a2 hpa hd
      obtain ⟨vs, vn, vp, vg, vx⟩ := v
      simp only at a2 hd
      obtain ⟨hps, _, hpb, hxb, _⟩ := hpa
      simp only at hps hpb
      obtain ⟨kp, hkp⟩ : ∃ kp, vp.length = kp := ⟨_, rfl⟩
      rw [hkp] at a2 hpb
      have h1 := ref_has_any A1 c1 kp vp hkp s m wr.drew (hps.more (B' := wr.drew.heap.size) (by show w.heap.size ≤ wr.heap.size; omega)) hpb
      obtain ⟨q, hq⟩ : ∃ q, hasL vp s m = q := ⟨_, rfl⟩
      rw [hq] at h1 hd
      have HD := Lib.hid (hst.out.trans hd)
      have H1 := Lib.hid h1
      have e0 := (hb.cell (p := ⟨p, 0, none⟩) hpl).trans y0
      have e1 := (hb.cell (p := ⟨p, 1, none⟩) hpl).trans y1
      have d1 : (0 : Int) ≤ (k : Int) := by omega
      have d2 : (k : Int) < (n : Int) := by omega
      have lp : p < wr.heap.size := by omega
      have lb : b < wr.heap.size := by have := HPS.out; omega
      clear a0 a1 a3 a4 hps hkp hq h1 hd hst hvv y0 y1
      go_wp2
      go_region_held3 (fun V => V.cell? ⟨b, off + k * 5 + 2, none⟩ = some (.slice A1 kp c1) ∧ V.cell? ⟨p, 0, none⟩ = some (.int .i64 s) ∧ V.cell? ⟨p, 1, none⟩ = some (.int .i64 m))
        (first | exact ⟨a2, e0, e1⟩ | exact ⟨cell_below b1 lb a2, cell_below b1 lp e0, cell_below b1 lp e1⟩)
        (first | (go_at_call 54; refine H1.out.mono ?_; rintro e w1 ⟨rfl, b1⟩))
      have hb2 : Below W0.heap.size W0 w1 := hb.drew.trans (Below.mono b1 (by exact hsz))
      cases q
      · have HN := Lib.hid (show R = decide (behind (l.drop (k + 1)) s m) by rw [HD.out]; simp)
        clear HD b1 hb
        go_wp2
        exact ⟨⟨k + 1, rfl, by omega, hb2, HN⟩, by simp only [intOf]; omega⟩
      · have HN := Lib.hid (show R = true by rw [HD.out]; simp)
        have hfin := HB0.out.trans (hb2.mono hsz0)
        clear HD b1 hb
        go_wp2
        go_ret
        exact ⟨by rw [HN.out]; rfl, hfin⟩
    · have hkn : k = n := by omega
      subst hkn
      have HN := Lib.hid (show R = false by rw [hst.out, List.drop_of_length_le (by have := HV.out.2; omega)]; simp [behind])
      clear hst
      go_wp2
      go_ret
      exact ⟨by rw [HN.out]; rfl, hbw.out⟩

set_option maxRecDepth 100000 in
set_option maxHeartbeats 2000000 in
theorem ref_rightV_any (A : Option Addr) (c n : Nat) (l : List Vr) (hn : l.length = n) (w : World) (hv : Vs w 0 w.heap.size A l) (hn2 : n ≤ 140737488355328) :
    Calls Try.prog 29 #[.slice A n c] w fun e w' => e = .returned (.bool (decide (RightV l))) ∧ Below w.heap.size w w' := by
  obtain ⟨R, hR⟩ : ∃ R, decide (RightV l) = R := ⟨_, rfl⟩
  rw [hR]
  by_cases hlong : 512 < n
  · have HF := Lib.hid (show R = false by rw [← hR]; exact decide_eq_false fun h => by have := h.1; omega)
    clear hv hn hR
    go_enter Try.func29, Try.ntmps29
    go_wp2
    go_ret
    exact ⟨by rw [HF.out]; rfl, Below.refl _ _⟩
  · have HV := Lib.hid (And.intro hv (And.intro hn hR))
    clear hv hn hR
    go_enter Try.func29, Try.ntmps29
    go_wp2
    go_loopw [3] (fun iv wr => ∃ k : Nat, iv = .int .i64 k ∧ k ≤ n ∧ Below w.heap.size w wr ∧ Hid (FineV (l.take k) ∧ ∀ v ∈ l.take k, ¬ behind l v.s v.n)) (fun iv _ => n - (intOf iv).toNat)
    case atStart => exact ⟨0, rfl, by omega, Below.refl _ _, Lib.hid ⟨fineV_nil, by simp⟩⟩
    case round =>
      obtain ⟨k, rfl, hk, hb, hst⟩ := hrel
      have hsz := hb.size
      by_cases hlt : k < n
      · obtain ⟨b, off, A1, c1, rfl, _, hbB, a0, a1, a2, a3, a4, hpa⟩ := HV.out.1.at HV.out.2.1 hb hlt rfl
        have hkl : k < l.length := by have := HV.out.2.1; omega
        have hstep := fineV_step hkl hst.out.1
        have hbad := fineV_bad hkl
        have hord := fun h0 => fineV_order hkl h0
        have hnb : behind l (l.getD k v0).s (l.getD k v0).n → decide (RightV l) = false := fun h => decide_eq_false fun hr => hr.2.2 _ (mem_v hkl) h
        have hpass : FineV (l.take (k + 1)) → ¬ behind l (l.getD k v0).s (l.getD k v0).n → FineV (l.take (k + 1)) ∧ ∀ v ∈ l.take (k + 1), ¬ behind l v.s v.n := fun h1 h2 => ⟨h1, fun v hv => by
          rw [take_v hkl] at hv
          rcases List.mem_append.1 hv with hv | hv
          · exact hst.out.2 v hv
          · rw [List.mem_singleton.1 hv]; exact h2⟩
        have hprev : 0 < k → ∃ ps pn, (l.getD (k - 1) v0).s = ps ∧ (l.getD (k - 1) v0).n = pn ∧ ∀ V, Below w.heap.size w V → V.cell? ⟨b, off + (k - 1) * 5, none⟩ = some (.int .i64 ps) ∧ V.cell? ⟨b, off + (k - 1) * 5 + 1, none⟩ = some (.int .i64 pn) := fun h0 => by
          refine ⟨_, _, rfl, rfl, fun V hbV => ?_⟩
          obtain ⟨b', off', A2, c2, e, _, _, p0, p1, _⟩ := HV.out.1.at HV.out.2.1 hbV (show k - 1 < n by omega) rfl
          injection e with e
          injection e with e1 e2
          subst e1 e2
          exact ⟨p0, p1⟩
        have hpr : ∀ v : Vr, 0 < k → (dlt (l.getD (k - 1) v0) v ↔ ((l.getD (k - 1) v0).s < v.s ∨ ((l.getD (k - 1) v0).s = v.s ∧ (l.getD (k - 1) v0).n < v.n))) := fun v _ => Iff.rfl
        obtain ⟨v, hvv⟩ : ∃ v, l.getD k v0 = v := ⟨_, rfl⟩
        rw [hvv] at a0 a1 a2 a3 a4 hpa hstep hbad hnb hpass
        have hord' : ∀ (_ : 0 < k), ¬ dlt (l.getD (k - 1) v0) v → decide (RightV l) = false := fun h0 h => hord h0 (by rw [hvv]; exact h)
        clear hord hvv
        obtain ⟨s, vn, vp, vg, vx⟩ := v
        simp only at a0 a1 a2 a3 a4 hnb hpass
        obtain ⟨hps, _, hpb, hxb, _⟩ := hpa
        simp only at hps hpb hxb
        obtain ⟨kp, hkp⟩ : ∃ kp, vp.length = kp := ⟨_, rfl⟩
        rw [hkp] at a2 hpb
        have h1 := ref_rightone_any A1 c1 kp s vn vp vg vx hkp wr (hps.more hsz) hpb hxb
        have h2 := fun V (hbV : Below w.heap.size w V) => behind_any (some ⟨b, off, none⟩) c n l HV.out.2.1 s vn V ((HV.out.1.below hbV).more hbV.size) hn2
        have d1 : (0 : Int) ≤ (k : Int) := by omega
        have d2 : (k : Int) < (n : Int) := by omega
        by_cases cA : okV ⟨s, vn, vp, vg, vx⟩
        · rw [decide_eq_true cA] at h1
          have H1 := Lib.hid h1
          by_cases cB : behind l s vn
          · have HF := Lib.hid (HV.out.2.2.symm.trans (hnb cB))
            have H2 := Lib.hid (fun V hbV => (decide_eq_true cB) ▸ h2 V hbV)
            have HB := Lib.hid hb
            clear h1 h2 hpr hord' hbad hstep hnb hpass hprev cA cB hst hps hkp hb
            go_wp2_with fail
            refine H1.out.mono ?_
            rintro e w1 ⟨rfl, b1⟩
            have hb1 := HB.out.trans (b1.mono hsz)
            have z0 := (b1.cell (p := ⟨b, off + k * 5, none⟩) (by simp only; omega)).trans a0
            have z1 := (b1.cell (p := ⟨b, off + k * 5 + 1, none⟩) (by simp only; omega)).trans a1
            have H2' := Lib.hid (H2.out _ hb1)
            have HB1 := Lib.hid hb1
            have hsz1 := hb1.size
            clear b1 hb1 H2
            go_wp2_with fail
            refine H2'.out.mono ?_
            rintro e w2 ⟨rfl, b2⟩
            have BE := HB1.out.trans (b2.mono hsz1)
            clear b2
            go_wp2_with fail
            go_ret
            exact ⟨by rw [HF.out]; rfl, BE⟩
          · have H2 := Lib.hid (fun V hbV => (decide_eq_false cB) ▸ h2 V hbV)
            have HB := Lib.hid hb
            have HSP := Lib.hid (fun h => hpass h cB)
            have HT := Lib.hid (And.intro (hstep cA) (And.intro hord' (And.intro hpr hprev)))
            clear h1 h2 hpr hord' hbad hstep hnb hpass hprev cA cB hst hps hkp hb
            go_wp2_with fail
            refine H1.out.mono ?_
            rintro e w1 ⟨rfl, b1⟩
            have hb1 := HB.out.trans (b1.mono hsz)
            have z0 := (b1.cell (p := ⟨b, off + k * 5, none⟩) (by simp only; omega)).trans a0
            have z1 := (b1.cell (p := ⟨b, off + k * 5 + 1, none⟩) (by simp only; omega)).trans a1
            have H2' := Lib.hid (H2.out _ hb1)
            have HB1 := Lib.hid hb1
            have hsz1 := hb1.size
            clear b1 hb1 H2
            go_wp2_with fail
            refine H2'.out.mono ?_
            rintro e w2 ⟨rfl, b2⟩
            have hb2 := HB1.out.trans (b2.mono hsz1)
            have z0' := (b2.cell (p := ⟨b, off + k * 5, none⟩) (by simp only; omega)).trans z0
            have z1' := (b2.cell (p := ⟨b, off + k * 5 + 1, none⟩) (by simp only; omega)).trans z1
            have HB2 := Lib.hid hb2
            have hsz2 := hb2.size
            have lb : b < w2.heap.size := by omega
            clear b2 hb2 H2' z0 z1 H1
            by_cases h0 : 0 < k
            · obtain ⟨ps, pn, e1, e2, hcells⟩ := HT.out.2.2.2 h0
              obtain ⟨p0, p1⟩ := hcells w2 HB2.out
              have hpr' := HT.out.2.2.1 ⟨s, vn, vp, vg, vx⟩ h0
              rw [e1, e2] at hpr'
              simp only at hpr'
              have h3 := less_any ps pn s vn w2.drew
              obtain ⟨q, hq⟩ : ∃ q, decide (ps < s ∨ (ps = s ∧ pn < vn)) = q := ⟨_, rfl⟩
              have HN := Lib.hid (show (q = true → FineV (l.take (k + 1)) ∧ ∀ v ∈ l.take (k + 1), ¬ behind l v.s v.n) ∧ (q = false → R = false) from
                ⟨fun h => HSP.out (HT.out.1 fun _ => hpr'.2 (of_decide_eq_true (hq.trans h))), fun h => HV.out.2.2.symm.trans (HT.out.2.1 h0 fun hd => (of_decide_eq_false (hq.trans h)) (hpr'.1 hd))⟩)
              rw [hq] at h3
              have H3 := Lib.hid h3
              have f0 : ((k : Int) - 1).toNat = k - 1 := by omega
              have f1 : (0 : Int) ≤ (k : Int) - 1 := by omega
              have f2 : (k : Int) - 1 < (n : Int) := by omega
              have f5 : (1 : Int) ≤ (k : Int) := by omega
              have f6 : (k : Int) ≤ (n : Int) := by omega
              have f7 : 1 ≤ k := by omega
              have f8 : ((k : Int) - 1 < (n : Int)) = True := eq_true (by omega)
              have f9 : (0 ≤ (k : Int) - 1) = True := eq_true (by omega)
              have f3 : decide ((0 : Int) < (k : Int)) = true := decide_eq_true (by omega)
              have f4 : IntKind.i64.wrap ((k : Int) - 1) = (k : Int) - 1 := IntWalk.i64_in _ (by omega)
              clear hpr' e1 e2 hcells h3 hq HT HSP a0 a1 a2 a3 a4
              go_wp2_with fail
              go_region_held3 (fun V => V.cell? ⟨b, off + (k - 1) * 5, none⟩ = some (.int .i64 ps) ∧ V.cell? ⟨b, off + (k - 1) * 5 + 1, none⟩ = some (.int .i64 pn) ∧ V.cell? ⟨b, off + k * 5, none⟩ = some (.int .i64 s) ∧ V.cell? ⟨b, off + k * 5 + 1, none⟩ = some (.int .i64 vn))
                (first | exact ⟨p0, p1, z0', z1'⟩ | exact ⟨cell_below b3 lb p0, cell_below b3 lb p1, cell_below b3 lb z0', cell_below b3 lb z1'⟩)
                (first | (go_at_call 49; refine H3.out.mono ?_; rintro e w3 ⟨rfl, b3⟩))
              have BE : Below w.heap.size w w3 := HB2.out.drew.trans (Below.mono b3 (by exact hsz2))
              cases q
              · have HF := Lib.hid (HN.out.2 rfl)
                clear HN b3
                go_wp2_with fail
                go_ret
                exact ⟨by rw [HF.out]; rfl, BE⟩
              · have HF := Lib.hid (HN.out.1 rfl)
                clear HN b3
                go_wp2_with fail
                exact ⟨⟨k + 1, rfl, by omega, BE, HF⟩, by simp only [intOf]; omega⟩
            · have HF := Lib.hid (HSP.out (HT.out.1 fun h => absurd h h0))
              have f3 : decide ((0 : Int) < (k : Int)) = false := decide_eq_false (by omega)
              have f3' : decide (0 < k) = false := decide_eq_false h0
              clear HT HSP
              go_wp2_with fail
              go_quiet (fail)
              go_wp2_with fail
              exact ⟨⟨k + 1, rfl, by omega, HB2.out.trans (below_drewN _ _ _), HF⟩, by simp only [intOf]; omega⟩
        · rw [decide_eq_false cA] at h1
          have H1 := Lib.hid h1
          have HF := Lib.hid (HV.out.2.2.symm.trans (hbad cA))
          have HB := Lib.hid hb
          clear h1 h2 hpr hord' hbad hstep hnb hpass hprev cA hst hps hkp hb
          go_wp2_with fail
          refine H1.out.mono ?_
          rintro e w1 ⟨rfl, b1⟩
          have BE := HB.out.trans (b1.mono hsz)
          clear b1
          go_wp2_with fail
          go_ret
          exact ⟨by rw [HF.out]; rfl, BE⟩
      · have hkn : k = n := by omega
        subst hkn
        have HF := Lib.hid (show R = true by
          rw [← HV.out.2.2]
          refine decide_eq_true ⟨by have := HV.out.2.1; omega, ?_⟩
          have := hst.out
          rwa [List.take_of_length_le (by have := HV.out.2.1; omega)] at this)
        clear hst
        go_wp2_with fail
        go_ret
        exact ⟨by rw [HF.out]; rfl, hb⟩
end Vers
end Go.Proofs.Ytbhidndgnldheaa
