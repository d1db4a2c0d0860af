/-
  Whether two lists of versions are the same.
-/
import Derived.Test.YtbhidndgnldheaaVersSame
namespace Go.Proofs.Ytbhidndgnldheaa
namespace Vers
open Go.RowKit Span
attribute [local go_sem ↓] Go.wp_at_zero Go.wp_at_succ

theorem takeV_eq {l m : List Vr} {k : Nat} (hl : k < l.length) (hm : k < m.length) (h : l.take k = m.take k) (he : l.getD k v0 = m.getD k v0) : l.take (k + 1) = m.take (k + 1) := by
  rw [take_v hl, take_v hm, h, he]
theorem takeV_ne {l m : List Vr} {k : Nat} (he : l.getD k v0 ≠ m.getD k v0) : ¬ l = m := fun h => he (by rw [h])

set_option maxRecDepth 100000 in
set_option maxHeartbeats 2000000 in
theorem equalfunc_any (A A' : Option Addr) (c c' n n' : Nat) (l l' : List Vr) (hn : l.length = n) (hn' : l'.length = n') (w : World) (hv : Vs w 0 w.heap.size A l) (hv' : Vs w 0 w.heap.size A' l') (hb : n ≤ 140737488355328) (hb' : n' ≤ 140737488355328) :
    Calls Try.prog 78 #[.slice A n c, .slice A' n' c', .func (.func 77) #[] #[]] w fun e w' => e = .returned (.bool (decide (l = l'))) ∧ Below w.heap.size w w' := by
  obtain ⟨R, hR⟩ : ∃ R, decide (l = l') = R := ⟨_, rfl⟩
  rw [hR]
  by_cases hlen : n = n'
  · subst hlen
    have HV := Lib.hid (And.intro hv (And.intro hv' (And.intro hn (And.intro hn' hR))))
    clear hv hv' hn hn' hR
    go_enter Try.func78, Try.ntmps78
    go_wp2
    go_loopw [17] (fun q wr => ∃ k : Nat, q = .int .i64 k ∧ k ≤ n ∧ Below w.heap.size w wr ∧ Hid (l.take k = l'.take k)) (fun q _ => n - (intOf q).toNat)
    case atStart => exact ⟨0, rfl, by omega, Below.refl _ _, Lib.hid rfl⟩
    case round =>
      obtain ⟨k, rfl, hk, hb1, hst⟩ := hrel
      have hsz := hb1.size
      by_cases hlt : k < n
      · obtain ⟨b, off, A1, c1, rfl, _, hbB, a0, a1, a2, a3, a4, hpa⟩ := HV.out.1.at HV.out.2.2.1 hb1 hlt rfl
        obtain ⟨b', off', A1', c1', rfl, _, hbB', a0', a1', a2', a3', a4', hpa'⟩ := HV.out.2.1.at HV.out.2.2.2.1 hb1 hlt rfl
        have hy := takeV_eq (l := l) (m := l') (by have := HV.out.2.2.1; omega) (by have := HV.out.2.2.2.1; omega) hst.out
        have hz := takeV_ne (l := l) (m := l') (k := k)
        obtain ⟨v, hvv⟩ : ∃ v, l.getD k v0 = v := ⟨_, rfl⟩
        obtain ⟨v', hvv'⟩ : ∃ v, l'.getD k v0 = v := ⟨_, rfl⟩
        rw [hvv] at a0 a1 a2 a3 a4 hpa
        rw [hvv'] at a0' a1' a2' a3' a4' hpa'
        rw [hvv, hvv'] at hy hz
        clear hvv hvv'
        obtain ⟨s, vn, vp, vg, vx⟩ := v
        obtain ⟨s', vn', vp', vg', vx'⟩ := v'
        simp only at a0 a1 a2 a3 a4 a0' a1' a2' a3' a4'
        obtain ⟨hps, _, hpb, _, _⟩ := hpa
        obtain ⟨hps', _, hpb', _, _⟩ := hpa'
        simp only at hps hpb hps' hpb'
        obtain ⟨kp, hkp⟩ : ∃ kp, vp.length = kp := ⟨_, rfl⟩
        obtain ⟨kp', hkp'⟩ : ∃ kp, vp'.length = kp := ⟨_, rfl⟩
        rw [hkp] at a2 hpb
        rw [hkp'] at a2' hpb'
        have h1 := fun W (hbW : Below wr.heap.size wr W) => sameone_any A1 A1' c1 c1' kp kp' s vn s' vn' vp vp' vg vg' vx vx' hkp hkp' W (((hps.more hsz).below hbW).more hbW.size) (((hps'.more hsz).below hbW).more hbW.size) hpb hpb'
        obtain ⟨q, hq⟩ : ∃ q, decide ((⟨s, vn, vp, vg, vx⟩ : Vr) = ⟨s', vn', vp', vg', vx'⟩) = q := ⟨_, rfl⟩
        rw [hq] at h1
        have HN := Lib.hid (show (q = true → l.take (k + 1) = l'.take (k + 1)) ∧ (q = false → R = false) from ⟨fun h => hy (of_decide_eq_true (hq.trans h)), fun h => by
          rw [← HV.out.2.2.2.2]
          exact decide_eq_false (hz (of_decide_eq_false (hq.trans h)))⟩)
        have H1 := Lib.hid h1
        have hbb : Below wr.heap.size wr ((wr.alloc (.cells #[.int .i64 s, .int .i64 vn, .slice A1 kp c1, .bool vg, .string vx] 69)).alloc (.cells #[.int .i64 s', .int .i64 vn', .slice A1' kp' c1', .bool vg', .string vx'] 69)) := ((Below.refl _ wr).alloc (Nat.le_refl _) _).alloc (by simp) _
        have HB := Lib.hid hbb
        have hbs' : b' < wr.heap.size := by omega
        have d1 : (0 : Int) ≤ (k : Int) := by omega
        have d2 : (k : Int) < (n : Int) := by omega
        clear h1 hy hz hq hkp hkp' hps hps' hst hbb
        go_wp2_with fail
        refine (H1.out _ HB.out).mono ?_
        rintro e w1 ⟨rfl, b1⟩
        have BE := hb1.trans ((HB.out.trans (b1.mono HB.out.size)).mono hsz)
        clear b1 H1 HB hb1
        cases q
        · have HF := Lib.hid (HN.out.2 rfl)
          clear HN
          go_wp2_with fail
          go_ret
          exact ⟨by rw [HF.out]; rfl, BE⟩
        · have HF := Lib.hid (HN.out.1 rfl)
          clear HN
          go_wp2_with fail
          exact ⟨⟨k + 1, rfl, by omega, BE, HF⟩, by simp only [intOf]; omega⟩
      · have hkn : k = n := by omega
        subst hkn
        have HF := Lib.hid (show R = true by
          rw [← HV.out.2.2.2.2]
          refine decide_eq_true ?_
          have := hst.out
          rwa [List.take_of_length_le (by have := HV.out.2.2.1; omega), List.take_of_length_le (by have := HV.out.2.2.2.1; omega)] at this)
        clear hst
        go_wp2_with fail
        go_ret
        exact ⟨by rw [HF.out]; rfl, hb1⟩
  · have HF := Lib.hid (show R = false by rw [← hR]; exact decide_eq_false fun h => hlen (by rw [← hn, ← hn', h]))
    clear hv hv' hn hn' hR
    go_enter Try.func78, Try.ntmps78
    go_wp2
    go_ret
    exact ⟨by rw [HF.out]; rfl, Below.refl _ _⟩

theorem sameV_any (A A' : Option Addr) (c c' n n' : Nat) (l l' : List Vr) (hn : l.length = n) (hn' : l'.length = n') (w : World) (hv : Vs w 0 w.heap.size A l) (hv' : Vs w 0 w.heap.size A' l') (hb : n ≤ 140737488355328) (hb' : n' ≤ 140737488355328) :
    Calls Try.prog 66 #[.slice A n c, .slice A' n' c'] w fun e w' => e = .returned (.bool (decide (l = l'))) ∧ Below w.heap.size w w' := by
  have h1 := equalfunc_any A A' c c' n n' l l' hn hn' w hv hv' hb hb'
  obtain ⟨R, hR⟩ : ∃ R, decide (l = l') = R := ⟨_, rfl⟩
  rw [hR] at h1 ⊢
  have H1 := Lib.hid h1
  clear h1 hR hv hv' hn hn'
  go_enter Try.func66, Try.ntmps66
  go_wp2_with fail
  refine H1.out.mono ?_
  rintro e w1 ⟨rfl, b1⟩
  clear H1
  go_wp2_with fail
  go_ret
  exact ⟨rfl, b1⟩

set_option maxRecDepth 100000 in
set_option maxHeartbeats 4000000 in
theorem ref_sameV_any (A A' : Option Addr) (c c' n n' : Nat) (l l' : List Vr) (hn : l.length = n) (hn' : l'.length = n') (w : World) (hv : Vs w 0 w.heap.size A l) (hv' : Vs w 0 w.heap.size A' l') (hb : n ≤ 140737488355328) (hb' : n' ≤ 140737488355328) :
    Calls Try.prog 23 #[.slice A n c, .slice A' n' c'] w fun e w' => e = .returned (.bool (decide (l = l'))) ∧ Below w.heap.size w w' := by
  obtain ⟨R, hR⟩ : ∃ R, decide (l = l') = R := ⟨_, rfl⟩
  rw [hR]
  by_cases hlen : n = n'
  · subst hlen
    have HV := Lib.hid (And.intro hv (And.intro hv' (And.intro hn (And.intro hn' hR))))
    clear hv hv' hn hn' hR
    go_enter Try.func23, Try.ntmps23
    go_wp2
    go_loopw [5] (fun q wr => ∃ k : Nat, q = .int .i64 k ∧ k ≤ n ∧ Below w.heap.size w wr ∧ Hid (l.take k = l'.take k)) (fun q _ => n - (intOf q).toNat)
    case atStart => exact ⟨0, rfl, by omega, Below.refl _ _, Lib.hid rfl⟩
    case round =>
      obtain ⟨k, rfl, hk, hb1, hst⟩ := hrel
      have hsz := hb1.size
      by_cases hlt : k < n
      · obtain ⟨b, off, A1, c1, rfl, _, hbB, a0, a1, a2, a3, a4, hpa⟩ := HV.out.1.at HV.out.2.2.1 hb1 hlt rfl
        obtain ⟨b', off', A1', c1', rfl, _, hbB', a0', a1', a2', a3', a4', hpa'⟩ := HV.out.2.1.at HV.out.2.2.2.1 hb1 hlt rfl
        have hy := takeV_eq (l := l) (m := l') (by have := HV.out.2.2.1; omega) (by have := HV.out.2.2.2.1; omega) hst.out
        have hz := takeV_ne (l := l) (m := l') (k := k)
        obtain ⟨v, hvv⟩ : ∃ v, l.getD k v0 = v := ⟨_, rfl⟩
        obtain ⟨v', hvv'⟩ : ∃ v, l'.getD k v0 = v := ⟨_, rfl⟩
        rw [hvv] at a0 a1 a2 a3 a4 hpa
        rw [hvv'] at a0' a1' a2' a3' a4' hpa'
        rw [hvv, hvv'] at hy hz
        clear hvv hvv'
        obtain ⟨s, vn, vp, vg, vx⟩ := v
        obtain ⟨s', vn', vp', vg', vx'⟩ := v'
        simp only at a0 a1 a2 a3 a4 a0' a1' a2' a3' a4'
        obtain ⟨hps, _, hpb, _, _⟩ := hpa
        obtain ⟨hps', _, hpb', _, _⟩ := hpa'
        simp only at hps hpb hps' hpb'
        obtain ⟨kp, hkp⟩ : ∃ kp, vp.length = kp := ⟨_, rfl⟩
        obtain ⟨kp', hkp'⟩ : ∃ kp, vp'.length = kp := ⟨_, rfl⟩
        rw [hkp] at a2 hpb
        rw [hkp'] at a2' hpb'
        have h1 := ref_sameone_any A1 A1' c1 c1' kp kp' s vn s' vn' vp vp' vg vg' vx vx' hkp hkp' wr.drew (hps.more (B' := wr.drew.heap.size) (by exact hsz)) (hps'.more (B' := wr.drew.heap.size) (by exact hsz)) hpb hpb'
        obtain ⟨q, hq⟩ : ∃ q, decide ((⟨s, vn, vp, vg, vx⟩ : Vr) = ⟨s', vn', vp', vg', vx'⟩) = q := ⟨_, rfl⟩
        rw [hq] at h1
        have HN := Lib.hid (show (q = true → l.take (k + 1) = l'.take (k + 1)) ∧ (q = false → R = false) from ⟨fun h => hy (of_decide_eq_true (hq.trans h)), fun h => by
          rw [← HV.out.2.2.2.2]
          exact decide_eq_false (hz (of_decide_eq_false (hq.trans h)))⟩)
        have H1 := Lib.hid h1
        have lb : b < wr.heap.size := by omega
        have lb' : b' < wr.heap.size := by omega
        have d1 : (0 : Int) ≤ (k : Int) := by omega
        have d2 : (k : Int) < (n : Int) := by omega
        clear h1 hy hz hq hkp hkp' hps hps' hst
        go_wp2
        go_region_held3 (fun V => V.cell? ⟨b, off + k * 5, none⟩ = some (.int .i64 s) ∧ V.cell? ⟨b, off + k * 5 + 1, none⟩ = some (.int .i64 vn) ∧ V.cell? ⟨b, off + k * 5 + 2, none⟩ = some (.slice A1 kp c1) ∧ V.cell? ⟨b, off + k * 5 + 3, none⟩ = some (.bool vg) ∧ V.cell? ⟨b, off + k * 5 + 4, none⟩ = some (.string vx) ∧
            V.cell? ⟨b', off' + k * 5, none⟩ = some (.int .i64 s') ∧ V.cell? ⟨b', off' + k * 5 + 1, none⟩ = some (.int .i64 vn') ∧ V.cell? ⟨b', off' + k * 5 + 2, none⟩ = some (.slice A1' kp' c1') ∧ V.cell? ⟨b', off' + k * 5 + 3, none⟩ = some (.bool vg') ∧ V.cell? ⟨b', off' + k * 5 + 4, none⟩ = some (.string vx'))
          (first | exact ⟨a0, a1, a2, a3, a4, a0', a1', a2', a3', a4'⟩ | exact ⟨cell_below b1 lb a0, cell_below b1 lb a1, cell_below b1 lb a2, cell_below b1 lb a3, cell_below b1 lb a4, cell_below b1 lb' a0', cell_below b1 lb' a1', cell_below b1 lb' a2', cell_below b1 lb' a3', cell_below b1 lb' a4'⟩)
          (first | (go_at_call 43; refine H1.out.mono ?_; rintro e w1 ⟨rfl, b1⟩))
        have BE : Below w.heap.size w w1 := hb1.drew.trans (Below.mono b1 (by exact hsz))
        clear b1 H1 hb1
        cases q
        · have HF := Lib.hid (HN.out.2 rfl)
          clear HN
          go_wp2
          go_ret
          exact ⟨by rw [HF.out]; rfl, BE⟩
        · have HF := Lib.hid (HN.out.1 rfl)
          clear HN
          go_wp2
          exact ⟨⟨k + 1, rfl, by omega, BE, HF⟩, by simp only [intOf]; omega⟩
      · have hkn : k = n := by omega
        subst hkn
        have HF := Lib.hid (show R = true by
          rw [← HV.out.2.2.2.2]
          refine decide_eq_true ?_
          have := hst.out
          rwa [List.take_of_length_le (by have := HV.out.2.2.1; omega), List.take_of_length_le (by have := HV.out.2.2.2.1; omega)] at this)
        clear hst
        go_wp2
        go_ret
        exact ⟨by rw [HF.out]; rfl, hb1⟩
  · have HF := Lib.hid (show R = false by rw [← hR]; exact decide_eq_false fun h => hlen (by rw [← hn, ← hn', h]))
    clear hv hv' hn hn' hR
    go_enter Try.func23, Try.ntmps23
    go_wp2
    go_ret
    exact ⟨by rw [HF.out]; rfl, Below.refl _ _⟩
end Vers
end Go.Proofs.Ytbhidndgnldheaa
