/-
  What is right in layer 6: messages.
-/
import Derived.Test.YtegiigeelcnemaaGreatCodeRight
namespace Go.Proofs.YtegiigeelcnemaaGreat
namespace Code
open Go.RowKit Num Span Vers
attribute [local go_sem ↓] Go.wp_at_zero Go.wp_at_succ

theorem Bn.below {B M : Nat} {t : TypeId} {cs : List Value} {w w' : World} (h : Bn B t cs w) (hb : Below M w w') (hM : B < M) : Bn B t cs w' := (hb.block B hM).trans h
instance : DecidablePred okM := by
  rintro ⟨kind, fr, to_, id, n, for_, code, key, recs, vec, path, hashes, route⟩
  unfold okM
  infer_instance

set_option maxRecDepth 100000 in
set_option maxHeartbeats 4000000 in
theorem rightmsg_any (kind f1 f2 t1 t2 id n for_ code : Int) (key : ByteArray) (recs : List Rc) (vec path hashes route : List Int) (A8 A9 A10 A11 A12 : Option Addr) (c8 c9 c10 c11 c12 n8 n9 n10 n11 n12 : Nat)
    (e8 : recs.length = n8) (e9 : vec.length = n9) (e10 : path.length = n10) (e11 : hashes.length = n11) (e12 : route.length = n12) (b8 : n8 ≤ 140737488355328) (b9 : key.size ≤ 140737488355328) (w : World)
    (hr : MsgI w 0 w.heap.size (kind, (f1, f2), (t1, t2), id, n, for_, code, key, recs, vec, path, hashes, route) ((A8, c8), (A9, c9), (A10, c10), (A11, c11), (A12, c12))) :
    Calls Tryz.prog 16 #[.agg #[.int .i64 kind, .int .i64 f1, .int .i64 f2, .int .i64 t1, .int .i64 t2, .int .i64 id, .int .i64 n, .int .i64 for_, .int .i64 code, .string key, .slice A8 n8 c8, .slice A9 n9 c9, .slice A10 n10 c10, .slice A11 n11 c11, .slice A12 n12 c12]] w (fun e w' => e = .returned (.bool (decide (okM (kind, (f1, f2), (t1, t2), id, n, for_, code, key, recs, vec, path, hashes, route)))) ∧ Below w.heap.size w w') := by
  obtain ⟨R, hR⟩ : ∃ R, decide (okM (kind, (f1, f2), (t1, t2), id, n, for_, code, key, recs, vec, path, hashes, route)) = R := ⟨_, rfl⟩
  rw [hR]
  obtain ⟨i8, i9, i10, i11, i12⟩ := hr
  obtain ⟨W, hW⟩ : ∃ W, w.alloc (.cells #[.int .i64 kind, .int .i64 f1, .int .i64 f2, .int .i64 t1, .int .i64 t2, .int .i64 id, .int .i64 n, .int .i64 for_, .int .i64 code, .string key, .slice A8 n8 c8, .slice A9 n9 c9, .slice A10 n10 c10, .slice A11 n11 c11, .slice A12 n12 c12] 45) = W := ⟨_, rfl⟩
  obtain ⟨B, hBe⟩ : ∃ B, w.heap.size = B := ⟨_, rfl⟩
  have hB : Bn B 45 [.int .i64 kind, .int .i64 f1, .int .i64 f2, .int .i64 t1, .int .i64 t2, .int .i64 id, .int .i64 n, .int .i64 for_, .int .i64 code, .string key, .slice A8 n8 c8, .slice A9 n9 c9, .slice A10 n10 c10, .slice A11 n11 c11, .slice A12 n12 c12] W := by rw [← hW, ← hBe]; exact heap_alloc_new _ _
  have hb : Below B w W := by rw [← hW, ← hBe]; exact (Below.refl _ w).alloc (Nat.le_refl _) _
  rw [hBe] at i8 i9 i10 i11 i12 ⊢
  have HI := Lib.hid (And.intro i8 (And.intro i9 (And.intro i10 (And.intro i11 (And.intro i12 (And.intro e8 (And.intro e9 (And.intro e10 (And.intro e11 e12)))))))))
  have HRR := Lib.hid hR
  clear i8 i9 i10 i11 i12 hR e8 e9 e10 e11 e12
  have k0 := hB.cell 0
  have k1 := hB.cell 1
  have k2 := hB.cell 2
  have k3 := hB.cell 3
  have k4 := hB.cell 4
  have k5 := hB.cell 5
  have k6 := hB.cell 6
  have k7 := hB.cell 7
  have k8 := hB.cell 8
  have k9 := hB.cell 9
  have k10 := hB.cell 10
  have k11 := hB.cell 11
  have k12 := hB.cell 12
  have k13 := hB.cell 13
  have k14 := hB.cell 14
  simp only [List.getElem?_cons_zero, List.getElem?_cons_succ] at k0 k1 k2 k3 k4 k5 k6 k7 k8 k9 k10 k11 k12 k13 k14
  by_cases s0 : 1 ≤ kind
  case neg =>
    have HR := Lib.hid (show R = false by rw [← HRR.out]; exact decide_eq_false fun h => by have := h.1.1; omega)
    have HE := Lib.hid hb
    clear hB hb
    go_enter Tryz.func16, Tryz.ntmps16
    go_wp2_with fail
    go_ret
    exact ⟨by rw [HR.out]; rfl, HE.out⟩
  by_cases s1 : kind ≤ 17
  case neg =>
    have HR := Lib.hid (show R = false by rw [← HRR.out]; exact decide_eq_false fun h => by have := h.1.2; omega)
    have HE := Lib.hid hb
    clear hB hb
    go_enter Tryz.func16, Tryz.ntmps16
    go_wp2_with fail
    go_ret
    exact ⟨by rw [HR.out]; rfl, HE.out⟩
  have h := rplace_any f1 f2 W
  have HSZ := Lib.hid (And.intro hB hb)
  clear hB hb
  obtain ⟨D, hD⟩ : ∃ D, decide (okA (f1, f2)) = D := ⟨_, rfl⟩
  rw [hD] at h
  have H := Lib.hid h
  have HD0 := Lib.hid hD
  clear h hD
  go_enter Tryz.func16, Tryz.ntmps16
  go_wp2_with fail
  refine H.out.mono ?_
  rintro e w1 ⟨rfl, hb1⟩
  obtain ⟨hB0, hb0⟩ := HSZ.out
  have hB := hB0.below hb1 hB0.lt
  have hb := hb0.trans (hb1.mono (by have := hb0.size; omega))
  clear hB0 hb0 hb1 H HSZ
  rcases D with _ | _
  case false =>
    have HR := Lib.hid (show R = false by rw [← HRR.out]; exact decide_eq_false fun h => of_decide_eq_false HD0.out h.2.1)
    have HE := Lib.hid hb
    clear hB hb
    go_wp2_with fail
    go_ret
    exact ⟨by rw [HR.out]; rfl, HE.out⟩
  have C0 := Lib.hid (of_decide_eq_true HD0.out)
  clear HD0
  have k0 := hB.cell 0
  have k1 := hB.cell 1
  have k2 := hB.cell 2
  have k3 := hB.cell 3
  have k4 := hB.cell 4
  have k5 := hB.cell 5
  have k6 := hB.cell 6
  have k7 := hB.cell 7
  have k8 := hB.cell 8
  have k9 := hB.cell 9
  have k10 := hB.cell 10
  have k11 := hB.cell 11
  have k12 := hB.cell 12
  have k13 := hB.cell 13
  have k14 := hB.cell 14
  simp only [List.getElem?_cons_zero, List.getElem?_cons_succ] at k0 k1 k2 k3 k4 k5 k6 k7 k8 k9 k10 k11 k12 k13 k14
  have h := rplace_any t1 t2 w1
  have HSZ := Lib.hid (And.intro hB hb)
  clear hB hb
  obtain ⟨D, hD⟩ : ∃ D, decide (okA (t1, t2)) = D := ⟨_, rfl⟩
  rw [hD] at h
  have H := Lib.hid h
  have HD1 := Lib.hid hD
  clear h hD
  go_wp2_with fail
  refine H.out.mono ?_
  rintro e w2 ⟨rfl, hb1⟩
  obtain ⟨hB0, hb0⟩ := HSZ.out
  have hB := hB0.below hb1 hB0.lt
  have hb := hb0.trans (hb1.mono (by have := hb0.size; omega))
  clear hB0 hb0 hb1 H HSZ
  rcases D with _ | _
  case false =>
    have HR := Lib.hid (show R = false by rw [← HRR.out]; exact decide_eq_false fun h => of_decide_eq_false HD1.out h.2.2.1)
    have HE := Lib.hid hb
    clear hB hb
    go_wp2_with fail
    go_ret
    exact ⟨by rw [HR.out]; rfl, HE.out⟩
  have C1 := Lib.hid (of_decide_eq_true HD1.out)
  clear HD1
  have k0 := hB.cell 0
  have k1 := hB.cell 1
  have k2 := hB.cell 2
  have k3 := hB.cell 3
  have k4 := hB.cell 4
  have k5 := hB.cell 5
  have k6 := hB.cell 6
  have k7 := hB.cell 7
  have k8 := hB.cell 8
  have k9 := hB.cell 9
  have k10 := hB.cell 10
  have k11 := hB.cell 11
  have k12 := hB.cell 12
  have k13 := hB.cell 13
  have k14 := hB.cell 14
  simp only [List.getElem?_cons_zero, List.getElem?_cons_succ] at k0 k1 k2 k3 k4 k5 k6 k7 k8 k9 k10 k11 k12 k13 k14
  by_cases s2 : 0 ≤ id
  case neg =>
    have HR := Lib.hid (show R = false by rw [← HRR.out]; exact decide_eq_false fun h => by have := h.2.2.2.1; omega)
    have HE := Lib.hid hb
    clear hB hb
    go_wp2_with fail
    go_ret
    exact ⟨by rw [HR.out]; rfl, HE.out⟩
  by_cases s3 : 0 ≤ n
  case neg =>
    have HR := Lib.hid (show R = false by rw [← HRR.out]; exact decide_eq_false fun h => by have := h.2.2.2.2.1; omega)
    have HE := Lib.hid hb
    clear hB hb
    go_wp2_with fail
    go_ret
    exact ⟨by rw [HR.out]; rfl, HE.out⟩
  by_cases s4 : 0 ≤ for_
  case neg =>
    have HR := Lib.hid (show R = false by rw [← HRR.out]; exact decide_eq_false fun h => by have := h.2.2.2.2.2.1.1; omega)
    have HE := Lib.hid hb
    clear hB hb
    go_wp2_with fail
    go_ret
    exact ⟨by rw [HR.out]; rfl, HE.out⟩
  by_cases s5 : for_ ≤ 8
  case neg =>
    have HR := Lib.hid (show R = false by rw [← HRR.out]; exact decide_eq_false fun h => by have := h.2.2.2.2.2.1.2; omega)
    have HE := Lib.hid hb
    clear hB hb
    go_wp2_with fail
    go_ret
    exact ⟨by rw [HR.out]; rfl, HE.out⟩
  by_cases s6 : 0 ≤ code
  case neg =>
    have HR := Lib.hid (show R = false by rw [← HRR.out]; exact decide_eq_false fun h => by have := h.2.2.2.2.2.2.1.1; omega)
    have HE := Lib.hid hb
    clear hB hb
    go_wp2_with fail
    go_ret
    exact ⟨by rw [HR.out]; rfl, HE.out⟩
  by_cases s7 : code ≤ 999
  case neg =>
    have HR := Lib.hid (show R = false by rw [← HRR.out]; exact decide_eq_false fun h => by have := h.2.2.2.2.2.2.1.2; omega)
    have HE := Lib.hid hb
    clear hB hb
    go_wp2_with fail
    go_ret
    exact ⟨by rw [HR.out]; rfl, HE.out⟩
  by_cases s8 : (key.size : Int) ≤ 32
  case neg =>
    have HR := Lib.hid (show R = false by rw [← HRR.out]; exact decide_eq_false fun h => by have := h.2.2.2.2.2.2.2.1; omega)
    have HE := Lib.hid hb
    clear hB hb
    go_wp2_with fail
    go_ret
    exact ⟨by rw [HR.out]; rfl, HE.out⟩
  have h := allrecs_any A8 c8 n8 recs HI.out.2.2.2.2.2.1 b8 w2 ((HI.out.1.below hb).more (by have := hb.size; omega))
  have HSZ := Lib.hid (And.intro hB hb)
  clear hB hb
  obtain ⟨D, hD⟩ : ∃ D, decide (∀ x ∈ recs, okR x) = D := ⟨_, rfl⟩
  rw [hD] at h
  have H := Lib.hid h
  have HD2 := Lib.hid hD
  clear h hD
  go_wp2_with fail
  refine H.out.mono ?_
  rintro e w3 ⟨rfl, hb1⟩
  obtain ⟨hB0, hb0⟩ := HSZ.out
  have hB := hB0.below hb1 hB0.lt
  have hb := hb0.trans (hb1.mono (by have := hb0.size; omega))
  clear hB0 hb0 hb1 H HSZ
  rcases D with _ | _
  case false =>
    have HR := Lib.hid (show R = false by rw [← HRR.out]; exact decide_eq_false fun h => of_decide_eq_false HD2.out h.2.2.2.2.2.2.2.2.1)
    have HE := Lib.hid hb
    clear hB hb
    go_wp2_with fail
    go_ret
    exact ⟨by rw [HR.out]; rfl, HE.out⟩
  have C2 := Lib.hid (of_decide_eq_true HD2.out)
  clear HD2
  have k0 := hB.cell 0
  have k1 := hB.cell 1
  have k2 := hB.cell 2
  have k3 := hB.cell 3
  have k4 := hB.cell 4
  have k5 := hB.cell 5
  have k6 := hB.cell 6
  have k7 := hB.cell 7
  have k8 := hB.cell 8
  have k9 := hB.cell 9
  have k10 := hB.cell 10
  have k11 := hB.cell 11
  have k12 := hB.cell 12
  have k13 := hB.cell 13
  have k14 := hB.cell 14
  simp only [List.getElem?_cons_zero, List.getElem?_cons_succ] at k0 k1 k2 k3 k4 k5 k6 k7 k8 k9 k10 k11 k12 k13 k14
  by_cases s9 : (n9 : Int) ≤ 16
  case neg =>
    have HR := Lib.hid (show R = false by rw [← HRR.out]; exact decide_eq_false fun h => by have hx := HI.out.2.2.2.2.2.2.1; have := h.2.2.2.2.2.2.2.2.2.1.1; omega)
    have HE := Lib.hid hb
    clear hB hb
    go_wp2_with fail
    go_ret
    exact ⟨by rw [HR.out]; rfl, HE.out⟩
  have h := allcounts_any A9 c9 n9 vec HI.out.2.2.2.2.2.2.1 (by omega) w3 ((HI.out.2.1.below hb).more (by have := hb.size; omega))
  have HSZ := Lib.hid (And.intro hB hb)
  clear hB hb
  obtain ⟨D, hD⟩ : ∃ D, decide (∀ x ∈ vec, 0 ≤ x ∧ x ≤ 4611686018427387904) = D := ⟨_, rfl⟩
  rw [hD] at h
  have H := Lib.hid h
  have HD3 := Lib.hid hD
  clear h hD
  go_wp2_with fail
  refine H.out.mono ?_
  rintro e w4 ⟨rfl, hb1⟩
  obtain ⟨hB0, hb0⟩ := HSZ.out
  have hB := hB0.below hb1 hB0.lt
  have hb := hb0.trans (hb1.mono (by have := hb0.size; omega))
  clear hB0 hb0 hb1 H HSZ
  rcases D with _ | _
  case false =>
    have HR := Lib.hid (show R = false by rw [← HRR.out]; exact decide_eq_false fun h => of_decide_eq_false HD3.out h.2.2.2.2.2.2.2.2.2.1.2)
    have HE := Lib.hid hb
    clear hB hb
    go_wp2_with fail
    go_ret
    exact ⟨by rw [HR.out]; rfl, HE.out⟩
  have C3 := Lib.hid (of_decide_eq_true HD3.out)
  clear HD3
  have k0 := hB.cell 0
  have k1 := hB.cell 1
  have k2 := hB.cell 2
  have k3 := hB.cell 3
  have k4 := hB.cell 4
  have k5 := hB.cell 5
  have k6 := hB.cell 6
  have k7 := hB.cell 7
  have k8 := hB.cell 8
  have k9 := hB.cell 9
  have k10 := hB.cell 10
  have k11 := hB.cell 11
  have k12 := hB.cell 12
  have k13 := hB.cell 13
  have k14 := hB.cell 14
  simp only [List.getElem?_cons_zero, List.getElem?_cons_succ] at k0 k1 k2 k3 k4 k5 k6 k7 k8 k9 k10 k11 k12 k13 k14
  by_cases s10 : (n10 : Int) ≤ 2
  case neg =>
    have HR := Lib.hid (show R = false by rw [← HRR.out]; exact decide_eq_false fun h => by have hx := HI.out.2.2.2.2.2.2.2.1; have := h.2.2.2.2.2.2.2.2.2.2.1.1; omega)
    have HE := Lib.hid hb
    clear hB hb
    go_wp2_with fail
    go_ret
    exact ⟨by rw [HR.out]; rfl, HE.out⟩
  have h := alldigits_any A10 c10 n10 path HI.out.2.2.2.2.2.2.2.1 (by omega) w4 ((HI.out.2.2.1.below hb).more (by have := hb.size; omega))
  have HSZ := Lib.hid (And.intro hB hb)
  clear hB hb
  obtain ⟨D, hD⟩ : ∃ D, decide (∀ x ∈ path, 0 ≤ x ∧ x < 16) = D := ⟨_, rfl⟩
  rw [hD] at h
  have H := Lib.hid h
  have HD4 := Lib.hid hD
  clear h hD
  go_wp2_with fail
  refine H.out.mono ?_
  rintro e w5 ⟨rfl, hb1⟩
  obtain ⟨hB0, hb0⟩ := HSZ.out
  have hB := hB0.below hb1 hB0.lt
  have hb := hb0.trans (hb1.mono (by have := hb0.size; omega))
  clear hB0 hb0 hb1 H HSZ
  rcases D with _ | _
  case false =>
    have HR := Lib.hid (show R = false by rw [← HRR.out]; exact decide_eq_false fun h => of_decide_eq_false HD4.out h.2.2.2.2.2.2.2.2.2.2.1.2)
    have HE := Lib.hid hb
    clear hB hb
    go_wp2_with fail
    go_ret
    exact ⟨by rw [HR.out]; rfl, HE.out⟩
  have C4 := Lib.hid (of_decide_eq_true HD4.out)
  clear HD4
  have k0 := hB.cell 0
  have k1 := hB.cell 1
  have k2 := hB.cell 2
  have k3 := hB.cell 3
  have k4 := hB.cell 4
  have k5 := hB.cell 5
  have k6 := hB.cell 6
  have k7 := hB.cell 7
  have k8 := hB.cell 8
  have k9 := hB.cell 9
  have k10 := hB.cell 10
  have k11 := hB.cell 11
  have k12 := hB.cell 12
  have k13 := hB.cell 13
  have k14 := hB.cell 14
  simp only [List.getElem?_cons_zero, List.getElem?_cons_succ] at k0 k1 k2 k3 k4 k5 k6 k7 k8 k9 k10 k11 k12 k13 k14
  by_cases s11 : (n11 : Int) ≤ 16
  case neg =>
    have HR := Lib.hid (show R = false by rw [← HRR.out]; exact decide_eq_false fun h => by have hx := HI.out.2.2.2.2.2.2.2.2.1; have := h.2.2.2.2.2.2.2.2.2.2.2.1; omega)
    have HE := Lib.hid hb
    clear hB hb
    go_wp2_with fail
    go_ret
    exact ⟨by rw [HR.out]; rfl, HE.out⟩
  by_cases s12 : (n12 : Int) ≤ 16
  case neg =>
    have HR := Lib.hid (show R = false by rw [← HRR.out]; exact decide_eq_false fun h => by have hx := HI.out.2.2.2.2.2.2.2.2.2; have := h.2.2.2.2.2.2.2.2.2.2.2.2.1; omega)
    have HE := Lib.hid hb
    clear hB hb
    go_wp2_with fail
    go_ret
    exact ⟨by rw [HR.out]; rfl, HE.out⟩
  have h := allsites_any A12 c12 n12 route HI.out.2.2.2.2.2.2.2.2.2 (by omega) w5 ((HI.out.2.2.2.2.1.below hb).more (by have := hb.size; omega))
  have HSZ := Lib.hid (And.intro hB hb)
  clear hB hb
  obtain ⟨D, hD⟩ : ∃ D, decide (∀ x ∈ route, 1 ≤ x ∧ x ≤ 16) = D := ⟨_, rfl⟩
  rw [hD] at h
  have H := Lib.hid h
  have HD5 := Lib.hid hD
  clear h hD
  go_wp2_with fail
  refine H.out.mono ?_
  rintro e w6 ⟨rfl, hb1⟩
  obtain ⟨hB0, hb0⟩ := HSZ.out
  have hB := hB0.below hb1 hB0.lt
  have hb := hb0.trans (hb1.mono (by have := hb0.size; omega))
  clear hB0 hb0 hb1 H HSZ
  have hx8 := HI.out.2.2.2.2.2.2.1
  have hx9 := HI.out.2.2.2.2.2.2.2.1
  have hx10 := HI.out.2.2.2.2.2.2.2.2.1
  have hx11 := HI.out.2.2.2.2.2.2.2.2.2
  have hRD : R = D := by
    rw [← HRR.out, ← HD5.out]
    exact decide_eq_decide.2 ⟨fun h => h.2.2.2.2.2.2.2.2.2.2.2.2.2, fun h => ⟨⟨s0, s1⟩, C0.out, C1.out, s2, s3, ⟨s4, s5⟩, ⟨s6, s7⟩, by omega, C2.out, ⟨by omega, C3.out⟩, ⟨by omega, C4.out⟩, by omega, ⟨by omega, h⟩⟩⟩
  have HE := Lib.hid hb
  clear hB hb hx8 hx9 hx10 hx11
  go_wp2_with fail
  go_ret
  exact ⟨by rw [hRD]; rfl, HE.out⟩
end Code
end Go.Proofs.YtegiigeelcnemaaGreat
