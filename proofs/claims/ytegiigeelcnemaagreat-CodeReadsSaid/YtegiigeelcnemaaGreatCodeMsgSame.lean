/-
  firthref06.Same: a message is the same as itself.
-/
import Derived.Test.YtegiigeelcnemaaGreatCodeSame
import Derived.Test.YtegiigeelcnemaaGreatCodeRightMsg
namespace Go.Proofs.YtegiigeelcnemaaGreat
namespace Code
open Go.RowKit Num Span Vers
attribute [local go_sem ↓] Go.wp_at_zero Go.wp_at_succ

set_option maxRecDepth 100000 in
set_option maxHeartbeats 4000000 in
theorem same_any (kind f1 f2 t1 t2 id nn for_ code : Int) (key : ByteArray) (recs : List Rc) (vec path hashes route : List Int) (A8 A9 A10 A11 A12 A8' A9' A10' A11' A12' : Option Addr) (c8 c9 c10 c11 c12 c8' c9' c10' c11' c12' n8 n9 n10 n11 n12 : Nat)
    (e8 : recs.length = n8) (e9 : vec.length = n9) (e10 : path.length = n10) (e11 : hashes.length = n11) (e12 : route.length = n12) (b8 : n8 ≤ 140737488355328) (b9 : n9 ≤ 140737488355328) (b10 : n10 ≤ 140737488355328) (b11 : n11 ≤ 140737488355328) (b12 : n12 ≤ 140737488355328) (w : World)
    (hr : MsgI w 0 w.heap.size (kind, (f1, f2), (t1, t2), id, nn, for_, code, key, recs, vec, path, hashes, route) ((A8, c8), (A9, c9), (A10, c10), (A11, c11), (A12, c12))) (hr' : MsgI w 0 w.heap.size (kind, (f1, f2), (t1, t2), id, nn, for_, code, key, recs, vec, path, hashes, route) ((A8', c8'), (A9', c9'), (A10', c10'), (A11', c11'), (A12', c12'))) :
    Calls Tryz.prog 20 #[.agg #[.int .i64 kind, .int .i64 f1, .int .i64 f2, .int .i64 t1, .int .i64 t2, .int .i64 id, .int .i64 nn, .int .i64 for_, .int .i64 code, .string key, .slice A8 n8 c8, .slice A9 n9 c9, .slice A10 n10 c10, .slice A11 n11 c11, .slice A12 n12 c12], .agg #[.int .i64 kind, .int .i64 f1, .int .i64 f2, .int .i64 t1, .int .i64 t2, .int .i64 id, .int .i64 nn, .int .i64 for_, .int .i64 code, .string key, .slice A8' n8 c8', .slice A9' n9 c9', .slice A10' n10 c10', .slice A11' n11 c11', .slice A12' n12 c12']] w (fun e w' => e = .returned (.bool true) ∧ Below w.heap.size w w') := by
  obtain ⟨i8, i9, i10, i11, i12⟩ := hr
  obtain ⟨j8, j9, j10, j11, j12⟩ := hr'
  obtain ⟨W, hW⟩ : ∃ W, (w.alloc (.cells #[.int .i64 kind, .int .i64 f1, .int .i64 f2, .int .i64 t1, .int .i64 t2, .int .i64 id, .int .i64 nn, .int .i64 for_, .int .i64 code, .string key, .slice A8 n8 c8, .slice A9 n9 c9, .slice A10 n10 c10, .slice A11 n11 c11, .slice A12 n12 c12] 45)).alloc (.cells #[.int .i64 kind, .int .i64 f1, .int .i64 f2, .int .i64 t1, .int .i64 t2, .int .i64 id, .int .i64 nn, .int .i64 for_, .int .i64 code, .string key, .slice A8' n8 c8', .slice A9' n9 c9', .slice A10' n10 c10', .slice A11' n11 c11', .slice A12' n12 c12'] 45) = W := ⟨_, rfl⟩
  obtain ⟨B, hBe⟩ : ∃ B, w.heap.size = B := ⟨_, rfl⟩
  have hB : Bn B 45 [.int .i64 kind, .int .i64 f1, .int .i64 f2, .int .i64 t1, .int .i64 t2, .int .i64 id, .int .i64 nn, .int .i64 for_, .int .i64 code, .string key, .slice A8 n8 c8, .slice A9 n9 c9, .slice A10 n10 c10, .slice A11 n11 c11, .slice A12 n12 c12] W := by rw [← hW, ← hBe]; exact Bn.kept (heap_alloc_new _ _) (World.grownBy_alloc _ _ none) (by simp)
  have hB' : Bn (B + 1) 45 [.int .i64 kind, .int .i64 f1, .int .i64 f2, .int .i64 t1, .int .i64 t2, .int .i64 id, .int .i64 nn, .int .i64 for_, .int .i64 code, .string key, .slice A8' n8 c8', .slice A9' n9 c9', .slice A10' n10 c10', .slice A11' n11 c11', .slice A12' n12 c12'] W := by
    rw [← hW, ← hBe]
    have h := heap_alloc_new (w.alloc (.cells #[.int .i64 kind, .int .i64 f1, .int .i64 f2, .int .i64 t1, .int .i64 t2, .int .i64 id, .int .i64 nn, .int .i64 for_, .int .i64 code, .string key, .slice A8 n8 c8, .slice A9 n9 c9, .slice A10 n10 c10, .slice A11 n11 c11, .slice A12 n12 c12] 45)) (.cells #[.int .i64 kind, .int .i64 f1, .int .i64 f2, .int .i64 t1, .int .i64 t2, .int .i64 id, .int .i64 nn, .int .i64 for_, .int .i64 code, .string key, .slice A8' n8 c8', .slice A9' n9 c9', .slice A10' n10 c10', .slice A11' n11 c11', .slice A12' n12 c12'] 45)
    rw [World.size_alloc] at h
    exact h
  have hb : Below B w W := by rw [← hW, ← hBe]; exact ((Below.refl _ w).alloc (Nat.le_refl _) _).alloc (by simp) _
  rw [hBe] at i8 i9 i10 i11 i12 j8 j9 j10 j11 j12 ⊢
  have HI := Lib.hid (And.intro i8 (And.intro i9 (And.intro i10 (And.intro i11 i12))))
  have HJ := Lib.hid (And.intro j8 (And.intro j9 (And.intro j10 (And.intro j11 j12))))
  have HE := Lib.hid (And.intro e8 (And.intro e9 (And.intro e10 (And.intro e11 e12))))
  clear i8 i9 i10 i11 i12 j8 j9 j10 j11 j12 e8 e9 e10 e11 e12
  have k0 := hB.cell 0
  have k1 := hB.cell 1
  have k2 := hB.cell 2
  have k3 := hB.cell 3
  have k4 := hB.cell 4
  have k5 := hB.cell 5
  have k6 := hB.cell 6
  have k7 := hB.cell 7
  have k8 := hB.cell 8
  have k9 := hB.cell 9
  have k10 := hB.cell 10
  have k11 := hB.cell 11
  have k12 := hB.cell 12
  have k13 := hB.cell 13
  have k14 := hB.cell 14
  simp only [List.getElem?_cons_zero, List.getElem?_cons_succ] at k0 k1 k2 k3 k4 k5 k6 k7 k8 k9 k10 k11 k12 k13 k14
  have y0 := hB'.cell 0
  have y1 := hB'.cell 1
  have y2 := hB'.cell 2
  have y3 := hB'.cell 3
  have y4 := hB'.cell 4
  have y5 := hB'.cell 5
  have y6 := hB'.cell 6
  have y7 := hB'.cell 7
  have y8 := hB'.cell 8
  have y9 := hB'.cell 9
  have y10 := hB'.cell 10
  have y11 := hB'.cell 11
  have y12 := hB'.cell 12
  have y13 := hB'.cell 13
  have y14 := hB'.cell 14
  simp only [List.getElem?_cons_zero, List.getElem?_cons_succ] at y0 y1 y2 y3 y4 y5 y6 y7 y8 y9 y10 y11 y12 y13 y14
  have h := srecs_any A8 A8' c8 c8' n8 n8 recs recs HE.out.1 HE.out.1 W ((HI.out.1.below hb).more (by have := hb.size; omega)) ((HJ.out.1.below hb).more (by have := hb.size; omega)) b8 b8
  rw [decide_eq_true (rfl : recs = recs)] at h
  have H := Lib.hid h
  have HS := Lib.hid (And.intro hB (And.intro hB' hb))
  clear h hB hB' hb
  go_enter Tryz.func20, Tryz.ntmps20
  go_wp2_with fail
  refine H.out.mono ?_
  rintro e w1 ⟨rfl, hb1⟩
  obtain ⟨hB0, hB0', hb0⟩ := HS.out
  have hB := hB0.below hb1 hB0.lt
  have hB' := hB0'.below hb1 hB0'.lt
  have hb := hb0.trans (hb1.mono (by have := hb0.size; omega))
  clear hB0 hB0' hb0 hb1 H HS
  have k0 := hB.cell 0
  have k1 := hB.cell 1
  have k2 := hB.cell 2
  have k3 := hB.cell 3
  have k4 := hB.cell 4
  have k5 := hB.cell 5
  have k6 := hB.cell 6
  have k7 := hB.cell 7
  have k8 := hB.cell 8
  have k9 := hB.cell 9
  have k10 := hB.cell 10
  have k11 := hB.cell 11
  have k12 := hB.cell 12
  have k13 := hB.cell 13
  have k14 := hB.cell 14
  simp only [List.getElem?_cons_zero, List.getElem?_cons_succ] at k0 k1 k2 k3 k4 k5 k6 k7 k8 k9 k10 k11 k12 k13 k14
  have y0 := hB'.cell 0
  have y1 := hB'.cell 1
  have y2 := hB'.cell 2
  have y3 := hB'.cell 3
  have y4 := hB'.cell 4
  have y5 := hB'.cell 5
  have y6 := hB'.cell 6
  have y7 := hB'.cell 7
  have y8 := hB'.cell 8
  have y9 := hB'.cell 9
  have y10 := hB'.cell 10
  have y11 := hB'.cell 11
  have y12 := hB'.cell 12
  have y13 := hB'.cell 13
  have y14 := hB'.cell 14
  simp only [List.getElem?_cons_zero, List.getElem?_cons_succ] at y0 y1 y2 y3 y4 y5 y6 y7 y8 y9 y10 y11 y12 y13 y14
  have h := svec_any A9 A9' c9 c9' n9 n9 vec vec HE.out.2.1 HE.out.2.1 w1 ((HI.out.2.1.below hb).more (by have := hb.size; omega)) ((HJ.out.2.1.below hb).more (by have := hb.size; omega)) b9 b9
  rw [decide_eq_true (rfl : vec = vec)] at h
  have H := Lib.hid h
  have HS := Lib.hid (And.intro hB (And.intro hB' hb))
  clear h hB hB' hb
  go_wp2_with fail
  refine H.out.mono ?_
  rintro e w2 ⟨rfl, hb1⟩
  obtain ⟨hB0, hB0', hb0⟩ := HS.out
  have hB := hB0.below hb1 hB0.lt
  have hB' := hB0'.below hb1 hB0'.lt
  have hb := hb0.trans (hb1.mono (by have := hb0.size; omega))
  clear hB0 hB0' hb0 hb1 H HS
  have k0 := hB.cell 0
  have k1 := hB.cell 1
  have k2 := hB.cell 2
  have k3 := hB.cell 3
  have k4 := hB.cell 4
  have k5 := hB.cell 5
  have k6 := hB.cell 6
  have k7 := hB.cell 7
  have k8 := hB.cell 8
  have k9 := hB.cell 9
  have k10 := hB.cell 10
  have k11 := hB.cell 11
  have k12 := hB.cell 12
  have k13 := hB.cell 13
  have k14 := hB.cell 14
  simp only [List.getElem?_cons_zero, List.getElem?_cons_succ] at k0 k1 k2 k3 k4 k5 k6 k7 k8 k9 k10 k11 k12 k13 k14
  have y0 := hB'.cell 0
  have y1 := hB'.cell 1
  have y2 := hB'.cell 2
  have y3 := hB'.cell 3
  have y4 := hB'.cell 4
  have y5 := hB'.cell 5
  have y6 := hB'.cell 6
  have y7 := hB'.cell 7
  have y8 := hB'.cell 8
  have y9 := hB'.cell 9
  have y10 := hB'.cell 10
  have y11 := hB'.cell 11
  have y12 := hB'.cell 12
  have y13 := hB'.cell 13
  have y14 := hB'.cell 14
  simp only [List.getElem?_cons_zero, List.getElem?_cons_succ] at y0 y1 y2 y3 y4 y5 y6 y7 y8 y9 y10 y11 y12 y13 y14
  have h := sints_any A10 A10' c10 c10' n10 n10 path path HE.out.2.2.1 HE.out.2.2.1 w2 ((HI.out.2.2.1.below hb).more (by have := hb.size; omega)) ((HJ.out.2.2.1.below hb).more (by have := hb.size; omega)) b10 b10
  rw [decide_eq_true (rfl : path = path)] at h
  have H := Lib.hid h
  have HS := Lib.hid (And.intro hB (And.intro hB' hb))
  clear h hB hB' hb
  go_wp2_with fail
  refine H.out.mono ?_
  rintro e w3 ⟨rfl, hb1⟩
  obtain ⟨hB0, hB0', hb0⟩ := HS.out
  have hB := hB0.below hb1 hB0.lt
  have hB' := hB0'.below hb1 hB0'.lt
  have hb := hb0.trans (hb1.mono (by have := hb0.size; omega))
  clear hB0 hB0' hb0 hb1 H HS
  have k0 := hB.cell 0
  have k1 := hB.cell 1
  have k2 := hB.cell 2
  have k3 := hB.cell 3
  have k4 := hB.cell 4
  have k5 := hB.cell 5
  have k6 := hB.cell 6
  have k7 := hB.cell 7
  have k8 := hB.cell 8
  have k9 := hB.cell 9
  have k10 := hB.cell 10
  have k11 := hB.cell 11
  have k12 := hB.cell 12
  have k13 := hB.cell 13
  have k14 := hB.cell 14
  simp only [List.getElem?_cons_zero, List.getElem?_cons_succ] at k0 k1 k2 k3 k4 k5 k6 k7 k8 k9 k10 k11 k12 k13 k14
  have y0 := hB'.cell 0
  have y1 := hB'.cell 1
  have y2 := hB'.cell 2
  have y3 := hB'.cell 3
  have y4 := hB'.cell 4
  have y5 := hB'.cell 5
  have y6 := hB'.cell 6
  have y7 := hB'.cell 7
  have y8 := hB'.cell 8
  have y9 := hB'.cell 9
  have y10 := hB'.cell 10
  have y11 := hB'.cell 11
  have y12 := hB'.cell 12
  have y13 := hB'.cell 13
  have y14 := hB'.cell 14
  simp only [List.getElem?_cons_zero, List.getElem?_cons_succ] at y0 y1 y2 y3 y4 y5 y6 y7 y8 y9 y10 y11 y12 y13 y14
  have h := shashes_any A11 A11' c11 c11' n11 n11 hashes hashes HE.out.2.2.2.1 HE.out.2.2.2.1 w3 ((HI.out.2.2.2.1.below hb).more (by have := hb.size; omega)) ((HJ.out.2.2.2.1.below hb).more (by have := hb.size; omega)) b11 b11
  rw [decide_eq_true (rfl : hashes = hashes)] at h
  have H := Lib.hid h
  have HS := Lib.hid (And.intro hB (And.intro hB' hb))
  clear h hB hB' hb
  go_wp2_with fail
  refine H.out.mono ?_
  rintro e w4 ⟨rfl, hb1⟩
  obtain ⟨hB0, hB0', hb0⟩ := HS.out
  have hB := hB0.below hb1 hB0.lt
  have hB' := hB0'.below hb1 hB0'.lt
  have hb := hb0.trans (hb1.mono (by have := hb0.size; omega))
  clear hB0 hB0' hb0 hb1 H HS
  have k0 := hB.cell 0
  have k1 := hB.cell 1
  have k2 := hB.cell 2
  have k3 := hB.cell 3
  have k4 := hB.cell 4
  have k5 := hB.cell 5
  have k6 := hB.cell 6
  have k7 := hB.cell 7
  have k8 := hB.cell 8
  have k9 := hB.cell 9
  have k10 := hB.cell 10
  have k11 := hB.cell 11
  have k12 := hB.cell 12
  have k13 := hB.cell 13
  have k14 := hB.cell 14
  simp only [List.getElem?_cons_zero, List.getElem?_cons_succ] at k0 k1 k2 k3 k4 k5 k6 k7 k8 k9 k10 k11 k12 k13 k14
  have y0 := hB'.cell 0
  have y1 := hB'.cell 1
  have y2 := hB'.cell 2
  have y3 := hB'.cell 3
  have y4 := hB'.cell 4
  have y5 := hB'.cell 5
  have y6 := hB'.cell 6
  have y7 := hB'.cell 7
  have y8 := hB'.cell 8
  have y9 := hB'.cell 9
  have y10 := hB'.cell 10
  have y11 := hB'.cell 11
  have y12 := hB'.cell 12
  have y13 := hB'.cell 13
  have y14 := hB'.cell 14
  simp only [List.getElem?_cons_zero, List.getElem?_cons_succ] at y0 y1 y2 y3 y4 y5 y6 y7 y8 y9 y10 y11 y12 y13 y14
  have h := sints_any A12 A12' c12 c12' n12 n12 route route HE.out.2.2.2.2 HE.out.2.2.2.2 w4 ((HI.out.2.2.2.2.below hb).more (by have := hb.size; omega)) ((HJ.out.2.2.2.2.below hb).more (by have := hb.size; omega)) b12 b12
  rw [decide_eq_true (rfl : route = route)] at h
  have H := Lib.hid h
  have HS := Lib.hid (And.intro hB (And.intro hB' hb))
  clear h hB hB' hb
  go_wp2_with fail
  refine H.out.mono ?_
  rintro e w5 ⟨rfl, hb1⟩
  obtain ⟨hB0, hB0', hb0⟩ := HS.out
  have hB := hB0.below hb1 hB0.lt
  have hB' := hB0'.below hb1 hB0'.lt
  have hb := hb0.trans (hb1.mono (by have := hb0.size; omega))
  clear hB0 hB0' hb0 hb1 H HS
  have k0 := hB.cell 0
  have k1 := hB.cell 1
  have k2 := hB.cell 2
  have k3 := hB.cell 3
  have k4 := hB.cell 4
  have k5 := hB.cell 5
  have k6 := hB.cell 6
  have k7 := hB.cell 7
  have k8 := hB.cell 8
  have k9 := hB.cell 9
  have k10 := hB.cell 10
  have k11 := hB.cell 11
  have k12 := hB.cell 12
  have k13 := hB.cell 13
  have k14 := hB.cell 14
  simp only [List.getElem?_cons_zero, List.getElem?_cons_succ] at k0 k1 k2 k3 k4 k5 k6 k7 k8 k9 k10 k11 k12 k13 k14
  have y0 := hB'.cell 0
  have y1 := hB'.cell 1
  have y2 := hB'.cell 2
  have y3 := hB'.cell 3
  have y4 := hB'.cell 4
  have y5 := hB'.cell 5
  have y6 := hB'.cell 6
  have y7 := hB'.cell 7
  have y8 := hB'.cell 8
  have y9 := hB'.cell 9
  have y10 := hB'.cell 10
  have y11 := hB'.cell 11
  have y12 := hB'.cell 12
  have y13 := hB'.cell 13
  have y14 := hB'.cell 14
  simp only [List.getElem?_cons_zero, List.getElem?_cons_succ] at y0 y1 y2 y3 y4 y5 y6 y7 y8 y9 y10 y11 y12 y13 y14
  have HZ := Lib.hid hb
  clear hB hB' hb
  go_wp2_with fail
  go_ret
  exact ⟨rfl, HZ.out⟩
end Code
end Go.Proofs.YtegiigeelcnemaaGreat
