/-
  What is right in layer 6, in the document's own words: addresses, records, messages.
-/
import Derived.Test.YtegiigeelcnemaaGreatCodeRightMsg
import Derived.Test.YtegiigeelcnemaaGreatCodeWrRec
import Derived.Test.YtegiigeelcnemaaGreatVersRightRef
import Derived.Test.YtegiigeelcnemaaGreatVectReads
namespace Go.Proofs.YtegiigeelcnemaaGreat
namespace Code
open Go.RowKit Num Span Vers
attribute [local go_sem ↓] Go.wp_at_zero Go.wp_at_succ

set_option maxRecDepth 100000 in
theorem place_any (x y : Int) (w : World) : Calls Tryz.prog 42 #[.agg #[.int .i64 x, .int .i64 y]] w (fun e w' => e = .returned (.bool (decide (okA (x, y)))) ∧ Below w.heap.size w w') := by
  obtain ⟨W, hW⟩ : ∃ W, w.alloc (.cells #[.int .i64 x, .int .i64 y] 40) = W := ⟨_, rfl⟩
  have hB : Bn w.heap.size 40 [.int .i64 x, .int .i64 y] W := by rw [← hW]; exact heap_alloc_new _ _
  have k0 := hB.cell 0
  have k1 := hB.cell 1
  simp only [List.getElem?_cons_zero, List.getElem?_cons_succ] at k0 k1
  have HB := Lib.hid (show Below w.heap.size w W by rw [← hW]; exact (Below.refl _ w).alloc (Nat.le_refl _) _)
  clear hB
  obtain ⟨R, hR⟩ : ∃ R, decide (okA (x, y)) = R := ⟨_, rfl⟩
  rw [hR]
  by_cases c0 : 1 ≤ x
  case neg =>
    have HR := Lib.hid (show R = false by rw [← hR]; exact decide_eq_false fun h => c0 h.1.1)
    have d0 : decide (1 ≤ x) = false := decide_eq_false c0
    clear hR
    go_enter Tryz.func42, Tryz.ntmps42
    go_wp2_with fail
    go_ret
    exact ⟨by rw [HR.out]; rfl, HB.out⟩
  have d0 : decide (1 ≤ x) = true := decide_eq_true c0
  by_cases c1 : x ≤ 16
  case neg =>
    have HR := Lib.hid (show R = false by rw [← hR]; exact decide_eq_false fun h => c1 h.1.2)
    have d1 : decide (x ≤ 16) = false := decide_eq_false c1
    clear hR
    go_enter Tryz.func42, Tryz.ntmps42
    go_wp2_with fail
    go_ret
    exact ⟨by rw [HR.out]; rfl, HB.out⟩
  have d1 : decide (x ≤ 16) = true := decide_eq_true c1
  by_cases c2 : 0 ≤ y
  case neg =>
    have HR := Lib.hid (show R = false by rw [← hR]; exact decide_eq_false fun h => c2 h.2.1)
    have d2 : decide (0 ≤ y) = false := decide_eq_false c2
    clear hR
    go_enter Tryz.func42, Tryz.ntmps42
    go_wp2_with fail
    go_ret
    exact ⟨by rw [HR.out]; rfl, HB.out⟩
  have d2 : decide (0 ≤ y) = true := decide_eq_true c2
  by_cases c3 : y ≤ 8
  case neg =>
    have HR := Lib.hid (show R = false by rw [← hR]; exact decide_eq_false fun h => c3 h.2.2)
    have d3 : decide (y ≤ 8) = false := decide_eq_false c3
    clear hR
    go_enter Tryz.func42, Tryz.ntmps42
    go_wp2_with fail
    go_ret
    exact ⟨by rw [HR.out]; rfl, HB.out⟩
  have d3 : decide (y ≤ 8) = true := decide_eq_true c3
  have HR := Lib.hid (show R = true by rw [← hR]; exact decide_eq_true ⟨⟨c0, c1⟩, c2, c3⟩)
  clear hR
  go_enter Tryz.func42, Tryz.ntmps42
  go_wp2_with fail
  go_ret
  exact ⟨by rw [HR.out]; rfl, HB.out⟩

set_option maxRecDepth 100000 in
theorem refrecord_any (A : Option Addr) (c m : Nat) (key : ByteArray) (l : List Vr) (hm : l.length = m) (hm2 : m ≤ 140737488355328) (hk2 : key.size ≤ 140737488355328) (w : World) (hv : Vs w 0 w.heap.size A l) :
    Calls Tryz.prog 7 #[.agg #[.string key, .slice A m c]] w (fun e w' => e = .returned (.bool (decide (okR (key, l)))) ∧ Below w.heap.size w w') := by
  obtain ⟨W, hW⟩ : ∃ W, w.alloc (.cells #[.string key, .slice A m c] 24) = W := ⟨_, rfl⟩
  have hB : Bn w.heap.size 24 [.string key, .slice A m c] W := by rw [← hW]; exact heap_alloc_new _ _
  have k0 := hB.cell 0
  have k1 := hB.cell 1
  simp only [List.getElem?_cons_zero, List.getElem?_cons_succ] at k0 k1
  have hbW : Below w.heap.size w W := by rw [← hW]; exact (Below.refl _ w).alloc (Nat.le_refl _) _
  have h1 := ref_rightV_any A c m l hm W ((hv.below hbW).more hbW.size) hm2
  have hsz := hbW.size
  have HB := Lib.hid hbW
  clear hB hbW hv
  obtain ⟨R, hR⟩ : ∃ R, decide (okR (key, l)) = R := ⟨_, rfl⟩
  rw [hR]
  have hkl : key.toList.length = key.size := by rw [Lib.toList_data, Array.length_toList]; rfl
  by_cases c0 : 1 ≤ key.size
  case neg =>
    have hem : key.toList.isEmpty = true := by rw [List.isEmpty_iff_length_eq_zero]; omega
    have HR := Lib.hid (show R = false by rw [← hR]; exact decide_eq_false fun h => c0 h.1)
    clear h1 hR hkl
    go_enter Tryz.func7, Tryz.ntmps7
    go_wp2_with fail
    go_ret
    exact ⟨by rw [HR.out]; rfl, HB.out⟩
  have hem : key.toList.isEmpty = false := by rw [← Bool.not_eq_true, List.isEmpty_iff_length_eq_zero]; omega
  clear hkl
  by_cases c1 : key.size ≤ 32
  case neg =>
    have d1 : decide ((key.size : Int) ≤ 32) = false := decide_eq_false (by omega)
    have HR := Lib.hid (show R = false by rw [← hR]; exact decide_eq_false fun h => c1 h.2.1)
    clear h1 hR
    go_enter Tryz.func7, Tryz.ntmps7
    go_wp2_with fail
    go_ret
    exact ⟨by rw [HR.out]; rfl, HB.out⟩
  have d1 : decide ((key.size : Int) ≤ 32) = true := decide_eq_true (by omega)
  have HR := Lib.hid (show R = decide (RightV l) by rw [← hR]; exact decide_eq_decide.2 ⟨fun h => h.2.2, fun h => ⟨c0, c1, h⟩⟩)
  have H1 := Lib.hid h1
  clear h1 hR
  go_enter Tryz.func7, Tryz.ntmps7
  go_wp2_with fail
  refine H1.out.mono ?_
  rintro e w1 ⟨rfl, hb1⟩
  have HE := Lib.hid (HB.out.trans (hb1.mono hsz))
  obtain ⟨D, hD⟩ : ∃ D, decide (RightV l) = D := ⟨_, rfl⟩
  have hRD : R = D := by rw [HR.out, hD]
  rw [hD]
  clear hb1 H1 HR hD
  go_wp2_with fail
  go_ret
  exact ⟨by rw [hRD]; rfl, HE.out⟩

set_option maxRecDepth 100000 in
set_option maxHeartbeats 4000000 in
theorem refmsg_right_any (kind f1 f2 t1 t2 id n for_ code : Int) (key : ByteArray) (recs : List Rc) (vec path hashes route : List Int) (A8 A9 A10 A11 A12 : Option Addr) (c8 c9 c10 c11 c12 n8 n9 n10 n11 n12 : Nat)
    (e8 : recs.length = n8) (e9 : vec.length = n9) (e10 : path.length = n10) (e11 : hashes.length = n11) (e12 : route.length = n12) (b8 : n8 ≤ 140737488355328) (b9' : n9 ≤ 140737488355328) (w : World)
    (hr : MsgI w 0 w.heap.size (kind, (f1, f2), (t1, t2), id, n, for_, code, key, recs, vec, path, hashes, route) ((A8, c8), (A9, c9), (A10, c10), (A11, c11), (A12, c12))) :
    Calls Tryz.prog 17 #[.agg #[.int .i64 kind, .int .i64 f1, .int .i64 f2, .int .i64 t1, .int .i64 t2, .int .i64 id, .int .i64 n, .int .i64 for_, .int .i64 code, .string key, .slice A8 n8 c8, .slice A9 n9 c9, .slice A10 n10 c10, .slice A11 n11 c11, .slice A12 n12 c12]] w (fun e w' => e = .returned (.bool (decide (okM (kind, (f1, f2), (t1, t2), id, n, for_, code, key, recs, vec, path, hashes, route)))) ∧ Below w.heap.size w w') := by
  obtain ⟨R, hR⟩ : ∃ R, decide (okM (kind, (f1, f2), (t1, t2), id, n, for_, code, key, recs, vec, path, hashes, route)) = R := ⟨_, rfl⟩
  rw [hR]
  obtain ⟨i8, i9, i10, i11, i12⟩ := hr
  obtain ⟨W, hW⟩ : ∃ W, w.alloc (.cells #[.int .i64 kind, .int .i64 f1, .int .i64 f2, .int .i64 t1, .int .i64 t2, .int .i64 id, .int .i64 n, .int .i64 for_, .int .i64 code, .string key, .slice A8 n8 c8, .slice A9 n9 c9, .slice A10 n10 c10, .slice A11 n11 c11, .slice A12 n12 c12] 45) = W := ⟨_, rfl⟩
  obtain ⟨B, hBe⟩ : ∃ B, w.heap.size = B := ⟨_, rfl⟩
  have hB : Bn B 45 [.int .i64 kind, .int .i64 f1, .int .i64 f2, .int .i64 t1, .int .i64 t2, .int .i64 id, .int .i64 n, .int .i64 for_, .int .i64 code, .string key, .slice A8 n8 c8, .slice A9 n9 c9, .slice A10 n10 c10, .slice A11 n11 c11, .slice A12 n12 c12] W := by rw [← hW, ← hBe]; exact heap_alloc_new _ _
  have hb : Below B w W := by rw [← hW, ← hBe]; exact (Below.refl _ w).alloc (Nat.le_refl _) _
  rw [hBe] at i8 i9 i10 i11 i12 ⊢
  have HI := Lib.hid (And.intro i8 (And.intro i9 (And.intro i10 (And.intro i11 (And.intro i12 (And.intro e8 (And.intro e9 (And.intro e10 (And.intro e11 e12)))))))))
  have HRR := Lib.hid hR
  clear i8 i9 i10 i11 i12 hR e8 e9 e10 e11 e12
  have k0 := hB.cell 0
  have k1 := hB.cell 1
  have k2 := hB.cell 2
  have k3 := hB.cell 3
  have k4 := hB.cell 4
  have k5 := hB.cell 5
  have k6 := hB.cell 6
  have k7 := hB.cell 7
  have k8 := hB.cell 8
  have k9 := hB.cell 9
  have k10 := hB.cell 10
  have k11 := hB.cell 11
  have k12 := hB.cell 12
  have k13 := hB.cell 13
  have k14 := hB.cell 14
  simp only [List.getElem?_cons_zero, List.getElem?_cons_succ] at k0 k1 k2 k3 k4 k5 k6 k7 k8 k9 k10 k11 k12 k13 k14
  by_cases s0 : kind < 1
  case pos =>
    have HR := Lib.hid (show R = false by rw [← HRR.out]; exact decide_eq_false fun h => by have := h.1.1; omega)
    have d0 : decide (kind < 1) = true := decide_eq_true s0
    have HE := Lib.hid hb
    clear hB hb
    go_enter Tryz.func17, Tryz.ntmps17
    go_wp2_with fail
    go_ret
    exact ⟨by rw [HR.out]; rfl, HE.out⟩
  have d0 : decide (kind < 1) = false := decide_eq_false s0
  by_cases s1 : 17 < kind
  case pos =>
    have HR := Lib.hid (show R = false by rw [← HRR.out]; exact decide_eq_false fun h => by have := h.1.2; omega)
    have d1 : decide (17 < kind) = true := decide_eq_true s1
    have HE := Lib.hid hb
    clear hB hb
    go_enter Tryz.func17, Tryz.ntmps17
    go_wp2_with fail
    go_ret
    exact ⟨by rw [HR.out]; rfl, HE.out⟩
  have d1 : decide (17 < kind) = false := decide_eq_false s1
  have h := place_any f1 f2 W
  have HSZ := Lib.hid (And.intro hB hb)
  clear hB hb
  obtain ⟨D, hD⟩ : ∃ D, decide (okA (f1, f2)) = D := ⟨_, rfl⟩
  rw [hD] at h
  have H := Lib.hid h
  have HD0 := Lib.hid hD
  clear h hD
  go_enter Tryz.func17, Tryz.ntmps17
  go_wp2_with fail
  refine H.out.mono ?_
  rintro e w1 ⟨rfl, hb1⟩
  obtain ⟨hB0, hb0⟩ := HSZ.out
  have hB := hB0.below hb1 hB0.lt
  have hb := hb0.trans (hb1.mono (by have := hb0.size; omega))
  clear hB0 hb0 hb1 H HSZ
  rcases D with _ | _
  case false =>
    have HR := Lib.hid (show R = false by rw [← HRR.out]; exact decide_eq_false fun h => of_decide_eq_false HD0.out (h.2.1))
    have HE := Lib.hid hb
    clear hB hb
    go_wp2_with fail
    go_ret
    exact ⟨by rw [HR.out]; rfl, HE.out⟩
  have C0 := Lib.hid (of_decide_eq_true HD0.out)
  clear HD0
  have k0 := hB.cell 0
  have k1 := hB.cell 1
  have k2 := hB.cell 2
  have k3 := hB.cell 3
  have k4 := hB.cell 4
  have k5 := hB.cell 5
  have k6 := hB.cell 6
  have k7 := hB.cell 7
  have k8 := hB.cell 8
  have k9 := hB.cell 9
  have k10 := hB.cell 10
  have k11 := hB.cell 11
  have k12 := hB.cell 12
  have k13 := hB.cell 13
  have k14 := hB.cell 14
  simp only [List.getElem?_cons_zero, List.getElem?_cons_succ] at k0 k1 k2 k3 k4 k5 k6 k7 k8 k9 k10 k11 k12 k13 k14
  have h := place_any t1 t2 w1
  have HSZ := Lib.hid (And.intro hB hb)
  clear hB hb
  obtain ⟨D, hD⟩ : ∃ D, decide (okA (t1, t2)) = D := ⟨_, rfl⟩
  rw [hD] at h
  have H := Lib.hid h
  have HD1 := Lib.hid hD
  clear h hD
  go_wp2_with fail
  refine H.out.mono ?_
  rintro e w2 ⟨rfl, hb1⟩
  obtain ⟨hB0, hb0⟩ := HSZ.out
  have hB := hB0.below hb1 hB0.lt
  have hb := hb0.trans (hb1.mono (by have := hb0.size; omega))
  clear hB0 hb0 hb1 H HSZ
  rcases D with _ | _
  case false =>
    have HR := Lib.hid (show R = false by rw [← HRR.out]; exact decide_eq_false fun h => of_decide_eq_false HD1.out (h.2.2.1))
    have HE := Lib.hid hb
    clear hB hb
    go_wp2_with fail
    go_ret
    exact ⟨by rw [HR.out]; rfl, HE.out⟩
  have C1 := Lib.hid (of_decide_eq_true HD1.out)
  clear HD1
  have k0 := hB.cell 0
  have k1 := hB.cell 1
  have k2 := hB.cell 2
  have k3 := hB.cell 3
  have k4 := hB.cell 4
  have k5 := hB.cell 5
  have k6 := hB.cell 6
  have k7 := hB.cell 7
  have k8 := hB.cell 8
  have k9 := hB.cell 9
  have k10 := hB.cell 10
  have k11 := hB.cell 11
  have k12 := hB.cell 12
  have k13 := hB.cell 13
  have k14 := hB.cell 14
  simp only [List.getElem?_cons_zero, List.getElem?_cons_succ] at k0 k1 k2 k3 k4 k5 k6 k7 k8 k9 k10 k11 k12 k13 k14
  have k0 := hB.cell 0
  have k1 := hB.cell 1
  have k2 := hB.cell 2
  have k3 := hB.cell 3
  have k4 := hB.cell 4
  have k5 := hB.cell 5
  have k6 := hB.cell 6
  have k7 := hB.cell 7
  have k8 := hB.cell 8
  have k9 := hB.cell 9
  have k10 := hB.cell 10
  have k11 := hB.cell 11
  have k12 := hB.cell 12
  have k13 := hB.cell 13
  have k14 := hB.cell 14
  simp only [List.getElem?_cons_zero, List.getElem?_cons_succ] at k0 k1 k2 k3 k4 k5 k6 k7 k8 k9 k10 k11 k12 k13 k14
  by_cases s2 : id < 0
  case pos =>
    have HR := Lib.hid (show R = false by rw [← HRR.out]; exact decide_eq_false fun h => by have := h.2.2.2.1; omega)
    have d2 : decide (id < 0) = true := decide_eq_true s2
    have HE := Lib.hid hb
    clear hB hb
    go_wp2_with fail
    go_ret
    exact ⟨by rw [HR.out]; rfl, HE.out⟩
  have d2 : decide (id < 0) = false := decide_eq_false s2
  by_cases s3 : n < 0
  case pos =>
    have HR := Lib.hid (show R = false by rw [← HRR.out]; exact decide_eq_false fun h => by have := h.2.2.2.2.1; omega)
    have d3 : decide (n < 0) = true := decide_eq_true s3
    have HE := Lib.hid hb
    clear hB hb
    go_wp2_with fail
    go_ret
    exact ⟨by rw [HR.out]; rfl, HE.out⟩
  have d3 : decide (n < 0) = false := decide_eq_false s3
  by_cases s4 : for_ < 0
  case pos =>
    have HR := Lib.hid (show R = false by rw [← HRR.out]; exact decide_eq_false fun h => by have := h.2.2.2.2.2.1.1; omega)
    have d4 : decide (for_ < 0) = true := decide_eq_true s4
    have HE := Lib.hid hb
    clear hB hb
    go_wp2_with fail
    go_ret
    exact ⟨by rw [HR.out]; rfl, HE.out⟩
  have d4 : decide (for_ < 0) = false := decide_eq_false s4
  by_cases s5 : 8 < for_
  case pos =>
    have HR := Lib.hid (show R = false by rw [← HRR.out]; exact decide_eq_false fun h => by have := h.2.2.2.2.2.1.2; omega)
    have d5 : decide (8 < for_) = true := decide_eq_true s5
    have HE := Lib.hid hb
    clear hB hb
    go_wp2_with fail
    go_ret
    exact ⟨by rw [HR.out]; rfl, HE.out⟩
  have d5 : decide (8 < for_) = false := decide_eq_false s5
  by_cases s6 : code < 0
  case pos =>
    have HR := Lib.hid (show R = false by rw [← HRR.out]; exact decide_eq_false fun h => by have := h.2.2.2.2.2.2.1.1; omega)
    have d6 : decide (code < 0) = true := decide_eq_true s6
    have HE := Lib.hid hb
    clear hB hb
    go_wp2_with fail
    go_ret
    exact ⟨by rw [HR.out]; rfl, HE.out⟩
  have d6 : decide (code < 0) = false := decide_eq_false s6
  by_cases s7 : 999 < code
  case pos =>
    have HR := Lib.hid (show R = false by rw [← HRR.out]; exact decide_eq_false fun h => by have := h.2.2.2.2.2.2.1.2; omega)
    have d7 : decide (999 < code) = true := decide_eq_true s7
    have HE := Lib.hid hb
    clear hB hb
    go_wp2_with fail
    go_ret
    exact ⟨by rw [HR.out]; rfl, HE.out⟩
  have d7 : decide (999 < code) = false := decide_eq_false s7
  by_cases s8 : 32 < (key.size : Int)
  case pos =>
    have HR := Lib.hid (show R = false by rw [← HRR.out]; exact decide_eq_false fun h => by have := h.2.2.2.2.2.2.2.1; omega)
    have d8 : decide (32 < (key.size : Int)) = true := decide_eq_true s8
    have HE := Lib.hid hb
    clear hB hb
    go_wp2_with fail
    go_ret
    exact ⟨by rw [HR.out]; rfl, HE.out⟩
  have d8 : decide (32 < (key.size : Int)) = false := decide_eq_false s8
  have e9 := HI.out.2.2.2.2.2.2.1
  by_cases s20 : n9 = 0
  · have d20 : decide (0 < (n9 : Int)) = false := decide_eq_false (by omega)
    have HV : Hid (vec.length ≤ 16 ∧ ∀ x ∈ vec, 0 ≤ x ∧ x ≤ 4611686018427387904) := Lib.hid ⟨by omega, fun x hx => by rw [List.eq_nil_of_length_eq_zero (by omega : vec.length = 0)] at hx; cases hx⟩
    clear e9
    by_cases s21 : 2 < (n10 : Int)
    case pos =>
      have HR := Lib.hid (show R = false by rw [← HRR.out]; exact decide_eq_false fun h => by have hx := HI.out.2.2.2.2.2.2.2.1; have := h.2.2.2.2.2.2.2.2.2.2.1.1; omega)
      have d21 : decide (2 < (n10 : Int)) = true := decide_eq_true s21
      have HE := Lib.hid hb
      clear hB hb
      go_wp2_with fail
      go_ret
      exact ⟨by rw [HR.out]; rfl, HE.out⟩
    have d21 : decide (2 < (n10 : Int)) = false := decide_eq_false s21
    by_cases s22 : 16 < (n11 : Int)
    case pos =>
      have HR := Lib.hid (show R = false by rw [← HRR.out]; exact decide_eq_false fun h => by have hx := HI.out.2.2.2.2.2.2.2.2.1; have := h.2.2.2.2.2.2.2.2.2.2.2.1; omega)
      have d22 : decide (16 < (n11 : Int)) = true := decide_eq_true s22
      have HE := Lib.hid hb
      clear hB hb
      go_wp2_with fail
      go_ret
      exact ⟨by rw [HR.out]; rfl, HE.out⟩
    have d22 : decide (16 < (n11 : Int)) = false := decide_eq_false s22
    by_cases s23 : 16 < (n12 : Int)
    case pos =>
      have HR := Lib.hid (show R = false by rw [← HRR.out]; exact decide_eq_false fun h => by have hx := HI.out.2.2.2.2.2.2.2.2.2; have := h.2.2.2.2.2.2.2.2.2.2.2.2.1; omega)
      have d23 : decide (16 < (n12 : Int)) = true := decide_eq_true s23
      have HE := Lib.hid hb
      clear hB hb
      go_wp2_with fail
      go_ret
      exact ⟨by rw [HR.out]; rfl, HE.out⟩
    have d23 : decide (16 < (n12 : Int)) = false := decide_eq_false s23
    have HBM := Lib.hid (And.intro hB hb)
    clear hB hb
    go_wp2_with fail
    clear k0 k1 k2 k3 k4 k5 k6 k7 k8 k9 k10 k11 k12 k13 k14
    go_loopw [3] (fun q wr => ∃ k : Nat, q = .int .i64 k ∧ k ≤ n8 ∧ Hid (Bn B 45 [.int .i64 kind, .int .i64 f1, .int .i64 f2, .int .i64 t1, .int .i64 t2, .int .i64 id, .int .i64 n, .int .i64 for_, .int .i64 code, .string key, .slice A8 n8 c8, .slice A9 n9 c9, .slice A10 n10 c10, .slice A11 n11 c11, .slice A12 n12 c12] wr ∧ Below B w wr) ∧ Hid (∀ x ∈ recs.take k, okR x)) (fun q _ => n8 - (intOf q).toNat)
    case atStart => exact ⟨0, rfl, by omega, HBM, Lib.hid (by simp)⟩
    case round =>
      clear HBM
      obtain ⟨k, rfl, hk, hbm, hst⟩ := hrel
      obtain ⟨hB, hb⟩ := hbm.out
      clear hbm
      have hm := HI.out.2.2.2.2.2.1
      have k10 := hB.cell 10
      simp only [List.getElem?_cons_zero, List.getElem?_cons_succ] at k10
      by_cases hlt : k < n8
      · have d31 : (0 : Int) ≤ (k : Int) := by omega
        have d32 : (k : Int) < (n8 : Int) := by omega
        have hbad := fun (h : ¬ okR (recs.getD k r0)) => (fun hx : okM (kind, (f1, f2), (t1, t2), id, n, for_, code, key, recs, vec, path, hashes, route) => h (hx.2.2.2.2.2.2.2.2.1 _ (mem_getD r0 (show k < recs.length by omega))))
        have hstep := all_step (R := fun x => okR x) r0 (show k < recs.length by omega) hst.out
        obtain ⟨pb, off, A1, c1, rfl, _, hpb, a0, a1, hvs, hsz⟩ := HI.out.1.at hm hb hlt rfl
        obtain ⟨x, hxx⟩ : ∃ x, recs.getD k r0 = x := ⟨_, rfl⟩
        rw [hxx] at a0 a1 hvs hsz hbad hstep
        obtain ⟨key1, vl⟩ := x
        obtain ⟨kp, hkp⟩ : ∃ kp, vl.length = kp := ⟨_, rfl⟩
        simp only at a0 a1 hvs hsz
        rw [hkp] at a1 hsz
        have hwsz : B ≤ wr.heap.size := by have := hB.lt; omega
        have h2 := refrecord_any A1 c1 kp key1 vl hkp hsz.2.1 hsz.2.2 wr (hvs.more hwsz)
        have HBW := Lib.hid (And.intro hB hb)
        clear hb hB
        by_cases cA : okR (key1, vl)
        · rw [decide_eq_true cA] at h2
          have H2 := Lib.hid h2
          have HN := Lib.hid (hstep cA)
          clear h2 hstep hbad hst cA hm hxx hvs hkp hsz
          go_wp2_with fail
          refine H2.out.mono ?_
          rintro e w21 ⟨rfl, hb2⟩
          have HE := Lib.hid (And.intro (HBW.out.1.below hb2 HBW.out.1.lt) (HBW.out.2.trans (hb2.mono hwsz)))
          clear hb2 H2
          go_wp2_with fail
          go_roundw
          case rel => exact ⟨k + 1, rfl, by omega, HE, HN⟩
          case measure => simp only [intOf]; omega
        · rw [decide_eq_false cA] at h2
          have H2 := Lib.hid h2
          have HN := Lib.hid (show R = false by rw [← HRR.out]; exact decide_eq_false (hbad cA))
          clear h2 hstep hbad hst cA hm hxx hvs hkp hsz
          go_wp2_with fail
          refine H2.out.mono ?_
          rintro e w21 ⟨rfl, hb2⟩
          have HE := Lib.hid (HBW.out.2.trans (hb2.mono hwsz))
          clear hb2 H2
          go_wp2_with fail
          go_ret
          exact ⟨by rw [HN.out]; rfl, HE.out⟩
      · have hkm : n8 = k := by omega
        subst hkm
        have HR8 := Lib.hid (show ∀ x ∈ recs, okR x by have h := hst.out; rwa [List.take_of_length_le (by omega)] at h)
        have HBM := Lib.hid (And.intro hB hb)
        clear hst hm hB hb hlt
        go_wp2_with fail
        go_loopw [4] (fun q wr => ∃ k : Nat, q = .int .i64 k ∧ k ≤ n10 ∧ Hid (Bn B 45 [.int .i64 kind, .int .i64 f1, .int .i64 f2, .int .i64 t1, .int .i64 t2, .int .i64 id, .int .i64 n, .int .i64 for_, .int .i64 code, .string key, .slice A8 n8 c8, .slice A9 n9 c9, .slice A10 n10 c10, .slice A11 n11 c11, .slice A12 n12 c12] wr ∧ Below B w wr) ∧ Hid (∀ x ∈ path.take k, 0 ≤ x ∧ x < 16)) (fun q _ => n10 - (intOf q).toNat)
        case atStart => exact ⟨0, rfl, by omega, HBM, Lib.hid (by simp)⟩
        case round =>
          clear HBM k10
          obtain ⟨j, rfl, hj, hbm, hst⟩ := hrel
          obtain ⟨hB, hb⟩ := hbm.out
          clear hbm
          have hm := HI.out.2.2.2.2.2.2.2.1
          have k12 := hB.cell 12
          simp only [List.getElem?_cons_zero, List.getElem?_cons_succ] at k12
          by_cases hlt : j < n10
          · have d31 : (0 : Int) ≤ (j : Int) := by omega
            have d32 : (j : Int) < (n10 : Int) := by omega
            have hbad := fun (h : ¬ (0 ≤ path.getD j 0 ∧ path.getD j 0 < 16)) => (fun hx : okM (kind, (f1, f2), (t1, t2), id, n, for_, code, key, recs, vec, path, hashes, route) => h ((hx.2.2.2.2.2.2.2.2.2.2.1.2) _ (mem_getD 0 (show j < path.length by omega))))
            have hstep := all_step (R := fun x => 0 ≤ x ∧ x < 16) (0 : Int) (show j < path.length by omega) hst.out
            obtain ⟨pb, off, rfl, hpb, hc⟩ := (HI.out.2.2.1.below hb) (by omega)
            have c0 := hc j (by omega)
            obtain ⟨x, hxx⟩ : ∃ x, path.getD j 0 = x := ⟨_, rfl⟩
            rw [hxx] at c0 hbad hstep
            have HBW := Lib.hid (And.intro hB hb)
            clear hb hB
            by_cases cA : x < 0
            · have dA : decide (x < 0) = true := decide_eq_true cA
              have HN := Lib.hid (show R = false by rw [← HRR.out]; exact decide_eq_false (hbad (fun h => by omega)))
              clear hstep hbad hst hm hxx hc
              go_wp2_with fail
              go_ret
              exact ⟨by rw [HN.out]; rfl, HBW.out.2⟩
            · have dA : decide (x < 0) = false := decide_eq_false cA
              by_cases cB : 15 < x
              · have dB : decide (15 < x) = true := decide_eq_true cB
                have HN := Lib.hid (show R = false by rw [← HRR.out]; exact decide_eq_false (hbad (fun h => by omega)))
                clear hstep hbad hst hm hxx hc
                go_wp2_with fail
                go_ret
                exact ⟨by rw [HN.out]; rfl, HBW.out.2⟩
              · have dB : decide (15 < x) = false := decide_eq_false cB
                have HN := Lib.hid (hstep (by omega))
                clear hstep hbad hst hm hxx hc
                go_wp2_with fail
                go_roundw
                case rel => exact ⟨j + 1, rfl, by omega, HBW, HN⟩
                case measure => simp only [intOf]; omega
          · have hkm : n10 = j := by omega
            subst hkm
            have HR10 := Lib.hid (show ∀ x ∈ path, 0 ≤ x ∧ x < 16 by have h := hst.out; rwa [List.take_of_length_le (by omega)] at h)
            have HBM := Lib.hid (And.intro hB hb)
            clear hst hm hB hb hlt
            go_wp2_with fail
            go_loopw [5] (fun q wr => ∃ k : Nat, q = .int .i64 k ∧ k ≤ n12 ∧ Hid (Bn B 45 [.int .i64 kind, .int .i64 f1, .int .i64 f2, .int .i64 t1, .int .i64 t2, .int .i64 id, .int .i64 n, .int .i64 for_, .int .i64 code, .string key, .slice A8 n8 c8, .slice A9 n9 c9, .slice A10 n10 c10, .slice A11 n11 c11, .slice A12 n12 c12] wr ∧ Below B w wr) ∧ Hid (∀ x ∈ route.take k, 1 ≤ x ∧ x ≤ 16)) (fun q _ => n12 - (intOf q).toNat)
            case atStart => exact ⟨0, rfl, by omega, HBM, Lib.hid (by simp)⟩
            case round =>
              clear HBM k12
              obtain ⟨j, rfl, hj, hbm, hst⟩ := hrel
              obtain ⟨hB, hb⟩ := hbm.out
              clear hbm
              have hm := HI.out.2.2.2.2.2.2.2.2.2
              have k14 := hB.cell 14
              simp only [List.getElem?_cons_zero, List.getElem?_cons_succ] at k14
              by_cases hlt : j < n12
              · have d31 : (0 : Int) ≤ (j : Int) := by omega
                have d32 : (j : Int) < (n12 : Int) := by omega
                have hbad := fun (h : ¬ (1 ≤ route.getD j 0 ∧ route.getD j 0 ≤ 16)) => (fun hx : okM (kind, (f1, f2), (t1, t2), id, n, for_, code, key, recs, vec, path, hashes, route) => h ((hx.2.2.2.2.2.2.2.2.2.2.2.2.2) _ (mem_getD 0 (show j < route.length by omega))))
                have hstep := all_step (R := fun x => 1 ≤ x ∧ x ≤ 16) (0 : Int) (show j < route.length by omega) hst.out
                obtain ⟨pb, off, rfl, hpb, hc⟩ := (HI.out.2.2.2.2.1.below hb) (by omega)
                have c0 := hc j (by omega)
                obtain ⟨x, hxx⟩ : ∃ x, route.getD j 0 = x := ⟨_, rfl⟩
                rw [hxx] at c0 hbad hstep
                have HBW := Lib.hid (And.intro hB hb)
                clear hb hB
                by_cases cA : x < 1
                · have dA : decide (x < 1) = true := decide_eq_true cA
                  have HN := Lib.hid (show R = false by rw [← HRR.out]; exact decide_eq_false (hbad (fun h => by omega)))
                  clear hstep hbad hst hm hxx hc
                  go_wp2_with fail
                  go_ret
                  exact ⟨by rw [HN.out]; rfl, HBW.out.2⟩
                · have dA : decide (x < 1) = false := decide_eq_false cA
                  by_cases cB : 16 < x
                  · have dB : decide (16 < x) = true := decide_eq_true cB
                    have HN := Lib.hid (show R = false by rw [← HRR.out]; exact decide_eq_false (hbad (fun h => by omega)))
                    clear hstep hbad hst hm hxx hc
                    go_wp2_with fail
                    go_ret
                    exact ⟨by rw [HN.out]; rfl, HBW.out.2⟩
                  · have dB : decide (16 < x) = false := decide_eq_false cB
                    have HN := Lib.hid (hstep (by omega))
                    clear hstep hbad hst hm hxx hc
                    go_wp2_with fail
                    go_roundw
                    case rel => exact ⟨j + 1, rfl, by omega, HBW, HN⟩
                    case measure => simp only [intOf]; omega
              · have hkm : n12 = j := by omega
                subst hkm
                have HR12 := Lib.hid (show ∀ x ∈ route, 1 ≤ x ∧ x ≤ 16 by have h := hst.out; rwa [List.take_of_length_le (by omega)] at h)
                have HN := Lib.hid (show R = true by
                  rw [← HRR.out]
                  have hx10 := HI.out.2.2.2.2.2.2.2.1
                  have hx11 := HI.out.2.2.2.2.2.2.2.2.1
                  exact decide_eq_true ⟨by omega, C0.out, C1.out, by omega, by omega, by omega, by omega, by omega, HR8.out, HV.out, ⟨by omega, HR10.out⟩, by omega, ⟨by omega, HR12.out⟩⟩)
                have HE := Lib.hid hb
                clear hst hm hB hb hlt
                go_wp2_with fail
                go_ret
                exact ⟨by rw [HN.out]; rfl, HE.out⟩
  · have d20 : decide (0 < (n9 : Int)) = true := decide_eq_true (by omega)
    have h := Vect.ref_right_v A9 c9 n9 vec e9 w2 ((HI.out.2.1.below hb).more (by have := hb.size; omega)) b9'
    have HSZ := Lib.hid (And.intro hB hb)
    clear hB hb
    obtain ⟨D, hD⟩ : ∃ D, decide (Vect.RightV vec) = D := ⟨_, rfl⟩
    rw [hD] at h
    have H := Lib.hid h
    have HD2 := Lib.hid hD
    clear h hD
    go_wp2_with fail
    refine H.out.mono ?_
    rintro e w3 ⟨rfl, hb1⟩
    obtain ⟨hB0, hb0⟩ := HSZ.out
    have hB := hB0.below hb1 hB0.lt
    have hb := hb0.trans (hb1.mono (by have := hb0.size; omega))
    clear hB0 hb0 hb1 H HSZ
    rcases D with _ | _
    case false =>
      have HR := Lib.hid (show R = false by rw [← HRR.out]; exact decide_eq_false fun h => of_decide_eq_false HD2.out (⟨by omega, h.2.2.2.2.2.2.2.2.2.1⟩))
      have HE := Lib.hid hb
      clear hB hb
      go_wp2_with fail
      go_ret
      exact ⟨by rw [HR.out]; rfl, HE.out⟩
    have C2 := Lib.hid (of_decide_eq_true HD2.out)
    clear HD2
    have HV : Hid (vec.length ≤ 16 ∧ ∀ x ∈ vec, 0 ≤ x ∧ x ≤ 4611686018427387904) := Lib.hid C2.out.2
    clear e9
    have k0 := hB.cell 0
    have k1 := hB.cell 1
    have k2 := hB.cell 2
    have k3 := hB.cell 3
    have k4 := hB.cell 4
    have k5 := hB.cell 5
    have k6 := hB.cell 6
    have k7 := hB.cell 7
    have k8 := hB.cell 8
    have k9 := hB.cell 9
    have k10 := hB.cell 10
    have k11 := hB.cell 11
    have k12 := hB.cell 12
    have k13 := hB.cell 13
    have k14 := hB.cell 14
    simp only [List.getElem?_cons_zero, List.getElem?_cons_succ] at k0 k1 k2 k3 k4 k5 k6 k7 k8 k9 k10 k11 k12 k13 k14
    by_cases s21 : 2 < (n10 : Int)
    case pos =>
      have HR := Lib.hid (show R = false by rw [← HRR.out]; exact decide_eq_false fun h => by have hx := HI.out.2.2.2.2.2.2.2.1; have := h.2.2.2.2.2.2.2.2.2.2.1.1; omega)
      have d21 : decide (2 < (n10 : Int)) = true := decide_eq_true s21
      have HE := Lib.hid hb
      clear hB hb
      go_wp2_with fail
      go_ret
      exact ⟨by rw [HR.out]; rfl, HE.out⟩
    have d21 : decide (2 < (n10 : Int)) = false := decide_eq_false s21
    by_cases s22 : 16 < (n11 : Int)
    case pos =>
      have HR := Lib.hid (show R = false by rw [← HRR.out]; exact decide_eq_false fun h => by have hx := HI.out.2.2.2.2.2.2.2.2.1; have := h.2.2.2.2.2.2.2.2.2.2.2.1; omega)
      have d22 : decide (16 < (n11 : Int)) = true := decide_eq_true s22
      have HE := Lib.hid hb
      clear hB hb
      go_wp2_with fail
      go_ret
      exact ⟨by rw [HR.out]; rfl, HE.out⟩
    have d22 : decide (16 < (n11 : Int)) = false := decide_eq_false s22
    by_cases s23 : 16 < (n12 : Int)
    case pos =>
      have HR := Lib.hid (show R = false by rw [← HRR.out]; exact decide_eq_false fun h => by have hx := HI.out.2.2.2.2.2.2.2.2.2; have := h.2.2.2.2.2.2.2.2.2.2.2.2.1; omega)
      have d23 : decide (16 < (n12 : Int)) = true := decide_eq_true s23
      have HE := Lib.hid hb
      clear hB hb
      go_wp2_with fail
      go_ret
      exact ⟨by rw [HR.out]; rfl, HE.out⟩
    have d23 : decide (16 < (n12 : Int)) = false := decide_eq_false s23
    have HBM := Lib.hid (And.intro hB hb)
    clear hB hb
    go_wp2_with fail
    clear k0 k1 k2 k3 k4 k5 k6 k7 k8 k9 k10 k11 k12 k13 k14
    go_loopw [3] (fun q wr => ∃ k : Nat, q = .int .i64 k ∧ k ≤ n8 ∧ Hid (Bn B 45 [.int .i64 kind, .int .i64 f1, .int .i64 f2, .int .i64 t1, .int .i64 t2, .int .i64 id, .int .i64 n, .int .i64 for_, .int .i64 code, .string key, .slice A8 n8 c8, .slice A9 n9 c9, .slice A10 n10 c10, .slice A11 n11 c11, .slice A12 n12 c12] wr ∧ Below B w wr) ∧ Hid (∀ x ∈ recs.take k, okR x)) (fun q _ => n8 - (intOf q).toNat)
    case atStart => exact ⟨0, rfl, by omega, HBM, Lib.hid (by simp)⟩
    case round =>
      clear HBM
      obtain ⟨k, rfl, hk, hbm, hst⟩ := hrel
      obtain ⟨hB, hb⟩ := hbm.out
      clear hbm
      have hm := HI.out.2.2.2.2.2.1
      have k10 := hB.cell 10
      simp only [List.getElem?_cons_zero, List.getElem?_cons_succ] at k10
      by_cases hlt : k < n8
      · have d31 : (0 : Int) ≤ (k : Int) := by omega
        have d32 : (k : Int) < (n8 : Int) := by omega
        have hbad := fun (h : ¬ okR (recs.getD k r0)) => (fun hx : okM (kind, (f1, f2), (t1, t2), id, n, for_, code, key, recs, vec, path, hashes, route) => h (hx.2.2.2.2.2.2.2.2.1 _ (mem_getD r0 (show k < recs.length by omega))))
        have hstep := all_step (R := fun x => okR x) r0 (show k < recs.length by omega) hst.out
        obtain ⟨pb, off, A1, c1, rfl, _, hpb, a0, a1, hvs, hsz⟩ := HI.out.1.at hm hb hlt rfl
        obtain ⟨x, hxx⟩ : ∃ x, recs.getD k r0 = x := ⟨_, rfl⟩
        rw [hxx] at a0 a1 hvs hsz hbad hstep
        obtain ⟨key1, vl⟩ := x
        obtain ⟨kp, hkp⟩ : ∃ kp, vl.length = kp := ⟨_, rfl⟩
        simp only at a0 a1 hvs hsz
        rw [hkp] at a1 hsz
        have hwsz : B ≤ wr.heap.size := by have := hB.lt; omega
        have h2 := refrecord_any A1 c1 kp key1 vl hkp hsz.2.1 hsz.2.2 wr (hvs.more hwsz)
        have HBW := Lib.hid (And.intro hB hb)
        clear hb hB
        by_cases cA : okR (key1, vl)
        · rw [decide_eq_true cA] at h2
          have H2 := Lib.hid h2
          have HN := Lib.hid (hstep cA)
          clear h2 hstep hbad hst cA hm hxx hvs hkp hsz
          go_wp2_with fail
          refine H2.out.mono ?_
          rintro e w21 ⟨rfl, hb2⟩
          have HE := Lib.hid (And.intro (HBW.out.1.below hb2 HBW.out.1.lt) (HBW.out.2.trans (hb2.mono hwsz)))
          clear hb2 H2
          go_wp2_with fail
          go_roundw
          case rel => exact ⟨k + 1, rfl, by omega, HE, HN⟩
          case measure => simp only [intOf]; omega
        · rw [decide_eq_false cA] at h2
          have H2 := Lib.hid h2
          have HN := Lib.hid (show R = false by rw [← HRR.out]; exact decide_eq_false (hbad cA))
          clear h2 hstep hbad hst cA hm hxx hvs hkp hsz
          go_wp2_with fail
          refine H2.out.mono ?_
          rintro e w21 ⟨rfl, hb2⟩
          have HE := Lib.hid (HBW.out.2.trans (hb2.mono hwsz))
          clear hb2 H2
          go_wp2_with fail
          go_ret
          exact ⟨by rw [HN.out]; rfl, HE.out⟩
      · have hkm : n8 = k := by omega
        subst hkm
        have HR8 := Lib.hid (show ∀ x ∈ recs, okR x by have h := hst.out; rwa [List.take_of_length_le (by omega)] at h)
        have HBM := Lib.hid (And.intro hB hb)
        clear hst hm hB hb hlt
        go_wp2_with fail
        go_loopw [4] (fun q wr => ∃ k : Nat, q = .int .i64 k ∧ k ≤ n10 ∧ Hid (Bn B 45 [.int .i64 kind, .int .i64 f1, .int .i64 f2, .int .i64 t1, .int .i64 t2, .int .i64 id, .int .i64 n, .int .i64 for_, .int .i64 code, .string key, .slice A8 n8 c8, .slice A9 n9 c9, .slice A10 n10 c10, .slice A11 n11 c11, .slice A12 n12 c12] wr ∧ Below B w wr) ∧ Hid (∀ x ∈ path.take k, 0 ≤ x ∧ x < 16)) (fun q _ => n10 - (intOf q).toNat)
        case atStart => exact ⟨0, rfl, by omega, HBM, Lib.hid (by simp)⟩
        case round =>
          clear HBM k10
          obtain ⟨j, rfl, hj, hbm, hst⟩ := hrel
          obtain ⟨hB, hb⟩ := hbm.out
          clear hbm
          have hm := HI.out.2.2.2.2.2.2.2.1
          have k12 := hB.cell 12
          simp only [List.getElem?_cons_zero, List.getElem?_cons_succ] at k12
          by_cases hlt : j < n10
          · have d31 : (0 : Int) ≤ (j : Int) := by omega
            have d32 : (j : Int) < (n10 : Int) := by omega
            have hbad := fun (h : ¬ (0 ≤ path.getD j 0 ∧ path.getD j 0 < 16)) => (fun hx : okM (kind, (f1, f2), (t1, t2), id, n, for_, code, key, recs, vec, path, hashes, route) => h ((hx.2.2.2.2.2.2.2.2.2.2.1.2) _ (mem_getD 0 (show j < path.length by omega))))
            have hstep := all_step (R := fun x => 0 ≤ x ∧ x < 16) (0 : Int) (show j < path.length by omega) hst.out
            obtain ⟨pb, off, rfl, hpb, hc⟩ := (HI.out.2.2.1.below hb) (by omega)
            have c0 := hc j (by omega)
            obtain ⟨x, hxx⟩ : ∃ x, path.getD j 0 = x := ⟨_, rfl⟩
            rw [hxx] at c0 hbad hstep
            have HBW := Lib.hid (And.intro hB hb)
            clear hb hB
            by_cases cA : x < 0
            · have dA : decide (x < 0) = true := decide_eq_true cA
              have HN := Lib.hid (show R = false by rw [← HRR.out]; exact decide_eq_false (hbad (fun h => by omega)))
              clear hstep hbad hst hm hxx hc
              go_wp2_with fail
              go_ret
              exact ⟨by rw [HN.out]; rfl, HBW.out.2⟩
            · have dA : decide (x < 0) = false := decide_eq_false cA
              by_cases cB : 15 < x
              · have dB : decide (15 < x) = true := decide_eq_true cB
                have HN := Lib.hid (show R = false by rw [← HRR.out]; exact decide_eq_false (hbad (fun h => by omega)))
                clear hstep hbad hst hm hxx hc
                go_wp2_with fail
                go_ret
                exact ⟨by rw [HN.out]; rfl, HBW.out.2⟩
              · have dB : decide (15 < x) = false := decide_eq_false cB
                have HN := Lib.hid (hstep (by omega))
                clear hstep hbad hst hm hxx hc
                go_wp2_with fail
                go_roundw
                case rel => exact ⟨j + 1, rfl, by omega, HBW, HN⟩
                case measure => simp only [intOf]; omega
          · have hkm : n10 = j := by omega
            subst hkm
            have HR10 := Lib.hid (show ∀ x ∈ path, 0 ≤ x ∧ x < 16 by have h := hst.out; rwa [List.take_of_length_le (by omega)] at h)
            have HBM := Lib.hid (And.intro hB hb)
            clear hst hm hB hb hlt
            go_wp2_with fail
            go_loopw [5] (fun q wr => ∃ k : Nat, q = .int .i64 k ∧ k ≤ n12 ∧ Hid (Bn B 45 [.int .i64 kind, .int .i64 f1, .int .i64 f2, .int .i64 t1, .int .i64 t2, .int .i64 id, .int .i64 n, .int .i64 for_, .int .i64 code, .string key, .slice A8 n8 c8, .slice A9 n9 c9, .slice A10 n10 c10, .slice A11 n11 c11, .slice A12 n12 c12] wr ∧ Below B w wr) ∧ Hid (∀ x ∈ route.take k, 1 ≤ x ∧ x ≤ 16)) (fun q _ => n12 - (intOf q).toNat)
            case atStart => exact ⟨0, rfl, by omega, HBM, Lib.hid (by simp)⟩
            case round =>
              clear HBM k12
              obtain ⟨j, rfl, hj, hbm, hst⟩ := hrel
              obtain ⟨hB, hb⟩ := hbm.out
              clear hbm
              have hm := HI.out.2.2.2.2.2.2.2.2.2
              have k14 := hB.cell 14
              simp only [List.getElem?_cons_zero, List.getElem?_cons_succ] at k14
              by_cases hlt : j < n12
              · have d31 : (0 : Int) ≤ (j : Int) := by omega
                have d32 : (j : Int) < (n12 : Int) := by omega
                have hbad := fun (h : ¬ (1 ≤ route.getD j 0 ∧ route.getD j 0 ≤ 16)) => (fun hx : okM (kind, (f1, f2), (t1, t2), id, n, for_, code, key, recs, vec, path, hashes, route) => h ((hx.2.2.2.2.2.2.2.2.2.2.2.2.2) _ (mem_getD 0 (show j < route.length by omega))))
                have hstep := all_step (R := fun x => 1 ≤ x ∧ x ≤ 16) (0 : Int) (show j < route.length by omega) hst.out
                obtain ⟨pb, off, rfl, hpb, hc⟩ := (HI.out.2.2.2.2.1.below hb) (by omega)
                have c0 := hc j (by omega)
                obtain ⟨x, hxx⟩ : ∃ x, route.getD j 0 = x := ⟨_, rfl⟩
                rw [hxx] at c0 hbad hstep
                have HBW := Lib.hid (And.intro hB hb)
                clear hb hB
                by_cases cA : x < 1
                · have dA : decide (x < 1) = true := decide_eq_true cA
                  have HN := Lib.hid (show R = false by rw [← HRR.out]; exact decide_eq_false (hbad (fun h => by omega)))
                  clear hstep hbad hst hm hxx hc
                  go_wp2_with fail
                  go_ret
                  exact ⟨by rw [HN.out]; rfl, HBW.out.2⟩
                · have dA : decide (x < 1) = false := decide_eq_false cA
                  by_cases cB : 16 < x
                  · have dB : decide (16 < x) = true := decide_eq_true cB
                    have HN := Lib.hid (show R = false by rw [← HRR.out]; exact decide_eq_false (hbad (fun h => by omega)))
                    clear hstep hbad hst hm hxx hc
                    go_wp2_with fail
                    go_ret
                    exact ⟨by rw [HN.out]; rfl, HBW.out.2⟩
                  · have dB : decide (16 < x) = false := decide_eq_false cB
                    have HN := Lib.hid (hstep (by omega))
                    clear hstep hbad hst hm hxx hc
                    go_wp2_with fail
                    go_roundw
                    case rel => exact ⟨j + 1, rfl, by omega, HBW, HN⟩
                    case measure => simp only [intOf]; omega
              · have hkm : n12 = j := by omega
                subst hkm
                have HR12 := Lib.hid (show ∀ x ∈ route, 1 ≤ x ∧ x ≤ 16 by have h := hst.out; rwa [List.take_of_length_le (by omega)] at h)
                have HN := Lib.hid (show R = true by
                  rw [← HRR.out]
                  have hx10 := HI.out.2.2.2.2.2.2.2.1
                  have hx11 := HI.out.2.2.2.2.2.2.2.2.1
                  exact decide_eq_true ⟨by omega, C0.out, C1.out, by omega, by omega, by omega, by omega, by omega, HR8.out, HV.out, ⟨by omega, HR10.out⟩, by omega, ⟨by omega, HR12.out⟩⟩)
                have HE := Lib.hid hb
                clear hst hm hB hb hlt
                go_wp2_with fail
                go_ret
                exact ⟨by rw [HN.out]; rfl, HE.out⟩
end Code
end Go.Proofs.YtegiigeelcnemaaGreat
