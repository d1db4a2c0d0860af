/-
  The writer of layer 6: messages.
-/
import Derived.Test.YtegiigeelcnemaaGreatCodeWrRec
namespace Go.Proofs.YtegiigeelcnemaaGreat
namespace Code
open Go.RowKit Num Span Vers
attribute [local go_sem ↓] Go.wp_at_zero Go.wp_at_succ

theorem msgL_length (kind f1 f2 t1 t2 id n for_ code : Int) (key : ByteArray) (recs : List Rc) (vec path hashes route : List Int) : (msgL (kind, (f1, f2), (t1, t2), id, n, for_, code, key, recs, vec, path, hashes, route)).length = (putL kind).length + ((addrL (f1, f2)).length + ((addrL (t1, t2)).length + ((putL id).length + ((putL n).length + ((putL for_).length + ((putL code).length + ((strL key).length + ((seqL recL recs).length + ((seqL putL vec).length + ((seqL putL path).length + ((seqL hshL hashes).length + ((seqL putL route).length)))))))))))) := by
  unfold msgL
  simp only [pairL, List.length_append]
theorem msgL_eq (kind f1 f2 t1 t2 id n for_ code : Int) (key : ByteArray) (recs : List Rc) (vec path hashes route : List Int) : msgL (kind, (f1, f2), (t1, t2), id, n, for_, code, key, recs, vec, path, hashes, route) = putL kind ++ (addrL (f1, f2) ++ (addrL (t1, t2) ++ (putL id ++ (putL n ++ (putL for_ ++ (putL code ++ (strL key ++ (seqL recL recs ++ (seqL putL vec ++ (seqL putL path ++ (seqL hshL hashes ++ (seqL putL route)))))))))))) := rfl
set_option maxRecDepth 100000 in
set_option maxHeartbeats 4000000 in
theorem wmsg_any (base g : Nat) (L : List Int) (v : Value) (kind f1 f2 t1 t2 id n for_ code : Int) (key : ByteArray) (recs : List Rc) (vec path hashes route : List Int) (A8 A9 A10 A11 A12 : Option Addr) (c8 c9 c10 c11 c12 n8 n9 n10 n11 n12 : Nat)
    (e8 : recs.length = n8) (e9 : vec.length = n9) (e10 : path.length = n10) (e11 : hashes.length = n11) (e12 : route.length = n12)
    (hx : okM (kind, (f1, f2), (t1, t2), id, n, for_, code, key, recs, vec, path, hashes, route)) (ht : tyM (kind, (f1, f2), (t1, t2), id, n, for_, code, key, recs, vec, path, hashes, route)) (lo S : Nat) (w : World)
    (hr : MsgI w lo S (kind, (f1, f2), (t1, t2), id, n, for_, code, key, recs, vec, path, hashes, route) ((A8, c8), (A9, c9), (A10, c10), (A11, c11), (A12, c12))) (hS : S ≤ base) (hw : Wr base g L v w) (hbig : L.length + (msgL (kind, (f1, f2), (t1, t2), id, n, for_, code, key, recs, vec, path, hashes, route)).length ≤ 70368744000000) :
    Calls Tryz.prog 31 #[.pointer (some ⟨g, 0, none⟩), .agg #[.int .i64 kind, .int .i64 f1, .int .i64 f2, .int .i64 t1, .int .i64 t2, .int .i64 id, .int .i64 n, .int .i64 for_, .int .i64 code, .string key, .slice A8 n8 c8, .slice A9 n9 c9, .slice A10 n10 c10, .slice A11 n11 c11, .slice A12 n12 c12]] w (Wrote base g (L ++ msgL (kind, (f1, f2), (t1, t2), id, n, for_, code, key, recs, vec, path, hashes, route)) v w) := by
  have hmf : ∀ (fn : Fn) (first cap : Array Value) (w : World), (Instr.makeFunc fn first cap).run Tryz.prog w = .ok (.func fn first cap) w := fun _ _ _ _ => rfl
  have hl := msgL_length kind f1 f2 t1 t2 id n for_ code key recs vec path hashes route
  rw [hl] at hbig
  clear hl
  obtain ⟨x0, x1, x2, x3, x4, x5, x6, x7, x8, x9, x10, x11, x12⟩ := hx
  obtain ⟨y1, y2, y3, y4⟩ := ht
  obtain ⟨i8, i9, i10, i11, i12⟩ := hr
  unfold okA at x1 x2
  simp only at x1 x2
  have x9' : ∀ x ∈ vec, 0 ≤ x ∧ x ≤ 9223372036854775807 := fun x hx => by have := x9.2 x hx; omega
  have x10' : ∀ x ∈ path, 0 ≤ x ∧ x ≤ 9223372036854775807 := fun x hx => by have := x10.2 x hx; omega
  have x12' : ∀ x ∈ route, 0 ≤ x ∧ x ≤ 9223372036854775807 := fun x hx => by have := x12.2 x hx; omega
  have z9 := x9.1
  have z10 := x10.1
  have z12 := x12.1
  have HI := Lib.hid (And.intro i8 (And.intro i9 (And.intro i10 (And.intro i11 (And.intro i12 (And.intro x8 (And.intro x9' (And.intro x10' (And.intro y4 x12')))))))))
  clear i8 i9 i10 i11 i12 x8 x9 x10 x12 x9' x10' x12' y4
  obtain ⟨B, hBe⟩ : ∃ B, w.heap.size = B := ⟨_, rfl⟩
  obtain ⟨W, hW⟩ : ∃ W, w.alloc (.cells #[.int .i64 kind, .int .i64 f1, .int .i64 f2, .int .i64 t1, .int .i64 t2, .int .i64 id, .int .i64 n, .int .i64 for_, .int .i64 code, .string key, .slice A8 n8 c8, .slice A9 n9 c9, .slice A10 n10 c10, .slice A11 n11 c11, .slice A12 n12 c12] 45) = W := ⟨_, rfl⟩
  have hB : Bn B 45 [.int .i64 kind, .int .i64 f1, .int .i64 f2, .int .i64 t1, .int .i64 t2, .int .i64 id, .int .i64 n, .int .i64 for_, .int .i64 code, .string key, .slice A8 n8 c8, .slice A9 n9 c9, .slice A10 n10 c10, .slice A11 n11 c11, .slice A12 n12 c12] W := by rw [← hW, ← hBe]; exact heap_alloc_new _ _
  obtain ⟨hBg, hBv⟩ := hw.new_far
  rw [hBe] at hBg hBv
  have hw0 : Wr base g L v W := by rw [← hW]; exact hw.alloc _
  have hkW : Kp g v w v W := by rw [← hW]; exact Kp.alloc _ _ _ _
  have HSRC := Lib.hid (And.intro hw trivial)
  clear hw
  obtain ⟨q0, hq0⟩ : ∃ q, (putL kind).length = q := ⟨_, rfl⟩
  obtain ⟨q1, hq1⟩ : ∃ q, (addrL (f1, f2)).length = q := ⟨_, rfl⟩
  obtain ⟨q2, hq2⟩ : ∃ q, (addrL (t1, t2)).length = q := ⟨_, rfl⟩
  obtain ⟨q3, hq3⟩ : ∃ q, (putL id).length = q := ⟨_, rfl⟩
  obtain ⟨q4, hq4⟩ : ∃ q, (putL n).length = q := ⟨_, rfl⟩
  obtain ⟨q5, hq5⟩ : ∃ q, (putL for_).length = q := ⟨_, rfl⟩
  obtain ⟨q6, hq6⟩ : ∃ q, (putL code).length = q := ⟨_, rfl⟩
  obtain ⟨q7, hq7⟩ : ∃ q, (strL key).length = q := ⟨_, rfl⟩
  obtain ⟨q8, hq8⟩ : ∃ q, (seqL recL recs).length = q := ⟨_, rfl⟩
  obtain ⟨q9, hq9⟩ : ∃ q, (seqL putL vec).length = q := ⟨_, rfl⟩
  obtain ⟨q10, hq10⟩ : ∃ q, (seqL putL path).length = q := ⟨_, rfl⟩
  obtain ⟨q11, hq11⟩ : ∃ q, (seqL hshL hashes).length = q := ⟨_, rfl⟩
  obtain ⟨q12, hq12⟩ : ∃ q, (seqL putL route).length = q := ⟨_, rfl⟩
  rw [hq0, hq1, hq2, hq3, hq4, hq5, hq6, hq7, hq8, hq9, hq10, hq11, hq12] at hbig
  have h7 : (txtL (strNums key)).length = q7 := hq7
  have k0 := hB.cell 0
  have k1 := hB.cell 1
  have k2 := hB.cell 2
  have k3 := hB.cell 3
  have k4 := hB.cell 4
  have k5 := hB.cell 5
  have k6 := hB.cell 6
  have k7 := hB.cell 7
  have k8 := hB.cell 8
  have k9 := hB.cell 9
  have k10 := hB.cell 10
  have k11 := hB.cell 11
  have k12 := hB.cell 12
  have k13 := hB.cell 13
  have k14 := hB.cell 14
  simp only [List.getElem?_cons_zero, List.getElem?_cons_succ] at k0 k1 k2 k3 k4 k5 k6 k7 k8 k9 k10 k11 k12 k13 k14
  have h := wwhole_any base g L v kind (by omega) W hw0 (by omega)
  have H := Lib.hid h
  have HS := Lib.hid (And.intro hB (And.intro hBv hkW))
  clear h hB hBv hkW hw0
  go_enter Tryz.func31, Tryz.ntmps31
  go_wp2_with fail
  refine H.out.mono ?_
  rintro e w1 ⟨rfl, v1, hw0, hk⟩
  obtain ⟨hB0, hBv0, hk0⟩ := HS.out
  obtain ⟨hB, hBv⟩ := hB0.kp hk hBg hBv0
  have hkW := hk0.trans hk
  clear hB0 hBv0 hk0 hk H HS
  have k0 := hB.cell 0
  have k1 := hB.cell 1
  have k2 := hB.cell 2
  have k3 := hB.cell 3
  have k4 := hB.cell 4
  have k5 := hB.cell 5
  have k6 := hB.cell 6
  have k7 := hB.cell 7
  have k8 := hB.cell 8
  have k9 := hB.cell 9
  have k10 := hB.cell 10
  have k11 := hB.cell 11
  have k12 := hB.cell 12
  have k13 := hB.cell 13
  have k14 := hB.cell 14
  simp only [List.getElem?_cons_zero, List.getElem?_cons_succ] at k0 k1 k2 k3 k4 k5 k6 k7 k8 k9 k10 k11 k12 k13 k14
  have h := waddr_any base g _ v1 (f1, f2) ⟨⟨by simp only; omega, by simp only; omega⟩, ⟨by simp only; omega, by simp only; omega⟩⟩ w1 hw0 (by simp only [List.length_append, hq0, hq1]; omega)
  have H := Lib.hid h
  have HS := Lib.hid (And.intro hB (And.intro hBv hkW))
  clear h hB hBv hkW hw0
  go_wp2_with fail
  refine H.out.mono ?_
  rintro e w2 ⟨rfl, v2, hw0, hk⟩
  obtain ⟨hB0, hBv0, hk0⟩ := HS.out
  obtain ⟨hB, hBv⟩ := hB0.kp hk hBg hBv0
  have hkW := hk0.trans hk
  clear hB0 hBv0 hk0 hk H HS
  have k0 := hB.cell 0
  have k1 := hB.cell 1
  have k2 := hB.cell 2
  have k3 := hB.cell 3
  have k4 := hB.cell 4
  have k5 := hB.cell 5
  have k6 := hB.cell 6
  have k7 := hB.cell 7
  have k8 := hB.cell 8
  have k9 := hB.cell 9
  have k10 := hB.cell 10
  have k11 := hB.cell 11
  have k12 := hB.cell 12
  have k13 := hB.cell 13
  have k14 := hB.cell 14
  simp only [List.getElem?_cons_zero, List.getElem?_cons_succ] at k0 k1 k2 k3 k4 k5 k6 k7 k8 k9 k10 k11 k12 k13 k14
  have h := waddr_any base g _ v2 (t1, t2) ⟨⟨by simp only; omega, by simp only; omega⟩, ⟨by simp only; omega, by simp only; omega⟩⟩ w2 hw0 (by simp only [List.length_append, hq0, hq1, hq2]; omega)
  have H := Lib.hid h
  have HS := Lib.hid (And.intro hB (And.intro hBv hkW))
  clear h hB hBv hkW hw0
  go_wp2_with fail
  refine H.out.mono ?_
  rintro e w3 ⟨rfl, v3, hw0, hk⟩
  obtain ⟨hB0, hBv0, hk0⟩ := HS.out
  obtain ⟨hB, hBv⟩ := hB0.kp hk hBg hBv0
  have hkW := hk0.trans hk
  clear hB0 hBv0 hk0 hk H HS
  have k0 := hB.cell 0
  have k1 := hB.cell 1
  have k2 := hB.cell 2
  have k3 := hB.cell 3
  have k4 := hB.cell 4
  have k5 := hB.cell 5
  have k6 := hB.cell 6
  have k7 := hB.cell 7
  have k8 := hB.cell 8
  have k9 := hB.cell 9
  have k10 := hB.cell 10
  have k11 := hB.cell 11
  have k12 := hB.cell 12
  have k13 := hB.cell 13
  have k14 := hB.cell 14
  simp only [List.getElem?_cons_zero, List.getElem?_cons_succ] at k0 k1 k2 k3 k4 k5 k6 k7 k8 k9 k10 k11 k12 k13 k14
  have h := wnum_any base g _ v3 id (by omega) w3 hw0 (by simp only [List.length_append, hq0, hq1, hq2]; omega)
  have H := Lib.hid h
  have HS := Lib.hid (And.intro hB (And.intro hBv hkW))
  clear h hB hBv hkW hw0
  go_wp2_with fail
  refine H.out.mono ?_
  rintro e w4 ⟨rfl, v4, hw0, hk⟩
  obtain ⟨hB0, hBv0, hk0⟩ := HS.out
  obtain ⟨hB, hBv⟩ := hB0.kp hk hBg hBv0
  have hkW := hk0.trans hk
  clear hB0 hBv0 hk0 hk H HS
  have k0 := hB.cell 0
  have k1 := hB.cell 1
  have k2 := hB.cell 2
  have k3 := hB.cell 3
  have k4 := hB.cell 4
  have k5 := hB.cell 5
  have k6 := hB.cell 6
  have k7 := hB.cell 7
  have k8 := hB.cell 8
  have k9 := hB.cell 9
  have k10 := hB.cell 10
  have k11 := hB.cell 11
  have k12 := hB.cell 12
  have k13 := hB.cell 13
  have k14 := hB.cell 14
  simp only [List.getElem?_cons_zero, List.getElem?_cons_succ] at k0 k1 k2 k3 k4 k5 k6 k7 k8 k9 k10 k11 k12 k13 k14
  have h := wnum_any base g _ v4 n (by omega) w4 hw0 (by simp only [List.length_append, hq0, hq1, hq2, hq3]; omega)
  have H := Lib.hid h
  have HS := Lib.hid (And.intro hB (And.intro hBv hkW))
  clear h hB hBv hkW hw0
  go_wp2_with fail
  refine H.out.mono ?_
  rintro e w5 ⟨rfl, v5, hw0, hk⟩
  obtain ⟨hB0, hBv0, hk0⟩ := HS.out
  obtain ⟨hB, hBv⟩ := hB0.kp hk hBg hBv0
  have hkW := hk0.trans hk
  clear hB0 hBv0 hk0 hk H HS
  have k0 := hB.cell 0
  have k1 := hB.cell 1
  have k2 := hB.cell 2
  have k3 := hB.cell 3
  have k4 := hB.cell 4
  have k5 := hB.cell 5
  have k6 := hB.cell 6
  have k7 := hB.cell 7
  have k8 := hB.cell 8
  have k9 := hB.cell 9
  have k10 := hB.cell 10
  have k11 := hB.cell 11
  have k12 := hB.cell 12
  have k13 := hB.cell 13
  have k14 := hB.cell 14
  simp only [List.getElem?_cons_zero, List.getElem?_cons_succ] at k0 k1 k2 k3 k4 k5 k6 k7 k8 k9 k10 k11 k12 k13 k14
  have h := wwhole_any base g _ v5 for_ (by omega) w5 hw0 (by simp only [List.length_append, hq0, hq1, hq2, hq3, hq4]; omega)
  have H := Lib.hid h
  have HS := Lib.hid (And.intro hB (And.intro hBv hkW))
  clear h hB hBv hkW hw0
  go_wp2_with fail
  refine H.out.mono ?_
  rintro e w6 ⟨rfl, v6, hw0, hk⟩
  obtain ⟨hB0, hBv0, hk0⟩ := HS.out
  obtain ⟨hB, hBv⟩ := hB0.kp hk hBg hBv0
  have hkW := hk0.trans hk
  clear hB0 hBv0 hk0 hk H HS
  have k0 := hB.cell 0
  have k1 := hB.cell 1
  have k2 := hB.cell 2
  have k3 := hB.cell 3
  have k4 := hB.cell 4
  have k5 := hB.cell 5
  have k6 := hB.cell 6
  have k7 := hB.cell 7
  have k8 := hB.cell 8
  have k9 := hB.cell 9
  have k10 := hB.cell 10
  have k11 := hB.cell 11
  have k12 := hB.cell 12
  have k13 := hB.cell 13
  have k14 := hB.cell 14
  simp only [List.getElem?_cons_zero, List.getElem?_cons_succ] at k0 k1 k2 k3 k4 k5 k6 k7 k8 k9 k10 k11 k12 k13 k14
  have h := wwhole_any base g _ v6 code (by omega) w6 hw0 (by simp only [List.length_append, hq0, hq1, hq2, hq3, hq4, hq5]; omega)
  have H := Lib.hid h
  have HS := Lib.hid (And.intro hB (And.intro hBv hkW))
  clear h hB hBv hkW hw0
  go_wp2_with fail
  refine H.out.mono ?_
  rintro e w7 ⟨rfl, v7, hw0, hk⟩
  obtain ⟨hB0, hBv0, hk0⟩ := HS.out
  obtain ⟨hB, hBv⟩ := hB0.kp hk hBg hBv0
  have hkW := hk0.trans hk
  clear hB0 hBv0 hk0 hk H HS
  have k0 := hB.cell 0
  have k1 := hB.cell 1
  have k2 := hB.cell 2
  have k3 := hB.cell 3
  have k4 := hB.cell 4
  have k5 := hB.cell 5
  have k6 := hB.cell 6
  have k7 := hB.cell 7
  have k8 := hB.cell 8
  have k9 := hB.cell 9
  have k10 := hB.cell 10
  have k11 := hB.cell 11
  have k12 := hB.cell 12
  have k13 := hB.cell 13
  have k14 := hB.cell 14
  simp only [List.getElem?_cons_zero, List.getElem?_cons_succ] at k0 k1 k2 k3 k4 k5 k6 k7 k8 k9 k10 k11 k12 k13 k14
  have h := wtext_any base g _ v7 key (by omega) w7 hw0 (by simp only [List.length_append, hq0, hq1, hq2, hq3, hq4, hq5, hq6]; omega)
  have H := Lib.hid h
  have HS := Lib.hid (And.intro hB (And.intro hBv hkW))
  clear h hB hBv hkW hw0
  go_wp2_with fail
  refine H.out.mono ?_
  rintro e w8 ⟨rfl, v8, hw0, hk⟩
  obtain ⟨hB0, hBv0, hk0⟩ := HS.out
  obtain ⟨hB, hBv⟩ := hB0.kp hk hBg hBv0
  have hkW := hk0.trans hk
  clear hB0 hBv0 hk0 hk H HS
  have k0 := hB.cell 0
  have k1 := hB.cell 1
  have k2 := hB.cell 2
  have k3 := hB.cell 3
  have k4 := hB.cell 4
  have k5 := hB.cell 5
  have k6 := hB.cell 6
  have k7 := hB.cell 7
  have k8 := hB.cell 8
  have k9 := hB.cell 9
  have k10 := hB.cell 10
  have k11 := hB.cell 11
  have k12 := hB.cell 12
  have k13 := hB.cell 13
  have k14 := hB.cell 14
  simp only [List.getElem?_cons_zero, List.getElem?_cons_succ] at k0 k1 k2 k3 k4 k5 k6 k7 k8 k9 k10 k11 k12 k13 k14
  have h := wrecs_any base g _ v8 A8 c8 n8 recs e8 HI.out.2.2.2.2.2.1 lo S w8 (HI.out.1.below ((hkW.below HSRC.out.1).mono hS)) hS hw0 (by omega) (by simp only [List.length_append, hq0, hq1, hq2, hq3, hq4, hq5, hq6, h7, hq8]; omega)
  have H := Lib.hid h
  have HS := Lib.hid (And.intro hB (And.intro hBv hkW))
  clear h hB hBv hkW hw0
  go_wp2_with fail
  refine H.out.mono ?_
  rintro e w9 ⟨rfl, v9, hw0, hk⟩
  obtain ⟨hB0, hBv0, hk0⟩ := HS.out
  obtain ⟨hB, hBv⟩ := hB0.kp hk hBg hBv0
  have hkW := hk0.trans hk
  clear hB0 hBv0 hk0 hk H HS
  have k0 := hB.cell 0
  have k1 := hB.cell 1
  have k2 := hB.cell 2
  have k3 := hB.cell 3
  have k4 := hB.cell 4
  have k5 := hB.cell 5
  have k6 := hB.cell 6
  have k7 := hB.cell 7
  have k8 := hB.cell 8
  have k9 := hB.cell 9
  have k10 := hB.cell 10
  have k11 := hB.cell 11
  have k12 := hB.cell 12
  have k13 := hB.cell 13
  have k14 := hB.cell 14
  simp only [List.getElem?_cons_zero, List.getElem?_cons_succ] at k0 k1 k2 k3 k4 k5 k6 k7 k8 k9 k10 k11 k12 k13 k14
  have h := wnums_any base g _ v9 A9 c9 n9 vec e9 HI.out.2.2.2.2.2.2.1 S w9 (HI.out.2.1.below ((hkW.below HSRC.out.1).mono hS)) hS hw0 (by omega) (by simp only [List.length_append, hq0, hq1, hq2, hq3, hq4, hq5, hq6, h7, hq8, hq9]; omega)
  have H := Lib.hid h
  have HS := Lib.hid (And.intro hB (And.intro hBv hkW))
  clear h hB hBv hkW hw0
  go_wp2_with fail
  refine H.out.mono ?_
  rintro e w10 ⟨rfl, v10, hw0, hk⟩
  obtain ⟨hB0, hBv0, hk0⟩ := HS.out
  obtain ⟨hB, hBv⟩ := hB0.kp hk hBg hBv0
  have hkW := hk0.trans hk
  clear hB0 hBv0 hk0 hk H HS
  have k0 := hB.cell 0
  have k1 := hB.cell 1
  have k2 := hB.cell 2
  have k3 := hB.cell 3
  have k4 := hB.cell 4
  have k5 := hB.cell 5
  have k6 := hB.cell 6
  have k7 := hB.cell 7
  have k8 := hB.cell 8
  have k9 := hB.cell 9
  have k10 := hB.cell 10
  have k11 := hB.cell 11
  have k12 := hB.cell 12
  have k13 := hB.cell 13
  have k14 := hB.cell 14
  simp only [List.getElem?_cons_zero, List.getElem?_cons_succ] at k0 k1 k2 k3 k4 k5 k6 k7 k8 k9 k10 k11 k12 k13 k14
  have h := wwholes_any base g _ v10 A10 c10 n10 path e10 HI.out.2.2.2.2.2.2.2.1 S w10 (HI.out.2.2.1.below ((hkW.below HSRC.out.1).mono hS)) hS hw0 (by omega) (by simp only [List.length_append, hq0, hq1, hq2, hq3, hq4, hq5, hq6, h7, hq8, hq9, hq10]; omega)
  have H := Lib.hid h
  have HS := Lib.hid (And.intro hB (And.intro hBv hkW))
  clear h hB hBv hkW hw0
  go_wp2_with fail
  refine H.out.mono ?_
  rintro e w11 ⟨rfl, v11, hw0, hk⟩
  obtain ⟨hB0, hBv0, hk0⟩ := HS.out
  obtain ⟨hB, hBv⟩ := hB0.kp hk hBg hBv0
  have hkW := hk0.trans hk
  clear hB0 hBv0 hk0 hk H HS
  have k0 := hB.cell 0
  have k1 := hB.cell 1
  have k2 := hB.cell 2
  have k3 := hB.cell 3
  have k4 := hB.cell 4
  have k5 := hB.cell 5
  have k6 := hB.cell 6
  have k7 := hB.cell 7
  have k8 := hB.cell 8
  have k9 := hB.cell 9
  have k10 := hB.cell 10
  have k11 := hB.cell 11
  have k12 := hB.cell 12
  have k13 := hB.cell 13
  have k14 := hB.cell 14
  simp only [List.getElem?_cons_zero, List.getElem?_cons_succ] at k0 k1 k2 k3 k4 k5 k6 k7 k8 k9 k10 k11 k12 k13 k14
  have h := whashes_any base g _ v11 A11 c11 n11 hashes e11 HI.out.2.2.2.2.2.2.2.2.1 S w11 (HI.out.2.2.2.1.below ((hkW.below HSRC.out.1).mono hS)) hS hw0 (by omega) (by simp only [List.length_append, hq0, hq1, hq2, hq3, hq4, hq5, hq6, h7, hq8, hq9, hq10, hq11]; omega)
  have H := Lib.hid h
  have HS := Lib.hid (And.intro hB (And.intro hBv hkW))
  clear h hB hBv hkW hw0
  go_wp2_with fail
  refine H.out.mono ?_
  rintro e w12 ⟨rfl, v12, hw0, hk⟩
  obtain ⟨hB0, hBv0, hk0⟩ := HS.out
  obtain ⟨hB, hBv⟩ := hB0.kp hk hBg hBv0
  have hkW := hk0.trans hk
  clear hB0 hBv0 hk0 hk H HS
  have k0 := hB.cell 0
  have k1 := hB.cell 1
  have k2 := hB.cell 2
  have k3 := hB.cell 3
  have k4 := hB.cell 4
  have k5 := hB.cell 5
  have k6 := hB.cell 6
  have k7 := hB.cell 7
  have k8 := hB.cell 8
  have k9 := hB.cell 9
  have k10 := hB.cell 10
  have k11 := hB.cell 11
  have k12 := hB.cell 12
  have k13 := hB.cell 13
  have k14 := hB.cell 14
  simp only [List.getElem?_cons_zero, List.getElem?_cons_succ] at k0 k1 k2 k3 k4 k5 k6 k7 k8 k9 k10 k11 k12 k13 k14
  have h := wwholes_any base g _ v12 A12 c12 n12 route e12 HI.out.2.2.2.2.2.2.2.2.2 S w12 (HI.out.2.2.2.2.1.below ((hkW.below HSRC.out.1).mono hS)) hS hw0 (by omega) (by simp only [List.length_append, hq0, hq1, hq2, hq3, hq4, hq5, hq6, h7, hq8, hq9, hq10, hq11, hq12]; omega)
  have H := Lib.hid h
  have HS := Lib.hid (And.intro hB (And.intro hBv hkW))
  clear h hB hBv hkW hw0
  go_wp2_with fail
  refine H.out.mono ?_
  rintro e w13 ⟨rfl, v13, hw0, hk⟩
  obtain ⟨hB0, hBv0, hk0⟩ := HS.out
  obtain ⟨hB, hBv⟩ := hB0.kp hk hBg hBv0
  have hkW := hk0.trans hk
  clear hB0 hBv0 hk0 hk H HS
  have HE := Lib.hid (And.intro hw0 hkW)
  clear hw0 hkW hB hBv
  go_wp2_with fail
  refine ⟨rfl, _, results_none rfl _ _ _, rfl, v13, ?_, HE.out.2⟩
  rw [msgL_eq]
  unfold strL
  simp only [← List.append_assoc]
  exact HE.out.1
end Code
end Go.Proofs.YtegiigeelcnemaaGreat
