/-
  code.PutMsg: a message written into a frame.
-/
import Derived.Test.YtegiigeelcnemaaGreatCodeWrMsg
import Derived.Test.YtegiigeelcnemaaGreatCodeRightMsg
import Derived.Test.YtegiigeelcnemaaGreatGFrm
namespace Go.Proofs.YtegiigeelcnemaaGreat
namespace Code
open Go.RowKit Num Span Vers Frm
attribute [local go_sem ↓] Go.wp_at_zero Go.wp_at_succ

theorem app_fine {a b : List Int} (ha : ∀ z ∈ a, 0 ≤ z ∧ z ≤ 255) (hb : ∀ z ∈ b, 0 ≤ z ∧ z ≤ 255) : ∀ z ∈ a ++ b, 0 ≤ z ∧ z ≤ 255 := fun z hz => (List.mem_append.1 hz).elim (ha z) (hb z)
theorem strL_fine (x : ByteArray) : ∀ z ∈ strL x, 0 ≤ z ∧ z ≤ 255 := app_fine (putL_bytes _ (by omega)) (strNums_bytes x)
theorem tailL_fine (v : Vr) : ∀ z ∈ tailL v, 0 ≤ z ∧ z ≤ 255 := by
  unfold tailL
  by_cases h : v.gone = true
  · rw [if_pos h]; exact putL_bytes 1 (by omega)
  · rw [if_neg h]; exact app_fine (putL_bytes 0 (by omega)) (strL_fine v.val)
theorem verL_fine {v : Vr} (h : okV v) : ∀ z ∈ verL v, 0 ≤ z ∧ z ≤ 255 := by
  obtain ⟨hd, hR, _⟩ := h
  unfold okD at hd
  exact app_fine (app_fine (app_fine (putL_bytes _ (by omega)) (putL_bytes _ (by omega))) (setL_fine hR.2.1)) (tailL_fine v)
theorem recL_fine {r : Rc} (h : okR r) : ∀ z ∈ recL r, 0 ≤ z ∧ z ≤ 255 := app_fine (strL_fine r.1) (seqL_fine fun x hx => verL_fine (h.2.2.2.1.1 x hx))
theorem msgL_fine {m : Ms} (h : okM m) (ht : tyM m) : ∀ z ∈ msgL m, 0 ≤ z ∧ z ≤ 255 := by
  obtain ⟨kind, ⟨f1, f2⟩, ⟨t1, t2⟩, id, n, for_, code, key, recs, vec, path, hashes, route⟩ := m
  obtain ⟨x0, x1, x2, x3, x4, x5, x6, x7, x8, x9, x10, x11, x12⟩ := h
  obtain ⟨y1, y2, y3, y4⟩ := ht
  unfold okA at x1 x2
  simp only at x1 x2
  rw [msgL_eq]
  refine app_fine (putL_bytes _ (by omega)) (app_fine (app_fine (putL_bytes _ (by simp only; omega)) (putL_bytes _ (by simp only; omega))) (app_fine (app_fine (putL_bytes _ (by simp only; omega)) (putL_bytes _ (by simp only; omega))) (app_fine (putL_bytes _ x3) (app_fine (putL_bytes _ x4) (app_fine (putL_bytes _ x5.1) (app_fine (putL_bytes _ x6.1) (app_fine (strL_fine key) (app_fine (seqL_fine fun x hx => recL_fine (x8 x hx)) (app_fine (seqL_fine fun x hx => putL_bytes _ (x9.2 x hx).1) (app_fine (seqL_fine fun x hx => putL_bytes _ (x10.2 x hx).1) (app_fine (seqL_fine fun x hx => app_fine (putL_bytes _ ?_) (putL_bytes _ ?_)) (seqL_fine fun x hx => putL_bytes _ ?_))))))))))))
  · have := y4 x hx; omega
  · have := y4 x hx; omega
  · have := x12.2 x hx; omega
theorem own_cap {w : World} {base : Nat} {e : TypeId} {size : Nat} {A : Option Addr} {n c : Nat} {xs : List Value} (h : w.ownsRow base e size (.slice A n c) n xs) : n ≤ c := by
  rcases h.2 with ⟨hv, h0⟩ | ⟨g, cap, cur, he, _, _, hn, _⟩
  · omega
  · injection he with e1 e2 e3
    omega
def putMsgF (m : Ms) : List Int × Int := if okM m then (if (msgL m).length ≤ 1048576 then (frameF (msgL m), 0) else ([], 3)) else ([], 1)
set_option maxRecDepth 100000 in
set_option maxHeartbeats 4000000 in
theorem putmsg_any (kind f1 f2 t1 t2 id n for_ code : Int) (key : ByteArray) (recs : List Rc) (vec path hashes route : List Int) (A8 A9 A10 A11 A12 : Option Addr) (c8 c9 c10 c11 c12 n8 n9 n10 n11 n12 : Nat)
    (e8 : recs.length = n8) (e9 : vec.length = n9) (e10 : path.length = n10) (e11 : hashes.length = n11) (e12 : route.length = n12) (b8 : n8 ≤ 140737488355328) (b9 : key.size ≤ 140737488355328) (ht : tyM (kind, (f1, f2), (t1, t2), id, n, for_, code, key, recs, vec, path, hashes, route)) (hbig : okM (kind, (f1, f2), (t1, t2), id, n, for_, code, key, recs, vec, path, hashes, route) → (msgL (kind, (f1, f2), (t1, t2), id, n, for_, code, key, recs, vec, path, hashes, route)).length ≤ 70368744000000) (w : World)
    (hr : MsgI w 0 w.heap.size (kind, (f1, f2), (t1, t2), id, n, for_, code, key, recs, vec, path, hashes, route) ((A8, c8), (A9, c9), (A10, c10), (A11, c11), (A12, c12))) :
    Calls Tryz.prog 14 #[.agg #[.int .i64 kind, .int .i64 f1, .int .i64 f2, .int .i64 t1, .int .i64 t2, .int .i64 id, .int .i64 n, .int .i64 for_, .int .i64 code, .string key, .slice A8 n8 c8, .slice A9 n9 c9, .slice A10 n10 c10, .slice A11 n11 c11, .slice A12 n12 c12]] w (PutOut w.heap.size (putMsgF (kind, (f1, f2), (t1, t2), id, n, for_, code, key, recs, vec, path, hashes, route)) w) := by
  obtain ⟨W, hW⟩ : ∃ W, w.alloc (.cells #[.int .i64 kind, .int .i64 f1, .int .i64 f2, .int .i64 t1, .int .i64 t2, .int .i64 id, .int .i64 n, .int .i64 for_, .int .i64 code, .string key, .slice A8 n8 c8, .slice A9 n9 c9, .slice A10 n10 c10, .slice A11 n11 c11, .slice A12 n12 c12] 45) = W := ⟨_, rfl⟩
  obtain ⟨B, hBe⟩ : ∃ B, w.heap.size = B := ⟨_, rfl⟩
  have hB : Bn B 45 [.int .i64 kind, .int .i64 f1, .int .i64 f2, .int .i64 t1, .int .i64 t2, .int .i64 id, .int .i64 n, .int .i64 for_, .int .i64 code, .string key, .slice A8 n8 c8, .slice A9 n9 c9, .slice A10 n10 c10, .slice A11 n11 c11, .slice A12 n12 c12] W := by rw [← hW, ← hBe]; exact heap_alloc_new _ _
  have hb : Below B w W := by rw [← hW, ← hBe]; exact (Below.refl _ w).alloc (Nat.le_refl _) _
  rw [hBe] at hr ⊢
  have hmsg : ∀ (V : World) (S : Nat), Below B w V → B ≤ S → MsgI V 0 S (kind, (f1, f2), (t1, t2), id, n, for_, code, key, recs, vec, path, hashes, route) ((A8, c8), (A9, c9), (A10, c10), (A11, c11), (A12, c12)) := fun V S hbv hs => by
    obtain ⟨i8, i9, i10, i11, i12⟩ := hr
    exact ⟨(i8.below hbv).more hs, (i9.below hbv).more hs, (i10.below hbv).more hs, (i11.below hbv).more hs, (i12.below hbv).more hs⟩
  have hbz : B ≤ W.heap.size := by have := hb.size; omega
  have h := rightmsg_any kind f1 f2 t1 t2 id n for_ code key recs vec path hashes route A8 A9 A10 A11 A12 c8 c9 c10 c11 c12 n8 n9 n10 n11 n12 e8 e9 e10 e11 e12 b8 b9 W (hmsg _ _ hb hbz)
  have HM := Lib.hid hmsg
  have HE := Lib.hid (And.intro e8 (And.intro e9 (And.intro e10 (And.intro e11 e12))))
  clear hmsg hr e8 e9 e10 e11 e12
  have k0 := hB.cell 0
  have k1 := hB.cell 1
  have k2 := hB.cell 2
  have k3 := hB.cell 3
  have k4 := hB.cell 4
  have k5 := hB.cell 5
  have k6 := hB.cell 6
  have k7 := hB.cell 7
  have k8 := hB.cell 8
  have k9 := hB.cell 9
  have k10 := hB.cell 10
  have k11 := hB.cell 11
  have k12 := hB.cell 12
  have k13 := hB.cell 13
  have k14 := hB.cell 14
  simp only [List.getElem?_cons_zero, List.getElem?_cons_succ] at k0 k1 k2 k3 k4 k5 k6 k7 k8 k9 k10 k11 k12 k13 k14
  by_cases hx : okM (kind, (f1, f2), (t1, t2), id, n, for_, code, key, recs, vec, path, hashes, route)
  · replace hbig := hbig hx
    rw [decide_eq_true hx] at h
    have H := Lib.hid h
    have HS := Lib.hid (And.intro hB (And.intro hb hx))
    clear h hB hb hx
    go_enter Tryz.func14, Tryz.ntmps14
    go_wp2_with fail
    refine H.out.mono ?_
    rintro e w1 ⟨rfl, hb1⟩
    obtain ⟨hB0, hb0, hx⟩ := HS.out
    have hB1 := hB0.below hb1 hB0.lt
    have hb2 := hb0.trans (hb1.mono hbz)
    have hbz1 : B + 1 ≤ w1.heap.size := hB1.lt
    obtain ⟨V, hV⟩ : ∃ V, w1.alloc (.cells #[.slice none 0 0] 57) = V := ⟨_, rfl⟩
    have hwr : Wr (B + 1) w1.heap.size [] (.slice none 0 0) V := by rw [← hV]; exact ⟨Boxed.new _ _ _, ⟨none, 0, rfl⟩, World.ownsRow_nil _ _ _ _, hbz1⟩
    have hB : Bn B 45 [.int .i64 kind, .int .i64 f1, .int .i64 f2, .int .i64 t1, .int .i64 t2, .int .i64 id, .int .i64 n, .int .i64 for_, .int .i64 code, .string key, .slice A8 n8 c8, .slice A9 n9 c9, .slice A10 n10 c10, .slice A11 n11 c11, .slice A12 n12 c12] V := by rw [← hV]; exact hB1.kept (World.grownBy_alloc _ _ none) (by simp)
    have hb : Below B w V := by rw [← hV]; exact hb2.alloc (by omega) _
    clear hB0 hb0 hb1 hB1 hb2 H HS
    have k0 := hB.cell 0
    have k1 := hB.cell 1
    have k2 := hB.cell 2
    have k3 := hB.cell 3
    have k4 := hB.cell 4
    have k5 := hB.cell 5
    have k6 := hB.cell 6
    have k7 := hB.cell 7
    have k8 := hB.cell 8
    have k9 := hB.cell 9
    have k10 := hB.cell 10
    have k11 := hB.cell 11
    have k12 := hB.cell 12
    have k13 := hB.cell 13
    have k14 := hB.cell 14
    simp only [List.getElem?_cons_zero, List.getElem?_cons_succ] at k0 k1 k2 k3 k4 k5 k6 k7 k8 k9 k10 k11 k12 k13 k14
    obtain ⟨g, hg⟩ : ∃ g, w1.heap.size = g := ⟨_, rfl⟩
    rw [hg] at hwr
    have h := wmsg_any (B + 1) g [] (.slice none 0 0) kind f1 f2 t1 t2 id n for_ code key recs vec path hashes route A8 A9 A10 A11 A12 c8 c9 c10 c11 c12 n8 n9 n10 n11 n12 HE.out.1 HE.out.2.1 HE.out.2.2.1 HE.out.2.2.2.1 HE.out.2.2.2.2 hx ht 0 (B + 1) V (HM.out _ _ hb (by omega)) (Nat.le_refl _) hwr (by simpa using hbig)
    rw [List.nil_append] at h
    have hfine := msgL_fine hx ht
    have hF : putMsgF (kind, (f1, f2), (t1, t2), id, n, for_, code, key, recs, vec, path, hashes, route) = if (msgL (kind, (f1, f2), (t1, t2), id, n, for_, code, key, recs, vec, path, hashes, route)).length ≤ 1048576 then (frameF (msgL (kind, (f1, f2), (t1, t2), id, n, for_, code, key, recs, vec, path, hashes, route)), 0) else ([], 3) := if_pos hx
    obtain ⟨Z, hZ⟩ : ∃ Z, msgL (kind, (f1, f2), (t1, t2), id, n, for_, code, key, recs, vec, path, hashes, route) = Z := ⟨_, rfl⟩
    rw [hZ] at h hfine hF hbig
    have H := Lib.hid h
    have HS := Lib.hid (And.intro hb (And.intro hwr (And.intro hfine hF)))
    clear h hB hb hwr hfine hF hx hZ
    go_wp2_with fail
    refine H.out.mono ?_
    rintro e w2 ⟨rfl, v2, hw2, hk2⟩
    obtain ⟨hb, hwr, hfine, hF⟩ := HS.out
    have hb2 := hb.trans ((hk2.below hwr).mono (by omega))
    obtain ⟨hbx, ⟨A', c', rfl⟩, ho, hbg⟩ := hw2
    have c0 := hbx.cell
    have hcap := own_cap ho
    have hbz2 : B ≤ w2.heap.size := by have := hb2.size; omega
    by_cases hlen : Z.length ≤ 1048576
    · rw [if_pos hlen] at hF
      have h := put_any A' c' Z w2 (own_ns ho) hfine hcap hlen
      obtain ⟨zl, hzl⟩ : ∃ zl, Z.length = zl := ⟨_, rfl⟩
      rw [hzl] at h c0
      have H2 := Lib.hid h
      have HZ := Lib.hid (And.intro hb2 hF)
      clear h hb2 hF hbx ho hb hwr hfine hk2 HS H
      go_wp2_with fail
      refine H2.out.mono ?_
      rintro e w3 ⟨A3, c3, rfl, o3, b3⟩
      have HO := Lib.hid (And.intro o3 b3)
      clear o3 b3
      go_wp2_with fail
      go_ret2
      rw [HZ.out.2]
      exact ⟨A3, c3, rfl, own_base HO.out.1 (by omega), HZ.out.1.trans (HO.out.2.mono hbz2)⟩
    · rw [if_neg hlen] at hF
      have h := put_long A' c' Z.length w2 (by omega) (by omega)
      obtain ⟨zl, hzl⟩ : ∃ zl, Z.length = zl := ⟨_, rfl⟩
      rw [hzl] at h c0
      have H2 := Lib.hid h
      have HZ := Lib.hid (And.intro hb2 hF)
      clear h hb2 hF hbx ho hb hwr hfine hk2 HS H
      go_wp2_with fail
      refine H2.out.mono ?_
      rintro e w3 ⟨rfl, rfl⟩
      go_wp2_with fail
      go_ret2
      rw [HZ.out.2]
      exact ⟨none, 0, rfl, World.ownsRow_nil _ _ _ _, HZ.out.1⟩
  · rw [decide_eq_false hx] at h
    have hF : putMsgF (kind, (f1, f2), (t1, t2), id, n, for_, code, key, recs, vec, path, hashes, route) = ([], 1) := if_neg hx
    rw [hF]
    have H := Lib.hid h
    have HS := Lib.hid hb
    clear h hB hb hx hF
    go_enter Tryz.func14, Tryz.ntmps14
    go_wp2_with fail
    refine H.out.mono ?_
    rintro e w1 ⟨rfl, hb1⟩
    have HZ := Lib.hid (HS.out.trans (hb1.mono hbz))
    clear hb1
    go_wp2_with fail
    go_ret2
    exact ⟨none, 0, rfl, World.ownsRow_nil _ _ _ _, HZ.out⟩
end Code
end Go.Proofs.YtegiigeelcnemaaGreat
