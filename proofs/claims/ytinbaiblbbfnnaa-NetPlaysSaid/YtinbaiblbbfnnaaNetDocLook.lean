/-
  The document's Look (layer 8).
-/
import Derived.Test.YtinbaiblbbfnnaaNetDocCopy
import Derived.Laws.ResultCell
namespace Go.Proofs.Ytinbaiblbbfnnaa
namespace Net
open Go.RowKit Blk
attribute [local go_sem ↓] Go.wp_at_zero Go.wp_at_succ
section
variable {F : Nat → Prop} {w : World} {mb : Nat} {A : Option Addr} {c n : Nat} {l : List PE} {B : Option Addr} {q k : Nat} {cs : List Ct} {s t u : Int}
/-- A packet's cells. -/
theorem RN.pkt_at (h : RN F w mb A c n l B q k cs s t u) {j : Nat} {x : PE} (hx : l[j]? = some x) : ∃ g, A = some ⟨g, 0, none⟩ ∧ F g ∧ w.cell? ⟨g, j * 5, none⟩ = some (.int .i64 x.1.1.1) ∧ w.cell? ⟨g, j * 5 + 1, none⟩ = some (.int .i64 x.1.1.2) ∧ w.cell? ⟨g, j * 5 + 2, none⟩ = some (.int .i64 x.1.2.1.1) ∧ w.cell? ⟨g, j * 5 + 3, none⟩ = some (.int .i64 x.1.2.1.2) ∧ w.cell? ⟨g, j * 5 + 4, none⟩ = some (dV x) := by
  have hj := (List.getElem?_eq_some_iff.1 hx).1
  have hn := h.2.1.1
  rcases h.2.1.2.1.2 with ⟨hv, h2⟩ | ⟨g, cap, cur, hv, _, hc, hnc, hcs⟩
  · omega
  · injection hv with hA
    subst hA
    have hat : ∀ r, r < 5 → w.cell? ⟨g, j * 5 + r, none⟩ = (pc x)[r]? := fun r hr => by
      rw [h.2.1.2.1.cellAt (j * 5 + r) (by omega), pcs_at l hx r hr]
    exact ⟨g, rfl, h.2.2.2.2.1 g rfl, hat 0 (by omega), hat 1 (by omega), hat 2 (by omega), hat 3 (by omega), hat 4 (by omega)⟩
set_option maxRecDepth 100000 in
set_option maxHeartbeats 1000000 in
theorem doc_look_out (h : RN F w mb A c n l B q k cs s t u) (i : Int) (hi : ¬ (0 ≤ i ∧ i < n)) :
    Calls Try.prog 30 #[.pointer (some ⟨mb, 0, none⟩), .int .i64 i] w (fun e w' => e = .returned (.tuple #[.agg #[.int .i64 0, .int .i64 0, .int .i64 0, .int .i64 0, .slice none 0 0], .bool false]) ∧ Below w.heap.size w w') := by
  obtain ⟨rb, hrb⟩ : ∃ b, w.heap.size = b := ⟨_, rfl⟩
  obtain ⟨U, hU⟩ : ∃ U, w.alloc (.cells #[.int .i64 0, .int .i64 0, .int .i64 0, .int .i64 0, .slice none 0 0] 36) = U := ⟨_, rfl⟩
  have hb : Below w.heap.size w U := by rw [← hU]; exact (Below.refl _ w).alloc (Nat.le_refl _) _
  have hB : Bn rb 36 [.int .i64 0, .int .i64 0, .int .i64 0, .int .i64 0, .slice none 0 0] U := by rw [← hU, ← hrb]; exact heap_alloc_new w _
  obtain ⟨m0, _, _, _, _⟩ := (h.below hb).head
  have x0 := (hB.cell 0).trans rfl
  have x1 := (hB.cell 1).trans rfl
  have x2 := (hB.cell 2).trans rfl
  have x3 := (hB.cell 3).trans rfl
  have x4 := (hB.cell 4).trans rfl
  have f0 := hB.frozen 0
  have f1 := hB.frozen 1
  have f2 := hB.frozen 2
  have f3 := hB.frozen 3
  have f4 := hB.frozen 4
  have BY := five_bn hB (.int .i64 0) (.int .i64 0) (.int .i64 0) (.int .i64 0) (.slice none 0 0)
  have gY := five_below U rb (Nat.le_of_eq hrb) hb.size (.int .i64 0) (.int .i64 0) (.int .i64 0) (.int .i64 0) (.slice none 0 0)
  obtain ⟨Y, hY⟩ : ∃ V, five U rb (.int .i64 0) (.int .i64 0) (.int .i64 0) (.int .i64 0) (.slice none 0 0) = V := ⟨_, rfl⟩
  rw [hY] at BY gY
  unfold five at hY
  have k0 := (BY.cell 0).trans rfl
  have k1 := (BY.cell 1).trans rfl
  have k2 := (BY.cell 2).trans rfl
  have k3 := (BY.cell 3).trans rfl
  have k4 := (BY.cell 4).trans rfl
  have HB : Hid (Below rb w Y) := Lib.hid (by rw [← hrb]; exact hb.trans gY)
  clear h hb hB BY gY
  by_cases h0 : i < 0
  · have g0 : decide (i < 0) = true := decide_eq_true h0
    go_enter Try.func30, Try.ntmps30
    go_wp2_with fail
    refine bodyPost_ret (v := .tuple #[.agg #[.int .i64 0, .int .i64 0, .int .i64 0, .int .i64 0, .slice none 0 0], .bool false]) ?_ rfl ⟨rfl, by first | exact HB.out | (rw [hrb]; exact HB.out)⟩
    rw [results_cell_tmp rfl]
    go_simp
  · have g0 : decide (i < 0) = false := decide_eq_false h0
    have g1 : decide ((n : Int) ≤ i) = true := decide_eq_true (by omega)
    go_enter Try.func30, Try.ntmps30
    go_wp2_with fail
    refine bodyPost_ret (v := .tuple #[.agg #[.int .i64 0, .int .i64 0, .int .i64 0, .int .i64 0, .slice none 0 0], .bool false]) ?_ rfl ⟨rfl, by first | exact HB.out | (rw [hrb]; exact HB.out)⟩
    rw [results_cell_tmp rfl]
    go_simp
set_option maxRecDepth 100000 in
set_option maxHeartbeats 1000000 in
theorem doc_look_in (h : RN F w mb A c n l B q k cs s t u) (j : Nat) (a1 a2 b1 b2 : Int) (zs : List Int) (Ax : Option Addr) (cx : Nat) (hx : l[j]? = some (((a1, a2), (b1, b2), zs), Ax, cx)) :
    Calls Try.prog 30 #[.pointer (some ⟨mb, 0, none⟩), .int .i64 j] w (fun e w' => e = .returned (.tuple #[.agg #[.int .i64 a1, .int .i64 a2, .int .i64 b1, .int .i64 b2, .slice Ax zs.length cx], .bool true]) ∧ Below w.heap.size w w') := by
  obtain ⟨rb, hrb⟩ : ∃ b, w.heap.size = b := ⟨_, rfl⟩
  obtain ⟨U, hU⟩ : ∃ U, w.alloc (.cells #[.int .i64 0, .int .i64 0, .int .i64 0, .int .i64 0, .slice none 0 0] 36) = U := ⟨_, rfl⟩
  have hb : Below w.heap.size w U := by rw [← hU]; exact (Below.refl _ w).alloc (Nat.le_refl _) _
  have hB : Bn rb 36 [.int .i64 0, .int .i64 0, .int .i64 0, .int .i64 0, .slice none 0 0] U := by rw [← hU, ← hrb]; exact heap_alloc_new w _
  have hjn : j < n := by have := (List.getElem?_eq_some_iff.1 hx).1; have := h.2.1.1; omega
  obtain ⟨g, hA, _, p0, p1, p2, p3, p4⟩ := (h.below hb).pkt_at hx
  obtain ⟨m0, _, _, _, _⟩ := (h.below hb).head
  subst hA
  unfold dV at p4
  simp only at p0 p1 p2 p3 p4
  have x0 := (hB.cell 0).trans rfl
  have x1 := (hB.cell 1).trans rfl
  have x2 := (hB.cell 2).trans rfl
  have x3 := (hB.cell 3).trans rfl
  have x4 := (hB.cell 4).trans rfl
  have f0 := hB.frozen 0
  have f1 := hB.frozen 1
  have f2 := hB.frozen 2
  have f3 := hB.frozen 3
  have f4 := hB.frozen 4
  have BY := five_bn hB (.int .i64 a1) (.int .i64 a2) (.int .i64 b1) (.int .i64 b2) (.slice Ax zs.length cx)
  have gY := five_below U rb (Nat.le_of_eq hrb) hb.size (.int .i64 a1) (.int .i64 a2) (.int .i64 b1) (.int .i64 b2) (.slice Ax zs.length cx)
  obtain ⟨Y, hY⟩ : ∃ V, five U rb (.int .i64 a1) (.int .i64 a2) (.int .i64 b1) (.int .i64 b2) (.slice Ax zs.length cx) = V := ⟨_, rfl⟩
  rw [hY] at BY gY
  unfold five at hY
  have k0 := (BY.cell 0).trans rfl
  have k1 := (BY.cell 1).trans rfl
  have k2 := (BY.cell 2).trans rfl
  have k3 := (BY.cell 3).trans rfl
  have k4 := (BY.cell 4).trans rfl
  have HB : Hid (Below rb w Y) := Lib.hid (by rw [← hrb]; exact hb.trans gY)
  have d0 : decide ((j : Int) < 0) = false := decide_eq_false (by omega)
  have d1 : decide ((n : Int) ≤ (j : Int)) = false := decide_eq_false (by omega)
  have d2 : (0 : Int) ≤ (j : Int) := by omega
  have d3 : (j : Int) < (n : Int) := by omega
  clear h hb hB BY gY hx
  go_enter Try.func30, Try.ntmps30
  go_wp2_with fail
  refine bodyPost_ret (v := .tuple #[.agg #[.int .i64 a1, .int .i64 a2, .int .i64 b1, .int .i64 b2, .slice Ax zs.length cx], .bool true]) ?_ rfl ⟨rfl, by first | exact HB.out | (rw [hrb]; exact HB.out)⟩
  rw [results_cell_tmp rfl]
  go_simp
end
end Net
end Go.Proofs.Ytinbaiblbbfnnaa
