/-
  firthref03.put: a span laid into a right list.
-/
import Derived.Test.YtbhidndgnldheaaSpanJoin
namespace Go.Proofs.Ytbhidndgnldheaa
namespace Span
open Go.RowKit
attribute [local go_sem ↓] Go.wp_at_zero Go.wp_at_succ

/-- Block B is a box that holds the span x. -/
def Bx (W : World) (B : Nat) (x : Sp) : Prop := W.heap[B]? = some (.cells #[.int .i64 x.1, .int .i64 x.2.1, .int .i64 x.2.2] 111 (0, 0))
section
variable {W W' : World} {B : Nat} {x : Sp}
theorem Bx.lt (h : Bx W B x) : B < W.heap.size := (Array.getElem?_eq_some_iff.1 h).1
theorem Bx.c0 (h : Bx W B x) : W.cell? ⟨B, 0, none⟩ = some (.int .i64 x.1) := by simp [World.cell?, show W.heap[B]? = _ from h]
theorem Bx.c1 (h : Bx W B x) : W.cell? ⟨B, 1, none⟩ = some (.int .i64 x.2.1) := by simp [World.cell?, show W.heap[B]? = _ from h]
theorem Bx.c2 (h : Bx W B x) : W.cell? ⟨B, 2, none⟩ = some (.int .i64 x.2.2) := by simp [World.cell?, show W.heap[B]? = _ from h]
theorem Bx.frozen (h : Bx W B x) (j : Nat) : W.frozen? ⟨B, j, none⟩ = false := by simp [World.frozen?, show W.heap[B]? = _ from h]
theorem Bx.new (W : World) (x : Sp) : Bx (W.alloc (.cells #[.int .i64 x.1, .int .i64 x.2.1, .int .i64 x.2.2] 111)) W.heap.size x := heap_alloc_new W _
theorem Bx.kept {row : Option Nat} (h : Bx W B x) (hg : W.grownBy W' row) (hne : some B ≠ row) : Bx W' B x := (hg.block B h.lt hne).trans h
theorem Bx.alloc (h : Bx W B x) (o : Obj) : Bx (W.alloc o) B x := h.kept (World.grownBy_alloc W o none) (by simp)
theorem Bx.below {B' : Nat} (h : Bx W B x) (hb : Below B' W W') (hB : B < B') : Bx W' B x := (hb.block B hB).trans h
theorem Bx.set1 (h : Bx W B x) (z : Int) : Bx (W.setCell ⟨B, 1, none⟩ (.int .i64 z)) B (x.1, z, x.2.2) := by
  have h' : W.heap[B]? = some (.cells #[.int .i64 x.1, .int .i64 x.2.1, .int .i64 x.2.2] 111 (0, 0)) := h
  show (W.setCell ⟨B, 1, none⟩ (.int .i64 z)).heap[B]? = _
  simp [World.setCell, Array.getElem?_modify, h']
theorem Bx.set2 (h : Bx W B x) (z : Int) : Bx (W.setCell ⟨B, 2, none⟩ (.int .i64 z)) B (x.1, x.2.1, z) := by
  have h' : W.heap[B]? = some (.cells #[.int .i64 x.1, .int .i64 x.2.1, .int .i64 x.2.2] 111 (0, 0)) := h
  show (W.setCell ⟨B, 2, none⟩ (.int .i64 z)).heap[B]? = _
  simp [World.setCell, Array.getElem?_modify, h']
end

/-- The slice v owns the spans l; nothing below base has turned. -/
def OwnSs (W : World) (base : Nat) (A : Option Addr) (c : Nat) (l : List Sp) : Prop := W.ownsRow base 111 3 (.slice A l.length c) l.length (sps l)

theorem own_next {W : World} {base : Nat} {A : Option Addr} {c m : Nat} {l : List Sp} {y : Sp} (h : W.ownsRow base 111 3 (.slice A (m + 1) c) (m + 1) (sps (l ++ [y]))) (hm : l.length = m) : OwnSs W base A c (l ++ [y]) := by
  unfold OwnSs
  rw [show (l ++ [y]).length = m + 1 by simp [hm]]
  exact h
theorem len_next {l : List Sp} {m : Nat} (y : Sp) (hm : l.length = m) : (l ++ [y]).length = m + 1 := by simp [hm]
theorem own_back {W : World} {base : Nat} {A : Option Addr} {c m : Nat} {l : List Sp} (hm : l.length = m) (h : W.ownsRow base 111 3 (.slice A m c) m (sps l)) : OwnSs W base A c l := by
  subst hm
  exact h
theorem own_at {W : World} {base : Nat} {A : Option Addr} {c m : Nat} {l : List Sp} (h : OwnSs W base A c l) (hm : l.length = m) : W.ownsRow base 111 3 (.slice A m c) m (sps l) := by
  subst hm
  exact h

end Span
end Go.Proofs.Ytbhidndgnldheaa
