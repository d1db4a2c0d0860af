/-
  A row of versions of the call's own that is filled from its head.
-/
import Derived.Test.YtbhidndgnldheaaVersFresh
namespace Go.Proofs.Ytbhidndgnldheaa
namespace Vers
open Go.RowKit Span

/-- Block g is a row of n versions; the first ones are ps. -/
def Fill (w : World) (g n : Nat) (ps : List Pv) : Prop :=
  ∃ cur, w.heap[g]? = some (.cells cur 69 (0, 0)) ∧ cur.size = n * 5 ∧ ∀ j, j < ps.length * 5 → cur[j]? = (vcs ps)[j]?

section
variable {w w' : World} {g n : Nat} {ps : List Pv}
theorem Fill.keep (h : Fill w g n ps) (hk : w'.heap[g]? = w.heap[g]?) : Fill w' g n ps := by
  obtain ⟨cur, h1, h2, h3⟩ := h
  exact ⟨cur, hk.trans h1, h2, h3⟩
theorem Fill.frozen (h : Fill w g n ps) (j : Nat) : w.frozen? ⟨g, j, none⟩ = false := by
  obtain ⟨cur, h1, _⟩ := h
  simp [World.frozen?, h1]
theorem Fill.cell (h : Fill w g n ps) (j : Nat) (hj : j < n * 5) : ∃ z, w.cell? ⟨g, j, none⟩ = some z := by
  obtain ⟨cur, h1, h2, _⟩ := h
  exact ⟨cur[j]'(by omega), by rw [cell_of_row w g j cur 69 (0, 0) h1]; exact Array.getElem?_eq_getElem (by omega)⟩
theorem Fill.lt (h : Fill w g n ps) : g < w.heap.size := by
  obtain ⟨cur, h1, _⟩ := h
  exact (Array.getElem?_eq_some_iff.1 h1).1
theorem Fill.own (h : Fill w g n ps) (hn : ps.length = n) (base : Nat) (hb : base ≤ g) (hm : n ≤ maxLen) : w.ownsRow base 69 5 (.slice (some ⟨g, 0, none⟩) n n) n (vcs ps) := by
  obtain ⟨cur, h1, h2, h3⟩ := h
  subst hn
  refine ⟨vcs_length ps, .inr ⟨g, ps.length, cur, rfl, hb, h1, Nat.le_refl _, hm, h2, ?_⟩⟩
  apply List.ext_getElem?
  intro j
  by_cases hj : j < ps.length * 5
  · rw [List.getElem?_take_of_lt hj, Array.getElem?_toList, h3 j hj]
  · rw [List.getElem?_take_eq_none (by omega), List.getElem?_eq_none (by rw [vcs_length]; omega)]

/-- Five cells written from o on. -/
def put5o (V : World) (m o : Nat) (u0 u1 u2 u3 u4 : Value) : World := ((((V.setCell ⟨m, o, none⟩ u0).setCell ⟨m, o + 1, none⟩ u1).setCell ⟨m, o + 2, none⟩ u2).setCell ⟨m, o + 3, none⟩ u3).setCell ⟨m, o + 4, none⟩ u4
theorem put5o_lit {V : World} {m o : Nat} {u0 u1 u2 u3 u4 : Value} : ((((V.setCell ⟨m, o, none⟩ u0).setCell ⟨m, o + 1, none⟩ u1).setCell ⟨m, o + 2, none⟩ u2).setCell ⟨m, o + 3, none⟩ u3).setCell ⟨m, o + 4, none⟩ u4 = put5o V m o u0 u1 u2 u3 u4 := rfl
theorem put5o_heap {V : World} {m o k : Nat} {u0 u1 u2 u3 u4 : Value} (h : k ≠ m) : (put5o V m o u0 u1 u2 u3 u4).heap[k]? = V.heap[k]? := by
  unfold put5o
  rw [Below.heap_setCell _ _ _ _ h, Below.heap_setCell _ _ _ _ h, Below.heap_setCell _ _ _ _ h, Below.heap_setCell _ _ _ _ h, Below.heap_setCell _ _ _ _ h]
theorem put5o_size {V : World} {m o : Nat} {u0 u1 u2 u3 u4 : Value} : (put5o V m o u0 u1 u2 u3 u4).heap.size = V.heap.size := by
  unfold put5o
  rw [setCell_size, setCell_size, setCell_size, setCell_size, setCell_size]
theorem put5o_below {V : World} {m o : Nat} {u0 u1 u2 u3 u4 : Value} : Below m V (put5o V m o u0 u1 u2 u3 u4) := by
  unfold put5o
  exact ((((below_set V m o u0).trans (below_set _ m (o + 1) u1)).trans (below_set _ m (o + 2) u2)).trans (below_set _ m (o + 3) u3)).trans (below_set _ m (o + 4) u4)
theorem set_row {V : World} {m : Nat} {cur : Array Value} {e : TypeId} (h : V.heap[m]? = some (.cells cur e (0, 0))) (i : Nat) (u : Value) : (V.setCell ⟨m, i, none⟩ u).heap[m]? = some (.cells (cur.setIfInBounds i u) e (0, 0)) := by
  simp [World.setCell, Array.getElem?_modify, h]
/-- One more is laid behind. -/
theorem Fill.put (h : Fill w g n ps) (hn : ps.length < n) (p : Pv) (o : Nat) (ho : o = ps.length * 5) : Fill (put5o w g o (.int .i64 p.1.s) (.int .i64 p.1.n) (.slice p.2.1 p.1.past.length p.2.2) (.bool p.1.gone) (.string p.1.val)) g n (ps ++ [p]) := by
  subst ho
  obtain ⟨cur, h1, h2, h3⟩ := h
  have k1 := set_row h1 (ps.length * 5) (.int .i64 p.1.s)
  have k2 := set_row k1 (ps.length * 5 + 1) (.int .i64 p.1.n)
  have k3 := set_row k2 (ps.length * 5 + 2) (.slice p.2.1 p.1.past.length p.2.2)
  have k4 := set_row k3 (ps.length * 5 + 3) (.bool p.1.gone)
  have k5 := set_row k4 (ps.length * 5 + 4) (.string p.1.val)
  refine ⟨_, k5, by simpa using h2, fun j hj => ?_⟩
  rw [List.length_append, List.length_singleton] at hj
  rw [vcs_append, vcs_one]
  by_cases hj0 : j < ps.length * 5
  · rw [List.getElem?_append_left (by rw [vcs_length]; exact hj0), ← h3 j hj0]
    rw [Array.getElem?_setIfInBounds_ne (by omega), Array.getElem?_setIfInBounds_ne (by omega), Array.getElem?_setIfInBounds_ne (by omega), Array.getElem?_setIfInBounds_ne (by omega), Array.getElem?_setIfInBounds_ne (by omega)]
  · rw [List.getElem?_append_right (by rw [vcs_length]; omega), vcs_length]
    obtain ⟨r, rfl⟩ : ∃ r, j = ps.length * 5 + r := ⟨j - ps.length * 5, by omega⟩
    have hr : r < 5 := by omega
    have hc : cur.size = n * 5 := h2
    rw [show ps.length * 5 + r - ps.length * 5 = r by omega]
    match r, hr with
    | 0, _ => rw [Array.getElem?_setIfInBounds_ne (by omega), Array.getElem?_setIfInBounds_ne (by omega), Array.getElem?_setIfInBounds_ne (by omega), Array.getElem?_setIfInBounds_ne (by omega), Nat.add_zero, Array.getElem?_setIfInBounds_self_of_lt (by omega)]; rfl
    | 1, _ => rw [Array.getElem?_setIfInBounds_ne (by omega), Array.getElem?_setIfInBounds_ne (by omega), Array.getElem?_setIfInBounds_ne (by omega), Array.getElem?_setIfInBounds_self_of_lt (by simp; omega)]; rfl
    | 2, _ => rw [Array.getElem?_setIfInBounds_ne (by omega), Array.getElem?_setIfInBounds_ne (by omega), Array.getElem?_setIfInBounds_self_of_lt (by simp; omega)]; rfl
    | 3, _ => rw [Array.getElem?_setIfInBounds_ne (by omega), Array.getElem?_setIfInBounds_self_of_lt (by simp; omega)]; rfl
    | 4, _ => rw [Array.getElem?_setIfInBounds_self_of_lt (by simp; omega)]; rfl
/-- What make laid. -/
theorem fill_start {base : Nat} {xs : List Value} (h : w.ownsRow base 69 5 (.slice (some ⟨g, 0, none⟩) n n) n xs) : Fill w g n [] := by
  rcases h.2 with ⟨h0, _⟩ | ⟨g', cap, cur, hv, _, hg, _, _, hs, _⟩
  · cases h0
  · injection hv with h1 _ h2
    injection h1 with h1
    injection h1 with h1
    subst h1
    subst h2
    exact ⟨cur, hg, hs, fun j hj => absurd hj (by simp)⟩
end
end Vers
end Go.Proofs.Ytbhidndgnldheaa
