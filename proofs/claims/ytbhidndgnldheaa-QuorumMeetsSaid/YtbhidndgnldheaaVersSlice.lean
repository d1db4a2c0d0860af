/-
  A slice of versions without its first one.
-/
import Derived.Test.YtbhidndgnldheaaVersPut
namespace Go.Proofs.Ytbhidndgnldheaa
namespace Vers
open Go.RowKit Span

theorem vs_head {w : World} {L B : Nat} {A : Option Addr} {x : Vr} {l : List Vr} (h : Vs w L B A (x :: l)) : ∃ b off A1 c1, A = some ⟨b, off, none⟩ ∧ b < B ∧ Vat w L B b off x A1 c1 := by
  obtain ⟨b, off, rfl, _, hb, hc⟩ := h (by simp)
  obtain ⟨A1, c1, h1⟩ := hc 0 (by simp)
  exact ⟨b, off, A1, c1, rfl, hb, by simpa using h1⟩
theorem vs_tail {w : World} {L B b off : Nat} {x : Vr} {l : List Vr} (h : Vs w L B (some ⟨b, off, none⟩) (x :: l)) : Vs w L B (some ⟨b, off + 5, none⟩) l := by
  have := h.drop 1
  simpa using this

theorem elem_vers : Try.prog.underlying 47 = some (.slice (Try.prog.elem 47)) := by kernel_rfl
theorem slice_tail (b off k c : Nat) (h : k + 1 ≤ c) : ∃ Ax cx, (∀ V, (Instr.slice 47 (.slice (some ⟨b, off, none⟩) (k + 1) c) (some (.int .i64 1)) none none).run Try.prog V = .ok (.slice Ax k cx) V) ∧ k ≤ cx ∧
    ∀ w L B x l, l.length = k → Vs w L B (some ⟨b, off, none⟩) (x :: l) → Vs w L B Ax l := by
  obtain ⟨i0, hi0, hz0, hz1, hz2⟩ := info_parts info_ver
  refine ⟨if c = 1 then some ⟨b, off, none⟩ else some ⟨b, off + 5, none⟩, c - 1, fun V => ?_, by omega, fun w L B x l hl hv => ?_⟩
  · have hs := run_slice_l (P := Try.prog) V 47 (some ⟨b, off, none⟩) (k + 1) c elem_vers .i64 1 (by omega) (by omega)
    rw [hs]
    have he : Try.prog.elem 47 = 69 := by kernel_rfl
    have ha : (⟨b, off, none⟩ : Addr).add 5 = ⟨b, off + 5, none⟩ := add_plain _ _ _
    rw [he]
    simp only [sizeOf, typeInfo, Sem.run_bind, Sem.run_pure, sliced, Option.map_some, Int.toNat_one, Nat.one_mul, Nat.add_sub_cancel]
    simp [go_sem, hi0, hz1]
  · split
    · have : l = [] := List.eq_nil_of_length_eq_zero (by omega)
      subst this
      exact Vs.nil _
    · exact vs_tail hv

section
variable {V : World} {m b o : Nat} {u0 u1 u2 u3 u4 : Value}
/-- Five cells written. -/
def put5 (V : World) (m : Nat) (u0 u1 u2 u3 u4 : Value) : World := (((((V.setCell ⟨m, 0, none⟩ u0).setCell ⟨m, 1, none⟩ u1).setCell ⟨m, 2, none⟩ u2).setCell ⟨m, 3, none⟩ u3).setCell ⟨m, 4, none⟩ u4).drew
theorem drew_heap (X : World) : X.drew.heap = X.heap := rfl
theorem drew_cell (X : World) (a : Addr) : X.drew.cell? a = X.cell? a := rfl
theorem setCell_size (X : World) (a : Addr) (v : Value) : (X.setCell a v).heap.size = X.heap.size := by simp [World.setCell]
theorem below_set (X : World) (k r : Nat) (v : Value) : Below k X (X.setCell ⟨k, r, none⟩ v) := (Below.refl k X).setCell (Nat.le_refl _) v
theorem off_ne (X : World) (m i j : Nat) (v : Value) (h : i ≠ j) : (X.setCell ⟨m, i, none⟩ v).cell? ⟨m, j, none⟩ = X.cell? ⟨m, j, none⟩ := by apply World.cell?_setCell_other; intro e; apply h; injection e
theorem put5_heap {k : Nat} (h : k ≠ m) : (put5 V m u0 u1 u2 u3 u4).heap[k]? = V.heap[k]? := by
  unfold put5
  rw [drew_heap, Below.heap_setCell _ _ _ _ h, Below.heap_setCell _ _ _ _ h, Below.heap_setCell _ _ _ _ h, Below.heap_setCell _ _ _ _ h, Below.heap_setCell _ _ _ _ h]
theorem put5_size : (put5 V m u0 u1 u2 u3 u4).heap.size = V.heap.size := by
  unfold put5
  rw [drew_heap, setCell_size, setCell_size, setCell_size, setCell_size, setCell_size]
theorem put5_below : Below m V (put5 V m u0 u1 u2 u3 u4) := by
  unfold put5
  exact (((((below_set V m 0 u0).trans (below_set _ m 1 u1)).trans (below_set _ m 2 u2)).trans (below_set _ m 3 u3)).trans (below_set _ m 4 u4)).drew
theorem put5_far {x0 x1 x2 x3 x4 : Option Value} (hne : b ≠ m)
    (h : V.cell? ⟨b, o, none⟩ = x0 ∧ V.cell? ⟨b, o + 1, none⟩ = x1 ∧ V.cell? ⟨b, o + 2, none⟩ = x2 ∧ V.cell? ⟨b, o + 3, none⟩ = x3 ∧ V.cell? ⟨b, o + 4, none⟩ = x4) :
    (put5 V m u0 u1 u2 u3 u4).cell? ⟨b, o, none⟩ = x0 ∧ (put5 V m u0 u1 u2 u3 u4).cell? ⟨b, o + 1, none⟩ = x1 ∧ (put5 V m u0 u1 u2 u3 u4).cell? ⟨b, o + 2, none⟩ = x2 ∧ (put5 V m u0 u1 u2 u3 u4).cell? ⟨b, o + 3, none⟩ = x3 ∧ (put5 V m u0 u1 u2 u3 u4).cell? ⟨b, o + 4, none⟩ = x4 := by
  have key : ∀ k, (put5 V m u0 u1 u2 u3 u4).cell? ⟨b, k, none⟩ = V.cell? ⟨b, k, none⟩ := fun k => World.cell?_of_block (put5_heap hne)
  exact ⟨(key _).trans h.1, (key _).trans h.2.1, (key _).trans h.2.2.1, (key _).trans h.2.2.2.1, (key _).trans h.2.2.2.2⟩
theorem put5_new {z0 z1 z2 z3 z4 : Value} (h : V.cell? ⟨m, 0, none⟩ = some z0 ∧ V.cell? ⟨m, 1, none⟩ = some z1 ∧ V.cell? ⟨m, 2, none⟩ = some z2 ∧ V.cell? ⟨m, 3, none⟩ = some z3 ∧ V.cell? ⟨m, 4, none⟩ = some z4) :
    (put5 V m u0 u1 u2 u3 u4).cell? ⟨m, 0, none⟩ = some u0 ∧ (put5 V m u0 u1 u2 u3 u4).cell? ⟨m, 1, none⟩ = some u1 ∧ (put5 V m u0 u1 u2 u3 u4).cell? ⟨m, 2, none⟩ = some u2 ∧ (put5 V m u0 u1 u2 u3 u4).cell? ⟨m, 3, none⟩ = some u3 ∧ (put5 V m u0 u1 u2 u3 u4).cell? ⟨m, 4, none⟩ = some u4 := by
  have e : ∀ a, (put5 V m u0 u1 u2 u3 u4).cell? a = (((((V.setCell ⟨m, 0, none⟩ u0).setCell ⟨m, 1, none⟩ u1).setCell ⟨m, 2, none⟩ u2).setCell ⟨m, 3, none⟩ u3).setCell ⟨m, 4, none⟩ u4).cell? a := fun a => by unfold put5; rw [drew_cell]
  obtain ⟨h0, h1, h2, h3, h4⟩ := h
  have s0 : (V.setCell ⟨m, 0, none⟩ u0).cell? ⟨m, 0, none⟩ = some u0 := World.cell?_setCell_same' _ _ _ (by rw [h0]; rfl)
  have s1 : ((V.setCell ⟨m, 0, none⟩ u0).setCell ⟨m, 1, none⟩ u1).cell? ⟨m, 1, none⟩ = some u1 := World.cell?_setCell_same' _ _ _ (by rw [off_ne _ _ _ _ _ (by omega), h1]; rfl)
  have s2 : (((V.setCell ⟨m, 0, none⟩ u0).setCell ⟨m, 1, none⟩ u1).setCell ⟨m, 2, none⟩ u2).cell? ⟨m, 2, none⟩ = some u2 := World.cell?_setCell_same' _ _ _ (by rw [off_ne _ _ _ _ _ (by omega), off_ne _ _ _ _ _ (by omega), h2]; rfl)
  have s3 : ((((V.setCell ⟨m, 0, none⟩ u0).setCell ⟨m, 1, none⟩ u1).setCell ⟨m, 2, none⟩ u2).setCell ⟨m, 3, none⟩ u3).cell? ⟨m, 3, none⟩ = some u3 := World.cell?_setCell_same' _ _ _ (by rw [off_ne _ _ _ _ _ (by omega), off_ne _ _ _ _ _ (by omega), off_ne _ _ _ _ _ (by omega), h3]; rfl)
  have s4 : (((((V.setCell ⟨m, 0, none⟩ u0).setCell ⟨m, 1, none⟩ u1).setCell ⟨m, 2, none⟩ u2).setCell ⟨m, 3, none⟩ u3).setCell ⟨m, 4, none⟩ u4).cell? ⟨m, 4, none⟩ = some u4 := World.cell?_setCell_same' _ _ _ (by rw [off_ne _ _ _ _ _ (by omega), off_ne _ _ _ _ _ (by omega), off_ne _ _ _ _ _ (by omega), off_ne _ _ _ _ _ (by omega), h4]; rfl)
  refine ⟨?_, ?_, ?_, ?_, ?_⟩
  · rw [e, off_ne _ _ _ _ _ (by omega), off_ne _ _ _ _ _ (by omega), off_ne _ _ _ _ _ (by omega), off_ne _ _ _ _ _ (by omega), s0]
  · rw [e, off_ne _ _ _ _ _ (by omega), off_ne _ _ _ _ _ (by omega), off_ne _ _ _ _ _ (by omega), s1]
  · rw [e, off_ne _ _ _ _ _ (by omega), off_ne _ _ _ _ _ (by omega), s2]
  · rw [e, off_ne _ _ _ _ _ (by omega), s3]
  · rw [e, s4]
theorem put5_far_lit {x0 x1 x2 x3 x4 : Option Value} (hne : b ≠ m)
    (h : V.cell? ⟨b, o, none⟩ = x0 ∧ V.cell? ⟨b, o + 1, none⟩ = x1 ∧ V.cell? ⟨b, o + 2, none⟩ = x2 ∧ V.cell? ⟨b, o + 3, none⟩ = x3 ∧ V.cell? ⟨b, o + 4, none⟩ = x4) :
    ((((((V.setCell ⟨m, 0, none⟩ u0).setCell ⟨m, 1, none⟩ u1).setCell ⟨m, 2, none⟩ u2).setCell ⟨m, 3, none⟩ u3).setCell ⟨m, 4, none⟩ u4).drew).cell? ⟨b, o, none⟩ = x0 ∧ ((((((V.setCell ⟨m, 0, none⟩ u0).setCell ⟨m, 1, none⟩ u1).setCell ⟨m, 2, none⟩ u2).setCell ⟨m, 3, none⟩ u3).setCell ⟨m, 4, none⟩ u4).drew).cell? ⟨b, o + 1, none⟩ = x1 ∧ ((((((V.setCell ⟨m, 0, none⟩ u0).setCell ⟨m, 1, none⟩ u1).setCell ⟨m, 2, none⟩ u2).setCell ⟨m, 3, none⟩ u3).setCell ⟨m, 4, none⟩ u4).drew).cell? ⟨b, o + 2, none⟩ = x2 ∧ ((((((V.setCell ⟨m, 0, none⟩ u0).setCell ⟨m, 1, none⟩ u1).setCell ⟨m, 2, none⟩ u2).setCell ⟨m, 3, none⟩ u3).setCell ⟨m, 4, none⟩ u4).drew).cell? ⟨b, o + 3, none⟩ = x3 ∧ ((((((V.setCell ⟨m, 0, none⟩ u0).setCell ⟨m, 1, none⟩ u1).setCell ⟨m, 2, none⟩ u2).setCell ⟨m, 3, none⟩ u3).setCell ⟨m, 4, none⟩ u4).drew).cell? ⟨b, o + 4, none⟩ = x4 := put5_far hne h
theorem five_drew {x0 x1 x2 x3 x4 : Option Value}
    (h : V.cell? ⟨b, o, none⟩ = x0 ∧ V.cell? ⟨b, o + 1, none⟩ = x1 ∧ V.cell? ⟨b, o + 2, none⟩ = x2 ∧ V.cell? ⟨b, o + 3, none⟩ = x3 ∧ V.cell? ⟨b, o + 4, none⟩ = x4) :
    V.drew.cell? ⟨b, o, none⟩ = x0 ∧ V.drew.cell? ⟨b, o + 1, none⟩ = x1 ∧ V.drew.cell? ⟨b, o + 2, none⟩ = x2 ∧ V.drew.cell? ⟨b, o + 3, none⟩ = x3 ∧ V.drew.cell? ⟨b, o + 4, none⟩ = x4 := h
theorem put5_lit : (((((V.setCell ⟨m, 0, none⟩ u0).setCell ⟨m, 1, none⟩ u1).setCell ⟨m, 2, none⟩ u2).setCell ⟨m, 3, none⟩ u3).setCell ⟨m, 4, none⟩ u4).drew = put5 V m u0 u1 u2 u3 u4 := rfl
end
end Vers
end Go.Proofs.Ytbhidndgnldheaa
