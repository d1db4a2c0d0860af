/-
  Versions of a call's own that are written over: whatever else there is stays.
-/
import Derived.Test.YthiiganfoecmnaaVersShown
namespace Go.Proofs.Ythiiganfoecmnaa
namespace Vers
open Go.RowKit Span

/-- A row of versions in block g, whose values and the spans of whose pasts are being written over; w0: before that. -/
def Spoil (w0 wr : World) (lo hi g : Nat) (ps : List Pv) : Prop :=
  (∃ cur, wr.heap[g]? = some (.cells cur 28 (0, 0)) ∧ ps.length * 5 ≤ cur.size ∧ ∀ j, j < ps.length → cur[j * 5 + 2]? = some (.slice (ps.getD j z0).2.1 (ps.getD j z0).1.past.length (ps.getD j z0).2.2)) ∧
  (∀ p ∈ ps, 0 < p.1.past.length → ∃ b off cur, p.2.1 = some ⟨b, off, none⟩ ∧ b ≠ g ∧ lo ≤ b ∧ b < hi ∧ wr.heap[b]? = some (.cells cur 46 (0, 0)) ∧ off + p.1.past.length * 3 ≤ cur.size) ∧
  lo ≤ g ∧ g < hi ∧ (∀ q, (q < lo ∨ hi ≤ q) → wr.heap[q]? = w0.heap[q]?) ∧ wr.heap.size = w0.heap.size ∧ Below lo w0 wr

theorem spoil_start {w w' : World} {lo : Nat} {A : Option Addr} {k c : Nat} {ps : List Pv} (h : OwnVs lo lo w.heap.size w (.slice A k c) ps) (ht : ∀ p ∈ ps, Tg w p.1.past.length p.2.1) (hk : 0 < ps.length) (hb : Below w.heap.size w w') :
    ∃ g, A = some ⟨g, 0, none⟩ ∧ Spoil w' w' lo w.heap.size g ps := by
  obtain ⟨ho, hpa⟩ := h
  rcases ho.2 with ⟨_, h0⟩ | ⟨g, cap, cur, hv, hbg, hg, hn, hcm, hcs, htake⟩
  · omega
  · injection hv with h1 h2 h3
    have hgs : g < w.heap.size := (Array.getElem?_eq_some_iff.1 hg).1
    refine ⟨g, h1, ⟨cur, (hb.block g hgs).trans hg, by rw [hcs]; exact Nat.mul_le_mul_right 5 hn, fun j hj => ?_⟩, fun p hp hpl => ?_, hbg, hgs, fun _ _ => rfl, rfl, Below.refl _ _⟩
    · have h4 : (cur.toList.take (ps.length * 5))[j * 5 + 2]? = (vcs ps)[j * 5 + 2]? := by rw [htake]
      rw [List.getElem?_take_of_lt (by omega), Array.getElem?_toList, vcs_at ps j hj 2 (by omega)] at h4
      rw [h4]
      rfl
    · have hP := hpa p hp
      obtain ⟨b, off, e, hbB, hc⟩ := hP.1 hpl
      obtain ⟨cur2, hc2⟩ := ht p hp hpl _ e
      simp only at hc2
      have hlast := (hc (p.1.past.length - 1) (by omega)).2.2
      refine ⟨b, off, cur2, e, fun e2 => ?_, hP.2.2.2.2 hpl _ e, hbB, (hb.block b hbB).trans hc2, ?_⟩
      · subst e2
        rw [hg] at hc2
        injection hc2 with hc2
        injection hc2 with _ hc2
        exact absurd hc2 (by decide)
      · rw [cell_of_row w b _ cur2 46 (0, 0) hc2] at hlast
        have := (Array.getElem?_eq_some_iff.1 hlast).1
        omega

section
variable {w0 wr : World} {lo hi g : Nat} {ps : List Pv}
theorem Spoil.head (h : Spoil w0 wr lo hi g ps) {j : Nat} (hj : j < ps.length) {p : Pv} (hp : ps.getD j z0 = p) : wr.cell? ⟨g, j * 5 + 2, none⟩ = some (.slice p.2.1 p.1.past.length p.2.2) := by
  obtain ⟨⟨cur, h1, h2, h3⟩, _⟩ := h
  rw [cell_of_row wr g _ cur 28 (0, 0) h1, h3 j hj, hp]
theorem Spoil.room (h : Spoil w0 wr lo hi g ps) {j : Nat} (hj : j < ps.length) : (∃ z, wr.cell? ⟨g, j * 5 + 4, none⟩ = some z) ∧ wr.frozen? ⟨g, j * 5 + 4, none⟩ = false := by
  obtain ⟨⟨cur, h1, h2, h3⟩, _⟩ := h
  exact ⟨⟨cur[j * 5 + 4]'(by omega), by rw [cell_of_row wr g _ cur 28 (0, 0) h1]; exact Array.getElem?_eq_getElem (by omega)⟩, by simp [World.frozen?, h1]⟩
theorem Spoil.span (h : Spoil w0 wr lo hi g ps) {p : Pv} (hp : p ∈ ps) {q : Nat} (hq : q < p.1.past.length) : ∃ b off, p.2.1 = some ⟨b, off, none⟩ ∧ (∃ z, wr.cell? ⟨b, off + q * 3 + 2, none⟩ = some z) ∧ wr.frozen? ⟨b, off + q * 3 + 2, none⟩ = false ∧
    ∀ u, Spoil w0 (wr.setCell ⟨b, off + q * 3 + 2, none⟩ u) lo hi g ps := by
  have hh := h
  obtain ⟨⟨cur, h1, h2, h3⟩, hpa, hlo, hhi, hf, hs, hb⟩ := h
  obtain ⟨b, off, cur2, e, hne, hbl, hbh, hc, hsz⟩ := hpa p hp (by omega)
  refine ⟨b, off, e, ⟨cur2[off + q * 3 + 2]'(by omega), by rw [cell_of_row wr b _ cur2 46 (0, 0) hc]; exact Array.getElem?_eq_getElem (by omega)⟩, by simp [World.frozen?, hc], fun u => ?_⟩
  refine ⟨⟨cur, (Below.heap_setCell wr ⟨b, _, none⟩ u g (fun e => hne e.symm)).trans h1, h2, h3⟩, fun p' hp' hpl => ?_, hlo, hhi, fun r hr => (Below.heap_setCell wr ⟨b, _, none⟩ u r (fun e => by simp only at e; omega)).trans (hf r hr), (setCell_size _ _ _).trans hs, hb.setCell hbl u⟩
  obtain ⟨b', off', cur', e', hne', hbl', hbh', hc', hsz'⟩ := hpa p' hp' hpl
  by_cases hbb : b' = b
  · subst hbb
    rw [hc] at hc'
    injection hc' with hc'
    injection hc' with hc'
    subst hc'
    exact ⟨b', off', cur2.setIfInBounds (off + q * 3 + 2) u, e', hne', hbl', hbh', set_row hc _ _, by rw [Array.size_setIfInBounds]; exact hsz'⟩
  · exact ⟨b', off', cur', e', hne', hbl', hbh', (Below.heap_setCell wr ⟨b, _, none⟩ u b' hbb).trans hc', hsz'⟩
theorem Spoil.val (h : Spoil w0 wr lo hi g ps) (j : Nat) (u : Value) : Spoil w0 (wr.setCell ⟨g, j * 5 + 4, none⟩ u) lo hi g ps := by
  obtain ⟨⟨cur, h1, h2, h3⟩, hpa, hlo, hhi, hf, hs, hb⟩ := h
  refine ⟨⟨cur.setIfInBounds (j * 5 + 4) u, set_row h1 _ _, by rw [Array.size_setIfInBounds]; exact h2, fun i hi => ?_⟩, fun p' hp' hpl => ?_, hlo, hhi, fun r hr => (Below.heap_setCell wr ⟨g, _, none⟩ u r (fun e => by simp only at e; omega)).trans (hf r hr), (setCell_size _ _ _).trans hs, hb.setCell hlo u⟩
  · rw [Array.getElem?_setIfInBounds_ne (by omega)]
    exact h3 i hi
  · obtain ⟨b', off', cur', e', hne', hbl', hbh', hc', hsz'⟩ := hpa p' hp' hpl
    exact ⟨b', off', cur', e', hne', hbl', hbh', (Below.heap_setCell wr ⟨g, _, none⟩ u b' hne').trans hc', hsz'⟩
end
end Vers
end Go.Proofs.Ythiiganfoecmnaa
