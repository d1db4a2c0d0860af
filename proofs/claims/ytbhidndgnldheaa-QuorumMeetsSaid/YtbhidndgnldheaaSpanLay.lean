/-
  span.lay puts a span behind those laid.
-/
import Derived.Test.YtbhidndgnldheaaSpanReads
namespace Go.Proofs.Ytbhidndgnldheaa
namespace Span
open Go.RowKit
attribute [local go_sem ↓] Go.wp_at_zero Go.wp_at_succ

theorem info_span : ∃ i, Try.prog.info? 111 = some i ∧ i.zero = some (.agg #[.int .i64 0, .int .i64 0, .int .i64 0]) ∧ i.size = 3 ∧ i.bytes = 24 := by
  have h : (Try.prog.info? 111).map (fun i => (i.zero, i.size, i.bytes)) = some (some (.agg #[.int .i64 0, .int .i64 0, .int .i64 0]), 3, 24) := by kernel_rfl
  obtain ⟨i, h1, h2⟩ := Option.map_eq_some_iff.1 h
  simp only [Prod.mk.injEq] at h2
  exact ⟨i, h1, h2.1, h2.2.1, h2.2.2⟩

/-- The slice l, made at or behind base; nothing below base has turned. -/
def GotSs (base : Nat) (l : List Sp) (w : World) (r : Ending) (w' : World) : Prop :=
  ∃ A c, r = .returned (.slice A l.length c) ∧ w'.ownsRow base 111 3 (.slice A l.length c) l.length (sps l) ∧ Below base w w'

theorem sps_set_last (l : List Sp) (z : Sp) (t : Int) : (sps (l ++ [z])).set (l.length * 3 + 2) (.int .i64 t) = sps (l ++ [(z.1, z.2.1, t)]) := by
  rw [sps_append, sps_append, sps_one, sps_one, List.set_append_right _ _ (by rw [sps_length]; omega)]
  rw [sps_length, show l.length * 3 + 2 - l.length * 3 = 2 by omega]
  rfl
theorem own_snoc {w : World} {base : Nat} {e : TypeId} {A : Option Addr} {c n : Nat} {l : List Sp} {z : Sp} (h : w.ownsRow base e 3 (.slice A n c) (l ++ [z]).length (sps (l ++ [z]))) :
    ∃ g, A = some ⟨g, 0, none⟩ ∧ base ≤ g ∧ g < w.heap.size ∧ w.cell? ⟨g, l.length * 3, none⟩ = some (.int .i64 z.1) ∧ w.cell? ⟨g, l.length * 3 + 1, none⟩ = some (.int .i64 z.2.1) ∧ w.cell? ⟨g, l.length * 3 + 2, none⟩ = some (.int .i64 z.2.2) ∧ ∀ j, w.frozen? ⟨g, j, none⟩ = false := by
  have hs := own_ss h
  obtain ⟨b, off, hA, hb, hc⟩ := hs (by simp)
  have h2 := hc l.length (by simp)
  rcases h.2 with ⟨_, h0⟩ | ⟨g, cap, cur, hv, hbg, hg, hn, hcm, hcs, htake⟩
  · simp at h0
  · injection hv with h1 _ h3
    rw [h1] at hA
    injection hA with hA
    injection hA with e1 e2
    subst e1
    subst e2
    have hz : (l ++ [z]).getD l.length (0, 0, 0) = z := by simp [List.getD_eq_getElem?_getD]
    rw [hz] at h2
    simp only [Nat.zero_add] at h2
    exact ⟨g, h1, hbg, (Array.getElem?_eq_some_iff.1 hg).1, h2.1, h2.2.1, h2.2.2, fun j => by simp [World.frozen?, hg]⟩

end Span
end Go.Proofs.Ytbhidndgnldheaa
