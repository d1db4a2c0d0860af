/-
  span.Join: two right lists merged.
-/
import Derived.Test.YtbhidndgnldheaaSpanLay
namespace Go.Proofs.Ytbhidndgnldheaa
namespace Span
open Go.RowKit
attribute [local go_sem ↓] Go.wp_at_zero Go.wp_at_succ

/-- The answer of Join: the list of both, or the error's number; new memory. -/
def JoinPost (l : List Sp) (f : Int) (w : World) (e : Ending) (w' : World) : Prop :=
  ∃ A c, e = .returned (.tuple #[.slice A l.length c, .int .i64 f]) ∧ w'.ownsRow w.heap.size 111 3 (.slice A l.length c) l.length (sps l) ∧ Below w.heap.size w w'
theorem joinPost_nil (f : Int) (w w' : World) (hb : Below w.heap.size w w') (e : Ending) (he : e = .returned (.tuple #[.slice none 0 0, .int .i64 f])) : JoinPost [] f w e w' :=
  ⟨none, 0, he, World.ownsRow_nil _ _ _ _, hb⟩

theorem ss_at {w w' : World} {B : Nat} {A : Option Addr} {l : List Sp} {n : Nat} (h : Ss w B A l) (hn : l.length = n) (hb : Below B w w') {k : Nat} (hk : k < n) {x : Sp} (hx : l.getD k (0, 0, 0) = x) :
    ∃ b off, A = some ⟨b, off, none⟩ ∧ b < B ∧ w'.cell? ⟨b, off + k * 3, none⟩ = some (.int .i64 x.1) ∧ w'.cell? ⟨b, off + k * 3 + 1, none⟩ = some (.int .i64 x.2.1) ∧ w'.cell? ⟨b, off + k * 3 + 2, none⟩ = some (.int .i64 x.2.2) := by
  subst hn
  subst hx
  obtain ⟨b, off, e, hbB, hc⟩ := h (by omega)
  obtain ⟨c0, c1, c2⟩ := hc k hk
  exact ⟨b, off, e, hbB, (hb.cell (by exact hbB)).trans c0, (hb.cell (by exact hbB)).trans c1, (hb.cell (by exact hbB)).trans c2⟩

end Span
end Go.Proofs.Ytbhidndgnldheaa
