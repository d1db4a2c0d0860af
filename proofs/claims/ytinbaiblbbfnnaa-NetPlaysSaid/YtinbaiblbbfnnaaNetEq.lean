/-
  Two places held against each other.
-/
import Derived.Test.YtinbaiblbbfnnaaNetPart
namespace Go.Proofs.Ytinbaiblbbfnnaa
namespace Net
open Go.RowKit Blk
attribute [local go_sem ↓] Go.wp_at_zero Go.wp_at_succ
def eqA (x y : Ad) : Bool := x.1 == y.1 && x.2 == y.2
theorem eqA_iff {x y : Ad} : eqA x y = true ↔ x = y := by
  unfold eqA
  rw [Bool.and_eq_true, beq_iff_eq, beq_iff_eq]
  exact ⟨fun h => Prod.ext h.1 h.2, fun h => by rw [h]; exact ⟨rfl, rfl⟩⟩
theorem run_eqA (x1 x2 y1 y2 : Int) (e : Bool) (he : eqA (x1, x2) (y1, y2) = e) (W : World) : (binOp .eql 33 (.agg #[.int .i64 x1, .int .i64 x2]) (.agg #[.int .i64 y1, .int .i64 y2])).run Try.prog W = .ok (.bool e) W := by
  subst he
  unfold eqA
  simp only
  rcases eq_facts x1 y1 with ⟨h1, _⟩ | ⟨h1, _⟩
  · rcases eq_facts x2 y2 with ⟨h2, _⟩ | ⟨h2, _⟩
    · go_simp
    · go_simp
  · go_simp
theorem run_neA (x1 x2 y1 y2 : Int) (e : Bool) (he : eqA (x1, x2) (y1, y2) = !e) (W : World) : (binOp .neq 33 (.agg #[.int .i64 x1, .int .i64 x2]) (.agg #[.int .i64 y1, .int .i64 y2])).run Try.prog W = .ok (.bool e) W := by
  obtain rfl : e = !(eqA (x1, x2) (y1, y2)) := by rw [he]; simp
  clear he
  unfold eqA
  simp only
  rcases eq_facts x1 y1 with ⟨h1, _⟩ | ⟨h1, _⟩
  · rcases eq_facts x2 y2 with ⟨h2, _⟩ | ⟨h2, _⟩
    · go_simp
    · go_simp
  · go_simp
end Net
end Go.Proofs.Ytinbaiblbbfnnaa
