/-
  Several texts of this family in one: SpanWithin.
-/
import Derived.Test.YtkfdplfgaddkmaaGreatK8
import Derived.Deep.LoopGhost
/-
 span.Within and firthref03.Within: whether all dots of one right list are in another.
-/
namespace Go.Proofs.YtkfdplfgaddkmaaGreat
namespace Span
open Go.RowKit
attribute [local go_sem ↓] Go.wp_at_zero Go.wp_at_succ

instance (b : List Sp) (x : Sp) : Decidable (inOne b x) := by unfold inOne; infer_instance
def withinF (a b : List Sp) : Bool := decide (Right a ∧ Right b ∧ ∀ x ∈ a, inOne b x)
theorem Bx.drewN {W : World} {B : Nat} {x : Sp} (h : Bx W B x) (n : Nat) : Bx (W.drewN n) B x := h

end Span
end Go.Proofs.YtkfdplfgaddkmaaGreat
