/-
  span.Within and firthref03.Within: whether all dots of one right list are in another.
-/
import Derived.Test.YtbhidndgnldheaaSpanJoinRef
import Derived.Deep.LoopGhost
namespace Go.Proofs.Ytbhidndgnldheaa
namespace Span
open Go.RowKit
attribute [local go_sem ↓] Go.wp_at_zero Go.wp_at_succ

instance (b : List Sp) (x : Sp) : Decidable (inOne b x) := by unfold inOne; infer_instance
def withinF (a b : List Sp) : Bool := decide (Right a ∧ Right b ∧ ∀ x ∈ a, inOne b x)
theorem within_wrong {a b : List Sp} (h : ¬ (Right a ∧ Right b)) : withinF a b = false := decide_eq_false fun h' => h ⟨h'.1, h'.2.1⟩
theorem within_no {a b : List Sp} {x : Sp} (hx : x ∈ a) (h : ¬ inOne b x) : withinF a b = false := decide_eq_false fun h' => h (h'.2.2 x hx)
theorem within_yes {a b : List Sp} (ha : Right a) (hb : Right b) (h : ∀ x ∈ a, inOne b x) : withinF a b = true := decide_eq_true ⟨ha, hb, h⟩

theorem Bx.drewN {W : World} {B : Nat} {x : Sp} (h : Bx W B x) (n : Nat) : Bx (W.drewN n) B x := h

end Span
end Go.Proofs.Ytbhidndgnldheaa
