/-
  Several texts of this family in one: MendUnder.
-/
import Derived.Test.YtkfdplfgaddkmaaGreatK4
import Derived.Test.YtkfdplfgaddkmaaGreatK10
/-
 firthlaw14.under: did a version come behind all that another one came behind, span by span?
-/
namespace Go.Proofs.YtkfdplfgaddkmaaGreat
namespace Mend
open Go.RowKit Vers Span Blk
attribute [local go_sem ↓] Go.wp_at_zero Go.wp_at_succ
def inOne (x y : Sp) : Bool := (x.1 == y.1) && (decide (y.2.1 ≤ x.2.1) && decide (x.2.2 ≤ y.2.2))
def underF (a b : List Sp) : Bool := a.all fun x => b.any (inOne x)
end Mend
end Go.Proofs.YtkfdplfgaddkmaaGreat
