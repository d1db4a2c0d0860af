/-
  Several texts of this family in one: MendPlainLaw.
-/
import Derived.Test.YtkfdplfgaddkmaaGreatK30
import Derived.Test.YtkfdplfgaddkmaaGreatK13
/-
 firthlaw14.plain: are these versions such as writes make them? Written by gen14/plain.py.
-/
namespace Go.Proofs.YtkfdplfgaddkmaaGreat
namespace Mend
open Go.RowKit Vers Span Blk
attribute [local go_sem ↓] Go.wp_at_zero Go.wp_at_succ
def plP (x y : Vr) : Bool := !decide (behind [x] y.s y.n) || (!decide (behind [y] x.s x.n) && underF y.past x.past)
def plB (l : List Vr) : Bool := l.all fun x => l.all fun y => plP x y
end Mend
end Go.Proofs.YtkfdplfgaddkmaaGreat
