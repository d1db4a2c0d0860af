/-
  firthref03.Right tells whether a list is right.
-/
import Derived.Test.YtbaclinjimfncaaGSpanA
import Derived.Deep.RegionHeld3
import Derived.Deep.DrawnRows
import Derived.IntWalk
namespace Go.Proofs.Ytbaclinjimfncaa
namespace Span
open Go.RowKit
attribute [local go_sem ↓] Go.wp_at_zero Go.wp_at_succ

end Span
end Go.Proofs.Ytbaclinjimfncaa
