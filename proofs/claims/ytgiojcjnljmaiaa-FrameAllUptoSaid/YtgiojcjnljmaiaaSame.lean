/-
  firthref01.Same: two rows of bytes, held against each other as strings.
-/
import Derived.Test.YtgiojcjnljmaiaaSameBase
namespace Go.Proofs.Ytgiojcjnljmaiaa
namespace Num
open Go.RowKit

end Num
end Go.Proofs.Ytgiojcjnljmaiaa
