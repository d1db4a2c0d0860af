/-
  num.Text and firthref01.Text tell what textF tells.
-/
import Derived.Test.YtjifklojbbocfaaNumRef
import Derived.Test.YtjifklojbbocfaaFacts
namespace Go.Proofs.Ytjifklojbbocfaa
namespace Num
open Go.RowKit

/-- What Text tells: the bytes of the text, the place behind it, the error. -/
def textF (zs : List Int) (i : Nat) (most : Int) : List Int × Nat × Int :=
  if (numF zs i).2.2 ≠ 0 then ([], 0, (numF zs i).2.2)
  else if max most 0 < (numF zs i).1 then ([], 0, 3)
  else if (zs.length : Int) - (numF zs i).2.1 < (numF zs i).1 then ([], 0, 4)
  else ((zs.drop (numF zs i).2.1).take (numF zs i).1.toNat, (numF zs i).2.1 + (numF zs i).1.toNat, 0)

def TellsT (r : List Int × Nat × Int) (w : World) (e : Ending) (w' : World) : Prop := e = .returned (.tuple #[.string (strOfNums r.1), .int .i64 (r.2.1 : Nat), .int .i64 r.2.2]) ∧ w = w'

end Num
end Go.Proofs.Ytjifklojbbocfaa
