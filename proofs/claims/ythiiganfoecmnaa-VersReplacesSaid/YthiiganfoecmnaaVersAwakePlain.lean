/-
  The awake answers of the layer, on plain lists.
-/
import Derived.Test.YthiiganfoecmnaaVersPlain
namespace Go.Proofs.Ythiiganfoecmnaa
namespace Vers
open Span
def wa : Vr := ⟨1, 1, [], false, ⟨#[118]⟩⟩
def wb : Vr := ⟨1, 2, [(1, 1, 1)], false, ⟨#[118]⟩⟩
def wc : Vr := ⟨2, 1, [], false, ⟨#[118]⟩⟩
theorem awake_merge : mergeF [wa, wc] [wb] = ([wb, wc], 0) := by decide
theorem awake_right : decide (RightV [wb, wc]) = true := by decide
theorem awake_lacks : lacksF [wa] [wb] = true := by decide
end Vers
end Go.Proofs.Ythiiganfoecmnaa
