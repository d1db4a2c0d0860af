/-
  No cell of these rows narrows 'for every input' (looked for: loops, veiled, ifaces, maps, wideKeys, modest, calm, conditions, laid).
  DERIVED. THE GIVEN ROWS OF THIS SEAT. 12 by the template 'for every input the law returns true; each argument reads behind the call as it read before'; 0 by the template 'total and deterministic' (their statements: YtpgpeigaoonpcabTotals.lean).
  GIVEN WITH THE SEED: the statements are not yours to turn. If you find one false, say at which input.
  Laid BY PROGRAM, IN A SANDBOX (cutbox-rows.mjs): the forced cells as the released guide's own fill.sh prints them over the translation 3c1957c8bfbc5253… (all of the seat's roots in one cut). By AI agents, Wed Nov 11 2026. No macro, syntax, notation, axiom, sorry.
-/
import Derived.Test.YtpgpeigaoonpcabChecked
import GoSem.Claim
import GoSem.ClaimJoined
import GoSem.ClaimMapViews
import Derived.JoinedTies
import Derived.KernelRfl
namespace Go.Proofs.Ytpgpeigaoonpcab
/- THE CELL 'sum', in the pinned program and in every row, IS THE sha256 OF THE DUMP (.gsa) THAT YtpgpeigaoonpcabProg.lean LOADS. Nothing in Lean hashes anything: it is a label: what it is worth is what the hold of that sum in a sandbox is worth. -/
noncomputable def Try.pinned : Pinned := { name := "ytpgpeigaoonpcab", sum := "3c1957c8bfbc5253ee2cab51cf7ac2a920c22f51c40163b6481dcf26d1ca435c", checked := Try.checked }
namespace Rows
def none {H : Type} : Left H := { results := [], args := [] }

/-- 'firthlaw02.FrameOne': WHATEVER THE INPUT: true; the input reads as it did. -/
def frameOneSpec : ChangeSpec := { name := "frameOne", fn := fun _ => fun
  | [d] => { results := [.lit (.bool true)], args := [d] }
  | _ => none }
def frameOneRow : OpenClaim := { program := "ytpgpeigaoonpcab", sum := "3c1957c8bfbc5253ee2cab51cf7ac2a920c22f51c40163b6481dcf26d1ca435c", func := "firth/firthlaw02.FrameOne", spec := "frameOne", apart := false }
def FrameOneSaid : Prop := frameOneRow.holds Try.pinned (OpenSpec.ofChange frameOneSpec)

/-- ITS FALSE NEIGHBOUR: 'it returns false'. Refute it at one input. -/
def frameOneWrong : ChangeSpec := { name := "frameOne", fn := fun _ => fun
  | [d] => { results := [.lit (.bool false)], args := [d] }
  | _ => none }
def FrameOneWrongFalsely : Prop := frameOneRow.holds Try.pinned (OpenSpec.ofChange frameOneWrong)

/-- 'firthlaw02.FrameKeeps': WHATEVER THE INPUT: true; the input reads as it did. -/
def frameKeepsSpec : ChangeSpec := { name := "frameKeeps", fn := fun _ => fun
  | [d1, d2] => { results := [.lit (.bool true)], args := [d1, d2] }
  | _ => none }
def frameKeepsRow : OpenClaim := { program := "ytpgpeigaoonpcab", sum := "3c1957c8bfbc5253ee2cab51cf7ac2a920c22f51c40163b6481dcf26d1ca435c", func := "firth/firthlaw02.FrameKeeps", spec := "frameKeeps", apart := false }
def FrameKeepsSaid : Prop := frameKeepsRow.holds Try.pinned (OpenSpec.ofChange frameKeepsSpec)

/-- ITS FALSE NEIGHBOUR: 'it returns false'. Refute it at one input. -/
def frameKeepsWrong : ChangeSpec := { name := "frameKeeps", fn := fun _ => fun
  | [d1, d2] => { results := [.lit (.bool false)], args := [d1, d2] }
  | _ => none }
def FrameKeepsWrongFalsely : Prop := frameKeepsRow.holds Try.pinned (OpenSpec.ofChange frameKeepsWrong)

/-- 'firthlaw03.SpanLooks': WHATEVER THE INPUT: true; the input reads as it did. -/
def spanLooksSpec : ChangeSpec := { name := "spanLooks", fn := fun _ => fun
  | [d1, d2] => { results := [.lit (.bool true)], args := [d1, d2] }
  | _ => none }
def spanLooksRow : OpenClaim := { program := "ytpgpeigaoonpcab", sum := "3c1957c8bfbc5253ee2cab51cf7ac2a920c22f51c40163b6481dcf26d1ca435c", func := "firth/firthlaw03.SpanLooks", spec := "spanLooks", apart := false }
def SpanLooksSaid : Prop := spanLooksRow.holds Try.pinned (OpenSpec.ofChange spanLooksSpec)

/-- ITS FALSE NEIGHBOUR: 'it returns false'. Refute it at one input. -/
def spanLooksWrong : ChangeSpec := { name := "spanLooks", fn := fun _ => fun
  | [d1, d2] => { results := [.lit (.bool false)], args := [d1, d2] }
  | _ => none }
def SpanLooksWrongFalsely : Prop := spanLooksRow.holds Try.pinned (OpenSpec.ofChange spanLooksWrong)

/-- 'firthlaw03.SpanAdds': WHATEVER THE INPUT: true; the input reads as it did. -/
def spanAddsSpec : ChangeSpec := { name := "spanAdds", fn := fun _ => fun
  | [d1, d2] => { results := [.lit (.bool true)], args := [d1, d2] }
  | _ => none }
def spanAddsRow : OpenClaim := { program := "ytpgpeigaoonpcab", sum := "3c1957c8bfbc5253ee2cab51cf7ac2a920c22f51c40163b6481dcf26d1ca435c", func := "firth/firthlaw03.SpanAdds", spec := "spanAdds", apart := false }
def SpanAddsSaid : Prop := spanAddsRow.holds Try.pinned (OpenSpec.ofChange spanAddsSpec)

/-- ITS FALSE NEIGHBOUR: 'it returns false'. Refute it at one input. -/
def spanAddsWrong : ChangeSpec := { name := "spanAdds", fn := fun _ => fun
  | [d1, d2] => { results := [.lit (.bool false)], args := [d1, d2] }
  | _ => none }
def SpanAddsWrongFalsely : Prop := spanAddsRow.holds Try.pinned (OpenSpec.ofChange spanAddsWrong)

/-- 'firthlaw03.SpanJoins': WHATEVER THE INPUT: true; the input reads as it did. -/
def spanJoinsSpec : ChangeSpec := { name := "spanJoins", fn := fun _ => fun
  | [d1, d2] => { results := [.lit (.bool true)], args := [d1, d2] }
  | _ => none }
def spanJoinsRow : OpenClaim := { program := "ytpgpeigaoonpcab", sum := "3c1957c8bfbc5253ee2cab51cf7ac2a920c22f51c40163b6481dcf26d1ca435c", func := "firth/firthlaw03.SpanJoins", spec := "spanJoins", apart := false }
def SpanJoinsSaid : Prop := spanJoinsRow.holds Try.pinned (OpenSpec.ofChange spanJoinsSpec)

/-- ITS FALSE NEIGHBOUR: 'it returns false'. Refute it at one input. -/
def spanJoinsWrong : ChangeSpec := { name := "spanJoins", fn := fun _ => fun
  | [d1, d2] => { results := [.lit (.bool false)], args := [d1, d2] }
  | _ => none }
def SpanJoinsWrongFalsely : Prop := spanJoinsRow.holds Try.pinned (OpenSpec.ofChange spanJoinsWrong)

/-- 'firthlaw03.SpanSets': WHATEVER THE INPUT: true; the input reads as it did. -/
def spanSetsSpec : ChangeSpec := { name := "spanSets", fn := fun _ => fun
  | [d1, d2, d3] => { results := [.lit (.bool true)], args := [d1, d2, d3] }
  | _ => none }
def spanSetsRow : OpenClaim := { program := "ytpgpeigaoonpcab", sum := "3c1957c8bfbc5253ee2cab51cf7ac2a920c22f51c40163b6481dcf26d1ca435c", func := "firth/firthlaw03.SpanSets", spec := "spanSets", apart := false }
def SpanSetsSaid : Prop := spanSetsRow.holds Try.pinned (OpenSpec.ofChange spanSetsSpec)

/-- ITS FALSE NEIGHBOUR: 'it returns false'. Refute it at one input. -/
def spanSetsWrong : ChangeSpec := { name := "spanSets", fn := fun _ => fun
  | [d1, d2, d3] => { results := [.lit (.bool false)], args := [d1, d2, d3] }
  | _ => none }
def SpanSetsWrongFalsely : Prop := spanSetsRow.holds Try.pinned (OpenSpec.ofChange spanSetsWrong)

/-- 'firthlaw03.SpanGrows': WHATEVER THE INPUT: true; the input reads as it did. -/
def spanGrowsSpec : ChangeSpec := { name := "spanGrows", fn := fun _ => fun
  | [d1, d2, d3] => { results := [.lit (.bool true)], args := [d1, d2, d3] }
  | _ => none }
def spanGrowsRow : OpenClaim := { program := "ytpgpeigaoonpcab", sum := "3c1957c8bfbc5253ee2cab51cf7ac2a920c22f51c40163b6481dcf26d1ca435c", func := "firth/firthlaw03.SpanGrows", spec := "spanGrows", apart := false }
def SpanGrowsSaid : Prop := spanGrowsRow.holds Try.pinned (OpenSpec.ofChange spanGrowsSpec)

/-- ITS FALSE NEIGHBOUR: 'it returns false'. Refute it at one input. -/
def spanGrowsWrong : ChangeSpec := { name := "spanGrows", fn := fun _ => fun
  | [d1, d2, d3] => { results := [.lit (.bool false)], args := [d1, d2, d3] }
  | _ => none }
def SpanGrowsWrongFalsely : Prop := spanGrowsRow.holds Try.pinned (OpenSpec.ofChange spanGrowsWrong)

/-- 'firthlaw03.SpanMany': WHATEVER THE INPUT: true; the input reads as it did. -/
def spanManySpec : ChangeSpec := { name := "spanMany", fn := fun _ => fun
  | [d1, d2, d3] => { results := [.lit (.bool true)], args := [d1, d2, d3] }
  | _ => none }
def spanManyRow : OpenClaim := { program := "ytpgpeigaoonpcab", sum := "3c1957c8bfbc5253ee2cab51cf7ac2a920c22f51c40163b6481dcf26d1ca435c", func := "firth/firthlaw03.SpanMany", spec := "spanMany", apart := false }
def SpanManySaid : Prop := spanManyRow.holds Try.pinned (OpenSpec.ofChange spanManySpec)

/-- ITS FALSE NEIGHBOUR: 'it returns false'. Refute it at one input. -/
def spanManyWrong : ChangeSpec := { name := "spanMany", fn := fun _ => fun
  | [d1, d2, d3] => { results := [.lit (.bool false)], args := [d1, d2, d3] }
  | _ => none }
def SpanManyWrongFalsely : Prop := spanManyRow.holds Try.pinned (OpenSpec.ofChange spanManyWrong)

/-- 'firthlaw03.SpanKeeps': WHATEVER THE INPUT: true; the input reads as it did. -/
def spanKeepsSpec : ChangeSpec := { name := "spanKeeps", fn := fun _ => fun
  | [d1, d2] => { results := [.lit (.bool true)], args := [d1, d2] }
  | _ => none }
def spanKeepsRow : OpenClaim := { program := "ytpgpeigaoonpcab", sum := "3c1957c8bfbc5253ee2cab51cf7ac2a920c22f51c40163b6481dcf26d1ca435c", func := "firth/firthlaw03.SpanKeeps", spec := "spanKeeps", apart := false }
def SpanKeepsSaid : Prop := spanKeepsRow.holds Try.pinned (OpenSpec.ofChange spanKeepsSpec)

/-- ITS FALSE NEIGHBOUR: 'it returns false'. Refute it at one input. -/
def spanKeepsWrong : ChangeSpec := { name := "spanKeeps", fn := fun _ => fun
  | [d1, d2] => { results := [.lit (.bool false)], args := [d1, d2] }
  | _ => none }
def SpanKeepsWrongFalsely : Prop := spanKeepsRow.holds Try.pinned (OpenSpec.ofChange spanKeepsWrong)

/-- 'firthlaw04.VectLooks': WHATEVER THE INPUT: true; the input reads as it did. -/
def vectLooksSpec : ChangeSpec := { name := "vectLooks", fn := fun _ => fun
  | [d1, d2, d3] => { results := [.lit (.bool true)], args := [d1, d2, d3] }
  | _ => none }
def vectLooksRow : OpenClaim := { program := "ytpgpeigaoonpcab", sum := "3c1957c8bfbc5253ee2cab51cf7ac2a920c22f51c40163b6481dcf26d1ca435c", func := "firth/firthlaw04.VectLooks", spec := "vectLooks", apart := false }
def VectLooksSaid : Prop := vectLooksRow.holds Try.pinned (OpenSpec.ofChange vectLooksSpec)

/-- ITS FALSE NEIGHBOUR: 'it returns false'. Refute it at one input. -/
def vectLooksWrong : ChangeSpec := { name := "vectLooks", fn := fun _ => fun
  | [d1, d2, d3] => { results := [.lit (.bool false)], args := [d1, d2, d3] }
  | _ => none }
def VectLooksWrongFalsely : Prop := vectLooksRow.holds Try.pinned (OpenSpec.ofChange vectLooksWrong)

/-- 'firthlaw04.VectJoins': WHATEVER THE INPUT: true; the input reads as it did. -/
def vectJoinsSpec : ChangeSpec := { name := "vectJoins", fn := fun _ => fun
  | [d1, d2] => { results := [.lit (.bool true)], args := [d1, d2] }
  | _ => none }
def vectJoinsRow : OpenClaim := { program := "ytpgpeigaoonpcab", sum := "3c1957c8bfbc5253ee2cab51cf7ac2a920c22f51c40163b6481dcf26d1ca435c", func := "firth/firthlaw04.VectJoins", spec := "vectJoins", apart := false }
def VectJoinsSaid : Prop := vectJoinsRow.holds Try.pinned (OpenSpec.ofChange vectJoinsSpec)

/-- ITS FALSE NEIGHBOUR: 'it returns false'. Refute it at one input. -/
def vectJoinsWrong : ChangeSpec := { name := "vectJoins", fn := fun _ => fun
  | [d1, d2] => { results := [.lit (.bool false)], args := [d1, d2] }
  | _ => none }
def VectJoinsWrongFalsely : Prop := vectJoinsRow.holds Try.pinned (OpenSpec.ofChange vectJoinsWrong)

/-- 'firthlaw04.VectSteps': WHATEVER THE INPUT: true; the input reads as it did. -/
def vectStepsSpec : ChangeSpec := { name := "vectSteps", fn := fun _ => fun
  | [d1, d2] => { results := [.lit (.bool true)], args := [d1, d2] }
  | _ => none }
def vectStepsRow : OpenClaim := { program := "ytpgpeigaoonpcab", sum := "3c1957c8bfbc5253ee2cab51cf7ac2a920c22f51c40163b6481dcf26d1ca435c", func := "firth/firthlaw04.VectSteps", spec := "vectSteps", apart := false }
def VectStepsSaid : Prop := vectStepsRow.holds Try.pinned (OpenSpec.ofChange vectStepsSpec)

/-- ITS FALSE NEIGHBOUR: 'it returns false'. Refute it at one input. -/
def vectStepsWrong : ChangeSpec := { name := "vectSteps", fn := fun _ => fun
  | [d1, d2] => { results := [.lit (.bool false)], args := [d1, d2] }
  | _ => none }
def VectStepsWrongFalsely : Prop := vectStepsRow.holds Try.pinned (OpenSpec.ofChange vectStepsWrong)

/- THE SECOND FORM. 'bulk': how many values and letters a reading holds, each counted each time it is reached (what is shared counts as often as it is met; a slice's spare places count too). A statement '..UptoSaid' is the law's where the arguments, and the package variables that the reading takes, are together of bulk at most 1048576: NARROWER than '..Said'. Prove '..Said' where nothing that the law and all that it calls make is longer than what came in: it says more and counts as full. Else prove '..UptoSaid'. A law counts once. -/
mutual
def uptoBulk {H : Type} : DataW H → Nat
  | .lit (.string bytes) => bytes.length + 1
  | .lit _ => 1
  | .nil => 1
  | .ptr d => uptoBulk d + 1
  | .slice elems spare => uptoBulkAll elems + uptoBulkAll spare + 1
  | .agg parts => uptoBulkAll parts + 1
  | .iface _ d => uptoBulk d + 1
  | .map entries => uptoBulkEntries entries + 1
  | .held _ => 1
def uptoBulkAll {H : Type} : List (DataW H) → Nat
  | [] => 0
  | d :: r => uptoBulk d + uptoBulkAll r
def uptoBulkEntries {H : Type} : List (Lit × DataW H) → Nat
  | [] => 0
  | x :: r => uptoBulkEntry x + uptoBulkEntries r
def uptoBulkEntry {H : Type} : Lit × DataW H → Nat
  | (.string bytes, d) => bytes.length + uptoBulk d + 1
  | (_, d) => uptoBulk d + 1
 end
def uptoSmall : (H : Type) → List (DataW H) → Bool := fun _ ds => decide (uptoBulkAll ds ≤ 1048576)
def OpenSpec.upto (s : _root_.Go.ChangeSpec) : _root_.Go.OpenSpec := { _root_.Go.OpenSpec.ofChange s with cond := some uptoSmall }

/-- 'firthlaw02.FrameOne', WHERE WHAT IT READS IS OF BULK AT MOST 1048576: true; the input reads as it did. -/
def frameOneUptoRow : OpenClaim := { program := "ytpgpeigaoonpcab", sum := "3c1957c8bfbc5253ee2cab51cf7ac2a920c22f51c40163b6481dcf26d1ca435c", func := "firth/firthlaw02.FrameOne", spec := "frameOne", apart := false, narrowed := true }
def FrameOneUptoSaid : Prop := frameOneUptoRow.holds Try.pinned (OpenSpec.upto frameOneSpec)

/-- 'firthlaw02.FrameKeeps', WHERE WHAT IT READS IS OF BULK AT MOST 1048576: true; the input reads as it did. -/
def frameKeepsUptoRow : OpenClaim := { program := "ytpgpeigaoonpcab", sum := "3c1957c8bfbc5253ee2cab51cf7ac2a920c22f51c40163b6481dcf26d1ca435c", func := "firth/firthlaw02.FrameKeeps", spec := "frameKeeps", apart := false, narrowed := true }
def FrameKeepsUptoSaid : Prop := frameKeepsUptoRow.holds Try.pinned (OpenSpec.upto frameKeepsSpec)

/-- 'firthlaw03.SpanLooks', WHERE WHAT IT READS IS OF BULK AT MOST 1048576: true; the input reads as it did. -/
def spanLooksUptoRow : OpenClaim := { program := "ytpgpeigaoonpcab", sum := "3c1957c8bfbc5253ee2cab51cf7ac2a920c22f51c40163b6481dcf26d1ca435c", func := "firth/firthlaw03.SpanLooks", spec := "spanLooks", apart := false, narrowed := true }
def SpanLooksUptoSaid : Prop := spanLooksUptoRow.holds Try.pinned (OpenSpec.upto spanLooksSpec)

/-- 'firthlaw03.SpanAdds', WHERE WHAT IT READS IS OF BULK AT MOST 1048576: true; the input reads as it did. -/
def spanAddsUptoRow : OpenClaim := { program := "ytpgpeigaoonpcab", sum := "3c1957c8bfbc5253ee2cab51cf7ac2a920c22f51c40163b6481dcf26d1ca435c", func := "firth/firthlaw03.SpanAdds", spec := "spanAdds", apart := false, narrowed := true }
def SpanAddsUptoSaid : Prop := spanAddsUptoRow.holds Try.pinned (OpenSpec.upto spanAddsSpec)

/-- 'firthlaw03.SpanJoins', WHERE WHAT IT READS IS OF BULK AT MOST 1048576: true; the input reads as it did. -/
def spanJoinsUptoRow : OpenClaim := { program := "ytpgpeigaoonpcab", sum := "3c1957c8bfbc5253ee2cab51cf7ac2a920c22f51c40163b6481dcf26d1ca435c", func := "firth/firthlaw03.SpanJoins", spec := "spanJoins", apart := false, narrowed := true }
def SpanJoinsUptoSaid : Prop := spanJoinsUptoRow.holds Try.pinned (OpenSpec.upto spanJoinsSpec)

/-- 'firthlaw03.SpanSets', WHERE WHAT IT READS IS OF BULK AT MOST 1048576: true; the input reads as it did. -/
def spanSetsUptoRow : OpenClaim := { program := "ytpgpeigaoonpcab", sum := "3c1957c8bfbc5253ee2cab51cf7ac2a920c22f51c40163b6481dcf26d1ca435c", func := "firth/firthlaw03.SpanSets", spec := "spanSets", apart := false, narrowed := true }
def SpanSetsUptoSaid : Prop := spanSetsUptoRow.holds Try.pinned (OpenSpec.upto spanSetsSpec)

/-- 'firthlaw03.SpanGrows', WHERE WHAT IT READS IS OF BULK AT MOST 1048576: true; the input reads as it did. -/
def spanGrowsUptoRow : OpenClaim := { program := "ytpgpeigaoonpcab", sum := "3c1957c8bfbc5253ee2cab51cf7ac2a920c22f51c40163b6481dcf26d1ca435c", func := "firth/firthlaw03.SpanGrows", spec := "spanGrows", apart := false, narrowed := true }
def SpanGrowsUptoSaid : Prop := spanGrowsUptoRow.holds Try.pinned (OpenSpec.upto spanGrowsSpec)

/-- 'firthlaw03.SpanMany', WHERE WHAT IT READS IS OF BULK AT MOST 1048576: true; the input reads as it did. -/
def spanManyUptoRow : OpenClaim := { program := "ytpgpeigaoonpcab", sum := "3c1957c8bfbc5253ee2cab51cf7ac2a920c22f51c40163b6481dcf26d1ca435c", func := "firth/firthlaw03.SpanMany", spec := "spanMany", apart := false, narrowed := true }
def SpanManyUptoSaid : Prop := spanManyUptoRow.holds Try.pinned (OpenSpec.upto spanManySpec)

/-- 'firthlaw03.SpanKeeps', WHERE WHAT IT READS IS OF BULK AT MOST 1048576: true; the input reads as it did. -/
def spanKeepsUptoRow : OpenClaim := { program := "ytpgpeigaoonpcab", sum := "3c1957c8bfbc5253ee2cab51cf7ac2a920c22f51c40163b6481dcf26d1ca435c", func := "firth/firthlaw03.SpanKeeps", spec := "spanKeeps", apart := false, narrowed := true }
def SpanKeepsUptoSaid : Prop := spanKeepsUptoRow.holds Try.pinned (OpenSpec.upto spanKeepsSpec)

/-- 'firthlaw04.VectLooks', WHERE WHAT IT READS IS OF BULK AT MOST 1048576: true; the input reads as it did. -/
def vectLooksUptoRow : OpenClaim := { program := "ytpgpeigaoonpcab", sum := "3c1957c8bfbc5253ee2cab51cf7ac2a920c22f51c40163b6481dcf26d1ca435c", func := "firth/firthlaw04.VectLooks", spec := "vectLooks", apart := false, narrowed := true }
def VectLooksUptoSaid : Prop := vectLooksUptoRow.holds Try.pinned (OpenSpec.upto vectLooksSpec)

/-- 'firthlaw04.VectJoins', WHERE WHAT IT READS IS OF BULK AT MOST 1048576: true; the input reads as it did. -/
def vectJoinsUptoRow : OpenClaim := { program := "ytpgpeigaoonpcab", sum := "3c1957c8bfbc5253ee2cab51cf7ac2a920c22f51c40163b6481dcf26d1ca435c", func := "firth/firthlaw04.VectJoins", spec := "vectJoins", apart := false, narrowed := true }
def VectJoinsUptoSaid : Prop := vectJoinsUptoRow.holds Try.pinned (OpenSpec.upto vectJoinsSpec)

/-- 'firthlaw04.VectSteps', WHERE WHAT IT READS IS OF BULK AT MOST 1048576: true; the input reads as it did. -/
def vectStepsUptoRow : OpenClaim := { program := "ytpgpeigaoonpcab", sum := "3c1957c8bfbc5253ee2cab51cf7ac2a920c22f51c40163b6481dcf26d1ca435c", func := "firth/firthlaw04.VectSteps", spec := "vectSteps", apart := false, narrowed := true }
def VectStepsUptoSaid : Prop := vectStepsUptoRow.holds Try.pinned (OpenSpec.upto vectStepsSpec)

end Rows
end Go.Proofs.Ytpgpeigaoonpcab
