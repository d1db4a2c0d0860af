/-
  No cell of these rows narrows 'for every input' (looked for: loops, veiled, ifaces, maps, wideKeys, modest, calm, conditions, laid).
  DERIVED. THE GIVEN ROWS OF THIS SEAT. 7 by the template 'for every input the law returns true; each argument reads behind the call as it read before'; 0 by the template 'total and deterministic' (their statements: YtekhaejhmlebbaaGreatTotals.lean).
  GIVEN WITH THE SEED: the statements are not yours to turn. If you find one false, say at which input.
  Laid BY PROGRAM, IN A SANDBOX (cutbox-rows.mjs): the forced cells as the released guide's own fill.sh prints them over the translation 666914fc2b908b4a… (all of the seat's roots in one cut). By AI agents, Wed Nov 11 2026. No macro, syntax, notation, axiom, sorry.
-/
import Derived.Test.YtekhaejhmlebbaaGreatChecked
import GoSem.Claim
import GoSem.ClaimJoined
import GoSem.ClaimMapViews
import Derived.JoinedTies
import Derived.KernelRfl
namespace Go.Proofs.YtekhaejhmlebbaaGreat
/- THE CELL 'sum', in the pinned program and in every row, IS THE sha256 OF THE DUMP (.gsa) THAT YtekhaejhmlebbaaGreatProg.lean LOADS. Nothing in Lean hashes anything: it is a label: what it is worth is what the hold of that sum in a sandbox is worth. -/
noncomputable def Tryz.pinned : Pinned := { name := "ytekhaejhmlebbaagreat", sum := "666914fc2b908b4a50d4adb7607925d6e81d6286fc9ba4dcc86e4fe115d61a2a", checked := Tryz.checked }
namespace Rows
def none {H : Type} : Left H := { results := [], args := [] }

/-- 'firthlaw14.MendAnswers': WHATEVER THE INPUT: true; the input reads as it did. -/
def mendAnswersSpec : ChangeSpec := { name := "mendAnswers", fn := fun _ => fun
  | [d1, d2, d3] => { results := [.lit (.bool true)], args := [d1, d2, d3] }
  | _ => none }
def mendAnswersRow : OpenClaim := { program := "ytekhaejhmlebbaagreat", sum := "666914fc2b908b4a50d4adb7607925d6e81d6286fc9ba4dcc86e4fe115d61a2a", func := "firth/firthlaw14.MendAnswers", spec := "mendAnswers", inPlace := ["internal/bytealg.abigen_runtime_cmpstring", "sync/atomic.LoadUint32", "(*internal/sync.Mutex).Lock", "internal/race.Disable", "sync/atomic.CompareAndSwapInt32", "internal/race.Enable", "internal/race.Acquire", "(*internal/sync.Mutex).lockSlow", "internal/sync.runtime_canSpin", "internal/sync.runtime_doSpin", "internal/sync.throw", "internal/sync.runtime_nanotime", "internal/sync.runtime_SemacquireMutex", "sync/atomic.AddInt32", "(*internal/sync.Mutex).Unlock", "internal/race.ReleaseMerge", "(*internal/sync.Mutex).unlockSlow", "internal/sync.fatal", "internal/sync.runtime_Semrelease", "sync/atomic.StoreUint32"], unfollowed := true, recurses := true, apart := false }
def MendAnswersSaid : Prop := mendAnswersRow.holds Tryz.pinned (OpenSpec.ofChange mendAnswersSpec)

/-- ITS FALSE NEIGHBOUR: 'it returns false'. Refute it at one input. -/
def mendAnswersWrong : ChangeSpec := { name := "mendAnswers", fn := fun _ => fun
  | [d1, d2, d3] => { results := [.lit (.bool false)], args := [d1, d2, d3] }
  | _ => none }
def MendAnswersWrongFalsely : Prop := mendAnswersRow.holds Tryz.pinned (OpenSpec.ofChange mendAnswersWrong)

/-- 'firthlaw14.MendTakes': WHATEVER THE INPUT: true; the input reads as it did. -/
def mendTakesSpec : ChangeSpec := { name := "mendTakes", fn := fun _ => fun
  | [d1, d2] => { results := [.lit (.bool true)], args := [d1, d2] }
  | _ => none }
def mendTakesRow : OpenClaim := { program := "ytekhaejhmlebbaagreat", sum := "666914fc2b908b4a50d4adb7607925d6e81d6286fc9ba4dcc86e4fe115d61a2a", func := "firth/firthlaw14.MendTakes", spec := "mendTakes", inPlace := ["internal/bytealg.abigen_runtime_cmpstring", "sync/atomic.LoadUint32", "(*internal/sync.Mutex).Lock", "internal/race.Disable", "sync/atomic.CompareAndSwapInt32", "internal/race.Enable", "internal/race.Acquire", "(*internal/sync.Mutex).lockSlow", "internal/sync.runtime_canSpin", "internal/sync.runtime_doSpin", "internal/sync.throw", "internal/sync.runtime_nanotime", "internal/sync.runtime_SemacquireMutex", "sync/atomic.AddInt32", "(*internal/sync.Mutex).Unlock", "internal/race.ReleaseMerge", "(*internal/sync.Mutex).unlockSlow", "internal/sync.fatal", "internal/sync.runtime_Semrelease", "sync/atomic.StoreUint32"], unfollowed := true, recurses := true, apart := false }
def MendTakesSaid : Prop := mendTakesRow.holds Tryz.pinned (OpenSpec.ofChange mendTakesSpec)

/-- ITS FALSE NEIGHBOUR: 'it returns false'. Refute it at one input. -/
def mendTakesWrong : ChangeSpec := { name := "mendTakes", fn := fun _ => fun
  | [d1, d2] => { results := [.lit (.bool false)], args := [d1, d2] }
  | _ => none }
def MendTakesWrongFalsely : Prop := mendTakesRow.holds Tryz.pinned (OpenSpec.ofChange mendTakesWrong)

/-- 'firthlaw14.MendGives': WHATEVER THE INPUT: true; the input reads as it did. -/
def mendGivesSpec : ChangeSpec := { name := "mendGives", fn := fun _ => fun
  | [d1, d2, d3] => { results := [.lit (.bool true)], args := [d1, d2, d3] }
  | _ => none }
def mendGivesRow : OpenClaim := { program := "ytekhaejhmlebbaagreat", sum := "666914fc2b908b4a50d4adb7607925d6e81d6286fc9ba4dcc86e4fe115d61a2a", func := "firth/firthlaw14.MendGives", spec := "mendGives", inPlace := ["internal/bytealg.abigen_runtime_cmpstring", "sync/atomic.LoadUint32", "(*internal/sync.Mutex).Lock", "internal/race.Disable", "sync/atomic.CompareAndSwapInt32", "internal/race.Enable", "internal/race.Acquire", "(*internal/sync.Mutex).lockSlow", "internal/sync.runtime_canSpin", "internal/sync.runtime_doSpin", "internal/sync.throw", "internal/sync.runtime_nanotime", "internal/sync.runtime_SemacquireMutex", "sync/atomic.AddInt32", "(*internal/sync.Mutex).Unlock", "internal/race.ReleaseMerge", "(*internal/sync.Mutex).unlockSlow", "internal/sync.fatal", "internal/sync.runtime_Semrelease", "sync/atomic.StoreUint32"], unfollowed := true, recurses := true, apart := false }
def MendGivesSaid : Prop := mendGivesRow.holds Tryz.pinned (OpenSpec.ofChange mendGivesSpec)

/-- ITS FALSE NEIGHBOUR: 'it returns false'. Refute it at one input. -/
def mendGivesWrong : ChangeSpec := { name := "mendGives", fn := fun _ => fun
  | [d1, d2, d3] => { results := [.lit (.bool false)], args := [d1, d2, d3] }
  | _ => none }
def MendGivesWrongFalsely : Prop := mendGivesRow.holds Tryz.pinned (OpenSpec.ofChange mendGivesWrong)

/-- 'firthlaw14.MendBoth': WHATEVER THE INPUT: true; the input reads as it did. -/
def mendBothSpec : ChangeSpec := { name := "mendBoth", fn := fun _ => fun
  | [d1, d2] => { results := [.lit (.bool true)], args := [d1, d2] }
  | _ => none }
def mendBothRow : OpenClaim := { program := "ytekhaejhmlebbaagreat", sum := "666914fc2b908b4a50d4adb7607925d6e81d6286fc9ba4dcc86e4fe115d61a2a", func := "firth/firthlaw14.MendBoth", spec := "mendBoth", inPlace := ["internal/bytealg.abigen_runtime_cmpstring", "sync/atomic.LoadUint32", "(*internal/sync.Mutex).Lock", "internal/race.Disable", "sync/atomic.CompareAndSwapInt32", "internal/race.Enable", "internal/race.Acquire", "(*internal/sync.Mutex).lockSlow", "internal/sync.runtime_canSpin", "internal/sync.runtime_doSpin", "internal/sync.throw", "internal/sync.runtime_nanotime", "internal/sync.runtime_SemacquireMutex", "sync/atomic.AddInt32", "(*internal/sync.Mutex).Unlock", "internal/race.ReleaseMerge", "(*internal/sync.Mutex).unlockSlow", "internal/sync.fatal", "internal/sync.runtime_Semrelease", "sync/atomic.StoreUint32"], unfollowed := true, recurses := true, apart := false }
def MendBothSaid : Prop := mendBothRow.holds Tryz.pinned (OpenSpec.ofChange mendBothSpec)

/-- ITS FALSE NEIGHBOUR: 'it returns false'. Refute it at one input. -/
def mendBothWrong : ChangeSpec := { name := "mendBoth", fn := fun _ => fun
  | [d1, d2] => { results := [.lit (.bool false)], args := [d1, d2] }
  | _ => none }
def MendBothWrongFalsely : Prop := mendBothRow.holds Tryz.pinned (OpenSpec.ofChange mendBothWrong)

/-- 'firthlaw14.MendFew': WHATEVER THE INPUT: true; the input reads as it did. -/
def mendFewSpec : ChangeSpec := { name := "mendFew", fn := fun _ => fun
  | [d1, d2] => { results := [.lit (.bool true)], args := [d1, d2] }
  | _ => none }
def mendFewRow : OpenClaim := { program := "ytekhaejhmlebbaagreat", sum := "666914fc2b908b4a50d4adb7607925d6e81d6286fc9ba4dcc86e4fe115d61a2a", func := "firth/firthlaw14.MendFew", spec := "mendFew", inPlace := ["internal/bytealg.abigen_runtime_cmpstring", "sync/atomic.LoadUint32", "(*internal/sync.Mutex).Lock", "internal/race.Disable", "sync/atomic.CompareAndSwapInt32", "internal/race.Enable", "internal/race.Acquire", "(*internal/sync.Mutex).lockSlow", "internal/sync.runtime_canSpin", "internal/sync.runtime_doSpin", "internal/sync.throw", "internal/sync.runtime_nanotime", "internal/sync.runtime_SemacquireMutex", "sync/atomic.AddInt32", "(*internal/sync.Mutex).Unlock", "internal/race.ReleaseMerge", "(*internal/sync.Mutex).unlockSlow", "internal/sync.fatal", "internal/sync.runtime_Semrelease", "sync/atomic.StoreUint32"], unfollowed := true, recurses := true, apart := false }
def MendFewSaid : Prop := mendFewRow.holds Tryz.pinned (OpenSpec.ofChange mendFewSpec)

/-- ITS FALSE NEIGHBOUR: 'it returns false'. Refute it at one input. -/
def mendFewWrong : ChangeSpec := { name := "mendFew", fn := fun _ => fun
  | [d1, d2] => { results := [.lit (.bool false)], args := [d1, d2] }
  | _ => none }
def MendFewWrongFalsely : Prop := mendFewRow.holds Tryz.pinned (OpenSpec.ofChange mendFewWrong)

/-- 'firthlaw14.MendTwice': WHATEVER THE INPUT: true; the input reads as it did. -/
def mendTwiceSpec : ChangeSpec := { name := "mendTwice", fn := fun _ => fun
  | [d1, d2] => { results := [.lit (.bool true)], args := [d1, d2] }
  | _ => none }
def mendTwiceRow : OpenClaim := { program := "ytekhaejhmlebbaagreat", sum := "666914fc2b908b4a50d4adb7607925d6e81d6286fc9ba4dcc86e4fe115d61a2a", func := "firth/firthlaw14.MendTwice", spec := "mendTwice", inPlace := ["internal/bytealg.abigen_runtime_cmpstring", "sync/atomic.LoadUint32", "(*internal/sync.Mutex).Lock", "internal/race.Disable", "sync/atomic.CompareAndSwapInt32", "internal/race.Enable", "internal/race.Acquire", "(*internal/sync.Mutex).lockSlow", "internal/sync.runtime_canSpin", "internal/sync.runtime_doSpin", "internal/sync.throw", "internal/sync.runtime_nanotime", "internal/sync.runtime_SemacquireMutex", "sync/atomic.AddInt32", "(*internal/sync.Mutex).Unlock", "internal/race.ReleaseMerge", "(*internal/sync.Mutex).unlockSlow", "internal/sync.fatal", "internal/sync.runtime_Semrelease", "sync/atomic.StoreUint32"], unfollowed := true, recurses := true, apart := false }
def MendTwiceSaid : Prop := mendTwiceRow.holds Tryz.pinned (OpenSpec.ofChange mendTwiceSpec)

/-- ITS FALSE NEIGHBOUR: 'it returns false'. Refute it at one input. -/
def mendTwiceWrong : ChangeSpec := { name := "mendTwice", fn := fun _ => fun
  | [d1, d2] => { results := [.lit (.bool false)], args := [d1, d2] }
  | _ => none }
def MendTwiceWrongFalsely : Prop := mendTwiceRow.holds Tryz.pinned (OpenSpec.ofChange mendTwiceWrong)

/-- 'firthlaw14.MendKeeps': WHATEVER THE INPUT: true; the input reads as it did. -/
def mendKeepsSpec : ChangeSpec := { name := "mendKeeps", fn := fun _ => fun
  | [d1, d2] => { results := [.lit (.bool true)], args := [d1, d2] }
  | _ => none }
def mendKeepsRow : OpenClaim := { program := "ytekhaejhmlebbaagreat", sum := "666914fc2b908b4a50d4adb7607925d6e81d6286fc9ba4dcc86e4fe115d61a2a", func := "firth/firthlaw14.MendKeeps", spec := "mendKeeps", inPlace := ["internal/bytealg.abigen_runtime_cmpstring", "sync/atomic.LoadUint32", "(*internal/sync.Mutex).Lock", "internal/race.Disable", "sync/atomic.CompareAndSwapInt32", "internal/race.Enable", "internal/race.Acquire", "(*internal/sync.Mutex).lockSlow", "internal/sync.runtime_canSpin", "internal/sync.runtime_doSpin", "internal/sync.throw", "internal/sync.runtime_nanotime", "internal/sync.runtime_SemacquireMutex", "sync/atomic.AddInt32", "(*internal/sync.Mutex).Unlock", "internal/race.ReleaseMerge", "(*internal/sync.Mutex).unlockSlow", "internal/sync.fatal", "internal/sync.runtime_Semrelease", "sync/atomic.StoreUint32"], unfollowed := true, recurses := true, apart := false }
def MendKeepsSaid : Prop := mendKeepsRow.holds Tryz.pinned (OpenSpec.ofChange mendKeepsSpec)

/-- ITS FALSE NEIGHBOUR: 'it returns false'. Refute it at one input. -/
def mendKeepsWrong : ChangeSpec := { name := "mendKeeps", fn := fun _ => fun
  | [d1, d2] => { results := [.lit (.bool false)], args := [d1, d2] }
  | _ => none }
def MendKeepsWrongFalsely : Prop := mendKeepsRow.holds Tryz.pinned (OpenSpec.ofChange mendKeepsWrong)

/- THE SECOND FORM. 'bulk': how many values and letters a reading holds, each counted each time it is reached (what is shared counts as often as it is met; a slice's spare places count too). A statement '..UptoSaid' is the law's where the arguments, and the package variables that the reading takes, are together of bulk at most 1048576: NARROWER than '..Said'. Prove '..Said' where nothing that the law and all that it calls make is longer than what came in: it says more and counts as full. Else prove '..UptoSaid'. A law counts once. -/
mutual
def uptoBulk {H : Type} : DataW H → Nat
  | .lit (.string bytes) => bytes.length + 1
  | .lit _ => 1
  | .nil => 1
  | .ptr d => uptoBulk d + 1
  | .slice elems spare => uptoBulkAll elems + uptoBulkAll spare + 1
  | .agg parts => uptoBulkAll parts + 1
  | .iface _ d => uptoBulk d + 1
  | .map entries => uptoBulkEntries entries + 1
  | .held _ => 1
def uptoBulkAll {H : Type} : List (DataW H) → Nat
  | [] => 0
  | d :: r => uptoBulk d + uptoBulkAll r
def uptoBulkEntries {H : Type} : List (Lit × DataW H) → Nat
  | [] => 0
  | x :: r => uptoBulkEntry x + uptoBulkEntries r
def uptoBulkEntry {H : Type} : Lit × DataW H → Nat
  | (.string bytes, d) => bytes.length + uptoBulk d + 1
  | (_, d) => uptoBulk d + 1
 end
def uptoSmall : (H : Type) → List (DataW H) → Bool := fun _ ds => decide (uptoBulkAll ds ≤ 1048576)
def OpenSpec.upto (s : _root_.Go.ChangeSpec) : _root_.Go.OpenSpec := { _root_.Go.OpenSpec.ofChange s with cond := some uptoSmall }

/-- 'firthlaw14.MendAnswers', WHERE WHAT IT READS IS OF BULK AT MOST 1048576: true; the input reads as it did. -/
def mendAnswersUptoRow : OpenClaim := { program := "ytekhaejhmlebbaagreat", sum := "666914fc2b908b4a50d4adb7607925d6e81d6286fc9ba4dcc86e4fe115d61a2a", func := "firth/firthlaw14.MendAnswers", spec := "mendAnswers", inPlace := ["internal/bytealg.abigen_runtime_cmpstring", "sync/atomic.LoadUint32", "(*internal/sync.Mutex).Lock", "internal/race.Disable", "sync/atomic.CompareAndSwapInt32", "internal/race.Enable", "internal/race.Acquire", "(*internal/sync.Mutex).lockSlow", "internal/sync.runtime_canSpin", "internal/sync.runtime_doSpin", "internal/sync.throw", "internal/sync.runtime_nanotime", "internal/sync.runtime_SemacquireMutex", "sync/atomic.AddInt32", "(*internal/sync.Mutex).Unlock", "internal/race.ReleaseMerge", "(*internal/sync.Mutex).unlockSlow", "internal/sync.fatal", "internal/sync.runtime_Semrelease", "sync/atomic.StoreUint32"], unfollowed := true, recurses := true, apart := false, narrowed := true }
def MendAnswersUptoSaid : Prop := mendAnswersUptoRow.holds Tryz.pinned (OpenSpec.upto mendAnswersSpec)

/-- 'firthlaw14.MendTakes', WHERE WHAT IT READS IS OF BULK AT MOST 1048576: true; the input reads as it did. -/
def mendTakesUptoRow : OpenClaim := { program := "ytekhaejhmlebbaagreat", sum := "666914fc2b908b4a50d4adb7607925d6e81d6286fc9ba4dcc86e4fe115d61a2a", func := "firth/firthlaw14.MendTakes", spec := "mendTakes", inPlace := ["internal/bytealg.abigen_runtime_cmpstring", "sync/atomic.LoadUint32", "(*internal/sync.Mutex).Lock", "internal/race.Disable", "sync/atomic.CompareAndSwapInt32", "internal/race.Enable", "internal/race.Acquire", "(*internal/sync.Mutex).lockSlow", "internal/sync.runtime_canSpin", "internal/sync.runtime_doSpin", "internal/sync.throw", "internal/sync.runtime_nanotime", "internal/sync.runtime_SemacquireMutex", "sync/atomic.AddInt32", "(*internal/sync.Mutex).Unlock", "internal/race.ReleaseMerge", "(*internal/sync.Mutex).unlockSlow", "internal/sync.fatal", "internal/sync.runtime_Semrelease", "sync/atomic.StoreUint32"], unfollowed := true, recurses := true, apart := false, narrowed := true }
def MendTakesUptoSaid : Prop := mendTakesUptoRow.holds Tryz.pinned (OpenSpec.upto mendTakesSpec)

/-- 'firthlaw14.MendGives', WHERE WHAT IT READS IS OF BULK AT MOST 1048576: true; the input reads as it did. -/
def mendGivesUptoRow : OpenClaim := { program := "ytekhaejhmlebbaagreat", sum := "666914fc2b908b4a50d4adb7607925d6e81d6286fc9ba4dcc86e4fe115d61a2a", func := "firth/firthlaw14.MendGives", spec := "mendGives", inPlace := ["internal/bytealg.abigen_runtime_cmpstring", "sync/atomic.LoadUint32", "(*internal/sync.Mutex).Lock", "internal/race.Disable", "sync/atomic.CompareAndSwapInt32", "internal/race.Enable", "internal/race.Acquire", "(*internal/sync.Mutex).lockSlow", "internal/sync.runtime_canSpin", "internal/sync.runtime_doSpin", "internal/sync.throw", "internal/sync.runtime_nanotime", "internal/sync.runtime_SemacquireMutex", "sync/atomic.AddInt32", "(*internal/sync.Mutex).Unlock", "internal/race.ReleaseMerge", "(*internal/sync.Mutex).unlockSlow", "internal/sync.fatal", "internal/sync.runtime_Semrelease", "sync/atomic.StoreUint32"], unfollowed := true, recurses := true, apart := false, narrowed := true }
def MendGivesUptoSaid : Prop := mendGivesUptoRow.holds Tryz.pinned (OpenSpec.upto mendGivesSpec)

/-- 'firthlaw14.MendBoth', WHERE WHAT IT READS IS OF BULK AT MOST 1048576: true; the input reads as it did. -/
def mendBothUptoRow : OpenClaim := { program := "ytekhaejhmlebbaagreat", sum := "666914fc2b908b4a50d4adb7607925d6e81d6286fc9ba4dcc86e4fe115d61a2a", func := "firth/firthlaw14.MendBoth", spec := "mendBoth", inPlace := ["internal/bytealg.abigen_runtime_cmpstring", "sync/atomic.LoadUint32", "(*internal/sync.Mutex).Lock", "internal/race.Disable", "sync/atomic.CompareAndSwapInt32", "internal/race.Enable", "internal/race.Acquire", "(*internal/sync.Mutex).lockSlow", "internal/sync.runtime_canSpin", "internal/sync.runtime_doSpin", "internal/sync.throw", "internal/sync.runtime_nanotime", "internal/sync.runtime_SemacquireMutex", "sync/atomic.AddInt32", "(*internal/sync.Mutex).Unlock", "internal/race.ReleaseMerge", "(*internal/sync.Mutex).unlockSlow", "internal/sync.fatal", "internal/sync.runtime_Semrelease", "sync/atomic.StoreUint32"], unfollowed := true, recurses := true, apart := false, narrowed := true }
def MendBothUptoSaid : Prop := mendBothUptoRow.holds Tryz.pinned (OpenSpec.upto mendBothSpec)

/-- 'firthlaw14.MendFew', WHERE WHAT IT READS IS OF BULK AT MOST 1048576: true; the input reads as it did. -/
def mendFewUptoRow : OpenClaim := { program := "ytekhaejhmlebbaagreat", sum := "666914fc2b908b4a50d4adb7607925d6e81d6286fc9ba4dcc86e4fe115d61a2a", func := "firth/firthlaw14.MendFew", spec := "mendFew", inPlace := ["internal/bytealg.abigen_runtime_cmpstring", "sync/atomic.LoadUint32", "(*internal/sync.Mutex).Lock", "internal/race.Disable", "sync/atomic.CompareAndSwapInt32", "internal/race.Enable", "internal/race.Acquire", "(*internal/sync.Mutex).lockSlow", "internal/sync.runtime_canSpin", "internal/sync.runtime_doSpin", "internal/sync.throw", "internal/sync.runtime_nanotime", "internal/sync.runtime_SemacquireMutex", "sync/atomic.AddInt32", "(*internal/sync.Mutex).Unlock", "internal/race.ReleaseMerge", "(*internal/sync.Mutex).unlockSlow", "internal/sync.fatal", "internal/sync.runtime_Semrelease", "sync/atomic.StoreUint32"], unfollowed := true, recurses := true, apart := false, narrowed := true }
def MendFewUptoSaid : Prop := mendFewUptoRow.holds Tryz.pinned (OpenSpec.upto mendFewSpec)

/-- 'firthlaw14.MendTwice', WHERE WHAT IT READS IS OF BULK AT MOST 1048576: true; the input reads as it did. -/
def mendTwiceUptoRow : OpenClaim := { program := "ytekhaejhmlebbaagreat", sum := "666914fc2b908b4a50d4adb7607925d6e81d6286fc9ba4dcc86e4fe115d61a2a", func := "firth/firthlaw14.MendTwice", spec := "mendTwice", inPlace := ["internal/bytealg.abigen_runtime_cmpstring", "sync/atomic.LoadUint32", "(*internal/sync.Mutex).Lock", "internal/race.Disable", "sync/atomic.CompareAndSwapInt32", "internal/race.Enable", "internal/race.Acquire", "(*internal/sync.Mutex).lockSlow", "internal/sync.runtime_canSpin", "internal/sync.runtime_doSpin", "internal/sync.throw", "internal/sync.runtime_nanotime", "internal/sync.runtime_SemacquireMutex", "sync/atomic.AddInt32", "(*internal/sync.Mutex).Unlock", "internal/race.ReleaseMerge", "(*internal/sync.Mutex).unlockSlow", "internal/sync.fatal", "internal/sync.runtime_Semrelease", "sync/atomic.StoreUint32"], unfollowed := true, recurses := true, apart := false, narrowed := true }
def MendTwiceUptoSaid : Prop := mendTwiceUptoRow.holds Tryz.pinned (OpenSpec.upto mendTwiceSpec)

/-- 'firthlaw14.MendKeeps', WHERE WHAT IT READS IS OF BULK AT MOST 1048576: true; the input reads as it did. -/
def mendKeepsUptoRow : OpenClaim := { program := "ytekhaejhmlebbaagreat", sum := "666914fc2b908b4a50d4adb7607925d6e81d6286fc9ba4dcc86e4fe115d61a2a", func := "firth/firthlaw14.MendKeeps", spec := "mendKeeps", inPlace := ["internal/bytealg.abigen_runtime_cmpstring", "sync/atomic.LoadUint32", "(*internal/sync.Mutex).Lock", "internal/race.Disable", "sync/atomic.CompareAndSwapInt32", "internal/race.Enable", "internal/race.Acquire", "(*internal/sync.Mutex).lockSlow", "internal/sync.runtime_canSpin", "internal/sync.runtime_doSpin", "internal/sync.throw", "internal/sync.runtime_nanotime", "internal/sync.runtime_SemacquireMutex", "sync/atomic.AddInt32", "(*internal/sync.Mutex).Unlock", "internal/race.ReleaseMerge", "(*internal/sync.Mutex).unlockSlow", "internal/sync.fatal", "internal/sync.runtime_Semrelease", "sync/atomic.StoreUint32"], unfollowed := true, recurses := true, apart := false, narrowed := true }
def MendKeepsUptoSaid : Prop := mendKeepsUptoRow.holds Tryz.pinned (OpenSpec.upto mendKeepsSpec)

end Rows
end Go.Proofs.YtekhaejhmlebbaaGreat
