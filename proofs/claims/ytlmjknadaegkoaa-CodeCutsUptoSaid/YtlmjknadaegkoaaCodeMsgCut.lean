/-
  Plain laws of layer 6: a message's bytes that are cut off are none.
-/
import Derived.Test.YtlmjknadaegkoaaCodeMsgLaw
import Derived.Test.YtlmjknadaegkoaaAllCut
namespace Go.Proofs.Ytlmjknadaegkoaa
namespace Code
open Num Span Vers

/-- P6.3: cut off, it is none. -/
theorem msg_cut {m : Ms} (hl : (msgL m).length ≤ 1048576) {k : Nat} (hk : k < (Frm.frameF (msgL m)).length) : msgWF ((Frm.frameF (msgL m)).take k) = (m0, 4) := by
  have hn : Frm.nextF ((Frm.frameF (msgL m)).take k) 0 = ([], 0, 4) := by
    have := Frm.nextF_cut hl [] hk
    simpa using this
  unfold msgWF
  rw [hn]
  simp
end Code
end Go.Proofs.Ytlmjknadaegkoaa
