/-
  firthlaw05.has: is a version of that dot among these?
-/
import Derived.Test.YtbhidndgnldheaaVersRightRef
namespace Go.Proofs.Ytbhidndgnldheaa
namespace Vers
open Go.RowKit Span
attribute [local go_sem ↓] Go.wp_at_zero Go.wp_at_succ

def hasD (l : List Vr) (s n : Int) : Prop := ∃ v ∈ l, v.s = s ∧ v.n = n
instance (l : List Vr) (s n : Int) : Decidable (hasD l s n) := by unfold hasD; infer_instance
theorem hasD_at {l : List Vr} {k : Nat} (h : k < l.length) (s n : Int) : decide (hasD (l.drop k) s n) = (decide ((l.getD k v0).s = s ∧ (l.getD k v0).n = n) || decide (hasD (l.drop (k + 1)) s n)) := by
  have e : l.getD k v0 = l[k] := by simp [List.getD_eq_getElem?_getD, h]
  rw [e, List.drop_eq_getElem_cons h, ← Bool.decide_or]
  congr 1
  refine propext ?_
  unfold hasD
  simp only [List.mem_cons, exists_eq_or_imp]

end Vers
end Go.Proofs.Ytbhidndgnldheaa
