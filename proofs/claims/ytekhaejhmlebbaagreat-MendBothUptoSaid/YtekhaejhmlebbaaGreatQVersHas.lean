/-
 firthlaw05.has: is a version of that dot among these?
-/
import Derived.Test.YtekhaejhmlebbaaGreatQGRef
namespace Go.Proofs.YtekhaejhmlebbaaGreat
namespace Vers
open Go.RowKit Span
attribute [local go_sem ↓] Go.wp_at_zero Go.wp_at_succ

def hasD (l : List Vr) (s n : Int) : Prop := ∃ v ∈ l, v.s = s ∧ v.n = n
instance (l : List Vr) (s n : Int) : Decidable (hasD l s n) := by unfold hasD; infer_instance
end Vers
end Go.Proofs.YtekhaejhmlebbaaGreat
