/-
  What a comparison of two rows of bytes tells.
-/
import Derived.Test.YtjifklojbbocfaaFacts
import Derived.Lib.Strings
namespace Go.Proofs.Ytjifklojbbocfaa
namespace Num
open Go.RowKit

def IsBool (b : Bool) (w : World) (e : Ending) (w' : World) : Prop := e = .returned (.bool b) ∧ w = w'

def eqB (xs ys : List Int) : Bool := (strOfNums xs).toList == (strOfNums ys).toList

theorem eqB_eq {xs ys : List Int} (hx : ∀ z ∈ xs, 0 ≤ z ∧ z ≤ 255) (hy : ∀ z ∈ ys, 0 ≤ z ∧ z ≤ 255) : eqB xs ys = decide (xs = ys) := by
  unfold eqB
  rw [Lib.toList_data, Lib.toList_data]
  by_cases h : xs = ys
  · subst h; simp
  · have h2 : ¬ (strOfNums xs).data.toList = (strOfNums ys).data.toList := fun e => h (str_inj hx hy (ByteArray.ext (Array.toList_inj.1 e)))
    rw [decide_eq_false h]
    simpa using h2
end Num
end Go.Proofs.Ytjifklojbbocfaa
