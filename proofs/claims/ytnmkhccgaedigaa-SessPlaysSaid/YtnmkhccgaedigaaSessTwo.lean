/-
  Two sessions, plainly.
-/
import Derived.Test.YtnmkhccgaedigaaSessPlain
namespace Go.Proofs.Ytnmkhccgaedigaa
namespace Sess
open Go.RowKit

section
variable {a b op op' : Int} {t u v : List Int}
theorem begin1 (h : 0 < op) : beginF [(a, t, 0), (b, u, 0)] 1 op = ([(a, t, op), (b, u, 0)], a, t, 0) := by
  have h1 : ¬ op < 1 := by omega
  have h2 : ¬ (0 : Int) = op := by omega
  simp [beginF, inF, askF, getF, h1, h2]
theorem begin1b (h : 0 < op) (h' : 0 < op') (hne : op ≠ op') : beginF [(a, t, op), (b, u, 0)] 1 op' = ([(a, t, op), (b, u, 0)], 0, [], 202) := by
  have h1 : ¬ op' < 1 := by omega
  have h2 : ¬ (0 : Int) = op' := by omega
  have h3 : ¬ op = 0 := by omega
  simp [beginF, inF, askF, getF, h1, h2, h3, hne]
theorem begin2 (h' : 0 < op') (hne : op ≠ op') : beginF [(a, t, op), (b, u, 0)] 2 op' = ([(a, t, op), (b, u, op')], b, u, 0) := by
  have h1 : ¬ op' < 1 := by omega
  have h2 : ¬ (0 : Int) = op' := by omega
  simp [beginF, inF, askF, getF, h1, h2, hne]
theorem end2 (h' : 0 < op') (hne : op ≠ op') (hv : v.length ≠ 0) : endF [(a, t, op), (b, u, op')] op' v = ([(a, t, op), (b, v, 0)], 2, true) := by
  have h2 : ¬ op' = 0 := by omega
  have hv' : ¬ v = [] := fun e => hv (by rw [e]; rfl)
  simp [endF, List.findIdx?_cons, hne, h2, hv']
theorem end1 (h : 0 < op) : endF [(a, t, op), (b, u, 0)] op v = ([(a, if v.length = 0 then t else v, 0), (b, u, 0)], 1, true) := by
  have h2 : ¬ op = 0 := by omega
  simp [endF, List.findIdx?_cons, h2]
theorem end1b (h : 0 < op) : endF [(a, t, 0), (b, u, 0)] op v = ([(a, t, 0), (b, u, 0)], 0, false) := by
  have h2 : ¬ op = 0 := by omega
  have h3 : ¬ (0 : Int) = op := by omega
  simp [endF, List.findIdx?_cons, h2, h3]
theorem go1 (h : 0 < op) : goF 16 [(a, t, op), (b, u, 0)] 1 5 = ([(a, t, op), (b, u, 0)], 202) := by
  have h3 : ¬ op = 0 := by omega
  simp [goF, inF, getF, h3]
theorem go_yes {s : Int} (h : 1 ≤ s ∧ s ≤ 16) : goF 16 [(a, t, 0), (b, u, 0)] 1 s = ([(s, t, 0), (b, u, 0)], 0) := by
  have h1 : ¬ s < 1 := by omega
  have h2 : ¬ 16 < s := by omega
  simp [goF, inF, getF, h.1, h.2]
theorem go_no {s : Int} (h : ¬ (1 ≤ s ∧ s ≤ 16)) : goF 16 [(a, t, 0), (b, u, 0)] 1 s = ([(a, t, 0), (b, u, 0)], 1) := by
  unfold goF
  rw [if_neg (by simp [inF]), if_pos h]
theorem site1 : siteF [(a, t, op), (b, u, op')] 1 = a := by simp [siteF, inF, getF]
theorem tok1 : tokF [(a, t, op), (b, u, op')] 1 = t := by simp [tokF, inF, getF]
end
end Sess
end Go.Proofs.Ytnmkhccgaedigaa
