/-
  What a bound on the input's bulk says of its parts.
-/
import Derived.Test.YtdcppjpjlhbanaaFrame
import Derived.Test.YtdcppjpjlhbanaaRows
namespace Go.Proofs.Ytdcppjpjlhbanaa
namespace Bulk
open Go.ChangeShapes Go.RowKit

theorem bound {H : Type} {l : List (DataW H)} (hk : Rows.uptoSmall H l = true) : Rows.uptoBulkAll l ≤ 1048576 := of_decide_eq_true hk

theorem lits_bulk {H : Type} (k : IntKind) (zs : List Int) : Rows.uptoBulkAll (H := H) (lits k zs) = zs.length := by
  induction zs with
  | nil => simp [lits, Rows.uptoBulkAll]
  | cons z zs ih =>
    have e : lits (H := H) k (z :: zs) = .lit (.int k z) :: lits k zs := by simp [lits]
    rw [e, Rows.uptoBulkAll, ih]
    simp [Rows.uptoBulk]
    omega

theorem ns_le {H : Type} {d : DataW H} {k : IntKind} {zs : List Int} {A : Option Addr} {c : Nat}
    (ho : (d = .nil ∧ A = none ∧ zs = [] ∧ c = 0) ∨ ∃ el sp, d = .slice el sp ∧ c = el.length + sp.length ∧ el = lits k zs) (_hlc : zs.length ≤ c) : zs.length ≤ Rows.uptoBulk d := by
  rcases ho with ⟨_, _, rfl, _⟩ | ⟨el, sp, rfl, _, rfl⟩
  · simp
  · simp only [Rows.uptoBulk, lits_bulk]
    omega

theorem str_le {H : Type} (s : ByteArray) : s.size ≤ Rows.uptoBulk (DataW.lit (H := H) (.string s.data.toList)) := by
  have h4 : s.data.toList.length = s.size := by rw [Array.length_toList]; rfl
  simp only [Rows.uptoBulk]
  omega
end Bulk
end Go.Proofs.Ytdcppjpjlhbanaa
