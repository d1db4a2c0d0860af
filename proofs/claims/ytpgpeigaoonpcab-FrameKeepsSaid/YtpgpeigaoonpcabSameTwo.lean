/-
  firthlaw02.same: two rows of bytes, held against each other as strings.
-/
import Derived.Test.YtpgpeigaoonpcabSameBase
namespace Go.Proofs.Ytpgpeigaoonpcab
namespace Frm
open Go.RowKit Num

theorem same2_any (A A' : Option Addr) (c c' n n' : Nat) (xs ys : List Int) (hn : xs.length = n) (hn' : ys.length = n') (B B' : Nat) (w : World) (hx : Ns .u8 w B A xs) (hy : Ns .u8 w B' A' ys) :
    Calls Try.prog 17 #[.slice A n c, .slice A' n' c'] w (IsBool (eqB xs ys) w) := by
  subst hn
  subst hn'
  have k1 := run_conv_ns (P := Try.prog) w 22 5 9 Try.underlying22 Try.underlying5 Try.underlying9 c hx
  have k2 := run_conv_ns (P := Try.prog) w 22 5 9 Try.underlying22 Try.underlying5 Try.underlying9 c' hy
  clear hx hy
  go_enter Try.func17, Try.ntmps17
  go_wp2
  go_ret
  exact ⟨rfl, rfl⟩

theorem same2_yes (A A' : Option Addr) (c c' n n' : Nat) (xs : List Int) (hn : xs.length = n) (hn' : xs.length = n') (B B' : Nat) (w : World) (hx : Ns .u8 w B A xs) (hy : Ns .u8 w B' A' xs) :
    Calls Try.prog 17 #[.slice A n c, .slice A' n' c'] w (IsBool true w) := by
  have h := same2_any A A' c c' n n' xs xs hn hn' B B' w hx hy
  rw [eqB, beq_self_eq_true] at h
  exact h

theorem same2_no (A A' : Option Addr) (c c' n n' : Nat) (xs ys : List Int) (hn : xs.length = n) (hn' : ys.length = n') (B B' : Nat) (w : World) (hx : Ns .u8 w B A xs) (hy : Ns .u8 w B' A' ys)
    (bx : ∀ z ∈ xs, 0 ≤ z ∧ z ≤ 255) (bz : ∀ z ∈ ys, 0 ≤ z ∧ z ≤ 255) (hne : xs ≠ ys) :
    Calls Try.prog 17 #[.slice A n c, .slice A' n' c'] w (IsBool false w) := by
  have h := same2_any A A' c c' n n' xs ys hn hn' B B' w hx hy
  rw [eqB_eq bx bz, decide_eq_false hne] at h
  exact h
end Frm
end Go.Proofs.Ytpgpeigaoonpcab
