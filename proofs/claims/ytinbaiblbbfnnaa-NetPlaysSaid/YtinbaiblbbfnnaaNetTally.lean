/-
  net: Tally.
-/
import Derived.Test.YtinbaiblbbfnnaaNetFlip
namespace Go.Proofs.Ytinbaiblbbfnnaa
namespace Net
open Go.RowKit Blk Go.Maps
attribute [local go_sem ↓] Go.wp_at_zero Go.wp_at_succ
section
variable {F : Nat → Prop} {w : World} {nb m : Nat} {P : List Pk} {s t u : Int} {C : Ad → Ad → Bool}
theorem tally_any (h : NI F w nb P s t u C m) : Calls Try.prog 12 #[hd nb] w (fun e w' => e = .returned (.tuple #[.int .i64 s, .int .i64 t, .int .i64 u]) ∧ Below w.heap.size w w') := by
  obtain ⟨c2, c3, c4, _, _⟩ := h.cnt
  have H1 : Hid (∀ V, Below w.heap.size w V → Calls Try.prog 31 #[.pointer (some ⟨nb, 2, none⟩)] V (fun e w' => e = .returned (.int .i64 s) ∧ w' = V)) := Lib.hid fun V hV => load_any V nb 2 s ((hV.cell (h.lt nb h.cnt.2.2.2.2)).trans c2)
  have H2 : Hid (∀ V, Below w.heap.size w V → Calls Try.prog 31 #[.pointer (some ⟨nb, 3, none⟩)] V (fun e w' => e = .returned (.int .i64 t) ∧ w' = V)) := Lib.hid fun V hV => load_any V nb 3 t ((hV.cell (h.lt nb h.cnt.2.2.2.2)).trans c3)
  have H3 : Hid (∀ V, Below w.heap.size w V → Calls Try.prog 31 #[.pointer (some ⟨nb, 4, none⟩)] V (fun e w' => e = .returned (.int .i64 u) ∧ w' = V)) := Lib.hid fun V hV => load_any V nb 4 u ((hV.cell (h.lt nb h.cnt.2.2.2.2)).trans c4)
  clear h c2 c3 c4
  go_enter Try.func12, Try.ntmps12
  go_wp2_with fail
  go_region_held3 (fun V => Below w.heap.size w V) (first | exact (Below.refl _ _).drew | assumption) (first
    | (go_at_call 31; refine (H1.out _ (by first | assumption | exact (Below.refl _ _).drew)).mono ?_; rintro e1 w1 ⟨rfl, rfl⟩)
    | (go_at_call 31; refine (H2.out _ (by first | assumption | exact (Below.refl _ _).drew)).mono ?_; rintro e1 w1 ⟨rfl, rfl⟩)
    | (go_at_call 31; refine (H3.out _ (by first | assumption | exact (Below.refl _ _).drew)).mono ?_; rintro e1 w1 ⟨rfl, rfl⟩))
  all_goals
    go_wp2_with fail
    go_ret3
    exact ⟨rfl, (Below.refl _ _).drew⟩
end
end Net
end Go.Proofs.Ytinbaiblbbfnnaa
