/-
 slices.Clone of numbers: what it makes is the call's own, and can be appended to.
-/
import Derived.Test.YtekhaejhmlebbaaGreatRGFill
namespace Go.Proofs.YtekhaejhmlebbaaGreat
namespace Ints
open Go.RowKit Vers Span
attribute [local go_sem ↓] Go.wp_at_zero Go.wp_at_succ

theorem info_intC : (Tryz.prog.info? 3).map (fun i => (i.zero, i.size, i.bytes)) = some (some (.int .i64 0), 1, 8) := by kernel_rfl
def OwnI (l : List Int) (n : Nat) (w : World) (e : Ending) (w' : World) : Prop := ∃ A1 c1, e = .returned (.slice A1 n c1) ∧ Hid (w'.ownsRow w.heap.size 3 1 (.slice A1 n c1) n (nums .i64 l)) ∧ Below w.heap.size w w'
set_option maxRecDepth 100000 in
theorem clone_row (A : Option Addr) (c n : Nat) (l : List Int) (hn : l.length = n) (w : World) (hr : Ns .i64 w w.heap.size A l) (hbig : n ≤ 17592186043904) :
  Calls Tryz.prog 42 #[.slice A n c] w (OwnI l n w) := by
 obtain ⟨i0, hi0, hz0, hz1, hz2⟩ := info_parts info_intC
 rcases A with _ | ad
 ·have h0 : l = [] := by
   rcases Nat.eq_zero_or_pos l.length with h0 | h0
   ·exact List.eq_nil_of_length_eq_zero h0
   ·obtain ⟨b, off, he, _⟩ := hr h0
    cases he
  subst h0
  obtain rfl : n = 0 := hn.symm
  have hne := Lib.run_eql_slice_nil (P := Tryz.prog) w 23 3 none 0 c 0 0 Tryz.underlying23
  rw [show (none : Option Addr).isNone = true from rfl] at hne
  go_enter Tryz.func42, Tryz.ntmps42
  go_wp2_with fail
  go_ret
  exact ⟨none, 0, rfl, Lib.hid (World.ownsRow_nil _ _ _ _), Below.refl _ _⟩
 ·have ho := World.ownsRow_lit (base := w.heap.size) (e := 3) (size := 1) w #[] 0 (Nat.le_refl _) (by unfold maxLen; omega) rfl
  have q2 : Ns .i64 (w.alloc (.cells #[] 3)) w.heap.size (some ad) l := hr.below ((Below.refl _ w).alloc (Nat.le_refl _) _)
  have hne := Lib.run_eql_slice_nil (P := Tryz.prog) w 23 3 (some ad) n c 0 0 Tryz.underlying23
  rw [show (some ad).isNone = false from rfl] at hne
  have Hn := Lib.hid hn
  clear hr hn
  go_enter Tryz.func42, Tryz.ntmps42
  have b0 := (Below.refl w.heap.size w).alloc (Nat.le_refl _) (.cells #[] 3)
  go_wp2_with (at_builtin; refine wpList_append_ns _ rfl (.tmp 5) (.tmp 6) 23 rfl w.heap.size 3 i0 _ 8 Tryz.underlying23 hi0 hz0 hz1 hz2 rfl _ 0 [] rfl ho .i64 w.heap.size (some ad) n c l Hn.out rfl q2 (by omega) (by omega) (by simp) ?_; intro v1 w1 o1 g1 at1)
  have b1 := b0.grown g1 (by simp) (fun j hj => (ho.lt j hj).1)
  obtain ⟨A1, c1, rfl⟩ := own_form o1
  rw [Nat.zero_add, List.nil_append] at o1
  have HF := Lib.hid (And.intro o1 b1)
  clear o1 g1 at1 b1 b0 ho q2
  go_wp2_with fail
  go_ret
  exact ⟨A1, c1, by simp, Lib.hid (by simpa using HF.out.1), HF.out.2⟩
end Ints
end Go.Proofs.YtekhaejhmlebbaaGreat
