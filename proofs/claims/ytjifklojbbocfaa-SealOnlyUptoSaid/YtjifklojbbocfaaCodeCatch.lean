/-
  code.Set: a set read from all of some bytes; the reader's panic is caught.
-/
import Derived.Test.YtjifklojbbocfaaCodeSpans
import Derived.Test.YtjifklojbbocfaaSpanRight
import Derived.Defers
import Derived.Recover
namespace Go.Proofs.Ytjifklojbbocfaa
namespace Code
open Go.RowKit Num Span
attribute [local go_sem ↓] Go.wp_at_zero Go.wp_at_succ

/-- What a type assertion to the very type gives. -/
theorem run_typeAssert_same (v : Value) (xT : TypeId) (w : World) : (Instr.typeAssert (.iface 93 v) xT 93 true).run Try.prog w = .ok (.tuple #[v, .bool true]) w := by
  simp [Instr.typeAssert, run_underlying Try.underlying93]

set_option maxRecDepth 100000 in
theorem catch_set (base bx be : Nat) (hne : bx ≠ be) (v0 e0 : Value) (w : World) (hbx : base ≤ bx) (hbe : base ≤ be) (hx : Boxed w bx 24 v0) (he : Boxed w be 26 e0) :
    CallsD Try.prog 51 #[.pointer (some ⟨bx, 0, none⟩), .pointer (some ⟨be, 0, none⟩)] (.panicking [{ v := spoiltV, recovered := false }]) w fun e u' w' =>
      e = .returned (.tuple #[]) ∧ u' = .panicking [{ v := spoiltV, recovered := true }] ∧ Hid (Below base w w') ∧ Boxed w' bx 24 (.slice none 0 0) ∧ Boxed w' be 26 (.int .i64 2) := by
  obtain ⟨W, hW⟩ : ∃ W, w.alloc (.cells #[] 93) = W := ⟨_, rfl⟩
  have hx1 : Boxed W bx 24 v0 := by rw [← hW]; exact hx.alloc _
  have he1 : Boxed W be 26 e0 := by rw [← hW]; exact he.alloc _
  have lw : base ≤ w.heap.size := Nat.le_trans hbx (Nat.le_of_lt hx.lt)
  have hB : Hid (Below base w ((W.setCell ⟨bx, 0, none⟩ (.slice none 0 0)).setCell ⟨be, 0, none⟩ (.int .i64 2))) := by
    rw [← hW]
    exact Lib.hid ((((Below.refl base w).alloc lw _).setCell (p := ⟨bx, 0, none⟩) hbx _).setCell (p := ⟨be, 0, none⟩) hbe _)
  have h1 := hx1.cell
  have h2 := hx1.frozen
  have h3 := he1.cell
  have h4 := he1.frozen
  have h5 : Boxed ((W.setCell ⟨bx, 0, none⟩ (.slice none 0 0)).setCell ⟨be, 0, none⟩ (.int .i64 2)) bx 24 (.slice none 0 0) := (hx1.set _).kept (grownBy_setCell' _ _ _) (by simpa using hne)
  have h6 : Boxed ((W.setCell ⟨bx, 0, none⟩ (.slice none 0 0)).setCell ⟨be, 0, none⟩ (.int .i64 2)) be 26 (.int .i64 2) := (he1.kept (grownBy_setCell' _ bx _) (by simpa using Ne.symm hne)).set _
  have HB := Lib.hid (And.intro hB (And.intro h5 h6))
  have hta := run_typeAssert_same
  clear hB h5 h6 hx he hx1 he1
  refine callsD_of_wpS Try.func51 rfl fun c₀ cs hu => ?_
  apply wpS_seq
  apply wpS_region
  simp [wpOpsS, go_sem, recoverD, hu, Try.ntmps51, Exit.thenS, spoiltV]
  refine wpS_of_wp ?_
  rw [show (#[Value.pointer (some { block := bx, off := 0 }), Value.pointer (some { block := be, off := 0 })] ++ (Array.replicate 11 undef).setIfInBounds 4 (Value.iface 93 (Value.agg #[]))) = #[Value.pointer (some { block := bx, off := 0 }), Value.pointer (some { block := be, off := 0 }), undef, undef, undef, undef, Value.iface 93 (Value.agg #[]), undef, undef, undef, undef, undef, undef] from rfl]
  go_wp2
  exact ⟨rfl, _, rfl, _, results_none rfl _ _ _, rfl, rfl, HB.out.1, HB.out.2.1, HB.out.2.2⟩

theorem idle_set (p q : Addr) (w : World) :
    CallsD Try.prog 51 #[.pointer (some p), .pointer (some q)] .returning w fun e u' w' => e = .returned (.tuple #[]) ∧ u' = .returning ∧ w' = w := by
  refine callsD_of_wpS Try.func51 rfl fun c₀ cs hu => ?_
  apply wpS_seq
  apply wpS_region
  simp [wpOpsS, go_sem, recoverD, hu, Try.ntmps51, Exit.thenS]
  refine wpS_of_wp ?_
  rw [show (#[Value.pointer (some p), Value.pointer (some q)] ++ (Array.replicate 11 undef).setIfInBounds 4 Value.nilIface) = #[Value.pointer (some p), Value.pointer (some q), undef, undef, undef, undef, Value.nilIface, undef, undef, undef, undef, undef, undef] from rfl]
  go_wp2
  exact ⟨rfl, _, rfl, _, results_none rfl _ _ _, rfl, hu, rfl⟩
end Code
end Go.Proofs.Ytjifklojbbocfaa
