/-
  Whole structs that are read and written in a walk, by the list of their cells.
-/
import Derived.Test.YtegiigeelcnemaaGreatCodeRdMsg
import Derived.Laws.Rows
import Derived.Deep.WholeRow
namespace Go.Proofs.YtegiigeelcnemaaGreat
namespace Code
open Go.RowKit Num Span Vers

section
variable {P : Program} {ops : Array Oper} {rest : List Oper} {o : Oper} {a : Act} {w : World} {Q : Exit → Act → World → Prop}
/-- A struct read by an operation that is wanted. -/
theorem load_row_w (hw : Region.wanted o (yielded ops a.tmps) = true) (ty : TypeId) (x : Operand) (ho : o.op = .load ty x)
    (g : Nat) (hx : a.eval x = .pointer (some ⟨g, 0, none⟩)) (t : TypeId) (cs : Array Value) (fr : Nat × Nat) (d : TypeDesc) (hg : w.heap[g]? = some (.cells cs t fr))
    (hu : P.underlying ty = some d) (hd : (match d with | .struct _ | .array _ _ => true | _ => false) = true) (hi : (P.info? ty).map (·.size) = some cs.size)
    (h : wpList P ops Q rest (a.put o.dst (.agg cs)) w) : wpList P ops Q (o :: rest) a w :=
  BigFrame.wpList_want hw fun _ hK => wp_load_row ty x ho g hx t cs fr d hg hu hd hi (hK _ _ h)
end
theorem info_msg : (Tryz.prog.info? 45).map (·.size) = some 15 := by kernel_rfl
theorem mcc_len (m : Ms) (a : Pl) : (mcc m a).length = 15 := by
  obtain ⟨kind, ⟨f1, f2⟩, ⟨t1, t2⟩, id, n, for_, code, key, recs, vec, path, hashes, route⟩ := m
  obtain ⟨⟨A8, c8⟩, ⟨A9, c9⟩, ⟨A10, c10⟩, ⟨A11, c11⟩, ⟨A12, c12⟩⟩ := a
  rfl
theorem mcc_one (m : Ms) (a : Pl) : (mcc m a).toArray.all (·.oneCell') = true := by
  obtain ⟨kind, ⟨f1, f2⟩, ⟨t1, t2⟩, id, n, for_, code, key, recs, vec, path, hashes, route⟩ := m
  obtain ⟨⟨A8, c8⟩, ⟨A9, c9⟩, ⟨A10, c10⟩, ⟨A11, c11⟩, ⟨A12, c12⟩⟩ := a
  simp [mcc, Value.oneCell']
/-- The cells of a message as a letter. -/
def Mv (L : List Value) : Prop := (Tryz.prog.info? 45).map (·.size) = some L.toArray.size ∧ L.toArray.all (·.oneCell') = true
theorem mv_is (m : Ms) (a : Pl) : Mv (mcc m a) := ⟨by rw [info_msg, List.size_toArray, mcc_len], mcc_one m a⟩
theorem mv_len {L : List Value} (h : Mv L) : L.toArray.size = 15 := by
  have := h.1
  rw [info_msg] at this
  injection this with this
  exact this.symm
end Code
end Go.Proofs.YtegiigeelcnemaaGreat
