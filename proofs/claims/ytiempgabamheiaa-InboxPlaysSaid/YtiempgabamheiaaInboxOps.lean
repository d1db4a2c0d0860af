/-
  A script for an inbox among a law's arguments.
-/
import Derived.Test.YtiempgabamheiaaInboxBoth
namespace Go.Proofs.Ytiempgabamheiaa
namespace Inbox
open Go.ChangeShapes Go.WideShapes Go.ChangeAt Go.RowKit Go.Joins Go.Deep Vers Span Blk
/-- One of the script: kind, far write, vector. -/
abbrev Oo := Int × FE × (List Int × Plc)
def oo0 : Oo := (0, e0, ([], (none, 0)))
def oc (x : Oo) : List Value := [.int .i64 x.1, .int .i64 x.2.1.1.1.1, .int .i64 x.2.1.1.1.2, .string x.2.1.1.2.1.1, .slice x.2.1.2.1.1 x.2.1.1.2.1.2.length x.2.1.2.1.2, .slice x.2.1.2.2.1 x.2.1.1.2.2.length x.2.1.2.2.2, .slice x.2.2.2.1 x.2.2.1.length x.2.2.2.2]
def OkO (W : World) (x : Oo) : Prop := (Vs W 0 W.heap.size x.2.1.2.1.1 x.2.1.1.2.1.2 ∧ Ns .i64 W W.heap.size x.2.1.2.2.1 x.2.1.1.2.2 ∧ SzF x.2.1.1 ∧ x.2.1.1.2.1.2.length ≤ x.2.1.2.1.2) ∧ Ns .i64 W W.heap.size x.2.2.2.1 x.2.2.1 ∧ x.2.2.1.length * 8 ≤ 140737488351232
/-- A script in memory. -/
def Ops (W : World) (A : Option Addr) (l : List Oo) : Prop := (∀ x ∈ l, OkO W x) ∧ (0 < l.length → ∃ b off, A = some ⟨b, off, none⟩ ∧ b < W.heap.size ∧ ∀ j, j < l.length → ∀ r u, (oc (l.getD j oo0))[r]? = some u → W.cell? ⟨b, off + j * 7 + r, none⟩ = some u)
section
variable {H : Type} {enc : TypeId × Value → H} {W : World}
theorem cells_op : Try.prog.cellsOf 38 = 7 := by kernel_rfl
theorem bytes_op : Try.prog.bytesOf 38 = 112 := by kernel_rfl
theorem cells_ls : Try.prog.cellsOf 36 = 1 := by kernel_rfl
set_option maxRecDepth 100000 in
theorem op_at {n : Nat} {cs : List Value} {D : DataW H} {Pl : List MemPlace} (h : DataW.trod enc Try.prog W 0 (fun _ => true) true n 38 cs = some (D, Pl)) (hw : Wgt.Wt Try.prog 38 D) : ∃ x : Oo, cs = oc x ∧ OkO W x := by
  obtain ⟨y0, y1, y2, m, hx, hl, h0, h1, h2⟩ := trod_struct3 Try.underlying38 h
  rw [cells_op] at hl
  match cs, hl with
  | [q0, q1, q2, q3, q4, q5, q6], _ =>
    simp only [cells_int, cells_far, cells_ls, List.drop_zero, List.take_succ_cons, List.take_zero, List.drop_succ_cons] at h0 h1 h2
    obtain ⟨k, e0, _, _⟩ := DataW.trod_int Try.underlying3 h0
    have hxx : D = _ := congrArg Prod.fst hx
    have hww := Wgt.wt_struct Try.underlying38 (hxx ▸ hw)
    obtain ⟨x, e1, g⟩ := far_at (D := y1.1) (Pl := y1.2) h1 (hww 1 35 y1.1 rfl rfl)
    obtain ⟨A, c, l, e2, i1, i2⟩ := ls_cell (D := y2.1) (Pl := y2.2) h2 (hww 2 36 y2.1 rfl rfl)
    simp only [fc, List.cons.injEq, and_true] at e0 e1 e2
    obtain ⟨e11, e12, e13, e14, e15⟩ := e1
    subst e0 e11 e12 e13 e14 e15 e2
    exact ⟨(k, x, (l, (A, c))), rfl, g, i1, i2⟩
set_option maxRecDepth 100000 in
theorem arg_ops {v : Value} {d : DataW H} {p : List MemPlace} {r : Reach} {b0 : Nat} (hv : Value.okWide Try.prog W r b0 22 v) (h : DataW.Trod enc Try.prog W 0 (fun _ => true) true 22 v d p) (hw : Wgt.Wt Try.prog 22 d) :
    ∃ (A : Option Addr) (c : Nat) (l : List Oo), v = .slice A l.length c ∧ Ops W A l ∧ l.length ≤ c ∧ l.length * 112 ≤ 140737488351232 := by
  obtain ⟨A, c, l, rfl, hc, hb, hq, hp⟩ := Wgt.arg_slice Try.underlying22 hv h hw cells_op bytes_op (by omega) oc (OkO W) oo0 (fun _ => rfl) (fun n cs D Pl h hw => op_at h hw)
  exact ⟨A, c, l, rfl, ⟨hq, hp⟩, hc, hb⟩
end
end Inbox
end Go.Proofs.Ytiempgabamheiaa
