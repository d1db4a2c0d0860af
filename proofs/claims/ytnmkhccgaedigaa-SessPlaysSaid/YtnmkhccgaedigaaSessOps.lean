/-
  A script of asks among a law's arguments.
-/
import Derived.Test.YtnmkhccgaedigaaSessArgs
import Derived.Test.YtnmkhccgaedigaaSessSame
namespace Go.Proofs.Ytnmkhccgaedigaa
namespace Facts
theorem cells2 : Try.prog.cellsOf 2 = 1 := by kernel_rfl
end Facts
namespace Sess
open Go.ChangeShapes Go.WideShapes Go.ChangeAt Go.RowKit Blk
/-- One of the script: kind, number, site, ask, token. -/
abbrev So := (Int × Int × Int × Int) × Tk
def so0 : So := ((0, 0, 0, 0), t0)
def sc (x : So) : List Value := [.int .i64 x.1.1, .int .i64 x.1.2.1, .int .i64 x.1.2.2.1, .int .i64 x.1.2.2.2, tkV x.2]
def i64In (z : Int) : Prop := -9223372036854775808 ≤ z ∧ z ≤ 9223372036854775807
def OkSo (x : So) : Prop := i64In x.1.1 ∧ i64In x.1.2.1 ∧ i64In x.1.2.2.1 ∧ i64In x.1.2.2.2 ∧ OkT x.2.1
def Sos (w : World) (B : Nat) (A : Option Addr) (l : List So) : Prop := (∀ x ∈ l, Ns .u8 w B x.2.2.1 x.2.1) ∧ (0 < l.length → ∃ b off, A = some ⟨b, off, none⟩ ∧ b < B ∧ ∀ j, j < l.length → ∀ r u, (sc (l.getD j so0))[r]? = some u → w.cell? ⟨b, off + j * 5 + r, none⟩ = some u)
theorem Sos.below {w w' : World} {B : Nat} {A : Option Addr} {l : List So} (h : Sos w B A l) (hb : Below B w w') : Sos w' B A l := ⟨fun x hx => (h.1 x hx).below hb, fun hp => by
  obtain ⟨b, off, e, h1, h2⟩ := h.2 hp
  exact ⟨b, off, e, h1, fun j hj r u hu => (hb.cell (p := ⟨b, off + j * 5 + r, none⟩) h1).trans (h2 j hj r u hu)⟩⟩
section
variable {H : Type} {enc : TypeId × Value → H} {W : World}
theorem trod_struct5 {P : Program} {w : World} {base : Nat} {spare : Nat → Bool} {held : Bool} {t : TypeId} {f0 f1 f2 f3 f4 : Field} {fuel : Nat} {cs : List Value} {x : DataW H × List MemPlace} (ht : P.underlying t = some (.struct #[f0, f1, f2, f3, f4])) (h : DataW.trod enc P w base spare held fuel t cs = some x) :
    ∃ y0 y1 y2 y3 y4 n, x.1 = .agg [y0.1, y1.1, y2.1, y3.1, y4.1] ∧ cs.length = P.cellsOf t ∧ DataW.trod enc P w base spare held n f0.type ((cs.drop f0.offset).take (P.cellsOf f0.type)) = some y0 ∧ DataW.trod enc P w base spare held n f1.type ((cs.drop f1.offset).take (P.cellsOf f1.type)) = some y1 ∧ DataW.trod enc P w base spare held n f2.type ((cs.drop f2.offset).take (P.cellsOf f2.type)) = some y2 ∧ DataW.trod enc P w base spare held n f3.type ((cs.drop f3.offset).take (P.cellsOf f3.type)) = some y3 ∧ DataW.trod enc P w base spare held n f4.type ((cs.drop f4.offset).take (P.cellsOf f4.type)) = some y4 := by
  obtain ⟨xs, n, _, rfl, hl, hlen, hf⟩ := DataW.trod_struct ht h
  match xs, hlen with
  | [y0, y1, y2, y3, y4], _ => exact ⟨y0, y1, y2, y3, y4, n, by simp, hl, by simpa using hf 0 f0 rfl, by simpa using hf 1 f1 rfl, by simpa using hf 2 f2 rfl, by simpa using hf 3 f3 rfl, by simpa using hf 4 f4 rfl⟩
theorem cells_so : Try.prog.cellsOf 34 = 5 := by kernel_rfl
theorem bytes_so : Try.prog.bytesOf 34 = 56 := by kernel_rfl
set_option maxRecDepth 100000 in
/-- The cells of one of the script, as they are read. -/
theorem so_at {n : Nat} {cs : List Value} {D : DataW H} {Pl : List MemPlace} (h : DataW.trod enc Try.prog W 0 (fun _ => true) true n 34 cs = some (D, Pl)) (hw : Wgt.Wt Try.prog 34 D) :
    ∃ x : So, cs = sc x ∧ Ns .u8 W W.heap.size x.2.2.1 x.2.1 ∧ OkSo x := by
  obtain ⟨y0, y1, y2, y3, y4, m, hx, hl, h0, h1, h2, h3, h4⟩ := trod_struct5 Try.underlying34 h
  rw [cells_so] at hl
  match cs, hl with
  | [q0, q1, q2, q3, q4], _ =>
    simp only [Facts.cells3, Facts.cells2, cells_by, List.drop_zero, List.take_succ_cons, List.take_zero, List.drop_succ_cons] at h0 h1 h2 h3 h4
    obtain ⟨f1, e1, _, w1⟩ := DataW.trod_int Try.underlying3 h0
    obtain ⟨f2, e2, _, w2⟩ := DataW.trod_int Try.underlying3 h1
    obtain ⟨f3, e3, _, w3⟩ := DataW.trod_int Try.underlying3 h2
    obtain ⟨f4, e4, _, w4⟩ := DataW.trod_int Try.underlying2 h3
    replace hx : D = _ := hx
    have hww := Wgt.wt_struct Try.underlying34 (hx ▸ hw)
    obtain ⟨A, c, zs, e5, r1, r2, r3, r4⟩ := Wgt.bytes_cell Try.underlying32 Try.underlying5 Facts.cells5 Facts.bytes5 (D := y4.1) (Pl := y4.2) h4 (hww 4 32 y4.1 rfl rfl)
    simp only [List.cons.injEq, and_true] at e1 e2 e3 e4 e5
    subst e1 e2 e3 e4 e5
    exact ⟨((f1, f2, f3, f4), zs, A, c), rfl, r1, wf_int w1, wf_int w2, wf_int w3, wf_int w4, r3, r4⟩
theorem arg_ops {v : Value} {d : DataW H} {p : List MemPlace} {r : Reach} {b0 : Nat} (hv : Value.okWide Try.prog W r b0 22 v) (h : DataW.Trod enc Try.prog W 0 (fun _ => true) true 22 v d p) (hw : Wgt.Wt Try.prog 22 d) :
    ∃ (A : Option Addr) (c : Nat) (l : List So), v = .slice A l.length c ∧ Sos W W.heap.size A l ∧ (∀ x ∈ l, OkSo x) ∧ l.length * 56 ≤ 140737488351232 ∧ l.length ≤ c := by
  obtain ⟨A, c, l, rfl, hc, hb, hq, hp⟩ := Wgt.arg_slice Try.underlying22 hv h hw cells_so bytes_so (by omega) sc (fun x => Ns .u8 W W.heap.size x.2.2.1 x.2.1 ∧ OkSo x) so0 (fun _ => rfl) (fun n cs D Pl h hw => so_at h hw)
  exact ⟨A, c, l, rfl, ⟨fun x hx => (hq x hx).1, hp⟩, fun x hx => (hq x hx).2, hb, hc⟩
end
end Sess
end Go.Proofs.Ytnmkhccgaedigaa
