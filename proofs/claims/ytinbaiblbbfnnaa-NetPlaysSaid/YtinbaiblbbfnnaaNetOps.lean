/-
  A script of calls of a network among a law's arguments (layer 8).
-/
import Derived.Test.YtinbaiblbbfnnaaNetArgs
namespace Go.Proofs.Ytinbaiblbbfnnaa
namespace Net
open Go.ChangeShapes Go.WideShapes Go.ChangeAt Go.RowKit Go.Joins Go.Deep Blk
/-- One of the script: kind, packet, place, byte, its turning. -/
abbrev No := Int × PE × Int × Int × Int
def no0 : No := (0, pe0, 0, 0, 0)
def noc (x : No) : List Value := .int .i64 x.1 :: (pc x.2.1 ++ [.int .i64 x.2.2.1, .int .i64 x.2.2.2.1, .int .u8 x.2.2.2.2])
def OkNo (x : No) : Prop := OkP x.2.1.1 ∧ 0 ≤ x.2.2.2.2 ∧ x.2.2.2.2 ≤ 255
def Nos (w : World) (B : Nat) (A : Option Addr) (l : List No) : Prop := (∀ x ∈ l, Ns .u8 w B x.2.1.2.1 x.2.1.1.2.2) ∧ (0 < l.length → ∃ b off, A = some ⟨b, off, none⟩ ∧ b < B ∧ ∀ j, j < l.length → ∀ r u, (noc (l.getD j no0))[r]? = some u → w.cell? ⟨b, off + j * 9 + r, none⟩ = some u)
section
variable {H : Type} {enc : TypeId × Value → H} {W : World}
theorem trod_struct5 {P : Program} {w : World} {base : Nat} {spare : Nat → Bool} {held : Bool} {t : TypeId} {f0 f1 f2 f3 f4 : Field} {fuel : Nat} {cs : List Value} {x : DataW H × List MemPlace} (ht : P.underlying t = some (.struct #[f0, f1, f2, f3, f4])) (h : DataW.trod enc P w base spare held fuel t cs = some x) :
    ∃ y0 y1 y2 y3 y4 n, x.1 = .agg [y0.1, y1.1, y2.1, y3.1, y4.1] ∧ cs.length = P.cellsOf t ∧ DataW.trod enc P w base spare held n f0.type ((cs.drop f0.offset).take (P.cellsOf f0.type)) = some y0 ∧ DataW.trod enc P w base spare held n f1.type ((cs.drop f1.offset).take (P.cellsOf f1.type)) = some y1 ∧ DataW.trod enc P w base spare held n f2.type ((cs.drop f2.offset).take (P.cellsOf f2.type)) = some y2 ∧ DataW.trod enc P w base spare held n f3.type ((cs.drop f3.offset).take (P.cellsOf f3.type)) = some y3 ∧ DataW.trod enc P w base spare held n f4.type ((cs.drop f4.offset).take (P.cellsOf f4.type)) = some y4 := by
  obtain ⟨xs, n, _, rfl, hl, hlen, hf⟩ := DataW.trod_struct ht h
  match xs, hlen with
  | [y0, y1, y2, y3, y4], _ => exact ⟨y0, y1, y2, y3, y4, n, by simp, hl, by simpa using hf 0 f0 rfl, by simpa using hf 1 f1 rfl, by simpa using hf 2 f2 rfl, by simpa using hf 3 f3 rfl, by simpa using hf 4 f4 rfl⟩
theorem cells_no : Try.prog.cellsOf 38 = 9 := by kernel_rfl
theorem bytes_no : Try.prog.bytesOf 38 = 88 := by kernel_rfl
set_option maxRecDepth 100000 in
theorem no_at {n : Nat} {cs : List Value} {D : DataW H} {Pl : List MemPlace} (h : DataW.trod enc Try.prog W 0 (fun _ => true) true n 38 cs = some (D, Pl)) (hw : Wgt.Wt Try.prog 38 D) :
    ∃ x : No, cs = noc x ∧ Ns .u8 W W.heap.size x.2.1.2.1 x.2.1.1.2.2 ∧ OkNo x := by
  obtain ⟨y0, y1, y2, y3, y4, m, hx, hl, h0, h1, h2, h3, h4⟩ := trod_struct5 Try.underlying38 h
  rw [cells_no] at hl
  match cs, hl with
  | [q0, q1, q2, q3, q4, q5, q6, q7, q8], _ =>
    simp only [Facts.cells3, Facts.cells5, cells_pkt, List.drop_zero, List.take_succ_cons, List.take_zero, List.drop_succ_cons] at h0 h1 h2 h3 h4
    obtain ⟨f1, e1, _, w1⟩ := DataW.trod_int Try.underlying3 h0
    obtain ⟨f2, e2, _, w2⟩ := DataW.trod_int Try.underlying3 h2
    obtain ⟨f3, e3, _, w3⟩ := DataW.trod_int Try.underlying3 h3
    obtain ⟨f4, e4, _, w4⟩ := DataW.trod_int Try.underlying5 h4
    replace hx : D = _ := hx
    have hww := Wgt.wt_struct Try.underlying38 (hx ▸ hw)
    obtain ⟨x, e5, r1, r2, r3⟩ := pkt_at (D := y1.1) (Pl := y1.2) h1 (hww 1 36 y1.1 rfl rfl)
    simp only [List.cons.injEq, and_true] at e1 e2 e3 e4
    subst e1 e2 e3 e4
    have e6 : [q1, q2, q3, q4, q5] = pc x := e5
    refine ⟨(f1, x, f2, f3, f4), ?_, r1, r2, ?_⟩
    · unfold noc
      simp only
      rw [← e6]
      rfl
    · have := w4
      simp only [Lit.wf, IntKind.min, IntKind.max, IntKind.signed, IntKind.bits] at this
      simp at this
      exact this
theorem arg_ops {v : Value} {d : DataW H} {p : List MemPlace} {r : Reach} {b0 : Nat} (hv : Value.okWide Try.prog W r b0 22 v) (h : DataW.Trod enc Try.prog W 0 (fun _ => true) true 22 v d p) (hw : Wgt.Wt Try.prog 22 d) :
    ∃ (A : Option Addr) (c : Nat) (l : List No), v = .slice A l.length c ∧ Nos W W.heap.size A l ∧ (∀ x ∈ l, OkNo x) ∧ l.length * 88 ≤ 140737488351232 := by
  obtain ⟨A, c, l, rfl, _, hb, hq, hp⟩ := Wgt.arg_slice Try.underlying22 hv h hw cells_no bytes_no (by omega) noc (fun x => Ns .u8 W W.heap.size x.2.1.2.1 x.2.1.1.2.2 ∧ OkNo x) no0 (fun _ => rfl) (fun n cs D Pl h hw => no_at h hw)
  exact ⟨A, c, l, rfl, ⟨fun x hx => (hq x hx).1, hp⟩, fun x hx => (hq x hx).2, hb⟩
end
end Net
end Go.Proofs.Ytinbaiblbbfnnaa
