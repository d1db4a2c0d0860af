/-
  Packets, places and slices of packets among a law's arguments.
-/
import Derived.Test.YtinbaiblbbfnnaaArgW
import Derived.Test.YtinbaiblbbfnnaaNetBeside
import Derived.Deep.Strs
namespace Go.Proofs.Ytinbaiblbbfnnaa
namespace Facts
theorem cells3 : Try.prog.cellsOf 3 = 1 := by kernel_rfl
theorem bytes3 : Try.prog.bytesOf 3 = 8 := by kernel_rfl
end Facts
namespace Net
open Go.ChangeShapes Go.WideShapes Go.ChangeAt Go.RowKit Go.Joins Go.Deep Blk
section
variable {H : Type} {enc : TypeId × Value → H} {W : World}
theorem cells_by : Try.prog.cellsOf 34 = 1 := by kernel_rfl
theorem cells_pkt : Try.prog.cellsOf 36 = 5 := by kernel_rfl
theorem bytes_pkt : Try.prog.bytesOf 36 = 56 := by kernel_rfl
set_option maxRecDepth 100000 in
/-- The cells of one packet, as they are read. -/
theorem pkt_at {n : Nat} {cs : List Value} {D : DataW H} {Pl : List MemPlace} (h : DataW.trod enc Try.prog W 0 (fun _ => true) true n 36 cs = some (D, Pl)) (hw : Wgt.Wt Try.prog 36 D) :
    ∃ x : PE, cs = pc x ∧ Ns .u8 W W.heap.size x.2.1 x.1.2.2 ∧ OkP x.1 ∧ x.1.2.2.length ≤ x.2.2 := by
  obtain ⟨y0, y1, y2, m, hx, hl, h0, h1, h2⟩ := trod_struct3 Try.underlying36 h
  rw [cells_pkt] at hl
  match cs, hl with
  | [q0, q1, q2, q3, q4], _ =>
    simp only [cells_addr, cells_by, List.drop_zero, List.take_succ_cons, List.take_zero, List.drop_succ_cons] at h0 h1 h2
    obtain ⟨a0, a1, m1, _, _, g0, g1⟩ := trod_struct2 Try.underlying33 h0
    obtain ⟨b0, b1, m2, _, _, g2, g3⟩ := trod_struct2 Try.underlying33 h1
    simp only [cells_i, List.drop_zero, List.take_succ_cons, List.take_zero, List.drop_succ_cons] at g0 g1 g2 g3
    obtain ⟨f1, e1, _, w1⟩ := DataW.trod_int Try.underlying3 g0
    obtain ⟨f2, e2, _, w2⟩ := DataW.trod_int Try.underlying3 g1
    obtain ⟨t1, e3, _, w3⟩ := DataW.trod_int Try.underlying3 g2
    obtain ⟨t2, e4, _, w4⟩ := DataW.trod_int Try.underlying3 g3
    replace hx : D = _ := congrArg Prod.fst hx
    have hww := Wgt.wt_struct Try.underlying36 (hx ▸ hw)
    obtain ⟨A, c, zs, e5, r1, r2, r3, r4⟩ := Wgt.bytes_cell Try.underlying34 Try.underlying5 Facts.cells5 Facts.bytes5 (D := y2.1) (Pl := y2.2) h2 (hww 2 34 y2.1 rfl rfl)
    simp only [List.cons.injEq, and_true] at e1 e2 e3 e4 e5
    subst e1 e2 e3 e4 e5
    exact ⟨(((f1, f2), (t1, t2), zs), A, c), rfl, r1, ⟨⟨⟨wf_int w1, wf_int w2⟩, ⟨wf_int w3, wf_int w4⟩⟩, r3, r4⟩, r2⟩
theorem arg_pkt {v : Value} {d : DataW H} {p : List MemPlace} {r : Reach} {b0 : Nat} (hv : Value.okWide Try.prog W r b0 36 v) (h : DataW.Trod enc Try.prog W 0 (fun _ => true) true 36 v d p) (hw : Wgt.Wt Try.prog 36 d) :
    ∃ (a1 a2 b1 b2 : Int) (zs : List Int) (A : Option Addr) (c : Nat), v = .agg #[.int .i64 a1, .int .i64 a2, .int .i64 b1, .int .i64 b2, .slice A zs.length c] ∧ Ns .u8 W W.heap.size A zs ∧ OkP ((a1, a2), (b1, b2), zs) ∧ zs.length ≤ c := by
  obtain ⟨cs, rfl, hsz⟩ := okWide_struct Try.underlying36 hv
  obtain ⟨fuel, hf⟩ := h
  obtain ⟨⟨⟨⟨a1, a2⟩, ⟨b1, b2⟩, zs⟩, A, c⟩, hcs, h1, h2, h3⟩ := pkt_at hf hw
  refine ⟨a1, a2, b1, b2, zs, A, c, ?_, h1, h2, h3⟩
  congr 1
  rw [← Array.toList_inj]
  simpa [Value.cells, pc, dV] using hcs
theorem arg_addr {v : Value} {d : DataW H} {p : List MemPlace} {r : Reach} {b0 : Nat} (hv : Value.okWide Try.prog W r b0 33 v) (h : DataW.Trod enc Try.prog W 0 (fun _ => true) true 33 v d p) :
    ∃ a1 a2 : Int, v = .agg #[.int .i64 a1, .int .i64 a2] ∧ okA (a1, a2) := by
  obtain ⟨cs, rfl, hsz⟩ := okWide_struct Try.underlying33 hv
  obtain ⟨fuel, hf⟩ := h
  obtain ⟨y0, y1, m, _, hl, h0, h1⟩ := trod_struct2 Try.underlying33 hf
  rw [cells_addr] at hsz
  obtain ⟨c0, c1, rfl⟩ : ∃ c0 c1, cs = #[c0, c1] := ⟨cs[0], cs[1], by
    apply Array.ext
    · simp [hsz]
    · intro i h1 h2
      match i, h2 with
      | 0, _ => rfl
      | 1, _ => rfl⟩
  simp only [cells_i, Value.cells, List.drop_zero, List.take_succ_cons, List.take_zero, List.drop_succ_cons] at h0 h1
  obtain ⟨f1, e1, _, w1⟩ := DataW.trod_int Try.underlying3 h0
  obtain ⟨f2, e2, _, w2⟩ := DataW.trod_int Try.underlying3 h1
  simp only [List.cons.injEq, and_true] at e1 e2
  subst e1 e2
  exact ⟨f1, f2, rfl, wf_int w1, wf_int w2⟩
/-- A slice of packets. -/
def Pks (w : World) (B : Nat) (A : Option Addr) (l : List PE) : Prop := (∀ x ∈ l, Ns .u8 w B x.2.1 x.1.2.2 ∧ OkP x.1) ∧ (0 < l.length → ∃ b off, A = some ⟨b, off, none⟩ ∧ b < B ∧ ∀ j, j < l.length → ∀ r u, (pc (l.getD j pe0))[r]? = some u → w.cell? ⟨b, off + j * 5 + r, none⟩ = some u)
theorem Pks.below {w w' : World} {B : Nat} {A : Option Addr} {l : List PE} (h : Pks w B A l) (hb : Below B w w') : Pks w' B A l := ⟨fun x hx => ⟨(h.1 x hx).1.below hb, (h.1 x hx).2⟩, fun hp => by
  obtain ⟨b, off, e, h1, h2⟩ := h.2 hp
  exact ⟨b, off, e, h1, fun j hj r u hu => (hb.cell (p := ⟨b, off + j * 5 + r, none⟩) h1).trans (h2 j hj r u hu)⟩⟩
theorem arg_pkts {v : Value} {d : DataW H} {p : List MemPlace} {r : Reach} {b0 : Nat} (hv : Value.okWide Try.prog W r b0 27 v) (h : DataW.Trod enc Try.prog W 0 (fun _ => true) true 27 v d p) (hw : Wgt.Wt Try.prog 27 d) :
    ∃ (A : Option Addr) (c : Nat) (l : List PE), v = .slice A l.length c ∧ Pks W W.heap.size A l ∧ l.length ≤ c ∧ l.length * 56 ≤ 140737488351232 := by
  obtain ⟨A, c, l, rfl, hc, hb, hq, hp⟩ := Wgt.arg_slice Try.underlying27 hv h hw cells_pkt bytes_pkt (by omega) pc (fun x => Ns .u8 W W.heap.size x.2.1 x.1.2.2 ∧ OkP x.1) pe0 (fun _ => rfl) (fun n cs D Pl h hw => by
    obtain ⟨x, e, h1, h2, _⟩ := pkt_at h hw
    exact ⟨x, e, h1, h2⟩)
  exact ⟨A, c, l, rfl, ⟨hq, hp⟩, hc, hb⟩
end
end Net
end Go.Proofs.Ytinbaiblbbfnnaa
