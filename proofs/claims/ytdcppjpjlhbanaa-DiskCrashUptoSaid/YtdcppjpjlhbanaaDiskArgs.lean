/-
  A script of calls of a disk, and a fate, among a law's arguments (layer 7).
-/
import Derived.Test.YtdcppjpjlhbanaaArgW
import Derived.Test.YtdcppjpjlhbanaaBulk
import Derived.Test.YtdcppjpjlhbanaaDiskDoes
import Derived.Deep.Strs
namespace Go.Proofs.Ytdcppjpjlhbanaa
namespace Disk
open Go.ChangeShapes Go.WideShapes Go.ChangeAt Go.RowKit Go.Joins Go.Deep Blk
/-- One of the script, and where its bytes lie. -/
abbrev Oe := Oq × (Option Addr × Nat)
def o0 : Oe := (⟨0, ⟨#[]⟩, ⟨#[]⟩, [], 0, 0⟩, none, 0)
def oc (x : Oe) : List Value := [.int .i64 x.1.kd, .string x.1.s, .string x.1.t, .slice x.2.1 x.1.d.length x.2.2, .int .i64 x.1.n, .int .i64 x.1.torn]
def OkO (x : Oe) : Prop := (∀ z ∈ x.1.d, 0 ≤ z ∧ z ≤ 255) ∧ x.1.d.length ≤ 140737488351232 ∧ x.1.d.length ≤ x.2.2
def Ops (w : World) (B : Nat) (A : Option Addr) (l : List Oe) : Prop := (∀ x ∈ l, Ns .u8 w B x.2.1 x.1.d) ∧ (0 < l.length → ∃ b off, A = some ⟨b, off, none⟩ ∧ b < B ∧ ∀ j, j < l.length → ∀ r u, (oc (l.getD j o0))[r]? = some u → w.cell? ⟨b, off + j * 6 + r, none⟩ = some u)
section
variable {H : Type} {enc : TypeId × Value → H} {W : World}
theorem trod_struct6 {P : Program} {w : World} {base : Nat} {spare : Nat → Bool} {held : Bool} {t : TypeId} {f0 f1 f2 f3 f4 f5 : Field} {fuel : Nat} {cs : List Value} {x : DataW H × List MemPlace} (ht : P.underlying t = some (.struct #[f0, f1, f2, f3, f4, f5])) (h : DataW.trod enc P w base spare held fuel t cs = some x) :
    ∃ y0 y1 y2 y3 y4 y5 n, x.1 = .agg [y0.1, y1.1, y2.1, y3.1, y4.1, y5.1] ∧ cs.length = P.cellsOf t ∧ DataW.trod enc P w base spare held n f0.type ((cs.drop f0.offset).take (P.cellsOf f0.type)) = some y0 ∧ DataW.trod enc P w base spare held n f1.type ((cs.drop f1.offset).take (P.cellsOf f1.type)) = some y1 ∧ DataW.trod enc P w base spare held n f2.type ((cs.drop f2.offset).take (P.cellsOf f2.type)) = some y2 ∧ DataW.trod enc P w base spare held n f3.type ((cs.drop f3.offset).take (P.cellsOf f3.type)) = some y3 ∧ DataW.trod enc P w base spare held n f4.type ((cs.drop f4.offset).take (P.cellsOf f4.type)) = some y4 ∧ DataW.trod enc P w base spare held n f5.type ((cs.drop f5.offset).take (P.cellsOf f5.type)) = some y5 := by
  obtain ⟨xs, n, _, rfl, hl, hlen, hf⟩ := DataW.trod_struct ht h
  match xs, hlen with
  | [y0, y1, y2, y3, y4, y5], _ => exact ⟨y0, y1, y2, y3, y4, y5, n, by simp, hl, by simpa using hf 0 f0 rfl, by simpa using hf 1 f1 rfl, by simpa using hf 2 f2 rfl, by simpa using hf 3 f3 rfl, by simpa using hf 4 f4 rfl, by simpa using hf 5 f5 rfl⟩
theorem cells_op : Try.prog.cellsOf 31 = 6 := by kernel_rfl
theorem bytes_op : Try.prog.bytesOf 31 = 80 := by kernel_rfl
theorem cells_i : Try.prog.cellsOf 3 = 1 := by kernel_rfl
theorem cells_s : Try.prog.cellsOf 9 = 1 := by kernel_rfl
theorem cells_b : Try.prog.cellsOf 29 = 1 := by kernel_rfl
set_option maxRecDepth 100000 in
theorem op_at {n : Nat} {cs : List Value} {D : DataW H} {Pl : List MemPlace} (h : DataW.trod enc Try.prog W 0 (fun _ => true) true n 31 cs = some (D, Pl)) (hw : Wgt.Wt Try.prog 31 D) :
    ∃ x : Oe, cs = oc x ∧ Ns .u8 W W.heap.size x.2.1 x.1.d ∧ OkO x := by
  obtain ⟨y0, y1, y2, y3, y4, y5, m, hx, hl, h0, h1, h2, h3, h4, h5⟩ := trod_struct6 Try.underlying31 h
  rw [cells_op] at hl
  match cs, hl with
  | [q0, q1, q2, q3, q4, q5], _ =>
    simp only [cells_i, cells_s, cells_b, List.drop_zero, List.take_succ_cons, List.take_zero, List.drop_succ_cons] at h0 h1 h2 h3 h4 h5
    obtain ⟨kd, e1, _, w1⟩ := DataW.trod_int Try.underlying3 h0
    obtain ⟨s, e2, _, _⟩ := DataW.trod_string Try.underlying9 h1
    obtain ⟨t, e3, _, _⟩ := DataW.trod_string Try.underlying9 h2
    obtain ⟨nn, e5, _, w5⟩ := DataW.trod_int Try.underlying3 h4
    obtain ⟨tn, e6, _, w6⟩ := DataW.trod_int Try.underlying3 h5
    replace hx : D = _ := hx
    have hww := Wgt.wt_struct Try.underlying31 (hx ▸ hw)
    obtain ⟨A, c, zs, e4, r1, r2, r3, r4⟩ := Wgt.bytes_cell Try.underlying29 Try.underlying5 Facts.cells5 Facts.bytes5 (D := y3.1) (Pl := y3.2) h3 (hww 3 29 y3.1 rfl rfl)
    simp only [List.cons.injEq, and_true] at e1 e2 e3 e4 e5 e6
    subst e1 e2 e3 e4 e5 e6
    exact ⟨(⟨kd, s, t, zs, nn, tn⟩, A, c), rfl, r1, r4, r3, r2⟩
set_option maxRecDepth 100000 in
theorem arg_ops {v : Value} {d : DataW H} {p : List MemPlace} {r : Reach} {b0 : Nat} (hv : Value.okWide Try.prog W r b0 22 v) (h : DataW.Trod enc Try.prog W 0 (fun _ => true) true 22 v d p) (hw : Wgt.Wt Try.prog 22 d) :
    ∃ (A : Option Addr) (c : Nat) (l : List Oe), v = .slice A l.length c ∧ Ops W W.heap.size A l ∧ (∀ x ∈ l, OkO x) ∧ l.length * 80 ≤ 140737488351232 := by
  obtain ⟨A, c, l, rfl, _, hb, hq, hp⟩ := Wgt.arg_slice Try.underlying22 hv h hw cells_op bytes_op (by omega) oc (fun x => Ns .u8 W W.heap.size x.2.1 x.1.d ∧ OkO x) o0 (fun _ => rfl) (fun n cs D Pl h hw => op_at h hw)
  exact ⟨A, c, l, rfl, ⟨fun x hx => (hq x hx).1, hp⟩, fun x hx => (hq x hx).2, hb⟩
theorem bulk_pos (d : DataW H) : 1 ≤ Rows.uptoBulk d := by
  cases d with
  | lit l => cases l <;> simp [Rows.uptoBulk]
  | _ => simp [Rows.uptoBulk]
theorem bulk_len (ds : List (DataW H)) : ds.length ≤ Rows.uptoBulkAll ds := by
  induction ds with
  | nil => simp [Rows.uptoBulkAll]
  | cons d ds ih =>
    have := bulk_pos d
    simp only [List.length_cons, Rows.uptoBulkAll]
    omega
set_option maxRecDepth 100000 in
theorem ops_bulk {k c : Nat} {A : Option Addr} {d : DataW H} {p : List MemPlace} (h : DataW.Trod enc Try.prog W 0 (fun _ => true) true 22 (.slice A k c) d p) : k ≤ Rows.uptoBulk d := by
  obtain ⟨fuel, hf⟩ := h
  rcases open_slice Try.underlying22 hf with ⟨hcs, hx⟩ | ⟨a, len, cap, m, n', D', Pl', hcs, _, hl, hm, hmm, hx, hi⟩
  · simp [Value.cells] at hcs
    obtain ⟨_, rfl, _⟩ := hcs
    omega
  · simp [Value.cells] at hcs
    obtain ⟨rfl, rfl, rfl⟩ := hcs
    simp only [Prod.mk.injEq] at hx
    rw [hx.1]
    simp only [Rows.uptoBulk]
    have := bulk_len ((List.range k).map D')
    simp only [List.length_map, List.length_range] at this
    omega
theorem trod_array2 {P : Program} {w : World} {base : Nat} {spare : Nat → Bool} {held : Bool} {t e : TypeId} {fuel : Nat} {c0 c1 : Value} {x : DataW H × List MemPlace} (ht : P.underlying t = some (.array 2 e)) (hce : P.cellsOf e = 1) (h : DataW.trod enc P w base spare held fuel t [c0, c1] = some x) :
    ∃ y0 y1 n, DataW.trod enc P w base spare held n e [c0] = some y0 ∧ DataW.trod enc P w base spare held n e [c1] = some y1 := by
  cases fuel with
  | zero => simp [DataW.trod] at h
  | succ n =>
    unfold DataW.trod at h
    rw [ht] at h
    have r2 : List.range 2 = [0, 1] := rfl
    simp [r2, hce] at h
    obtain ⟨_, h⟩ := h
    cases h0 : DataW.trod enc P w base spare held n e [c0] with
    | none => simp [h0] at h
    | some y0 =>
      cases h1 : DataW.trod enc P w base spare held n e [c1] with
      | none => simp [h0, h1] at h
      | some y1 => exact ⟨y0, y1, n, h0, h1⟩
set_option maxRecDepth 100000 in
theorem arg_two {v : Value} {d : DataW H} {p : List MemPlace} {r : Reach} {b0 : Nat} (hv : Value.okWide Try.prog W r b0 43 v) (h : DataW.Trod enc Try.prog W 0 (fun _ => true) true 43 v d p) :
    ∃ x y : Int, v = .agg #[.int .i64 x, .int .i64 y] := by
  obtain ⟨cs, rfl, hsz⟩ : ∃ cs : Array Value, v = .agg cs ∧ cs.size = Try.prog.cellsOf 43 := by
    simp only [Value.okWide, Try.underlying43] at hv
    obtain ⟨cs, h1, h2, _⟩ := hv
    exact ⟨cs, h1, h2⟩
  have hc3 : Try.prog.cellsOf 43 = 2 := by kernel_rfl
  rw [hc3] at hsz
  obtain ⟨c0, c1, rfl⟩ : ∃ c0 c1, cs = #[c0, c1] := ⟨cs[0], cs[1], by
    apply Array.ext
    · simp [hsz]
    · intro i h1 h2
      match i, h2 with
      | 0, _ => rfl
      | 1, _ => rfl⟩
  obtain ⟨fuel, hf⟩ := h
  obtain ⟨y0, y1, n, h0, h1⟩ := trod_array2 Try.underlying43 cells_i hf
  obtain ⟨x, e0, _, w0⟩ := DataW.trod_int Try.underlying3 h0
  obtain ⟨y, e1, _, w1⟩ := DataW.trod_int Try.underlying3 h1
  simp only [List.cons.injEq, and_true] at e0 e1
  subst e0 e1
  exact ⟨x, y, rfl⟩
end
end Disk
end Go.Proofs.Ytdcppjpjlhbanaa
