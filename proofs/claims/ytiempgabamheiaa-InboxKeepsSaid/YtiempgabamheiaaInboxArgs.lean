/-
  Far writes, and slices of them, among a law's arguments.
-/
import Derived.Test.YtiempgabamheiaaGBase
import Derived.Test.YtiempgabamheiaaGVect
import Derived.Test.YtiempgabamheiaaInboxAwake
import Derived.Deep.Strs
namespace Go.Proofs.Ytiempgabamheiaa
namespace Facts
theorem cells3 : Try.prog.cellsOf 3 = 1 := by kernel_rfl
theorem bytes3 : Try.prog.bytesOf 3 = 8 := by kernel_rfl
theorem cells2 : Try.prog.cellsOf 2 = 1 := by kernel_rfl
theorem bytes2 : Try.prog.bytesOf 2 = 8 := by kernel_rfl
end Facts
namespace Inbox
open Go.ChangeShapes Go.WideShapes Go.ChangeAt Go.RowKit Go.Joins Go.Deep Vers Span Blk
section
variable {H : Type} {enc : TypeId × Value → H} {W : World}
theorem cells_far : Try.prog.cellsOf 35 = 5 := by kernel_rfl
theorem bytes_far : Try.prog.bytesOf 35 = 80 := by kernel_rfl
theorem cells_rec : Try.prog.cellsOf 32 = 2 := by kernel_rfl
theorem cells_vs : Try.prog.cellsOf 30 = 1 := by kernel_rfl
theorem cells_is : Try.prog.cellsOf 33 = 1 := by kernel_rfl
set_option maxRecDepth 100000 in
/-- Versions by their cell. -/
theorem vs_cell {n : Nat} {cs : List Value} {D : DataW H} {Pl : List MemPlace} (h : DataW.trod enc Try.prog W 0 (fun _ => true) true n 30 cs = some (D, Pl)) (hw : Wgt.Wt Try.prog 30 D) :
    ∃ (A : Option Addr) (c : Nat) (l : List Vr), cs = [.slice A l.length c] ∧ Vs W 0 W.heap.size A l ∧ l.length ≤ c ∧ l.length * 64 ≤ 140737488351232 := by
  obtain ⟨A, c, l, rfl, h1, h2, h3, h4⟩ := Wgt.slice_at Try.underlying30 h hw cells_ver bytes_ver (by omega) vcc (fun p => Pa W 0 W.heap.size p.2.1 p.2.2 p.1) z0 (fun _ => rfl) (fun n cs D Pl h hw => by
    obtain ⟨v, A, c, e, hp, _⟩ := ver_at h hw
    exact ⟨(v, A, c), e, hp⟩)
  refine ⟨A, c, l.map Prod.fst, by rw [List.length_map], fun hp => ?_, by rw [List.length_map]; exact h1, by rw [List.length_map]; exact h2⟩
  rw [List.length_map] at hp
  obtain ⟨b, off, e, hb, hat⟩ := h4 hp
  refine ⟨b, off, e, Nat.zero_le _, hb, fun j hj => ?_⟩
  rw [List.length_map] at hj
  have hm : l.getD j z0 ∈ l := by
    rw [List.getD_eq_getElem?_getD, List.getElem?_eq_getElem hj]
    exact List.getElem_mem _
  have hg : (l.map Prod.fst).getD j v0 = (l.getD j z0).1 := by simp [List.getD_eq_getElem?_getD, hj]
  rw [hg]
  exact ⟨(l.getD j z0).2.1, (l.getD j z0).2.2, hat j hj 0 _ rfl, hat j hj 1 _ rfl, hat j hj 2 _ rfl, hat j hj 3 _ rfl, hat j hj 4 _ rfl, h3 _ hm⟩
/-- Numbers by their cell. -/
theorem is_cell {n : Nat} {cs : List Value} {D : DataW H} {Pl : List MemPlace} (h : DataW.trod enc Try.prog W 0 (fun _ => true) true n 33 cs = some (D, Pl)) (hw : Wgt.Wt Try.prog 33 D) :
    ∃ (A : Option Addr) (c : Nat) (l : List Int), cs = [.slice A l.length c] ∧ Ns .i64 W W.heap.size A l ∧ l.length * 8 ≤ 140737488351232 := by
  obtain ⟨A, c, l, rfl, h1, h2, h3, h4⟩ := Wgt.slice_at Try.underlying33 h hw Facts.cells3 Facts.bytes3 (by omega) (fun x => [.int .i64 x]) (fun _ => True) 0 (fun _ => rfl) (fun n cs D Pl h hw => by
    obtain ⟨s, e0, _, w0⟩ := DataW.trod_int Try.underlying3 h
    exact ⟨s, e0, trivial⟩)
  refine ⟨A, c, l, rfl, fun h0 => ?_, h2⟩
  obtain ⟨b, off, e, hbl, hat⟩ := h4 h0
  exact ⟨b, off, e, hbl, fun j hj => by have := hat j hj 0 _ rfl; simpa using this⟩
theorem ls_cell {n : Nat} {cs : List Value} {D : DataW H} {Pl : List MemPlace} (h : DataW.trod enc Try.prog W 0 (fun _ => true) true n 36 cs = some (D, Pl)) (hw : Wgt.Wt Try.prog 36 D) :
    ∃ (A : Option Addr) (c : Nat) (l : List Int), cs = [.slice A l.length c] ∧ Ns .i64 W W.heap.size A l ∧ l.length * 8 ≤ 140737488351232 := by
  obtain ⟨A, c, l, rfl, h1, h2, h3, h4⟩ := Wgt.slice_at Try.underlying36 h hw Facts.cells2 Facts.bytes2 (by omega) (fun x => [.int .i64 x]) (fun _ => True) 0 (fun _ => rfl) (fun n cs D Pl h hw => by
    obtain ⟨s, e0, _, w0⟩ := DataW.trod_int Try.underlying2 h
    exact ⟨s, e0, trivial⟩)
  refine ⟨A, c, l, rfl, fun h0 => ?_, h2⟩
  obtain ⟨b, off, e, hbl, hat⟩ := h4 h0
  exact ⟨b, off, e, hbl, fun j hj => by have := hat j hj 0 _ rfl; simpa using this⟩
set_option maxRecDepth 100000 in
/-- The cells of one far write, as they are read. -/
theorem far_at {n : Nat} {cs : List Value} {D : DataW H} {Pl : List MemPlace} (h : DataW.trod enc Try.prog W 0 (fun _ => true) true n 35 cs = some (D, Pl)) (hw : Wgt.Wt Try.prog 35 D) :
    ∃ x : FE, cs = fc x ∧ Vs W 0 W.heap.size x.2.1.1 x.1.2.1.2 ∧ Ns .i64 W W.heap.size x.2.2.1 x.1.2.2 ∧ SzF x.1 ∧ x.1.2.1.2.length ≤ x.2.1.2 := by
  obtain ⟨y0, y1, y2, y3, m, hx, hl, h0, h1, h2, h3⟩ := trod_struct4 Try.underlying35 h
  rw [cells_far] at hl
  match cs, hl with
  | [q0, q1, q2, q3, q4], _ =>
    simp only [cells_int, cells_int64, cells_rec, cells_is, List.drop_zero, List.take_succ_cons, List.take_zero, List.drop_succ_cons] at h0 h1 h2 h3
    obtain ⟨f1, e1, _, w1⟩ := DataW.trod_int Try.underlying3 h0
    obtain ⟨f2, e2, _, w2⟩ := DataW.trod_int Try.underlying2 h1
    obtain ⟨r0, r1, m1, hr, _, g0, g1⟩ := trod_struct2 Try.underlying32 h2
    simp only [cells_string, cells_vs, List.drop_zero, List.take_succ_cons, List.take_zero, List.drop_succ_cons] at g0 g1
    obtain ⟨key, e3, x3, hkl⟩ := DataW.trod_string Try.underlying9 g0
    have hxx : D = _ := congrArg Prod.fst hx
    have hww := Wgt.wt_struct Try.underlying35 (hxx ▸ hw)
    have hw2 := hww 2 32 y2.1 rfl rfl
    have hrr : y2.1 = _ := congrArg Prod.fst hr
    have hwr := Wgt.wt_struct Try.underlying32 (hrr ▸ hw2)
    obtain ⟨A, c, l, e4, v1, v2, v3⟩ := vs_cell (D := r1.1) (Pl := r1.2) g1 (hwr 1 30 r1.1 rfl rfl)
    obtain ⟨A', c', l', e5, i1, i2⟩ := is_cell (D := y3.1) (Pl := y3.2) h3 (hww 3 33 y3.1 rfl rfl)
    have hv := hwr 0 9 r0.1 rfl rfl
    rw [show r0 = (.lit (.string key.data.toList), []) from x3] at hv
    have hvl := Wgt.wt_string hv
    rw [Wgt.str_len] at hvl
    simp only [List.cons.injEq, and_true] at e1 e2 e3 e4 e5
    subst e1 e2 e3 e4 e5
    exact ⟨(((f1, f2), (key, l), l'), (A, c), (A', c')), rfl, v1, i1, ⟨by simp only; omega, by simp only; omega, by simp only; omega⟩, v2⟩
set_option maxRecDepth 100000 in
theorem arg_far {v : Value} {d : DataW H} {p : List MemPlace} {r : Reach} {b0 : Nat} (hv : Value.okWide Try.prog W r b0 35 v) (h : DataW.Trod enc Try.prog W 0 (fun _ => true) true 35 v d p) (hw : Wgt.Wt Try.prog 35 d) :
    ∃ (x : Fr) (a1 : Option Addr) (c1 : Nat) (a2 : Option Addr) (c2 : Nat), v = .agg #[.int .i64 x.1.1, .int .i64 x.1.2, .string x.2.1.1, .slice a1 x.2.1.2.length c1, .slice a2 x.2.2.length c2] ∧ Vs W 0 W.heap.size a1 x.2.1.2 ∧ Ns .i64 W W.heap.size a2 x.2.2 ∧ SzF x ∧ x.2.1.2.length ≤ c1 := by
  obtain ⟨cs, rfl, hsz⟩ := okWide_struct Try.underlying35 hv
  obtain ⟨fuel, hf⟩ := h
  obtain ⟨x, hcs, rest⟩ := far_at hf hw
  refine ⟨x.1, x.2.1.1, x.2.1.2, x.2.2.1, x.2.2.2, ?_, rest⟩
  congr 1
  rw [← Array.toList_inj]
  simpa [Value.cells, fc] using hcs
set_option maxRecDepth 100000 in
theorem arg_fars {v : Value} {d : DataW H} {p : List MemPlace} {r : Reach} {b0 : Nat} (hv : Value.okWide Try.prog W r b0 48 v) (h : DataW.Trod enc Try.prog W 0 (fun _ => true) true 48 v d p) (hw : Wgt.Wt Try.prog 48 d) :
    ∃ (A : Option Addr) (c : Nat) (l : List Fr), v = .slice A l.length c ∧ Fs W W.heap.size A l ∧ l.length ≤ c ∧ l.length * 80 ≤ 140737488351232 := by
  obtain ⟨A, c, l, rfl, hc, hb, hq, hp⟩ := Wgt.arg_slice Try.underlying48 hv h hw cells_far bytes_far (by omega) fc (fun x => Vs W 0 W.heap.size x.2.1.1 x.1.2.1.2 ∧ Ns .i64 W W.heap.size x.2.2.1 x.1.2.2 ∧ SzF x.1 ∧ x.1.2.1.2.length ≤ x.2.1.2) e0 (fun _ => rfl) (fun n cs D Pl h hw => far_at h hw)
  refine ⟨A, c, l.map Prod.fst, by rw [List.length_map], fun h0 => ?_, by rw [List.length_map]; exact hc, by rw [List.length_map]; exact hb⟩
  rw [List.length_map] at h0
  obtain ⟨b, off, e, hbl, hat⟩ := hp h0
  refine ⟨b, off, e, hbl, fun j x hx => ?_⟩
  rw [List.getElem?_map] at hx
  obtain ⟨y, hy, rfl⟩ := Option.map_eq_some_iff.1 hx
  have hj := (List.getElem?_eq_some_iff.1 hy).1
  have hg : l.getD j e0 = y := by rw [List.getD_eq_getElem?_getD, hy]; rfl
  have h1 := hat j hj
  rw [hg] at h1
  obtain ⟨g1, g2, g3, g4⟩ := hq y (List.mem_of_getElem? hy)
  exact ⟨y.2.1, y.2.2, h1, g1, g2, g3, g4⟩
end
end Inbox
end Go.Proofs.Ytiempgabamheiaa
