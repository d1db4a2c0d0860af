/-
  Several texts of this family in one: CodeArgs, TreeArgs, MendBulk.
-/
import Derived.Test.YtkfdplfgaddkmaaGreatK34
import Derived.Test.YtkfdplfgaddkmaaGreatK10
import Derived.Test.YtkfdplfgaddkmaaGreatK2
import Derived.Test.YtkfdplfgaddkmaaGreatK14
import Derived.Test.YtkfdplfgaddkmaaGreatK3
/-
 Records and messages among a law's arguments.
-/
namespace Go.Proofs.YtkfdplfgaddkmaaGreat
namespace Code
open Go.ChangeShapes Go.WideShapes Go.ChangeAt Go.RowKit Go.Joins Go.Deep Span Vers Num

theorem cells_rec : Tryz.prog.cellsOf 70 = 2 := by kernel_rfl
theorem bytes_rec : Tryz.prog.bytesOf 70 = 40 := by kernel_rfl
theorem cells_vers : Tryz.prog.cellsOf 67 = 1 := by kernel_rfl
section
variable {H : Type} {enc : TypeId × Value → H} {W : World}
theorem vs_at {n : Nat} {cs : List Value} {D : DataW H} {Pl : List MemPlace} (h : DataW.trod enc Tryz.prog W 0 (fun _ => true) true n 67 cs = some (D, Pl)) (hw : Wt Tryz.prog 67 D) :
  ∃ (A : Option Addr) (c : Nat) (l : List Vr), cs = [.slice A l.length c] ∧ Vs W 0 W.heap.size A l ∧ l.length ≤ c ∧ l.length ≤ 140737488355328 := by
 obtain ⟨A, c, ps, rfl, hc, hb, hq, hp⟩ := slice_at Tryz.underlying67 h hw cells_ver bytes_ver (by omega) vcc (fun p => Pa W 0 W.heap.size p.2.1 p.2.2 p.1) z0 (fun _ => rfl) (fun n cs D Pl h hw => by
  obtain ⟨v, A, c, rfl, hpa, _⟩ := ver_at h hw
  exact ⟨(v, A, c), rfl, hpa⟩)
 refine ⟨A, c, ps.map Prod.fst, by rw [List.length_map], fun h0 => ?_, by rw [List.length_map]; exact hc, by rw [List.length_map]; omega⟩
 rw [List.length_map] at h0
 obtain ⟨b, off, e, hbl, hat⟩ := hp h0
 refine ⟨b, off, e, Nat.zero_le _, hbl, fun j hj => ?_⟩
 rw [List.length_map] at hj
 have e2 : (ps.map Prod.fst).getD j v0 = (ps.getD j z0).1 := by simp [List.getD_eq_getElem?_getD, hj]
 have hm : ps.getD j z0 ∈ ps := by
  rw [List.getD_eq_getElem?_getD, List.getElem?_eq_getElem hj]
  exact List.getElem_mem _
 rw [e2]
 exact ⟨_, _, hat j hj 0 _ (by simp [vcc]), hat j hj 1 _ (by simp [vcc]), hat j hj 2 _ (by simp [vcc]), hat j hj 3 _ (by simp [vcc]), hat j hj 4 _ (by simp [vcc]), hq _ hm⟩
set_option maxRecDepth 100000 in
theorem rec_at {n : Nat} {cs : List Value} {D : DataW H} {Pl : List MemPlace} (h : DataW.trod enc Tryz.prog W 0 (fun _ => true) true n 70 cs = some (D, Pl)) (hw : Wt Tryz.prog 70 D) :
  ∃ p : Pr, cs = rcc p ∧ (Vs W 0 W.heap.size p.2.1 p.1.2 ∧ (p.1.2.length ≤ p.2.2 ∧ p.1.2.length ≤ 140737488355328 ∧ p.1.1.size ≤ 140737488355328)) := by
 obtain ⟨y0, y1, m, hx, hl, h0, h1⟩ := trod_struct2 Tryz.underlying70 h
 rw [cells_rec] at hl
 match cs, hl with
 | [q0, q1], _ =>
  simp only [cells_vers, cells_string, List.drop_zero, List.take_succ_cons, List.take_zero, List.drop_succ_cons] at h0 h1
  obtain ⟨x, e0, x0, hxl⟩ := DataW.trod_string Tryz.underlying9 h0
  simp only [Prod.mk.injEq] at hx
  have hww := wt_struct Tryz.underlying70 (hx.1 ▸ hw)
  obtain ⟨A, c, l, e1, hs, hlc, hlw⟩ := vs_at (D := y1.1) (Pl := y1.2) h1 (hww 1 67 y1.1 rfl rfl)
  have hv := hww 0 9 y0.1 rfl rfl
  rw [show y0 = (.lit (.string x.data.toList), []) from x0] at hv
  have hvl := wt_string hv
  have hsz : x.data.toList.length = x.size := by rw [Array.length_toList]; rfl
  rw [hsz] at hvl
  simp only [List.cons.injEq, and_true] at e0 e1
  subst e0 e1
  exact ⟨((x, l), A, c), rfl, hs, hlc, hlw, by simp only; omega⟩
/-! ### Bulks -/
/-! ### Messages among the arguments -/
end
end Code
end Go.Proofs.YtkfdplfgaddkmaaGreat

/-
 Records, and lists of them, among a law's arguments (layer 11).
-/
namespace Go.Proofs.YtkfdplfgaddkmaaGreat
theorem Facts.cells3 : Tryz.prog.cellsOf 3 = 1 := by kernel_rfl
theorem Facts.bytes3 : Tryz.prog.bytesOf 3 = 8 := by kernel_rfl
namespace Tree
open Go.ChangeShapes Go.WideShapes Go.ChangeAt Go.RowKit Go.Joins Go.Deep Span Vers Num
open Go.Proofs.YtkfdplfgaddkmaaGreat.Code
set_option maxRecDepth 100000 in
theorem arg_recs {H : Type} {enc : TypeId × Value → H} {W : World} {v : Value} {d : DataW H} {p : List MemPlace} {r : Reach} {b0 : Nat} (hv : Value.okWide Tryz.prog W r b0 23 v) (h : DataW.Trod enc Tryz.prog W 0 (fun _ => true) true 23 v d p) (hw : Wt Tryz.prog 23 d) :
  ∃ (A : Option Addr) (c : Nat) (l : List Rc), v = .slice A l.length c ∧ Rs W 0 W.heap.size A l ∧ l.length ≤ c ∧ l.length * 40 ≤ 140737488351232 := by
 obtain ⟨A0, len0, c0, rfl⟩ := okWide_slice Tryz.underlying23 hv
 obtain ⟨fuel, hf⟩ := h
 obtain ⟨A, c, ps, hcs, hc, hb, hq, hp⟩ := slice_at Tryz.underlying23 hf hw cells_rec bytes_rec (by omega) rcc (fun p => Vs W 0 W.heap.size p.2.1 p.1.2 ∧ (p.1.2.length ≤ p.2.2 ∧ p.1.2.length ≤ 140737488355328 ∧ p.1.1.size ≤ 140737488355328)) (r0, none, 0) (fun _ => rfl) (fun n cs D Pl h hw => rec_at h hw)
 simp [Value.cells] at hcs
 obtain ⟨rfl, rfl, rfl⟩ := hcs
 refine ⟨A0, c0, ps.map Prod.fst, by rw [List.length_map], fun h0 => ?_, by rw [List.length_map]; exact hc, by rw [List.length_map]; omega⟩
 rw [List.length_map] at h0
 obtain ⟨b, off, e, hbl, hat⟩ := hp h0
 refine ⟨b, off, e, Nat.zero_le _, hbl, fun j hj => ?_⟩
 rw [List.length_map] at hj
 have e2 : (ps.map Prod.fst).getD j r0 = (ps.getD j (r0, none, 0)).1 := by simp [List.getD_eq_getElem?_getD, hj]
 have hm : ps.getD j (r0, none, 0) ∈ ps := by
  rw [List.getD_eq_getElem?_getD, List.getElem?_eq_getElem hj]
  exact List.getElem_mem _
 rw [e2]
 exact ⟨_, _, hat j hj 0 _ (by simp [rcc]), hat j hj 1 _ (by simp [rcc]), (hq _ hm).1, (hq _ hm).2⟩
end Tree
end Go.Proofs.YtkfdplfgaddkmaaGreat

/-
 The bulk of records among a law's arguments: they are no more than it (layer 14).
-/
namespace Go.Proofs.YtkfdplfgaddkmaaGreat
namespace Mend
open Go.ChangeShapes Go.WideShapes Go.ChangeAt Go.RowKit Go.Joins Go.Deep Vers Span Blk Tree
open Go.Proofs.YtkfdplfgaddkmaaGreat.Code hiding Bn
section
variable {H : Type} {enc : TypeId × Value → H} {W : World}
end
end Mend
end Go.Proofs.YtkfdplfgaddkmaaGreat
