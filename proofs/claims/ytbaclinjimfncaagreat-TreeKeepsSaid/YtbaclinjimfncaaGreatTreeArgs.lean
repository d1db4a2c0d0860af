/-
  Records, and lists of them, among a law's arguments (layer 11).
-/
import Derived.Test.YtbaclinjimfncaaGreatGArg
import Derived.Test.YtbaclinjimfncaaGreatGBase
import Derived.Test.YtbaclinjimfncaaGreatRow
namespace Go.Proofs.YtbaclinjimfncaaGreat
theorem Facts.cells3 : Tryz.prog.cellsOf 3 = 1 := by kernel_rfl
theorem Facts.bytes3 : Tryz.prog.bytesOf 3 = 8 := by kernel_rfl
namespace Tree
open Go.ChangeShapes Go.WideShapes Go.ChangeAt Go.RowKit Go.Joins Go.Deep Span Vers Num
open Go.Proofs.YtbaclinjimfncaaGreat.Code
set_option maxRecDepth 100000 in
/-- A record among the arguments. -/
theorem arg_rec {H : Type} {enc : TypeId × Value → H} {W : World} {v : Value} {d : DataW H} {p : List MemPlace} {r : Reach} {b0 : Nat} (hv : Value.okWide Tryz.prog W r b0 45 v) (h : DataW.Trod enc Tryz.prog W 0 (fun _ => true) true 45 v d p) (hw : Wt Tryz.prog 45 d) :
    ∃ (key : ByteArray) (l : List Vr) (A : Option Addr) (c : Nat), v = .agg #[.string key, .slice A l.length c] ∧ Vs W 0 W.heap.size A l ∧ l.length ≤ 140737488355328 ∧ key.size ≤ 140737488355328 := by
  obtain ⟨cs, rfl, hsz⟩ := okWide_struct Tryz.underlying45 hv
  obtain ⟨fuel, hf⟩ := h
  obtain ⟨⟨⟨key, l⟩, A, c⟩, hcs, h1, h2, h3, h4⟩ := rec_at hf hw
  refine ⟨key, l, A, c, ?_, h1, h3, h4⟩
  congr 1
  rw [← Array.toList_inj]
  simpa [Value.cells, rcc] using hcs
set_option maxRecDepth 100000 in
/-- Records among the arguments. -/
theorem arg_recs {H : Type} {enc : TypeId × Value → H} {W : World} {v : Value} {d : DataW H} {p : List MemPlace} {r : Reach} {b0 : Nat} (hv : Value.okWide Tryz.prog W r b0 22 v) (h : DataW.Trod enc Tryz.prog W 0 (fun _ => true) true 22 v d p) (hw : Wt Tryz.prog 22 d) :
    ∃ (A : Option Addr) (c : Nat) (l : List Rc), v = .slice A l.length c ∧ Rs W 0 W.heap.size A l ∧ l.length ≤ c ∧ l.length * 40 ≤ 140737488351232 := by
  obtain ⟨A0, len0, c0, rfl⟩ := okWide_slice Tryz.underlying22 hv
  obtain ⟨fuel, hf⟩ := h
  obtain ⟨A, c, ps, hcs, hc, hb, hq, hp⟩ := slice_at Tryz.underlying22 hf hw cells_rec bytes_rec (by omega) rcc (fun p => Vs W 0 W.heap.size p.2.1 p.1.2 ∧ (p.1.2.length ≤ p.2.2 ∧ p.1.2.length ≤ 140737488355328 ∧ p.1.1.size ≤ 140737488355328)) (r0, none, 0) (fun _ => rfl) (fun n cs D Pl h hw => rec_at h hw)
  simp [Value.cells] at hcs
  obtain ⟨rfl, rfl, rfl⟩ := hcs
  refine ⟨A0, c0, ps.map Prod.fst, by rw [List.length_map], fun h0 => ?_, by rw [List.length_map]; exact hc, by rw [List.length_map]; omega⟩
  rw [List.length_map] at h0
  obtain ⟨b, off, e, hbl, hat⟩ := hp h0
  refine ⟨b, off, e, Nat.zero_le _, hbl, fun j hj => ?_⟩
  rw [List.length_map] at hj
  have e2 : (ps.map Prod.fst).getD j r0 = (ps.getD j (r0, none, 0)).1 := by simp [List.getD_eq_getElem?_getD, hj]
  have hm : ps.getD j (r0, none, 0) ∈ ps := by
    rw [List.getD_eq_getElem?_getD, List.getElem?_eq_getElem hj]
    exact List.getElem_mem _
  rw [e2]
  exact ⟨_, _, hat j hj 0 _ (by simp [rcc]), hat j hj 1 _ (by simp [rcc]), (hq _ hm).1, (hq _ hm).2⟩
end Tree
end Go.Proofs.YtbaclinjimfncaaGreat
