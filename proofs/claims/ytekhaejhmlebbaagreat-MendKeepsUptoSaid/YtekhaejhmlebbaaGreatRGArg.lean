/-
 Several texts of this family in one: SliceAt, Bulk, CodeArgs.
-/
import Derived.Test.YtekhaejhmlebbaaGreatRGVect
import Derived.Test.YtekhaejhmlebbaaGreatRGBase
import Derived.Test.YtekhaejhmlebbaaGreatRows
import Derived.Test.YtekhaejhmlebbaaGreatRGFill
/-
 A slice by its cell, among the data of a law's arguments: its elements by a reading of one element's cells.
-/
namespace Go.Proofs.YtekhaejhmlebbaaGreat
namespace Vers
open Go.ChangeShapes Go.WideShapes Go.ChangeAt Go.RowKit Go.Joins Go.Deep Span

section
variable {H : Type} {enc : TypeId × Value → H} {P : Program} {W : World}
set_option maxRecDepth 100000 in
theorem slice_at {t e : TypeId} (ht : P.underlying t = some (.slice e)) {n : Nat} {cs : List Value} {D : DataW H} {Pl : List MemPlace} (h : DataW.trod enc P W 0 (fun _ => true) true n t cs = some (D, Pl)) (hw : Wt P t D)
  {size bytes : Nat} (hs : P.cellsOf e = size) (hb : P.bytesOf e = bytes) (h1 : 0 < size) {α : Type} (val : α → List Value) (Q : α → Prop) (d : α) (hlen : ∀ x, (val x).length = size)
  (hel : ∀ n cs (D : DataW H) Pl, DataW.trod enc P W 0 (fun _ => true) true n e cs = some (D, Pl) → Wt P e D → ∃ x, cs = val x ∧ Q x) :
  ∃ (A : Option Addr) (c : Nat) (l : List α), cs = [.slice A l.length c] ∧ l.length ≤ c ∧ l.length * bytes ≤ 140737488351232 ∧ (∀ x ∈ l, Q x) ∧
   (0 < l.length → ∃ b off, A = some ⟨b, off, none⟩ ∧ b < W.heap.size ∧ ∀ j, j < l.length → ∀ r u, (val (l.getD j d))[r]? = some u → W.cell? ⟨b, off + j * size + r, none⟩ = some u) := by
 rcases open_slice ht h with ⟨rfl, hx⟩ | ⟨a, len, cap, m, n', D', Pl', rfl, _, hl, hm, hmm, hx, hi⟩
 ·exact ⟨none, 0, [], rfl, by simp, by simp, by simp, fun h => absurd h (by simp)⟩
 ·simp only [Prod.mk.injEq] at hx
  simp only [if_true] at hmm
  subst hmm
  have hwt := wt_slice ht (hx.1 ▸ hw)
  rw [hb] at hwt
  have hz : ∀ i, i < len → ∃ x : α, (∀ j u, (val x)[j]? = some u → W.cell? (a.add (i * size + j)) = some u) ∧ Q x := by
   intro i hil
   obtain ⟨cs', hc, ht'⟩ := hi i (by omega)
   rw [hs] at hc
   obtain ⟨_, hcl, hat⟩ := World.cells?_some hc
   obtain ⟨x, hcs', hq⟩ := hel _ _ _ _ ht' (hwt.2 (D' i) (List.mem_map.2 ⟨i, List.mem_range.2 hil, rfl⟩))
   subst hcs'
   refine ⟨x, fun j u hj => ?_, hq⟩
   have hj5 : j < size := by
    rcases Nat.lt_or_ge j size with h | h
    ·exact h
    ·rw [List.getElem?_eq_none (by rw [hlen]; exact h)] at hj; cases hj
   have q := (hat j hj5).trans hj
   rwa [Go.Deep.add_add] at q
  obtain ⟨f, hfz⟩ : ∃ f : Nat → α, ∀ i, i < len → (∀ j u, (val (f i))[j]? = some u → W.cell? (a.add (i * size + j)) = some u) ∧ Q (f i) :=
   ⟨fun i => if h : i < len then (hz i h).choose else d, fun i h => by simp only [dif_pos h]; exact (hz i h).choose_spec⟩
  have hll : ((List.range len).map f).length = len := by simp
  refine ⟨some a, _, (List.range len).map f, by rw [hll], by rw [hll]; exact hl, by rw [hll]; have := hwt.1; simp only [List.length_map, List.length_range] at this; exact Nat.le_trans (Nat.mul_le_mul_right _ (by omega)) this, fun x hx => ?_, fun hp => ?_⟩
  ·obtain ⟨i, hi', rfl⟩ := List.mem_map.1 hx
   exact (hfz i (List.mem_range.1 hi')).2
  ·rw [hll] at hp
   obtain ⟨b, off, spot⟩ := a
   obtain ⟨u0, hu0⟩ : ∃ u, (val (f 0))[0]? = some u := ⟨_, List.getElem?_eq_getElem (by rw [hlen]; exact h1)⟩
   have h0 := (hfz 0 hp).1 0 u0 hu0
   have hspot : spot = none := by simpa [Addr.add] using World.cell?_spot h0
   subst hspot
   have hadd : ∀ k, (⟨b, off, none⟩ : Addr).add k = ⟨b, off + k, none⟩ := Go.WideShapes.add_plain b off
   refine ⟨b, off, rfl, by have := World.block_lt_of_cell? W _ h0; rwa [hadd] at this, fun j hj r u hu => ?_⟩
   rw [hll] at hj
   have hg : ((List.range len).map f).getD j d = f j := by simp [List.getD_eq_getElem?_getD, hj]
   rw [hg] at hu
   have h := (hfz j hj).1 r u hu
   rw [hadd] at h
   rw [Nat.add_assoc]
   exact h
end
end Vers
end Go.Proofs.YtekhaejhmlebbaaGreat

/-
 What a bound on the input's bulk says of its parts.
-/
namespace Go.Proofs.YtekhaejhmlebbaaGreat
namespace Bulk
open Go.ChangeShapes Go.RowKit

theorem bound {H : Type} {l : List (DataW H)} (hk : Rows.uptoSmall H l = true) : Rows.uptoBulkAll l ≤ 1048576 := of_decide_eq_true hk

end Bulk
end Go.Proofs.YtekhaejhmlebbaaGreat

/-
 Records and messages among a law's arguments.
-/
namespace Go.Proofs.YtekhaejhmlebbaaGreat
namespace Code
open Go.ChangeShapes Go.WideShapes Go.ChangeAt Go.RowKit Go.Joins Go.Deep Span Vers Num

theorem cells_rec : Tryz.prog.cellsOf 53 = 2 := by kernel_rfl
theorem bytes_rec : Tryz.prog.bytesOf 53 = 40 := by kernel_rfl
theorem cells_vers : Tryz.prog.cellsOf 50 = 1 := by kernel_rfl
section
variable {H : Type} {enc : TypeId × Value → H} {W : World}
theorem vs_at {n : Nat} {cs : List Value} {D : DataW H} {Pl : List MemPlace} (h : DataW.trod enc Tryz.prog W 0 (fun _ => true) true n 50 cs = some (D, Pl)) (hw : Wt Tryz.prog 50 D) :
  ∃ (A : Option Addr) (c : Nat) (l : List Vr), cs = [.slice A l.length c] ∧ Vs W 0 W.heap.size A l ∧ l.length ≤ c ∧ l.length ≤ 140737488355328 := by
 obtain ⟨A, c, ps, rfl, hc, hb, hq, hp⟩ := slice_at Tryz.underlying50 h hw cells_ver bytes_ver (by omega) vcc (fun p => Pa W 0 W.heap.size p.2.1 p.2.2 p.1) z0 (fun _ => rfl) (fun n cs D Pl h hw => by
  obtain ⟨v, A, c, rfl, hpa, _⟩ := ver_at h hw
  exact ⟨(v, A, c), rfl, hpa⟩)
 refine ⟨A, c, ps.map Prod.fst, by rw [List.length_map], fun h0 => ?_, by rw [List.length_map]; exact hc, by rw [List.length_map]; omega⟩
 rw [List.length_map] at h0
 obtain ⟨b, off, e, hbl, hat⟩ := hp h0
 refine ⟨b, off, e, Nat.zero_le _, hbl, fun j hj => ?_⟩
 rw [List.length_map] at hj
 have e2 : (ps.map Prod.fst).getD j v0 = (ps.getD j z0).1 := by simp [List.getD_eq_getElem?_getD, hj]
 have hm : ps.getD j z0 ∈ ps := by
  rw [List.getD_eq_getElem?_getD, List.getElem?_eq_getElem hj]
  exact List.getElem_mem _
 rw [e2]
 exact ⟨_, _, hat j hj 0 _ (by simp [vcc]), hat j hj 1 _ (by simp [vcc]), hat j hj 2 _ (by simp [vcc]), hat j hj 3 _ (by simp [vcc]), hat j hj 4 _ (by simp [vcc]), hq _ hm⟩
set_option maxRecDepth 100000 in
theorem rec_at {n : Nat} {cs : List Value} {D : DataW H} {Pl : List MemPlace} (h : DataW.trod enc Tryz.prog W 0 (fun _ => true) true n 53 cs = some (D, Pl)) (hw : Wt Tryz.prog 53 D) :
  ∃ p : Pr, cs = rcc p ∧ (Vs W 0 W.heap.size p.2.1 p.1.2 ∧ (p.1.2.length ≤ p.2.2 ∧ p.1.2.length ≤ 140737488355328 ∧ p.1.1.size ≤ 140737488355328)) := by
 obtain ⟨y0, y1, m, hx, hl, h0, h1⟩ := trod_struct2 Tryz.underlying53 h
 rw [cells_rec] at hl
 match cs, hl with
 | [q0, q1], _ =>
  simp only [cells_vers, cells_string, List.drop_zero, List.take_succ_cons, List.take_zero, List.drop_succ_cons] at h0 h1
  obtain ⟨x, e0, x0, hxl⟩ := DataW.trod_string Tryz.underlying9 h0
  simp only [Prod.mk.injEq] at hx
  have hww := wt_struct Tryz.underlying53 (hx.1 ▸ hw)
  obtain ⟨A, c, l, e1, hs, hlc, hlw⟩ := vs_at (D := y1.1) (Pl := y1.2) h1 (hww 1 50 y1.1 rfl rfl)
  have hv := hww 0 9 y0.1 rfl rfl
  rw [show y0 = (.lit (.string x.data.toList), []) from x0] at hv
  have hvl := wt_string hv
  have hsz : x.data.toList.length = x.size := by rw [Array.length_toList]; rfl
  rw [hsz] at hvl
  simp only [List.cons.injEq, and_true] at e0 e1
  subst e0 e1
  exact ⟨((x, l), A, c), rfl, hs, hlc, hlw, by simp only; omega⟩
/-! ### Bulks -/
theorem bulk_pos (d : DataW H) : 1 ≤ Rows.uptoBulk d := by
 cases d with
 | lit x => cases x <;> simp [Rows.uptoBulk]
 | _ => simp [Rows.uptoBulk]
theorem bulk_len : ∀ (l : List (DataW H)), l.length ≤ Rows.uptoBulkAll l
 | [] => by simp
 | d :: l => by
  have h1 := bulk_pos d
  have h2 := bulk_len l
  simp only [Rows.uptoBulkAll, List.length_cons]
  omega
/-! ### Messages among the arguments -/
end
end Code
end Go.Proofs.YtekhaejhmlebbaaGreat
