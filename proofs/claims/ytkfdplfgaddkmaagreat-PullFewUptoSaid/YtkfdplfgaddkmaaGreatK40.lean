/-
  Several texts of this family in one: ArgW.
-/
import Derived.Test.YtkfdplfgaddkmaaGreatK14
import Derived.Test.YtkfdplfgaddkmaaGreatK2
import Derived.Deep.Slices
import Derived.Deep.Fields
import Derived.Lib.SmallJoins
/-
 A slice among a law's arguments: its elements by a reading of one element's cells; slices of bytes.
-/
namespace Go.Proofs.YtkfdplfgaddkmaaGreat
namespace Wgt
open Go.ChangeShapes Go.WideShapes Go.ChangeAt Go.RowKit Go.Joins Go.Deep

section
variable {H : Type} {enc : TypeId × Value → H} {P : Program} {W : World}
set_option maxRecDepth 100000 in
theorem slice_at {t e : TypeId} (ht : P.underlying t = some (.slice e)) {n : Nat} {cs : List Value} {D : DataW H} {Pl : List MemPlace} (h : DataW.trod enc P W 0 (fun _ => true) true n t cs = some (D, Pl)) (hw : Wt P t D)
  {size bytes : Nat} (hs : P.cellsOf e = size) (hb : P.bytesOf e = bytes) (h1 : 0 < size) {α : Type} (val : α → List Value) (Q : α → Prop) (d : α) (hlen : ∀ x, (val x).length = size)
  (hel : ∀ n cs (D : DataW H) Pl, DataW.trod enc P W 0 (fun _ => true) true n e cs = some (D, Pl) → Wt P e D → ∃ x, cs = val x ∧ Q x) :
  ∃ (A : Option Addr) (c : Nat) (l : List α), cs = [.slice A l.length c] ∧ l.length ≤ c ∧ l.length * bytes ≤ 140737488351232 ∧ (∀ x ∈ l, Q x) ∧
   (0 < l.length → ∃ b off, A = some ⟨b, off, none⟩ ∧ b < W.heap.size ∧ ∀ j, j < l.length → ∀ r u, (val (l.getD j d))[r]? = some u → W.cell? ⟨b, off + j * size + r, none⟩ = some u) := by
 rcases open_slice ht h with ⟨rfl, hx⟩ | ⟨a, len, cap, m, n', D', Pl', rfl, _, hl, hm, hmm, hx, hi⟩
 ·exact ⟨none, 0, [], rfl, by simp, by simp, by simp, fun h => absurd h (by simp)⟩
 ·simp only [Prod.mk.injEq] at hx
  simp only [if_true] at hmm
  subst hmm
  have hwt := wt_slice ht (hx.1 ▸ hw)
  rw [hb] at hwt
  have hz : ∀ i, i < len → ∃ x : α, (∀ j u, (val x)[j]? = some u → W.cell? (a.add (i * size + j)) = some u) ∧ Q x := by
   intro i hil
   obtain ⟨cs', hc, ht'⟩ := hi i (by omega)
   rw [hs] at hc
   obtain ⟨_, hcl, hat⟩ := World.cells?_some hc
   obtain ⟨x, hcs', hq⟩ := hel _ _ _ _ ht' (hwt.2 (D' i) (List.mem_map.2 ⟨i, List.mem_range.2 hil, rfl⟩))
   subst hcs'
   refine ⟨x, fun j u hj => ?_, hq⟩
   have hj5 : j < size := by
    rcases Nat.lt_or_ge j size with h | h
    ·exact h
    ·rw [List.getElem?_eq_none (by rw [hlen]; exact h)] at hj; cases hj
   have q := (hat j hj5).trans hj
   rwa [Go.Deep.add_add] at q
  obtain ⟨f, hfz⟩ : ∃ f : Nat → α, ∀ i, i < len → (∀ j u, (val (f i))[j]? = some u → W.cell? (a.add (i * size + j)) = some u) ∧ Q (f i) :=
   ⟨fun i => if h : i < len then (hz i h).choose else d, fun i h => by simp only [dif_pos h]; exact (hz i h).choose_spec⟩
  have hll : ((List.range len).map f).length = len := by simp
  refine ⟨some a, _, (List.range len).map f, by rw [hll], by rw [hll]; exact hl, by rw [hll]; have := hwt.1; simp only [List.length_map, List.length_range] at this; exact Nat.le_trans (Nat.mul_le_mul_right _ (by omega)) this, fun x hx => ?_, fun hp => ?_⟩
  ·obtain ⟨i, hi', rfl⟩ := List.mem_map.1 hx
   exact (hfz i (List.mem_range.1 hi')).2
  ·rw [hll] at hp
   obtain ⟨b, off, spot⟩ := a
   obtain ⟨u0, hu0⟩ : ∃ u, (val (f 0))[0]? = some u := ⟨_, List.getElem?_eq_getElem (by rw [hlen]; exact h1)⟩
   have h0 := (hfz 0 hp).1 0 u0 hu0
   have hspot : spot = none := by simpa [Addr.add] using World.cell?_spot h0
   subst hspot
   have hadd : ∀ k, (⟨b, off, none⟩ : Addr).add k = ⟨b, off + k, none⟩ := Go.WideShapes.add_plain b off
   refine ⟨b, off, rfl, by have := World.block_lt_of_cell? W _ h0; rwa [hadd] at this, fun j hj r u hu => ?_⟩
   rw [hll] at hj
   have hg : ((List.range len).map f).getD j d = f j := by simp [List.getD_eq_getElem?_getD, hj]
   rw [hg] at hu
   have h := (hfz j hj).1 r u hu
   rw [hadd] at h
   rw [Nat.add_assoc]
   exact h
end
end Wgt
end Go.Proofs.YtkfdplfgaddkmaaGreat
