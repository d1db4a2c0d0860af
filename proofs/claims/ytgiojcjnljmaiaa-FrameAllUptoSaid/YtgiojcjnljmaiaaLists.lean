/-
  Layer 2: lists of bytes that a call has made, in a row of the call's own.
-/
import Derived.Test.YtgiojcjnljmaiaaSumPlain
import Derived.Test.YtgiojcjnljmaiaaNextPlain
namespace Go.Proofs.Ytgiojcjnljmaiaa
namespace Frm
open Go.RowKit

/-- The value holds slices of bytes in a row of the call's own, of which each reads as one of the lists; none of them has its bytes in the row. -/
def OwnLists (B : Nat) (t : TypeId) (w : World) (v : Value) (ps : List (List Int)) : Prop :=
  ∃ us : List Value, w.ownsRow B t 1 v ps.length us ∧ ∀ j, j < ps.length → ∃ A' c', us[j]? = some (.slice A' (ps.getD j []).length c') ∧ Ns .u8 w w.heap.size A' (ps.getD j []) ∧ (ps.getD j []).length ≤ c' ∧
    (0 < (ps.getD j []).length → ∀ a, A' = some a → v.ownBlock ≠ some a.block)

theorem OwnLists.start (B : Nat) (t : TypeId) (w : World) : OwnLists B t w (.slice none 0 0) [] :=
  ⟨[], World.ownsRow_nil _ _ _ _, fun j hj => absurd hj (by simp)⟩

theorem OwnLists.below {B : Nat} {t : TypeId} {w w' : World} {v : Value} {ps : List (List Int)} (h : OwnLists B t w v ps) (hb : Below w.heap.size w w') : OwnLists B t w' v ps := by
  obtain ⟨us, ho, hj⟩ := h
  refine ⟨us, own_below ho hb (Nat.le_refl _), fun j h => ?_⟩
  obtain ⟨A', c', h1, h2, h3, h4⟩ := hj j h
  exact ⟨A', c', h1, (h2.below hb).more hb.size, h3, h4⟩

/-- One more is laid behind them. -/
theorem lists_more {B : Nat} {t : TypeId} {w w' : World} {v v' : Value} {ps : List (List Int)} {us : List Value} {ys : List Int} {A : Option Addr} {c : Nat} (ho : w.ownsRow B t 1 v ps.length us)
    (hj : ∀ j, j < ps.length → ∃ A' c', us[j]? = some (.slice A' (ps.getD j []).length c') ∧ Ns .u8 w w.heap.size A' (ps.getD j []) ∧ (ps.getD j []).length ≤ c' ∧
      (0 < (ps.getD j []).length → ∀ a, A' = some a → v.ownBlock ≠ some a.block))
    (hn : Ns .u8 w w.heap.size A ys) (hc : ys.length ≤ c) (ha : 0 < ys.length → ∀ a, A = some a → v.ownBlock ≠ some a.block)
    (ho' : w'.ownsRow B t 1 v' (ps.length + 1) (us ++ [.slice A ys.length c])) (hg : w.grownBy w' v.ownBlock) (hv : v'.ownBlock = v.ownBlock ∨ ∃ g, v'.ownBlock = some g ∧ w.heap.size ≤ g) :
    OwnLists B t w' v' (ps ++ [ys]) := by
  have hl : us.length = ps.length := by have := ho.1; omega
  have key : ∀ (zs : List Int) (A' : Option Addr), Ns .u8 w w.heap.size A' zs → (0 < zs.length → ∀ a, A' = some a → v.ownBlock ≠ some a.block) →
      Ns .u8 w' w'.heap.size A' zs ∧ (0 < zs.length → ∀ a, A' = some a → v'.ownBlock ≠ some a.block) := by
    intro zs A' hz hne
    by_cases h0 : 0 < zs.length
    · obtain ⟨b, off, rfl, hb, hcs⟩ := hz h0
      have hvb := hne h0 _ rfl
      refine ⟨fun _ => ⟨b, off, rfl, Nat.lt_of_lt_of_le hb hg.size, fun j hj => ?_⟩, fun _ a ha => ?_⟩
      · rw [← hcs j hj]
        unfold World.cell?
        rw [hg.block b hb (Ne.symm hvb)]
      · cases ha
        rcases hv with e | ⟨g, e, hgs⟩
        · rw [e]; exact hvb
        · rw [e]
          intro e'
          injection e' with e'
          simp only at e'
          omega
    · exact ⟨fun hp => absurd hp h0, fun hp => absurd hp h0⟩
  refine ⟨_, by rw [List.length_append]; exact ho', fun j h => ?_⟩
  rw [List.length_append] at h
  by_cases hlt : j < ps.length
  · obtain ⟨A', c', h1, h2, h3, h4⟩ := hj j hlt
    have e : (ps ++ [ys]).getD j [] = ps.getD j [] := by
      rw [List.getD_eq_getElem?_getD, List.getElem?_append_left hlt, List.getD_eq_getElem?_getD]
    rw [e]
    have k := key _ _ h2 h4
    exact ⟨A', c', by rw [List.getElem?_append_left (by omega)]; exact h1, k.1, h3, k.2⟩
  · have hj0 : j = ps.length := by simp at h; omega
    subst hj0
    have e : (ps ++ [ys]).getD ps.length [] = ys := by simp
    rw [e]
    have k := key _ _ hn ha
    exact ⟨A, c, by rw [List.getElem?_append_right (by omega)]; simp [hl], k.1, hc, k.2⟩

/-- So they stand there to be read. -/
theorem OwnLists.parts {B n c : Nat} {t : TypeId} {w : World} {A : Option Addr} {ps : List (List Int)} (h : OwnLists B t w (.slice A n c) ps) : Parts w w.heap.size A ps := by
  obtain ⟨us, ho, hj⟩ := h
  intro hp
  rcases ho.2 with ⟨_, h0⟩ | ⟨g, cap, cur, hv, hbg, hg, rest⟩
  · omega
  · injection hv with h1 h2 h3
    subst h1
    refine ⟨g, 0, rfl, (Array.getElem?_eq_some_iff.1 hg).1, fun j hlt => ?_⟩
    obtain ⟨A', c', h1, h2, h3, _⟩ := hj j hlt
    have hc := ho.cells (g := g) rfl j _ h1
    have hadd : (⟨g, 0, none⟩ : Addr).add j = ⟨g, 0 + j, none⟩ := by unfold Addr.add; split <;> simp_all
    rw [hadd] at hc
    exact ⟨A', c', hc, h2, h3⟩

/-- What a call for all the frames tells: lists in new memory, how far, why no farther. -/
def Alls (t : TypeId) (r : List (List Int) × Nat × Int) (w : World) (e : Ending) (w' : World) : Prop :=
  ∃ A c, e = .returned (.tuple #[.slice A r.1.length c, .int .i64 (r.2.1 : Nat), .int .i64 r.2.2]) ∧ OwnLists w.heap.size t w' (.slice A r.1.length c) r.1 ∧ Below w.heap.size w w'
end Frm
end Go.Proofs.Ytgiojcjnljmaiaa
