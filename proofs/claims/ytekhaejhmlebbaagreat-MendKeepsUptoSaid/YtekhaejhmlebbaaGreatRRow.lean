/-
 A row of bytes of the call's own, written at will: it stays a row of bytes.
-/
import Derived.Test.YtekhaejhmlebbaaGreatRGBase
namespace Go.Proofs.YtekhaejhmlebbaaGreat
open Go.RowKit

def Rw (k : IntKind) (w : World) (g n : Nat) : Prop := ∃ cur e, w.heap[g]? = some (.cells cur e (0, 0)) ∧ ∀ j, j < n → ∃ z, cur[j]? = some (.int k z)
theorem Rw.cell {k : IntKind} {w : World} {g n : Nat} (h : Rw k w g n) (j : Nat) (hj : j < n) : ∃ z, w.cell? ⟨g, j, none⟩ = some (.int k z) := by
 obtain ⟨cur, e, h1, h2⟩ := h
 obtain ⟨z, hz⟩ := h2 j hj
 exact ⟨z, by rw [cell_of_row w g j cur e (0, 0) h1]; exact hz⟩
theorem Rw.frozen {k : IntKind} {w : World} {g n : Nat} (h : Rw k w g n) (j : Nat) : w.frozen? ⟨g, j, none⟩ = false := by
 obtain ⟨cur, e, h1, _⟩ := h
 simp [World.frozen?, h1]
theorem Rw.set {k : IntKind} {w : World} {g n : Nat} (h : Rw k w g n) (i : Nat) (x : Int) : Rw k (w.setCell ⟨g, i, none⟩ (.int k x)) g n := by
 obtain ⟨cur, e, h1, h2⟩ := h
 refine ⟨cur.setIfInBounds i (.int k x), e, ?_, fun j hj => ?_⟩
 ·simp [World.setCell, Array.getElem?_modify, h1]
 ·obtain ⟨z, hz⟩ := h2 j hj
  by_cases hij : i = j
  ·subst hij
   exact ⟨x, by rw [Array.getElem?_setIfInBounds_self_of_lt (Array.getElem?_eq_some_iff.1 hz).1]⟩
  ·exact ⟨z, by rw [Array.getElem?_setIfInBounds_ne hij]; exact hz⟩
theorem Rw.keep {k : IntKind} {w w' : World} {g n : Nat} (h : Rw k w g n) (hk : w'.heap[g]? = w.heap[g]?) : Rw k w' g n := by
 obtain ⟨cur, e, h1, h2⟩ := h
 exact ⟨cur, e, hk.trans h1, h2⟩
theorem Ns.other {k : IntKind} {w w' : World} {B b off : Nat} {zs : List Int} (h : Ns k w B (some ⟨b, off, none⟩) zs) (hk : w'.heap[b]? = w.heap[b]?) : Ns k w' B (some ⟨b, off, none⟩) zs := fun hp => by
 obtain ⟨b', off', e, hb, hc⟩ := h hp
 injection e with e
 injection e with e1 e2
 subst e1
 subst e2
 exact ⟨b, off, rfl, hb, fun j hj => (World.cell?_of_block (w := w) (w' := w') (a := ⟨b, off + j, none⟩) hk).trans (hc j hj)⟩
end Go.Proofs.YtekhaejhmlebbaaGreat
