/-
  Who leaves a ring changes nothing in how the others stand.
-/
import Derived.Test.YtfnjengcemokpaaRingAwake
namespace Go.Proofs.Ytfnjengcemokpaa
namespace Ring
open Go.RowKit

/-- The others, as they stand. -/
def butF (g : Int) (l : List Int) : List Int := l.filter (fun z => z != g)
theorem but_snoc_same {g : Int} {l : List Int} : butF g (l ++ [g]) = butF g l := by simp [butF]
theorem but_snoc_other {g z : Int} {l : List Int} (h : z ≠ g) : butF g (l ++ [z]) = butF g l ++ [z] := by simp [butF, h]
theorem take_snoc {l : List Int} {i : Nat} (h : i < l.length) : l.take (i + 1) = l.take i ++ [l.getD i 0] := by
  rw [List.take_succ_eq_append_getElem h]
  simp [List.getD_eq_getElem?_getD, h]
theorem list_all {ms : List Int} {part : Int} (h : OrdOK ms part (ordL ms part)) : listF ms part 8 = ordL ms part := by
  have h8 := ord_small h
  unfold listF cutF
  rw [if_neg (by omega)]
  refine List.take_of_length_le ?_
  split <;> omega
theorem stable_plain {ms : List Int} {q : Nat} (hr : RightM ms) (h2 : 2 ≤ ms.length) (hq : q < ms.length) :
    RightM (ms.take q ++ ms.drop (q + 1)) ∧ (∀ part, 0 ≤ part → part < 8 → OrdOK ms part (ordL ms part) → listF ms part 8 = ordL ms part ∧ (ordL ms part).length = ms.length ∧ listF (ms.take q ++ ms.drop (q + 1)) part 8 = butF (ms.getD q 0) (ordL ms part) ∧ (butF (ms.getD q 0) (ordL ms part)).length = ms.length - 1) := by
  have hg : ms.getD q 0 = ms[q] := by simp [List.getD_eq_getElem?_getD, hq]
  have hd : ms = ms.take q ++ ms.getD q 0 :: ms.drop (q + 1) := by
    rw [hg, ← List.drop_eq_getElem_cons hq, List.take_append_drop]
  obtain ⟨T, hT⟩ : ∃ T, ms.take q = T := ⟨_, rfl⟩
  obtain ⟨D, hD⟩ : ∃ D, ms.drop (q + 1) = D := ⟨_, rfl⟩
  obtain ⟨g, hgg⟩ : ∃ g, ms.getD q 0 = g := ⟨_, rfl⟩
  rw [hT, hD, hgg] at hd
  rw [hT, hD, hgg]
  clear hT hD hgg hg hq
  obtain ⟨r1, r2, r3, r4⟩ := hr
  have r4' := r4
  rw [hd, List.pairwise_append, List.pairwise_cons] at r4'
  obtain ⟨pT, ⟨gD, pD⟩, tT⟩ := r4'
  have hmem : ∀ m, m ∈ T ++ D ↔ m ∈ ms ∧ m ≠ g := fun m => by
    rw [hd]
    simp only [List.mem_append, List.mem_cons]
    constructor
    · rintro (h | h)
      · exact ⟨.inl h, by have := tT m h g (by simp); omega⟩
      · exact ⟨.inr (.inr h), by have := gD m h; omega⟩
    · rintro ⟨h | h | h, hn⟩
      · exact .inl h
      · exact absurd h hn
      · exact .inr h
  have hlen : (T ++ D).length = ms.length - 1 := by
    rw [hd]
    simp only [List.length_append, List.length_cons]
    omega
  have hR : RightM (T ++ D) := ⟨by omega, by omega, fun m hm => r3 m ((hmem m).1 hm).1, by
    rw [List.pairwise_append]
    exact ⟨pT, pD, fun x hx y hy => tT x hx y (by simp [hy])⟩⟩
  refine ⟨hR, fun part p0 p8 hok => ?_⟩
  have ho := hok.1 ⟨⟨r1, r2, r3, r4⟩, p0, p8⟩
  have hbut : OrdOK (T ++ D) part (butF g (ordL ms part)) := ordOK_some ⟨hR, p0, p8⟩ ⟨fun m => by
    unfold butF
    rw [List.mem_filter, hmem, ho.1]
    simp, List.Pairwise.filter _ ho.2⟩
  have e := ordL_eq hbut
  refine ⟨list_all hok, ord_len ho r4, ?_, ?_⟩
  · rw [list_all (by rw [e]; exact hbut), e]
  · rw [ord_len (hbut.1 ⟨hR, p0, p8⟩) hR.2.2.2, hlen]
end Ring
end Go.Proofs.Ytfnjengcemokpaa
