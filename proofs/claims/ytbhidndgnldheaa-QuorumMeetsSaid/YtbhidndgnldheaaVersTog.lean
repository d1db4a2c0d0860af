/-
  Plain words of layer 5: two sets gone through side by side.
-/
import Derived.Test.YtbhidndgnldheaaVersOwn
namespace Go.Proofs.Ytbhidndgnldheaa
namespace Vers
open Go.RowKit Span

/-- i of a and j of b have been gone through, and us is kept of them. -/
structure Tog (a b : List Vr) (i j : Nat) (us : List Vr) : Prop where
  ri : i ≤ a.length
  rj : j ≤ b.length
  rise : us.Pairwise dlt
  mem : ∀ v, v ∈ us ↔ v ∈ a.take i ∨ v ∈ b.take j
  la : ∀ u ∈ us, ∀ x ∈ a.drop i, dlt u x
  lb : ∀ u ∈ us, ∀ y ∈ b.drop j, dlt u y ∨ same u y
  twin : ∀ x ∈ a.take i, ∀ y ∈ b.take j, same x y → x = y

theorem tog_start (a b : List Vr) : Tog a b 0 0 [] := ⟨by omega, by omega, List.Pairwise.nil, by simp, by simp, by simp, by simp⟩
theorem drop_split {a : List Vr} {i : Nat} {x : Vr} {l : List Vr} (h : a.drop i = x :: l) : i < a.length ∧ a.take (i + 1) = a.take i ++ [x] ∧ a.drop (i + 1) = l := by
  have hi : i < a.length := by
    rcases Nat.lt_or_ge i a.length with h1 | h1
    · exact h1
    · rw [List.drop_of_length_le h1] at h; cases h
  rw [List.drop_eq_getElem_cons hi] at h
  injection h with h1 h2
  exact ⟨hi, by rw [List.take_succ_eq_append_getElem hi, h1], h2⟩
theorem rise_drop {a : List Vr} (h : a.Pairwise dlt) (i : Nat) : (a.drop i).Pairwise dlt := h.sublist (List.drop_sublist _ _)
theorem rise_across {a : List Vr} (h : a.Pairwise dlt) (i : Nat) {u x : Vr} (hu : u ∈ a.take i) (hx : x ∈ a.drop i) : dlt u x := by
  rw [← List.take_append_drop i a] at h
  exact (List.pairwise_append.1 h).2.2 u hu x hx

theorem tog_a {a b us : List Vr} {i j : Nat} {x : Vr} {l : List Vr} (h : Tog a b i j us) (ha : a.Pairwise dlt) (_hb : b.Pairwise dlt) (hx : a.drop i = x :: l) (hle : ∀ y ∈ b.drop j, dlt x y ∨ same x y) : Tog a b (i + 1) j (us ++ [x]) := by
  obtain ⟨hi, ht, hd⟩ := drop_split hx
  have hxl : ∀ z ∈ l, dlt x z := by have := rise_drop ha i; rw [hx, List.pairwise_cons] at this; exact this.1
  have hux : ∀ u ∈ us, dlt u x := fun u hu => h.la u hu x (by rw [hx]; simp)
  refine ⟨hi, h.rj, ?_, ?_, ?_, ?_, ?_⟩
  · exact List.pairwise_append.2 ⟨h.rise, by simp, fun u hu z hz => by rw [List.mem_singleton.1 hz]; exact hux u hu⟩
  · intro v
    rw [ht, List.mem_append, List.mem_append, h.mem v]
    constructor
    · rintro ((h1 | h1) | h1)
      · exact .inl (.inl h1)
      · exact .inr h1
      · exact .inl (.inr h1)
    · rintro ((h1 | h1) | h1)
      · exact .inl (.inl h1)
      · exact .inr h1
      · exact .inl (.inr h1)
  · intro u hu z hz
    rw [hd] at hz
    rcases List.mem_append.1 hu with hu | hu
    · exact h.la u hu z (by rw [hx]; simp [hz])
    · rw [List.mem_singleton.1 hu]; exact hxl z hz
  · intro u hu y hy
    rcases List.mem_append.1 hu with hu | hu
    · exact h.lb u hu y hy
    · rw [List.mem_singleton.1 hu]; exact hle y hy
  · intro z hz y hy hs
    rw [ht] at hz
    rcases List.mem_append.1 hz with hz | hz
    · exact h.twin z hz y hy hs
    · rw [List.mem_singleton.1 hz] at hs ⊢
      exact (dlt_irrefl (hux y ((h.mem y).2 (.inr hy))) (same_symm hs)).elim

theorem tog_b {a b us : List Vr} {i j : Nat} {y : Vr} {l : List Vr} (h : Tog a b i j us) (hb : b.Pairwise dlt) (hy : b.drop j = y :: l) (hlt : ∀ x ∈ a.drop i, dlt y x) (hnew : ∀ u ∈ us, dlt u y) : Tog a b i (j + 1) (us ++ [y]) := by
  obtain ⟨hj, ht, hd⟩ := drop_split hy
  have hyl : ∀ z ∈ l, dlt y z := by have := rise_drop hb j; rw [hy, List.pairwise_cons] at this; exact this.1
  refine ⟨h.ri, hj, ?_, ?_, ?_, ?_, ?_⟩
  · exact List.pairwise_append.2 ⟨h.rise, by simp, fun u hu z hz => by rw [List.mem_singleton.1 hz]; exact hnew u hu⟩
  · intro v
    rw [ht, List.mem_append, List.mem_append, h.mem v, or_assoc]
  · intro u hu x hx
    rcases List.mem_append.1 hu with hu | hu
    · exact h.la u hu x hx
    · rw [List.mem_singleton.1 hu]; exact hlt x hx
  · intro u hu z hz
    rw [hd] at hz
    rcases List.mem_append.1 hu with hu | hu
    · exact .inl (dlt_trans (hnew u hu) (hyl z hz))
    · rw [List.mem_singleton.1 hu]; exact .inl (hyl z hz)
  · intro x hx z hz hs
    rw [ht] at hz
    rcases List.mem_append.1 hz with hz | hz
    · exact h.twin x hx z hz hs
    · rw [List.mem_singleton.1 hz] at hs ⊢
      exact (dlt_irrefl (hnew x ((h.mem x).2 (.inl hx))) hs).elim

/-- It was there. -/
theorem tog_again {a b us : List Vr} {i j : Nat} {y : Vr} {l : List Vr} (h : Tog a b i j us) (hb : b.Pairwise dlt) (hy : b.drop j = y :: l) (hu : y ∈ us) : Tog a b i (j + 1) us := by
  obtain ⟨hj, ht, hd⟩ := drop_split hy
  have hyl : ∀ z ∈ l, dlt y z := by have := rise_drop hb j; rw [hy, List.pairwise_cons] at this; exact this.1
  refine ⟨h.ri, hj, h.rise, ?_, h.la, ?_, ?_⟩
  · intro v
    rw [ht, List.mem_append, h.mem v]
    constructor
    · rintro (h1 | h1)
      · exact .inl h1
      · exact .inr (.inl h1)
    · rintro (h1 | h1 | h1)
      · exact .inl h1
      · exact .inr h1
      · rw [List.mem_singleton.1 h1]; exact (h.mem y).1 hu
  · intro u hu' z hz
    rw [hd] at hz
    rcases h.lb u hu' y (by rw [hy]; simp) with h1 | h1
    · exact .inl (dlt_trans h1 (hyl z hz))
    · rw [rising_same h.rise hu' hu h1]; exact .inl (hyl z hz)
  · intro x hx z hz hs
    rw [ht] at hz
    rcases List.mem_append.1 hz with hz | hz
    · exact h.twin x hx z hz hs
    · rw [List.mem_singleton.1 hz] at hs ⊢
      exact rising_same h.rise ((h.mem x).2 (.inl hx)) hu hs

/-- Another one with its dot was there. -/
theorem tog_twin {a b us : List Vr} {i j : Nat} {y u : Vr} {l : List Vr} (h : Tog a b i j us) (hb : b.Pairwise dlt) (hy : b.drop j = y :: l) (hu : u ∈ us) (hs : same u y) (hne : u ≠ y) : Twin a b := by
  have hyb : y ∈ b := List.mem_of_mem_drop (i := j) (by rw [hy]; simp)
  rcases (h.mem u).1 hu with h1 | h1
  · exact ⟨u, List.mem_of_mem_take h1, y, hyb, hs, hne⟩
  · exact (dlt_irrefl (rise_across hb j h1 (by rw [hy]; simp)) hs).elim

theorem tog_new {a b us : List Vr} {i j : Nat} {y : Vr} {l : List Vr} (h : Tog a b i j us) (hy : b.drop j = y :: l) (hne : ∀ _hp : 0 < us.length, ¬ same (us.getD (us.length - 1) v0) y) : ∀ u ∈ us, dlt u y := by
  intro u hu
  obtain ⟨p, hp, rfl⟩ := List.getElem_of_mem hu
  have hpos : 0 < us.length := by omega
  have hlast : us.getD (us.length - 1) v0 ∈ us := by
    rw [List.getD_eq_getElem?_getD, List.getElem?_eq_getElem (by omega)]
    exact List.getElem_mem _
  have hl : dlt (us.getD (us.length - 1) v0) y := by
    rcases h.lb _ hlast y (by rw [hy]; simp) with h1 | h1
    · exact h1
    · exact absurd h1 (hne hpos)
  rcases Nat.eq_or_lt_of_le (show p ≤ us.length - 1 by omega) with h1 | h1
  · have e : us.getD (us.length - 1) v0 = us[p] := by simp [List.getD_eq_getElem?_getD, ← h1, hp]
    rwa [e] at hl
  · have h2 := rising_at h.rise (p := p) (q := us.length - 1) (by omega) h1
    have e : us.getD p v0 = us[p] := by simp [List.getD_eq_getElem?_getD, hp]
    rw [e] at h2
    exact dlt_trans h2 hl

theorem tog_end {a b us : List Vr} (h : Tog a b a.length b.length us) : us.Pairwise dlt ∧ (∀ v, v ∈ us ↔ v ∈ a ∨ v ∈ b) ∧ ¬ Twin a b := by
  refine ⟨h.rise, fun v => by rw [h.mem v, List.take_length, List.take_length], ?_⟩
  rintro ⟨x, hx, y, hy, hs, hn⟩
  exact hn (h.twin x (by rw [List.take_length]; exact hx) y (by rw [List.take_length]; exact hy) hs)

/-- Those of a rising union behind which none of both came. -/
theorem union_stay {a b us : List Vr} (hr : us.Pairwise dlt) (hm : ∀ v, v ∈ us ↔ v ∈ a ∨ v ∈ b) : IsStay a b (us.filter fun v => !decide (behind us v.s v.n)) := by
  have hb : ∀ s n, behind us s n ↔ behind a s n ∨ behind b s n := by
    intro s n
    constructor
    · rintro ⟨v, hv, h⟩
      rcases (hm v).1 hv with h1 | h1
      · exact .inl ⟨v, h1, h⟩
      · exact .inr ⟨v, h1, h⟩
    · rintro (⟨v, hv, h⟩ | ⟨v, hv, h⟩)
      · exact ⟨v, (hm v).2 (.inl hv), h⟩
      · exact ⟨v, (hm v).2 (.inr hv), h⟩
  refine ⟨hr.sublist List.filter_sublist, fun v => ?_⟩
  rw [List.mem_filter, hm v]
  simp only [Bool.not_eq_true', decide_eq_false_iff_not]
  rw [hb]
  constructor
  · rintro ⟨h1, h2⟩
    exact ⟨h1, fun h => h2 (.inl h), fun h => h2 (.inr h)⟩
  · rintro ⟨h1, h2, h3⟩
    exact ⟨h1, fun h => h.elim h2 h3⟩
end Vers
end Go.Proofs.Ytbhidndgnldheaa
