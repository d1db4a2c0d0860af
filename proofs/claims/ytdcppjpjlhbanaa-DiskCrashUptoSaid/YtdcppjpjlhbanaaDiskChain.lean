/-
  disk: what is taken back is what was (layer 7, plain words).
-/
import Derived.Test.YtdcppjpjlhbanaaDiskOwn
namespace Go.Proofs.Ytdcppjpjlhbanaa
namespace Disk
open Go.RowKit Blk Go.Maps
theorem ins_perm {β : Type} (l : List (Nm × β)) (s : Nm) (b : β) : (ins l s b).Perm ((s, b) :: l) := by
  induction l with
  | nil => exact List.Perm.refl _
  | cons y l ih =>
    unfold ins
    split
    · exact List.Perm.refl _
    · exact (List.Perm.cons y ih).trans (List.Perm.swap _ _ _)
theorem nodup_wit {X : Xs} (h : (X.map fun x => x.2.2).Nodup) {s : Nm} {d : List Int} {i : Nat} (hi : ∀ x ∈ X, x.1 ≠ s → x.2.2 ≠ i) : ((wit X s (d, i)).map fun x => x.2.2).Nodup := by
  have hp := (ins_perm (wout X s) s (d, i)).map fun x => x.2.2
  rw [wit, hp.nodup_iff, List.map_cons, List.nodup_cons]
  refine ⟨fun hm => ?_, h.sublist (List.Sublist.map _ (List.filter_sublist))⟩
  obtain ⟨x, hx, hxi⟩ := List.mem_map.1 hm
  exact hi x (mem_wout.1 hx).1 (mem_wout.1 hx).2 hxi
theorem nodup_wout {X : Xs} (h : (X.map fun x => x.2.2).Nodup) (s : Nm) : ((wout X s).map fun x => x.2.2).Nodup := h.sublist (List.Sublist.map _ (List.filter_sublist))
theorem nodup_id {X : Xs} (h : (X.map fun x => x.2.2).Nodup) {x y : Nm × (List Int × Nat)} (hx : x ∈ X) (hy : y ∈ X) (he : x.2.2 = y.2.2) : x = y := by
  induction X with
  | nil => cases hx
  | cons z X ih =>
    rw [List.map_cons, List.nodup_cons] at h
    rcases List.mem_cons.1 hx with e1 | hx'
    · rcases List.mem_cons.1 hy with e2 | hy'
      · rw [e1, e2]
      · exact absurd ((List.mem_map (f := fun x : Nm × (List Int × Nat) => x.2.2)).2 ⟨y, hy', by rw [← he, e1]⟩) h.1
    · rcases List.mem_cons.1 hy with e2 | hy'
      · exact absurd ((List.mem_map (f := fun x : Nm × (List Int × Nat) => x.2.2)).2 ⟨x, hx', by rw [he, e2]⟩) h.1
      · exact ih h.2 hx' hy'
theorem Good.mono {N N' : Nat} {X : Xs} (h : Good N X) (hN : N ≤ N') : Good N' X := by
  obtain ⟨h1, h2, h3, h4, h5, h6⟩ := h
  exact ⟨h1, h2, fun x hx => Nat.lt_of_lt_of_le (h3 x hx) hN, h4, h5, by omega⟩
theorem Chain.mono {N N' : Nat} (hN : N ≤ N') : ∀ {r : List Un} {X : Xs}, Chain N r X → Chain N' r X
  | [], _, h => Good.mono h hN
  | _ :: _, _, ⟨h1, h2, h3⟩ => ⟨h1.mono hN, h2, Chain.mono hN h3⟩
section
variable {β : Type}
theorem undoG_srt_ext {l m : List (Nm × β)} (tk : Nat → β → β) (f : Fl → β) (e : Un) (t : Int) (hl : Srt l) (hm : Srt m) (h : ∀ z, find (undoG tk f e t l) z = find m z) : undoG tk f e t l = m := srt_ext (undo_srt tk f e t hl) hm h
theorem find_wit_wout (l : List (Nm × β)) (s : Nm) (b : β) (t : Nm) : find (wit (wout l s) s b) t = if t = s then some b else find l t := by
  rw [find_wit, find_wout]
  by_cases h : t = s
  · rw [if_pos h, if_pos h]
  · rw [if_neg h, if_neg h, if_neg h]
end
/-- An append is taken back. -/
theorem undo_app_X {X : Xs} (h : Srt X) {s : Nm} {d b : List Int} {i : Nat} {th : Bool} (ht : th = true → find X s = some (d, i)) (hf : th = false → find X s = none ∧ d = []) (b1 b2 b3 b4 b5 : Nat) (A : Option Addr) (c : Nat) :
    undoX (.app b1 b2 b3 b4 b5 s d.length b.length th A c) 0 (wit X s (d ++ b, i)) = X := by
  refine undoG_srt_ext _ _ _ _ (h.wit _ _) h fun z => ?_
  unfold undoG
  simp only
  rw [find_wit, if_pos rfl]
  simp only [tor_zero]
  cases th with
  | true =>
    rw [if_pos (.inl rfl), find_wit_wout, find_wit]
    by_cases hz : z = s
    · subst hz
      rw [if_pos rfl, ht rfl]
      simp
    · rw [if_neg hz, if_neg hz]
  | false =>
    rw [if_neg (by simp), find_wout, find_wit]
    by_cases hz : z = s
    · subst hz
      rw [if_pos rfl, (hf rfl).1]
    · rw [if_neg hz, if_neg hz]
/-- An append of which some bytes stay. -/
theorem undo_app_F {l : List (Nm × List Int)} (h : Srt l) {s : Nm} {b : List Int} {th : Bool} (hth : (find l s).isSome = th) (t : Int) (b1 b2 b3 b4 b5 : Nat) (A : Option Addr) (c : Nat) :
    undoF (.app b1 b2 b3 b4 b5 s (dat l s).length b.length th A c) t (wit l s (dat l s ++ b)) = if 0 < tor t b.length then wit l s (dat l s ++ b.take (tor t b.length)) else l := by
  have hm : Srt (if 0 < tor t b.length then wit l s (dat l s ++ b.take (tor t b.length)) else l) := by
    split
    · exact h.wit _ _
    · exact h
  refine undoG_srt_ext _ _ _ _ (h.wit _ _) hm fun z => ?_
  unfold undoG
  simp only
  rw [find_wit, if_pos rfl]
  simp only
  by_cases h0 : 0 < tor t b.length
  · rw [if_pos (.inr h0), if_pos h0, find_wit_wout, find_wit, find_wit]
    by_cases hz : z = s
    · rw [if_pos hz, if_pos hz, List.take_append, List.take_of_length_le (by omega)]
      simp
    · rw [if_neg hz, if_neg hz, if_neg hz]
  · rw [if_neg h0, show tor t b.length = 0 by omega]
    cases th with
    | true =>
      rw [if_pos (.inl rfl), find_wit_wout, find_wit]
      by_cases hz : z = s
      · subst hz
        rw [if_pos rfl]
        unfold dat
        obtain ⟨v, hv⟩ := Option.isSome_iff_exists.1 hth
        rw [hv]
        simp
      · rw [if_neg hz, if_neg hz]
    | false =>
      rw [if_neg (by simp), find_wout, find_wit]
      by_cases hz : z = s
      · subst hz
        rw [if_pos rfl]
        rcases hv : find l z with _ | v
        · rfl
        · rw [hv] at hth; cases hth
      · rw [if_neg hz, if_neg hz]
/-- A cut, or a removal, is taken back. -/
theorem undo_put_X {X X' : Xs} (h : Srt X) (h' : Srt X') {s : Nm} {y : Fl} (hf : find X s = some y.x) (ho : ∀ z, z ≠ s → find X' z = find X z) (cut : Bool) (b1 b2 b3 : Nat) (t : Int) :
    undoX (.put cut b1 b2 b3 s y) t X' = X := by
  refine undoG_srt_ext _ _ _ _ h' h fun z => ?_
  unfold undoG
  simp only
  rw [find_wit]
  by_cases hz : z = s
  · subst hz
    rw [if_pos rfl, hf]
  · rw [if_neg hz, ho z hz]
theorem undo_put_F {X X' : List (Nm × List Int)} (h : Srt X) (h' : Srt X') {s : Nm} {y : Fl} (hf : find X s = some y.d) (ho : ∀ z, z ≠ s → find X' z = find X z) (cut : Bool) (b1 b2 b3 : Nat) (t : Int) :
    undoF (.put cut b1 b2 b3 s y) t X' = X := by
  refine undoG_srt_ext _ _ _ _ h' h fun z => ?_
  unfold undoG
  simp only
  rw [find_wit]
  by_cases hz : z = s
  · subst hz
    rw [if_pos rfl, hf]
  · rw [if_neg hz, ho z hz]
section
variable {β : Type}
/-- A renaming is taken back. -/
theorem undo_ren_G (tk : Nat → β → β) (f : Fl → β) {X : List (Nm × β)} (h : Srt X) {to from_ : Nm} {y y2 : Fl} {other : Bool} (hf : find X from_ = some (f y)) (h1 : other = true → find X to = some (f y2)) (h2 : other = false → find X to = none) (b1 b2 b3 b4 b5 b6 : Nat) (t : Int) :
    undoG tk f (.ren b1 b2 b3 b4 b5 b6 to from_ other y2 y) t (wit (wout X from_) to (f y)) = X := by
  refine undoG_srt_ext _ _ _ _ ((h.wout _).wit _ _) h fun z => ?_
  unfold undoG
  simp only
  rw [find_wit]
  by_cases hz : z = from_
  · subst hz
    rw [if_pos rfl, hf]
  · rw [if_neg hz]
    cases other with
    | true =>
      rw [if_pos rfl, find_wit_wout]
      by_cases hz2 : z = to
      · subst hz2
        rw [if_pos rfl, h1 rfl]
      · rw [if_neg hz2, find_wit, if_neg hz2, find_wout, if_neg hz]
    | false =>
      rw [if_neg (by simp), find_wout]
      by_cases hz2 : z = to
      · subst hz2
        rw [if_pos rfl, h2 rfl]
      · rw [if_neg hz2, find_wit, if_neg hz2, find_wout, if_neg hz]
end
/-- What a file's bytes have to do with other blocks. -/
theorem rok_ne {F : Nat → Prop} {own : Nat → Nat} {w : World} {x : Fl} (h : ROK F own w x) {B : Nat} {t : TypeId} {cs : List Value} (hB : Bn B t cs w) (ht : t ≠ 5) : x.A ≠ some ⟨B, 0, none⟩ := fun e => by
  obtain ⟨_, _, _, q⟩ := h
  rcases q with ⟨q, _⟩ | ⟨g, cur, q1, _, _, q2, _⟩
  · rw [q] at e; cases e
  · rw [q1] at e
    injection e with e
    injection e with e
    subst e
    rw [show w.heap[g]? = _ from hB] at q2
    injection q2 with q2
    injection q2 with _ q2
    exact ht q2
theorem rok_map {F : Nat → Prop} {own : Nat → Nat} {w : World} {x : Fl} (h : ROK F own w x) {mb : Nat} {l : Vl} (hM : MI w mb l) : x.A ≠ some ⟨mb, 0, none⟩ := fun e => by
  obtain ⟨_, _, _, q⟩ := h
  rcases q with ⟨q, _⟩ | ⟨g, cur, q1, _, _, q2, _⟩
  · rw [q] at e; cases e
  · rw [q1] at e
    injection e with e
    injection e with e
    exact hM.ne q2 e
theorem rok_row {F : Nat → Prop} {own : Nat → Nat} {w : World} {x : Fl} (h : ROK F own w x) {t : TypeId} {sz n : Nat} {v : Value} {xs : List Value} (hr : w.ownsRow 0 t sz v n xs) (ht : t ≠ 5) {g : Nat} (hg : v.ownBlock = some g) : x.A ≠ some ⟨g, 0, none⟩ := fun e => by
  obtain ⟨cur2, hc2⟩ := own_block hr hg
  obtain ⟨_, _, _, q⟩ := h
  rcases q with ⟨q, _⟩ | ⟨g2, cur, q1, _, _, q2, _⟩
  · rw [q] at e; cases e
  · rw [q1] at e
    injection e with e
    injection e with e
    subst e
    rw [hc2] at q2
    injection q2 with q2
    injection q2 with _ q2
    exact ht q2
/-- A closure's variables and files, in another world. -/
theorem Un.ok_lift {F F3 : Nat → Prop} {own own3 : Nat → Nat} {w w3 : World} {db : Nat} {e : Un} (h : e.ok F own w db) (ub : ∀ {b : Nat} {t : TypeId} {v : Value}, Box F w b t v → t ≠ 60 → t ≠ 5 → t ≠ 76 → Box F3 w3 b t v)
    (hr : ∀ y ∈ e.caps, ROK F own w y → ROK F3 own3 w3 y) : e.ok F3 own3 w3 db := by
  rcases e with ⟨b1, b2, b3, b4, b5, s, wd, k, there, A0, c0⟩ | ⟨cut, b1, b2, b3, s, y⟩ | ⟨b1, b2, b3, b4, b5, b6, to, from_, other, y2, y⟩
  · obtain ⟨q1, q2, q3, q4, q5, q6⟩ := h
    exact ⟨ub q1 (by decide) (by decide) (by decide), ub q2 (by decide) (by decide) (by decide), ub q3 (by decide) (by decide) (by decide), ub q4 (by decide) (by decide) (by decide), ub q5 (by decide) (by decide) (by decide), q6⟩
  · obtain ⟨q1, q2, q3, q4, q5⟩ := h
    exact ⟨ub q1 (by decide) (by decide) (by decide), ub q2 (by decide) (by decide) (by decide), ub q3 (by decide) (by decide) (by decide), q4, hr y (by simp [Un.caps]) q5⟩
  · obtain ⟨q1, q2, q3, q4, q5, q6, q7, q8, q9, q10⟩ := h
    exact ⟨ub q1 (by decide) (by decide) (by decide), ub q2 (by decide) (by decide) (by decide), ub q3 (by decide) (by decide) (by decide), ub q4 (by decide) (by decide) (by decide), ub q5 (by decide) (by decide) (by decide), ub q6 (by decide) (by decide) (by decide), q7, q8, hr y2 (by simp [Un.caps]) q9, hr y (by simp [Un.caps]) q10⟩
theorem rok_caps {F : Nat → Prop} {own : Nat → Nat} {w : World} {db : Nat} {e : Un} (h : e.ok F own w db) {y : Fl} (hy : y ∈ e.caps) : ROK F own w y := by
  rcases e with ⟨b1, b2, b3, b4, b5, s, wd, k, there, A0, c0⟩ | ⟨cut, b1, b2, b3, s, y'⟩ | ⟨b1, b2, b3, b4, b5, b6, to, from_, other, y2, y'⟩
  · simp [Un.caps] at hy
  · simp [Un.caps] at hy
    subst hy
    exact h.2.2.2.2
  · simp [Un.caps] at hy
    rcases hy with rfl | rfl
    · exact h.2.2.2.2.2.2.2.2.1
    · exact h.2.2.2.2.2.2.2.2.2
/-- The owner of a file's block. -/
theorem rok_own {F : Nat → Prop} {own : Nat → Nat} {w : World} {x y : Fl} (hx : ROK F own w x) (hy : ROK F own w y) (e : x.A = y.A) (hn : x.A ≠ none) : x.i = y.i := by
  obtain ⟨_, _, _, hx⟩ := hx
  obtain ⟨_, _, _, hy⟩ := hy
  rcases hx with ⟨q, _⟩ | ⟨g, _, q1, _, q2, _⟩
  · exact absurd q hn
  · rcases hy with ⟨q, _⟩ | ⟨g', _, q3, _, q4, _⟩
    · rw [e, q] at hn; exact absurd rfl hn
    · rw [e, q3] at q1
      injection q1 with q1
      injection q1 with q1
      subst q1
      rw [← q2, q4]
end Disk
end Go.Proofs.Ytdcppjpjlhbanaa
