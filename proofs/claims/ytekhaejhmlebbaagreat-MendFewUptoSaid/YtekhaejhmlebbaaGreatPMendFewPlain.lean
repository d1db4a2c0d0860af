/-
  Where two differ under some keys alone: how many places are found (layer 14).
-/
import Derived.Test.YtekhaejhmlebbaaGreatPHMendC
import Derived.Test.YtekhaejhmlebbaaGreatPHMendB
namespace Go.Proofs.YtekhaejhmlebbaaGreat
namespace Mend
open Go.RowKit Vers Num Ring Disk Blk Tree
open Go.Proofs.YtekhaejhmlebbaaGreat.Code hiding Bn
theorem find_append {β : Type} (l m : List (Nm × β)) (k : Nm) : find (l ++ m) k = (find l k).or (find m k) := by
  induction l with
  | nil => simp [find]
  | cons x l ih =>
    show (if x.1 = k then some x.2 else find (l ++ m) k) = (if x.1 = k then some x.2 else find l k).or (find m k)
    by_cases h : x.1 = k
    · rw [if_pos h, if_pos h]; rfl
    · rw [if_neg h, if_neg h, ih]
theorem hel_snoc {l : List Rc} {r : Rc} (h : Hel (l ++ [r])) : Hel l ∧ r.2 ≠ [] ∧ find l r.1 = none := by
  obtain ⟨h1, h2⟩ := h
  have h3 := List.pairwise_append.1 h1
  refine ⟨⟨h3.1, fun x hx => h2 x (by simp [hx])⟩, h2 r (by simp), find_none.2 fun x hx e => ?_⟩
  exact nlt_ne (h3.2.2 x hx r (by simp)) e
theorem with_snoc {l : List Rc} {r : Rc} (h : Hel (l ++ [r])) : withR l r = l ++ [r] := by
  obtain ⟨h1, h2, h3⟩ := hel_snoc h
  refine hel_ext (h1.with r) h fun k => ?_
  rw [get_with]
  unfold getF
  rw [find_append]
  by_cases hk : k = r.1
  · subst hk
    rw [if_pos rfl, h3]
    simp [find]
  · rw [if_neg hk]
    have : find [r] k = none := find_none.2 fun x hx e => by
      rw [List.mem_singleton.1 hx] at e
      exact hk e.symm
    rw [this, Option.or_none]
/-- What is held already, is held as it is. -/
theorem held_self : ∀ {l : List Rc}, Hel l → heldF l = l := by
  have h : ∀ (n : Nat) (l : List Rc), l.length = n → Hel l → heldF l = l := by
    intro n
    induction n with
    | zero =>
      intro l hn _
      rw [List.eq_nil_of_length_eq_zero hn]
      rfl
    | succ n ih =>
      intro l hn hl
      have hne : l ≠ [] := by intro e; rw [e] at hn; simp at hn
      have e := List.dropLast_concat_getLast hne
      rw [← e] at hl ⊢
      rw [held_snoc, ih _ (by simp; omega) (hel_snoc hl).1, with_snoc hl]
  intro l hl
  exact h _ _ rfl hl
theorem diff_self (a : List Int) : diffF a a = [] := by
  unfold diffF
  simp
theorem diff_nodup (a b : List Int) : (diffF a b).Nodup := by
  unfold diffF
  rw [List.Nodup, List.pairwise_map]
  refine List.Pairwise.imp ?_ (List.Pairwise.filter _ List.nodup_range)
  intro x y h e
  exact h (by omega)
theorem diff_mem {a b : List Int} {d : Int} (h : d ∈ diffF a b) : ∃ i : Nat, d = i ∧ i < 16 ∧ a.getD i 0 ≠ b.getD i 0 := by
  unfold diffF at h
  obtain ⟨i, hi, rfl⟩ := List.mem_map.1 h
  obtain ⟨h1, h2⟩ := List.mem_filter.1 hi
  exact ⟨i, rfl, List.mem_range.1 h1, by simpa using h2⟩
theorem kids_at {all : List Rc} {p : List Int} (hp : okP p) (h2 : p.length < 2) {i : Nat} (hi : i < 16) : (kidsF all p).getD i 0 = hashF all (p ++ [(i : Int)]) := by
  unfold kidsF
  rw [if_pos ⟨hp, h2⟩, List.getD_eq_getElem?_getD, List.getElem?_map, List.getElem?_range hi]
  rfl
/-- What is laid elsewhere leaves what is beneath a path. -/
theorem beneath_with {all : List Rc} (hs : Srt all) {r : Rc} {p : List Int} (h : inP p r.1 = false) : beneath (withR all r) p = beneath all p := by
  refine srt_mem (beneath_srt (with_srt hs r) p) (beneath_srt hs p) fun x => ?_
  rw [beneath_mem, beneath_mem, with_mem]
  constructor
  · rintro ⟨⟨rfl, _⟩ | ⟨h1, _⟩, h2⟩
    · rw [h] at h2; cases h2
    · exact ⟨h1, h2⟩
  · rintro ⟨h1, h2⟩
    refine ⟨.inr ⟨h1, fun e => ?_⟩, h2⟩
    rw [e, h] at h2
    cases h2
theorem beneath_fold {p : List Int} (m : List Rc) : ∀ a : List Rc, Srt a → (∀ r ∈ m, inP p r.1 = false) → beneath (m.foldl withR a) p = beneath a p := by
  induction m with
  | nil => exact fun _ _ _ => rfl
  | cons r m ih =>
    intro a hs h
    rw [List.foldl_cons, ih _ (with_srt hs r) (fun x hx => h x (by simp [hx])), beneath_with hs (h r (by simp))]
theorem hash_same {a b : List Rc} {p : List Int} (hp : okP p) (h : beneath a p = beneath b p) : hashF a p = hashF b p := by
  unfold hashF
  rw [if_pos hp, if_pos hp]
  exact hF_congr _ _ _ _ hp (by have := hp.2; omega) h
/-- Where hashes differ a key of the changed ones lies. -/
theorem differ_key {a m : List Rc} (hs : Srt a) {p : List Int} (hp : okP p) (h : hashF (m.foldl withR a) p ≠ hashF a p) : ∃ r ∈ m, inP p r.1 = true := by
  refine Classical.byContradiction fun hn => h (hash_same hp (beneath_fold m a hs fun r hr => ?_))
  cases e : inP p r.1 with
  | false => rfl
  | true => exact absurd ⟨r, hr, e⟩ hn
theorem in_one {d : Int} {k : Nm} (h : inP [d] k = true) : dig0 k = d := by simpa [inP] using h
theorem in_two {d e : Int} {k : Nm} (h : inP [d, e] k = true) : dig0 k = d ∧ dig1 k = e := by simpa [inP] using h
theorem first_len {a m : List Rc} (hs : Srt a) : (diffF (kidsF (m.foldl withR a) []) (kidsF a [])).length ≤ m.length := by
  have h := nodup_len (l := diffF (kidsF (m.foldl withR a) []) (kidsF a [])) (m := m.map fun r => dig0 r.1) (diff_nodup _ _) fun d hd => by
    obtain ⟨i, rfl, hi, hne⟩ := diff_mem hd
    rw [kids_at ok_zero (by simp) hi, kids_at ok_zero (by simp) hi] at hne
    obtain ⟨r, hr, hin⟩ := differ_key hs (ok_one.2 (by omega)) hne
    exact List.mem_map.2 ⟨r, hr, in_one hin⟩
  simpa using h
/-- The leaves that are found beneath a digit. -/
def leavesF (a b : List Rc) (d : Int) : List (Int × Int) := (diffF (kidsF a [d]) (kidsF b [d])).map fun e => (d, e)
theorem leaves_nodup (a b : List Rc) : ∀ D : List Int, D.Nodup → (D.flatMap (leavesF a b)).Nodup := by
  intro D
  induction D with
  | nil => intro _; simp
  | cons d D ih =>
    intro h
    obtain ⟨h1, h2⟩ := List.nodup_cons.1 h
    rw [List.flatMap_cons, List.nodup_append]
    refine ⟨?_, ih h2, fun x hx y hy e => ?_⟩
    · unfold leavesF
      rw [List.Nodup, List.pairwise_map]
      refine List.Pairwise.imp ?_ (diff_nodup (kidsF a [d]) (kidsF b [d]))
      intro x y hxy e
      exact hxy (by injection e)
    · obtain ⟨d', hd', hy'⟩ := List.mem_flatMap.1 hy
      unfold leavesF at hx hy'
      obtain ⟨_, _, rfl⟩ := List.mem_map.1 hx
      obtain ⟨_, _, rfl⟩ := List.mem_map.1 hy'
      injection e with e1 e2
      exact h1 (e1 ▸ hd')
theorem leaves_len {a m : List Rc} (hs : Srt a) : ((diffF (kidsF (m.foldl withR a) []) (kidsF a [])).flatMap (leavesF a (m.foldl withR a))).length ≤ m.length := by
  have h := nodup_len (m := m.map fun r => (dig0 r.1, dig1 r.1)) (leaves_nodup a (m.foldl withR a) _ (diff_nodup (kidsF (m.foldl withR a) []) (kidsF a []))) fun x hx => by
    obtain ⟨d, hd, hx⟩ := List.mem_flatMap.1 hx
    unfold leavesF at hx
    obtain ⟨e, he, rfl⟩ := List.mem_map.1 hx
    have hd2 := diff_range hd
    have ok1 : okP [d] := ok_one.2 hd2
    obtain ⟨i, rfl, hi, hne⟩ := diff_mem he
    rw [kids_at ok1 (by simp) hi, kids_at ok1 (by simp) hi] at hne
    obtain ⟨r, hr, hin⟩ := differ_key hs (ok_two.2 ⟨hd2, by omega⟩) (Ne.symm hne)
    obtain ⟨e1, e2⟩ := in_two hin
    exact List.mem_map.2 ⟨r, hr, by rw [e1, e2]⟩
  simpa using h
theorem leaves_take {a b : List Rc} {D : List Int} {i : Nat} {d : Int} (hi : i < D.length) (hd : D.getD i 0 = d) : ((D.take (i + 1)).flatMap (leavesF a b)).length = ((D.take i).flatMap (leavesF a b)).length + (diffF (kidsF a [d]) (kidsF b [d])).length := by
  have e : D[i] = d := by
    rw [List.getD_eq_getElem?_getD, List.getElem?_eq_getElem hi] at hd
    exact hd
  rw [List.take_succ_eq_append_getElem hi, List.flatMap_append, List.length_append, e]
  simp [leavesF]
end Mend
end Go.Proofs.YtekhaejhmlebbaaGreat
