/-
 Where two differ under some keys alone: how many places are found (layer 14).
-/
import Derived.Test.YtekhaejhmlebbaaGreatQHMendC
import Derived.Test.YtekhaejhmlebbaaGreatQHMendB
namespace Go.Proofs.YtekhaejhmlebbaaGreat
namespace Mend
open Go.RowKit Vers Num Ring Disk Blk Tree
open Go.Proofs.YtekhaejhmlebbaaGreat.Code hiding Bn
theorem find_append {β : Type} (l m : List (Nm × β)) (k : Nm) : find (l ++ m) k = (find l k).or (find m k) := by
 induction l with
 | nil => simp [find]
 | cons x l ih =>
  show (if x.1 = k then some x.2 else find (l ++ m) k) = (if x.1 = k then some x.2 else find l k).or (find m k)
  by_cases h : x.1 = k
  ·rw [if_pos h, if_pos h]; rfl
  ·rw [if_neg h, if_neg h, ih]
theorem hel_snoc {l : List Rc} {r : Rc} (h : Hel (l ++ [r])) : Hel l ∧ r.2 ≠ [] ∧ find l r.1 = none := by
 obtain ⟨h1, h2⟩ := h
 have h3 := List.pairwise_append.1 h1
 refine ⟨⟨h3.1, fun x hx => h2 x (by simp [hx])⟩, h2 r (by simp), find_none.2 fun x hx e => ?_⟩
 exact nlt_ne (h3.2.2 x hx r (by simp)) e
theorem with_snoc {l : List Rc} {r : Rc} (h : Hel (l ++ [r])) : withR l r = l ++ [r] := by
 obtain ⟨h1, h2, h3⟩ := hel_snoc h
 refine hel_ext (h1.with r) h fun k => ?_
 rw [get_with]
 unfold getF
 rw [find_append]
 by_cases hk : k = r.1
 ·subst hk
  rw [if_pos rfl, h3]
  simp [find]
 ·rw [if_neg hk]
  have : find [r] k = none := find_none.2 fun x hx e => by
   rw [List.mem_singleton.1 hx] at e
   exact hk e.symm
  rw [this, Option.or_none]
theorem held_self : ∀ {l : List Rc}, Hel l → heldF l = l := by
 have h : ∀ (n : Nat) (l : List Rc), l.length = n → Hel l → heldF l = l := by
  intro n
  induction n with
  | zero =>
   intro l hn _
   rw [List.eq_nil_of_length_eq_zero hn]
   rfl
  | succ n ih =>
   intro l hn hl
   have hne : l ≠ [] := by intro e; rw [e] at hn; simp at hn
   have e := List.dropLast_concat_getLast hne
   rw [← e] at hl ⊢
   rw [held_snoc, ih _ (by simp; omega) (hel_snoc hl).1, with_snoc hl]
 intro l hl
 exact h _ _ rfl hl
theorem diff_nodup (a b : List Int) : (diffF a b).Nodup := by
 unfold diffF
 rw [List.Nodup, List.pairwise_map]
 refine List.Pairwise.imp ?_ (List.Pairwise.filter _ List.nodup_range)
 intro x y h e
 exact h (by omega)
theorem kids_at {all : List Rc} {p : List Int} (hp : okP p) (h2 : p.length < 2) {i : Nat} (hi : i < 16) : (kidsF all p).getD i 0 = hashF all (p ++ [(i : Int)]) := by
 unfold kidsF
 rw [if_pos ⟨hp, h2⟩, List.getD_eq_getElem?_getD, List.getElem?_map, List.getElem?_range hi]
 rfl
theorem beneath_with {all : List Rc} (hs : Srt all) {r : Rc} {p : List Int} (h : inP p r.1 = false) : beneath (withR all r) p = beneath all p := by
 refine srt_mem (beneath_srt (with_srt hs r) p) (beneath_srt hs p) fun x => ?_
 rw [beneath_mem, beneath_mem, with_mem]
 constructor
 ·rintro ⟨⟨rfl, _⟩ | ⟨h1, _⟩, h2⟩
  ·rw [h] at h2; cases h2
  ·exact ⟨h1, h2⟩
 ·rintro ⟨h1, h2⟩
  refine ⟨.inr ⟨h1, fun e => ?_⟩, h2⟩
  rw [e, h] at h2
  cases h2
theorem hash_same {a b : List Rc} {p : List Int} (hp : okP p) (h : beneath a p = beneath b p) : hashF a p = hashF b p := by
 unfold hashF
 rw [if_pos hp, if_pos hp]
 exact hF_congr _ _ _ _ hp (by have := hp.2; omega) h
def leavesF (a b : List Rc) (d : Int) : List (Int × Int) := (diffF (kidsF a [d]) (kidsF b [d])).map fun e => (d, e)
end Mend
end Go.Proofs.YtekhaejhmlebbaaGreat
