/-
  Several texts of this family in one: MendFewPlain, MendKeyPlain, MendAnswer, MendSame, MendTake, MendGive, MendOpen, MendAwake.
-/
import Derived.Test.YtkfdplfgaddkmaaGreatK28
import Derived.Test.YtkfdplfgaddkmaaGreatK33
import Derived.Test.YtkfdplfgaddkmaaGreatK22
import Derived.Deep.RegionHeld3
import Derived.Deep.DrawnRows
import Derived.Test.YtkfdplfgaddkmaaGreatK21
import Derived.Test.YtkfdplfgaddkmaaGreatK19
import Derived.Test.YtkfdplfgaddkmaaGreatK13
import Derived.Test.YtkfdplfgaddkmaaGreatK24
import Derived.Deep.OwnRows
/-
 Where two differ under some keys alone: how many places are found (layer 14).
-/
namespace Go.Proofs.YtkfdplfgaddkmaaGreat
namespace Mend
open Go.RowKit Vers Num Ring Disk Blk Tree
open Go.Proofs.YtkfdplfgaddkmaaGreat.Code hiding Bn
theorem find_append {β : Type} (l m : List (Nm × β)) (k : Nm) : find (l ++ m) k = (find l k).or (find m k) := by
 induction l with
 | nil => simp [find]
 | cons x l ih =>
  show (if x.1 = k then some x.2 else find (l ++ m) k) = (if x.1 = k then some x.2 else find l k).or (find m k)
  by_cases h : x.1 = k
  ·rw [if_pos h, if_pos h]; rfl
  ·rw [if_neg h, if_neg h, ih]
theorem hel_snoc {l : List Rc} {r : Rc} (h : Hel (l ++ [r])) : Hel l ∧ r.2 ≠ [] ∧ find l r.1 = none := by
 obtain ⟨h1, h2⟩ := h
 have h3 := List.pairwise_append.1 h1
 refine ⟨⟨h3.1, fun x hx => h2 x (by simp [hx])⟩, h2 r (by simp), find_none.2 fun x hx e => ?_⟩
 exact nlt_ne (h3.2.2 x hx r (by simp)) e
theorem with_snoc {l : List Rc} {r : Rc} (h : Hel (l ++ [r])) : withR l r = l ++ [r] := by
 obtain ⟨h1, h2, h3⟩ := hel_snoc h
 refine hel_ext (h1.with r) h fun k => ?_
 rw [get_with]
 unfold getF
 rw [find_append]
 by_cases hk : k = r.1
 ·subst hk
  rw [if_pos rfl, h3]
  simp [find]
 ·rw [if_neg hk]
  have : find [r] k = none := find_none.2 fun x hx e => by
   rw [List.mem_singleton.1 hx] at e
   exact hk e.symm
  rw [this, Option.or_none]
theorem held_self : ∀ {l : List Rc}, Hel l → heldF l = l := by
 have h : ∀ (n : Nat) (l : List Rc), l.length = n → Hel l → heldF l = l := by
  intro n
  induction n with
  | zero =>
   intro l hn _
   rw [List.eq_nil_of_length_eq_zero hn]
   rfl
  | succ n ih =>
   intro l hn hl
   have hne : l ≠ [] := by intro e; rw [e] at hn; simp at hn
   have e := List.dropLast_concat_getLast hne
   rw [← e] at hl ⊢
   rw [held_snoc, ih _ (by simp; omega) (hel_snoc hl).1, with_snoc hl]
 intro l hl
 exact h _ _ rfl hl
theorem diff_nodup (a b : List Int) : (diffF a b).Nodup := by
 unfold diffF
 rw [List.Nodup, List.pairwise_map]
 refine List.Pairwise.imp ?_ (List.Pairwise.filter _ List.nodup_range)
 intro x y h e
 exact h (by omega)
theorem diff_mem {a b : List Int} {d : Int} (h : d ∈ diffF a b) : ∃ i : Nat, d = i ∧ i < 16 ∧ a.getD i 0 ≠ b.getD i 0 := by
 unfold diffF at h
 obtain ⟨i, hi, rfl⟩ := List.mem_map.1 h
 obtain ⟨h1, h2⟩ := List.mem_filter.1 hi
 exact ⟨i, rfl, List.mem_range.1 h1, by simpa using h2⟩
theorem kids_at {all : List Rc} {p : List Int} (hp : okP p) (h2 : p.length < 2) {i : Nat} (hi : i < 16) : (kidsF all p).getD i 0 = hashF all (p ++ [(i : Int)]) := by
 unfold kidsF
 rw [if_pos ⟨hp, h2⟩, List.getD_eq_getElem?_getD, List.getElem?_map, List.getElem?_range hi]
 rfl
theorem beneath_with {all : List Rc} (hs : Srt all) {r : Rc} {p : List Int} (h : inP p r.1 = false) : beneath (withR all r) p = beneath all p := by
 refine srt_mem (beneath_srt (with_srt hs r) p) (beneath_srt hs p) fun x => ?_
 rw [beneath_mem, beneath_mem, with_mem]
 constructor
 ·rintro ⟨⟨rfl, _⟩ | ⟨h1, _⟩, h2⟩
  ·rw [h] at h2; cases h2
  ·exact ⟨h1, h2⟩
 ·rintro ⟨h1, h2⟩
  refine ⟨.inr ⟨h1, fun e => ?_⟩, h2⟩
  rw [e, h] at h2
  cases h2
theorem beneath_fold {p : List Int} (m : List Rc) : ∀ a : List Rc, Srt a → (∀ r ∈ m, inP p r.1 = false) → beneath (m.foldl withR a) p = beneath a p := by
 induction m with
 | nil => exact fun _ _ _ => rfl
 | cons r m ih =>
  intro a hs h
  rw [List.foldl_cons, ih _ (with_srt hs r) (fun x hx => h x (by simp [hx])), beneath_with hs (h r (by simp))]
theorem hash_same {a b : List Rc} {p : List Int} (hp : okP p) (h : beneath a p = beneath b p) : hashF a p = hashF b p := by
 unfold hashF
 rw [if_pos hp, if_pos hp]
 exact hF_congr _ _ _ _ hp (by have := hp.2; omega) h
theorem differ_key {a m : List Rc} (hs : Srt a) {p : List Int} (hp : okP p) (h : hashF (m.foldl withR a) p ≠ hashF a p) : ∃ r ∈ m, inP p r.1 = true := by
 refine Classical.byContradiction fun hn => h (hash_same hp (beneath_fold m a hs fun r hr => ?_))
 cases e : inP p r.1 with
 | false => rfl
 | true => exact absurd ⟨r, hr, e⟩ hn
theorem in_one {d : Int} {k : Nm} (h : inP [d] k = true) : dig0 k = d := by simpa [inP] using h
theorem in_two {d e : Int} {k : Nm} (h : inP [d, e] k = true) : dig0 k = d ∧ dig1 k = e := by simpa [inP] using h
theorem first_len {a m : List Rc} (hs : Srt a) : (diffF (kidsF (m.foldl withR a) []) (kidsF a [])).length ≤ m.length := by
 have h := nodup_len (l := diffF (kidsF (m.foldl withR a) []) (kidsF a [])) (m := m.map fun r => dig0 r.1) (diff_nodup _ _) fun d hd => by
  obtain ⟨i, rfl, hi, hne⟩ := diff_mem hd
  rw [kids_at ok_zero (by simp) hi, kids_at ok_zero (by simp) hi] at hne
  obtain ⟨r, hr, hin⟩ := differ_key hs (ok_one.2 (by omega)) hne
  exact List.mem_map.2 ⟨r, hr, in_one hin⟩
 simpa using h
def leavesF (a b : List Rc) (d : Int) : List (Int × Int) := (diffF (kidsF a [d]) (kidsF b [d])).map fun e => (d, e)
theorem leaves_nodup (a b : List Rc) : ∀ D : List Int, D.Nodup → (D.flatMap (leavesF a b)).Nodup := by
 intro D
 induction D with
 | nil => intro _; simp
 | cons d D ih =>
  intro h
  obtain ⟨h1, h2⟩ := List.nodup_cons.1 h
  rw [List.flatMap_cons, List.nodup_append]
  refine ⟨?_, ih h2, fun x hx y hy e => ?_⟩
  ·unfold leavesF
   rw [List.Nodup, List.pairwise_map]
   refine List.Pairwise.imp ?_ (diff_nodup (kidsF a [d]) (kidsF b [d]))
   intro x y hxy e
   exact hxy (by injection e)
  ·obtain ⟨d', hd', hy'⟩ := List.mem_flatMap.1 hy
   unfold leavesF at hx hy'
   obtain ⟨_, _, rfl⟩ := List.mem_map.1 hx
   obtain ⟨_, _, rfl⟩ := List.mem_map.1 hy'
   injection e with e1 e2
   exact h1 (e1 ▸ hd')
theorem leaves_len {a m : List Rc} (hs : Srt a) : ((diffF (kidsF (m.foldl withR a) []) (kidsF a [])).flatMap (leavesF a (m.foldl withR a))).length ≤ m.length := by
 have h := nodup_len (m := m.map fun r => (dig0 r.1, dig1 r.1)) (leaves_nodup a (m.foldl withR a) _ (diff_nodup (kidsF (m.foldl withR a) []) (kidsF a []))) fun x hx => by
  obtain ⟨d, hd, hx⟩ := List.mem_flatMap.1 hx
  unfold leavesF at hx
  obtain ⟨e, he, rfl⟩ := List.mem_map.1 hx
  have hd2 := diff_range hd
  have ok1 : okP [d] := ok_one.2 hd2
  obtain ⟨i, rfl, hi, hne⟩ := diff_mem he
  rw [kids_at ok1 (by simp) hi, kids_at ok1 (by simp) hi] at hne
  obtain ⟨r, hr, hin⟩ := differ_key hs (ok_two.2 ⟨hd2, by omega⟩) (Ne.symm hne)
  obtain ⟨e1, e2⟩ := in_two hin
  exact List.mem_map.2 ⟨r, hr, by rw [e1, e2]⟩
 simpa using h
end Mend
end Go.Proofs.YtkfdplfgaddkmaaGreat

/-
 What is merged, taken and laid, key by key (layer 14).
-/
namespace Go.Proofs.YtkfdplfgaddkmaaGreat
namespace Mend
open Go.RowKit Vers Num Ring Disk Blk Tree
open Go.Proofs.YtkfdplfgaddkmaaGreat.Code hiding Bn
/-! ### Key by key -/
theorem getF_mem {a : List Rc} (ha : Srt a) {r : Rc} (hr : r ∈ a) : getF a r.1 = r.2 := by
 unfold getF
 rw [find_mem ha hr]
 rfl
theorem mem_getF {a : List Rc} {k : Nm} (h : getF a k ≠ []) : (k, getF a k) ∈ a := by
 unfold getF at h ⊢
 cases hf : find a k with
 | none => rw [hf] at h; exact absurd rfl h
 | some v => exact find_some hf
def mg1 (a b : List Vr) : List Vr := if (mergeF a b).2 = 0 then (mergeF a b).1 else a
theorem get_merge (now : List Rc) (r : Rc) (k : Nm) : getF (mergeR now r) k = if k = r.1 then mg1 (getF now k) r.2 else getF now k := by
 unfold mergeR mg1
 by_cases hk : k = r.1
 ·subst hk
  rw [if_pos rfl]
  split
  ·rw [get_with, if_pos rfl]
  ·rfl
 ·rw [if_neg hk]
  split
  ·rw [get_with, if_neg hk]
  ·rfl
theorem hel_cons {r : Rc} {l : List Rc} (h : Hel (r :: l)) : Hel l ∧ r.2 ≠ [] ∧ find l r.1 = none := by
 obtain ⟨h1, h2⟩ := h
 have h3 := List.pairwise_cons.1 h1
 exact ⟨⟨h3.2, fun x hx => h2 x (by simp [hx])⟩, h2 r (by simp), find_none.2 fun x hx e => nlt_ne (h3.1 x hx) e.symm⟩
theorem get_cons (r : Rc) (l : List Rc) (k : Nm) : getF (r :: l) k = if r.1 = k then r.2 else getF l k := by
 show (if r.1 = k then some r.2 else find l k).getD [] = _
 by_cases h : r.1 = k
 ·rw [if_pos h, if_pos h]; rfl
 ·rw [if_neg h, if_neg h]; rfl
theorem get_laid : ∀ (l : List Rc), Hel l → ∀ (a : List Rc) (k : Nm), getF (l.foldl withR a) k = if getF l k = [] then getF a k else getF l k := by
 intro l
 induction l with
 | nil => intro _ a k; rfl
 | cons r l ih =>
  intro h a k
  obtain ⟨h1, h2, h3⟩ := hel_cons h
  rw [List.foldl_cons, ih h1, get_with, get_cons]
  by_cases hk : k = r.1
  ·subst hk
   have h0 : getF l r.1 = [] := by unfold getF; rw [h3]; rfl
   rw [h0, if_pos rfl, if_pos rfl, if_pos rfl, if_neg h2]
  ·have hk2 : ¬ r.1 = k := fun e => hk e.symm
   rw [if_neg hk, if_neg hk2]
theorem hel_filter {l : List Rc} (h : Hel l) (f : Rc → Bool) : Hel (l.filter f) := ⟨List.Pairwise.filter _ h.1, fun x hx => h.2 x (List.mem_filter.1 hx).1⟩
theorem get_filter {l : List Rc} (h : Hel l) (f : Rc → Bool) (k : Nm) : getF (l.filter f) k = if f (k, getF l k) = true then getF l k else [] := by
 by_cases hg : getF l k = []
 ·rw [hg, ite_self]
  refine Classical.byContradiction fun hne => ?_
  have h1 := (List.mem_filter.1 (mem_getF hne)).1
  have h2 := getF_mem h.1 h1
  exact hne (h2.symm.trans hg)
 ·have hm := mem_getF hg
  by_cases hf : f (k, getF l k) = true
  ·rw [if_pos hf]
   exact getF_mem (hel_filter h f).1 (List.mem_filter.2 ⟨hm, hf⟩)
  ·rw [if_neg hf]
   refine Classical.byContradiction fun hne => ?_
   have h1 := List.mem_filter.1 (mem_getF hne)
   have h2 : getF l k = getF (l.filter f) k := getF_mem h.1 h1.1
   rw [← h2] at h1
   exact hf h1.2
/-! ### Where all can be merged -/
theorem okB_cons {a t : List Rc} {r : Rc} (h : okB a (r :: t)) : (mergeF (getF a r.1) r.2).2 = 0 ∧ okB (mergeR a r) t := by
 refine ⟨by simpa using h 0 (by simp), fun k hk => ?_⟩
 have := h (k + 1) (by simpa using hk)
 simpa using this
theorem fine_at : ∀ {t : List Rc}, Hel t → ∀ {a : List Rc}, okB a t → ∀ {k : Nm}, getF t k ≠ [] → (mergeF (getF a k) (getF t k)).2 = 0 := by
 intro t
 induction t with
 | nil => intro _ a _ k h; exact absurd rfl h
 | cons r t ih =>
  intro h a hf k hk
  obtain ⟨h1, _, h3⟩ := hel_cons h
  obtain ⟨f1, f2⟩ := okB_cons hf
  rw [get_cons] at hk ⊢
  by_cases e : r.1 = k
  ·subst e
   rw [if_pos rfl]
   exact f1
  ·rw [if_neg e] at hk ⊢
   have := ih h1 f2 hk
   rwa [get_merge, if_neg (fun q => e q.symm)] at this
end Mend
end Go.Proofs.YtkfdplfgaddkmaaGreat

/-
 mend.Answer (layer 14).
-/
namespace Go.Proofs.YtkfdplfgaddkmaaGreat
namespace Mend
open Go.RowKit Vers Num Ring Disk Blk Tree
open Go.Proofs.YtkfdplfgaddkmaaGreat.Code hiding Bn
attribute [local go_sem ↓] Go.wp_at_zero Go.wp_at_succ
section
variable {F : Nat → Prop} {w V : World} {tb : Nat} {all : List Rc}
end
end Mend
end Go.Proofs.YtkfdplfgaddkmaaGreat

/-
 firthlaw14.steps: two lists of the same steps are the same.
-/
namespace Go.Proofs.YtkfdplfgaddkmaaGreat
namespace Mend
open Go.RowKit Vers Num Ring Disk Blk Tree
open Go.Proofs.YtkfdplfgaddkmaaGreat.Code hiding Bn
attribute [local go_sem ↓] Go.wp_at_zero Go.wp_at_succ
theorem StepsR.at {X : Nat → Prop} {t : TypeId} {base : Nat} {L : List Stp3} {A : Option Addr} {m c : Nat} {w : World} (h : StepsR X t base L (.slice A m c) w) (hL : L.length = m) {j : Nat} (hj : j < m) {s : Stp3} (hs : L[j]? = some s) :
  ∃ g, ∃ x : St, A = some ⟨g, 0, none⟩ ∧ base ≤ g ∧ g < w.heap.size ∧ w.cell? ⟨g, j * 3, none⟩ = some (slV x.1) ∧ w.cell? ⟨g, j * 3 + 1, none⟩ = some (slV x.2.1) ∧ w.cell? ⟨g, j * 3 + 2, none⟩ = some (slV x.2.2) ∧ StIs w x s := by
 obtain ⟨sts, h1, h2, h3⟩ := h
 have hj2 : j < sts.length := by omega
 have hx : sts[j]? = some sts[j] := List.getElem?_eq_getElem hj2
 have hst := (h3 j s _ hs hx).now
 rcases h2.2 with ⟨_, h0⟩ | ⟨g, cap, cur, hv, hbg, hg, rest⟩
 ·omega
 ·injection hv with e1 e2 e3
  subst e1
  rw [hL] at h2
  have hat := stcs_at sts j _ hx
  have hc := fun r (hr : r < 3) => (World.ownsRow.cellAt h2 (j * 3 + r) (by omega)).trans (hat r hr)
  refine ⟨g, sts[j], rfl, hbg, (Array.getElem?_eq_some_iff.1 hg).1, ?_, ?_, ?_, hst⟩
  ·exact hc 0 (by omega)
  ·exact hc 1 (by omega)
  ·exact hc 2 (by omega)
end Mend
end Go.Proofs.YtkfdplfgaddkmaaGreat

/-
 mend.Take (layer 14).
-/
namespace Go.Proofs.YtkfdplfgaddkmaaGreat
namespace Mend
open Go.RowKit Vers Num Ring Disk Blk Tree Go.Maps
open Go.Proofs.YtkfdplfgaddkmaaGreat.Code hiding Bn
attribute [local go_sem ↓] Go.wp_at_zero Go.wp_at_succ
def HoldN (w : World) (L B : Nat) (D : Vl) (M : List Rc) : Prop := ∀ k, (find M k = none ∧ find D k = none) ∨ ∃ lv A c, find M k = some lv ∧ find D k = some (.slice A lv.length c) ∧ Vs w L B A lv ∧ lv.length ≤ c ∧ RightV lv ∧ k.size ≤ 140737488355328
theorem HoldN.keep {w w' : World} {L B : Nat} {D : Vl} {M : List Rc} (h : HoldN w L B D M) (hk : ∀ p : Addr, L ≤ p.block → p.block < B → w'.cell? p = w.cell? p) : HoldN w' L B D M := fun k => by
 rcases h k with h | ⟨lv, A, c, h1, h2, h3, h4⟩
 ·exact .inl h
 ·exact .inr ⟨lv, A, c, h1, h2, h3.keep hk, h4⟩
theorem HoldN.more {w : World} {L B B' : Nat} {D : Vl} {M : List Rc} (h : HoldN w L B D M) (hB : B ≤ B') : HoldN w L B' D M := fun k => by
 rcases h k with h | ⟨lv, A, c, h1, h2, h3, h4⟩
 ·exact .inl h
 ·exact .inr ⟨lv, A, c, h1, h2, h3.more hB, h4⟩
theorem HoldN.put {w : World} {L B : Nat} {D : Vl} {M : List Rc} (h : HoldN w L B D M) {key : Nm} {lv : List Vr} {A : Option Addr} {c m : Nat} (hm : lv.length = m) (hv : Vs w L B A lv) (hc : m ≤ c) (h5 : RightV lv) (hz : key.size ≤ 140737488355328) : HoldN w L B (wit D key (.slice A m c)) (wit M key lv) := fun k => by
 rw [find_wit, find_wit]
 by_cases hk : k = key
 ·rw [if_pos hk, if_pos hk]
  exact .inr ⟨lv, A, c, rfl, by rw [hm], hv, by omega, h5, by rw [hk]; exact hz⟩
 ·rw [if_neg hk, if_neg hk]
  exact h k
def CollT (all : List Rc) (pick : Rc → Bool) (more : Rc → Prop) (ps : List Pr) : Prop := (ps.map Prod.fst).Nodup ∧ ∀ r, r ∈ ps.map Prod.fst ↔ r ∈ all ∧ pick r = true ∧ more r
theorem CollT.same {all : List Rc} {pick : Rc → Bool} {more more' : Rc → Prop} {ps : List Pr} (h : CollT all pick more ps) (hm : ∀ r, r ∈ all → pick r = true → (more r ↔ more' r)) : CollT all pick more' ps := by
 refine ⟨h.1, fun r => (h.2 r).trans ?_⟩
 constructor
 ·rintro ⟨h1, h2, h3⟩
  exact ⟨h1, h2, (hm r h1 h2).1 h3⟩
 ·rintro ⟨h1, h2, h3⟩
  exact ⟨h1, h2, (hm r h1 h2).2 h3⟩
theorem CollT.add {all : List Rc} {pick : Rc → Bool} {more more' : Rc → Prop} {ps : List Pr} (h : CollT all pick more ps) (p : Pr) (hp : p.1 ∈ all) (hl : pick p.1 = true) (hno : ¬ more p.1) (hm : ∀ r, r ∈ all → pick r = true → (more' r ↔ more r ∨ r = p.1)) : CollT all pick more' (ps ++ [p]) := by
 refine ⟨?_, fun r => ?_⟩
 ·rw [List.map_append, List.nodup_append]
  refine ⟨h.1, by simp, fun x hx y hy e => ?_⟩
  simp at hy
  subst hy
  subst e
  exact hno ((h.2 _).1 hx).2.2
 ·rw [List.map_append, List.mem_append, h.2 r]
  simp only [List.map_cons, List.map_nil, List.mem_singleton]
  constructor
  ·rintro (⟨h1, h2, h3⟩ | rfl)
   ·exact ⟨h1, h2, (hm r h1 h2).2 (.inl h3)⟩
   ·exact ⟨hp, hl, (hm _ hp hl).2 (.inr rfl)⟩
  ·rintro ⟨h1, h2, h3⟩
   rcases (hm r h1 h2).1 h3 with h4 | rfl
   ·exact .inl ⟨h1, h2, h4⟩
   ·exact .inr rfl
theorem CollT.len {all : List Rc} {pick : Rc → Bool} {more : Rc → Prop} {ps : List Pr} (h : CollT all pick more ps) : ps.length ≤ all.length := by
 have := nodup_len h.1 fun x hx => ((h.2 x).1 hx).1
 simpa using this
theorem collT_end {all : List Rc} (hs : Srt all) {pick : Rc → Bool} {more : Rc → Prop} {ps ps' : List Pr} (h : CollT all pick more ps) (hall : ∀ r ∈ all, more r) (h1 : ps'.Perm ps) (h2 : ps'.Pairwise fun x y => nlt y.1.1 x.1.1 = false) : ps'.map Prod.fst = all.filter pick := by
 have hmem : ∀ r, r ∈ ps'.map Prod.fst ↔ r ∈ all.filter pick := fun r => by
  rw [(h1.map Prod.fst).mem_iff, h.2 r, List.mem_filter]
  constructor
  ·rintro ⟨q1, q2, _⟩
   exact ⟨q1, q2⟩
  ·rintro ⟨q1, q2⟩
   exact ⟨q1, q2, hall r q1⟩
 have hnd : (ps'.map Prod.fst).Nodup := (h1.map Prod.fst).nodup_iff.2 h.1
 have hsrt : Srt (ps'.map Prod.fst) := by
  unfold Srt
  rw [List.pairwise_map]
  have hk : ps'.Pairwise fun x y => x.1 ≠ y.1 := by
   unfold List.Nodup at hnd
   rwa [List.pairwise_map] at hnd
  refine List.Pairwise.imp_of_mem ?_ (List.Pairwise.and hk h2)
  rintro x y hx hy ⟨e1, e2⟩
  have m1 := (List.mem_filter.1 ((hmem _).1 (List.mem_map.2 ⟨x, hx, rfl⟩))).1
  have m2 := (List.mem_filter.1 ((hmem _).1 (List.mem_map.2 ⟨y, hy, rfl⟩))).1
  refine nlt_tri e2 fun e => e1 ?_
  have f1 := find_mem hs m1
  have f2 := find_mem hs m2
  rw [← e, f2] at f1
  exact Prod.ext e.symm (by injection f1 with f1; exact f1.symm)
 exact srt_mem hsrt (List.Pairwise.filter _ hs) hmem
end Mend
end Go.Proofs.YtkfdplfgaddkmaaGreat

/-
 mend.Give (layer 14).
-/
namespace Go.Proofs.YtkfdplfgaddkmaaGreat
namespace Mend
open Go.RowKit Vers Num Ring Disk Blk Tree
open Go.Proofs.YtkfdplfgaddkmaaGreat.Code hiding Bn
attribute [local go_sem ↓] Go.wp_at_zero Go.wp_at_succ
end Mend
end Go.Proofs.YtkfdplfgaddkmaaGreat

/-
 mend.Open: the hashes by which one begins (layer 14).
-/
namespace Go.Proofs.YtkfdplfgaddkmaaGreat
namespace Mend
open Go.RowKit Vers Num Ring Disk Blk Tree
open Go.Proofs.YtkfdplfgaddkmaaGreat.Code hiding Bn
attribute [local go_sem ↓] Go.wp_at_zero Go.wp_at_succ
end Mend
end Go.Proofs.YtkfdplfgaddkmaaGreat

/-
 firthlaw14.awake.
-/
namespace Go.Proofs.YtkfdplfgaddkmaaGreat
namespace Mend
open Go.RowKit Vers Num Ring Disk Blk Tree
open Go.Proofs.YtkfdplfgaddkmaaGreat.Code hiding Bn
attribute [local go_sem ↓] Go.wp_at_zero Go.wp_at_succ
theorem vs_kk (w : World) : Vs (w.alloc (.cells #[.int .i64 1, .int .i64 1, .slice none 0 0, .bool false, .string ⟨#[118]⟩] 119)) 0 (w.heap.size + 1) (some ⟨w.heap.size, 0, none⟩) [kV] := fun _ => by
 have h1 := World.alloc_heap_new w (.cells #[.int .i64 1, .int .i64 1, .slice none 0 0, .bool false, .string ⟨#[118]⟩] 119)
 refine ⟨w.heap.size, 0, rfl, Nat.zero_le _, by omega, fun j hj => ?_⟩
 have hj0 : j = 0 := by simp at hj; omega
 subst hj0
 refine ⟨none, 0, ?_, ?_, ?_, ?_, ?_, fun h => by simp [kV, v0] at h, by simp [kV], by simp [kV], by simp [kV, ByteArray.size], fun h => by simp [kV] at h⟩
 all_goals (unfold World.cell?; rw [h1]; rfl)
theorem rs_one (w : World) {key : Nm} {A : Option Addr} {n c : Nat} {lv : List Vr} (hn : lv.length = n) (hc : n ≤ c) (hn2 : n ≤ 140737488355328) (hk : key.size ≤ 140737488355328) (hv : Vs w 0 w.heap.size A lv) : Rs (w.alloc (.cells #[.string key, .slice A n c] 70)) 0 (w.alloc (.cells #[.string key, .slice A n c] 70)).heap.size (some ⟨w.heap.size, 0, none⟩) [(key, lv)] := fun _ => by
 have h1 := World.alloc_heap_new w (.cells #[.string key, .slice A n c] 70)
 refine ⟨w.heap.size, 0, rfl, Nat.zero_le _, by simp, fun j hj => ?_⟩
 have hj0 : j = 0 := by simp at hj; omega
 subst hj0
 refine ⟨A, c, ?_, ?_, ?_, ?_, ?_, ?_⟩
 ·unfold World.cell?; rw [h1]; rfl
 ·unfold World.cell?; rw [h1]; subst hn; rfl
 ·exact (hv.alloc (Nat.le_refl _) _).more (by simp)
 ·subst hn; exact hc
 ·subst hn; exact hn2
 ·exact hk
end Mend
end Go.Proofs.YtkfdplfgaddkmaaGreat
