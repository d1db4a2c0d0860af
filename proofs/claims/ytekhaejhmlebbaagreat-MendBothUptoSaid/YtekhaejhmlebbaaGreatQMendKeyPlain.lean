/-
 What is merged, taken and laid, key by key (layer 14).
-/
import Derived.Test.YtekhaejhmlebbaaGreatQMendFewPlain
import Derived.Test.YtekhaejhmlebbaaGreatQMendPlainLaw
namespace Go.Proofs.YtekhaejhmlebbaaGreat
namespace Mend
open Go.RowKit Vers Num Ring Disk Blk Tree
open Go.Proofs.YtekhaejhmlebbaaGreat.Code hiding Bn
theorem behind_one (x : Vr) (s n : Int) : behind [x] s n ↔ Span.mem x.past s n := by simp [behind]
theorem under_mem {a b : List Sp} (h : underF a b = true) (x : Sp) (hx : x ∈ a) : ∃ y ∈ b, y.1 = x.1 ∧ y.2.1 ≤ x.2.1 ∧ x.2.2 ≤ y.2.2 := by
 obtain ⟨y, hy, h4⟩ := List.any_eq_true.1 (List.all_eq_true.1 h x hx)
 unfold Mend.inOne at h4
 simp only [Bool.and_eq_true, beq_iff_eq, decide_eq_true_eq] at h4
 exact ⟨y, hy, h4.1.symm, h4.2.1, h4.2.2⟩
theorem plain_of {a b : List Vr} (ra : RightV a) (rb : RightV b) (nt : ¬ Vers.Twin a b) (h : plB (a ++ b) = true) : plainF (a ++ b ++ []) := by
 rw [List.append_nil]
 have hok : ∀ x ∈ a ++ b, okV x := fun x hx => by
  rcases List.mem_append.1 hx with h | h
  ·exact ra.2.1.1 x h
  ·exact rb.2.1.1 x h
 intro x hx y hy
 have h1 := List.all_eq_true.1 (List.all_eq_true.1 h x hx) y hy
 unfold plP at h1
 refine ⟨fun hm => ?_, fun hs => ?_⟩
 ·rw [decide_eq_true ((behind_one x y.s y.n).2 hm)] at h1
  simp only [Bool.not_true, Bool.false_or, Bool.and_eq_true, Bool.not_eq_true', decide_eq_false_iff_not] at h1
  exact ⟨Span.within_yes (hok y hy).2.1 (hok x hx).2.1 fun z hz => under_mem h1.2 z hz, fun hn => h1.1 ((behind_one y x.s x.n).2 hn)⟩
 ·rcases List.mem_append.1 hx with h2 | h2
  ·rcases List.mem_append.1 hy with h3 | h3
   ·exact rising_same ra.2.1.2 h2 h3 hs
   ·exact Classical.byContradiction fun e => nt ⟨x, h2, y, h3, hs, e⟩
  ·rcases List.mem_append.1 hy with h3 | h3
   ·exact Classical.byContradiction fun e => nt ⟨y, h3, x, h2, same_symm hs, fun q => e q.symm⟩
   ·exact rising_same rb.2.1.2 h2 h3 hs
theorem plain_swap {a b : List Vr} (h : plainF (a ++ b ++ [])) : plainF (b ++ a ++ []) := by
 rw [List.append_nil] at h ⊢
 intro x hx y hy
 exact h x (by rw [List.mem_append] at *; exact hx.symm) y (by rw [List.mem_append] at *; exact hy.symm)
theorem merge_left {a b x : List Vr} (h : mergeF a b = (x, 0)) (hp : plB (a ++ b) = true) : mergeF x a = (x, 0) ∧ mergeF x b = (x, 0) := by
 obtain ⟨ra, rb, nt, _, _⟩ := merge_right h
 have hpl := plain_of ra rb nt hp
 refine ⟨?_, merge_again hpl h⟩
 rw [merge_comm] at h
 exact merge_again (plain_swap hpl) h
theorem merge_self {a : List Vr} (ra : RightV a) : mergeF a a = (a, 0) := by
 have nt : ¬ Vers.Twin a a := fun ⟨x, hx, y, hy, hs, hn⟩ => hn (rising_same ra.2.1.2 hx hy hs)
 have key : a = stayF a a := stay_one ra ra nt ⟨ra.2.1.2, fun v => ⟨fun hv => ⟨.inl hv, ra.2.2 v hv, ra.2.2 v hv⟩, fun h => h.1.elim id id⟩⟩
 rw [merge_ok ra ra nt (by rw [← key]; have := ra.1; omega), ← key]
theorem right_nil : RightV [] := ⟨by simp, ⟨by simp, List.Pairwise.nil⟩, by simp⟩
theorem merge_nil {a : List Vr} (ra : RightV a) : mergeF [] a = (a, 0) := by
 have nt : ¬ Vers.Twin [] a := fun ⟨x, hx, _⟩ => by cases hx
 have key : a = stayF [] a := stay_one right_nil ra nt ⟨ra.2.1.2, fun v => ⟨fun hv => ⟨.inr hv, by simp [behind], ra.2.2 v hv⟩, fun h => h.1.elim (fun q => by cases q) id⟩⟩
 rw [merge_ok right_nil ra nt (by rw [← key]; have := ra.1; omega), ← key]
theorem merge_some {a b x : List Vr} (h : mergeF a b = (x, 0)) (hp : plB (a ++ b) = true) (hne : a ≠ [] ∨ b ≠ []) : x ≠ [] := by
 obtain ⟨ra, rb, nt, hx, rx⟩ := merge_right h
 have hst := stay_is ra rb nt
 rw [← hx] at hst
 have hpl := plain_of ra rb nt hp
 have hb := behind_stay hpl (l := a) (m := b) (fun v hv => .inl hv) (fun v hv => .inr (.inl hv)) ra rb hst
 intro e
 rw [e] at hb hst
 have hno : ∀ s n, ¬ behind a s n ∧ ¬ behind b s n := fun s n => by
  have h1 := hb s n
  simp only [behind, List.not_mem_nil, false_and, exists_false, false_iff, not_or] at h1
  exact h1
 have hall : ∀ v, v ∈ a ∨ v ∈ b → False := fun v hv => by
  have := (hst.2 v).2 ⟨hv, (hno v.s v.n).1, (hno v.s v.n).2⟩
  cases this
 rcases hne with h1 | h1
 ·cases a with
  | nil => exact h1 rfl
  | cons v l => exact hall v (.inl (by simp))
 ·cases b with
  | nil => exact h1 rfl
  | cons v l => exact hall v (.inr (by simp))
/-! ### Key by key -/
theorem getF_right {a : List Rc} (ha : okL a) (k : Nm) : RightV (getF a k) := by
 unfold getF
 cases hf : find a k with
 | none => exact right_nil
 | some v => exact (ha _ (find_some hf)).2.2
theorem getF_mem {a : List Rc} (ha : Srt a) {r : Rc} (hr : r ∈ a) : getF a r.1 = r.2 := by
 unfold getF
 rw [find_mem ha hr]
 rfl
theorem mem_getF {a : List Rc} {k : Nm} (h : getF a k ≠ []) : (k, getF a k) ∈ a := by
 unfold getF at h ⊢
 cases hf : find a k with
 | none => rw [hf] at h; exact absurd rfl h
 | some v => exact find_some hf
def mg1 (a b : List Vr) : List Vr := if (mergeF a b).2 = 0 then (mergeF a b).1 else a
theorem get_merge (now : List Rc) (r : Rc) (k : Nm) : getF (mergeR now r) k = if k = r.1 then mg1 (getF now k) r.2 else getF now k := by
 unfold mergeR mg1
 by_cases hk : k = r.1
 ·subst hk
  rw [if_pos rfl]
  split
  ·rw [get_with, if_pos rfl]
  ·rfl
 ·rw [if_neg hk]
  split
  ·rw [get_with, if_neg hk]
  ·rfl
theorem hel_cons {r : Rc} {l : List Rc} (h : Hel (r :: l)) : Hel l ∧ r.2 ≠ [] ∧ find l r.1 = none := by
 obtain ⟨h1, h2⟩ := h
 have h3 := List.pairwise_cons.1 h1
 exact ⟨⟨h3.2, fun x hx => h2 x (by simp [hx])⟩, h2 r (by simp), find_none.2 fun x hx e => nlt_ne (h3.1 x hx) e.symm⟩
theorem get_cons (r : Rc) (l : List Rc) (k : Nm) : getF (r :: l) k = if r.1 = k then r.2 else getF l k := by
 show (if r.1 = k then some r.2 else find l k).getD [] = _
 by_cases h : r.1 = k
 ·rw [if_pos h, if_pos h]; rfl
 ·rw [if_neg h, if_neg h]; rfl
theorem mg1_nil {a : List Vr} (ra : RightV a) : mg1 a [] = a := by
 unfold mg1
 rw [merge_comm, merge_nil ra]
 rfl
theorem mg1_right {a b : List Vr} (ra : RightV a) : RightV (mg1 a b) := by
 unfold mg1
 split
 ·rename_i h
  exact (merge_right (r := (mergeF a b).1) (a := a) (b := b) (by rw [← h])).2.2.2.2
 ·exact ra
theorem get_now : ∀ {t : List Rc} (_ : Hel t) (was : List Rc) (_ : okL was) (k : Nm), getF (nowF was t) k = mg1 (getF was k) (getF t k) ∧ RightV (getF (nowF was t) k) := by
 have main : ∀ (t : List Rc), Hel t → ∀ (was : List Rc), (∀ k, RightV (getF was k)) → ∀ k, getF (nowF was t) k = mg1 (getF was k) (getF t k) := by
  intro t
  induction t with
  | nil =>
   intro _ was hw k
   show getF was k = mg1 (getF was k) []
   rw [mg1_nil (hw k)]
  | cons r t ih =>
   intro h was hw k
   obtain ⟨h1, _, h3⟩ := hel_cons h
   have hw2 : ∀ k, RightV (getF (mergeR was r) k) := fun k => by
    rw [get_merge]
    split
    ·exact mg1_right (hw k)
    ·exact hw k
   show getF (nowF (mergeR was r) t) k = _
   rw [ih h1 _ hw2 k, get_merge, get_cons]
   by_cases hk : k = r.1
   ·subst hk
    have h0 : getF t r.1 = [] := by unfold getF; rw [h3]; rfl
    rw [if_pos rfl, if_pos rfl, h0, mg1_nil (mg1_right (hw r.1))]
   ·rw [if_neg hk, if_neg (fun e => hk e.symm)]
 intro t ht was hw k
 have h := main t ht was (getF_right hw) k
 exact ⟨h, by rw [h]; exact mg1_right (getF_right hw k)⟩
theorem now_hel {was : List Rc} (h : Hel was) (t : List Rc) : Hel (nowF was t) := by
 unfold nowF
 have : ∀ (t acc : List Rc), Hel acc → Hel (t.foldl mergeR acc) := by
  intro t
  induction t with
  | nil => exact fun _ h => h
  | cons r t ih => exact fun acc h => ih _ (merge_hel h r)
 exact this t was h
theorem get_laid : ∀ (l : List Rc), Hel l → ∀ (a : List Rc) (k : Nm), getF (l.foldl withR a) k = if getF l k = [] then getF a k else getF l k := by
 intro l
 induction l with
 | nil => intro _ a k; rfl
 | cons r l ih =>
  intro h a k
  obtain ⟨h1, h2, h3⟩ := hel_cons h
  rw [List.foldl_cons, ih h1, get_with, get_cons]
  by_cases hk : k = r.1
  ·subst hk
   have h0 : getF l r.1 = [] := by unfold getF; rw [h3]; rfl
   rw [h0, if_pos rfl, if_pos rfl, if_pos rfl, if_neg h2]
  ·have hk2 : ¬ r.1 = k := fun e => hk e.symm
   rw [if_neg hk, if_neg hk2]
theorem hel_filter {l : List Rc} (h : Hel l) (f : Rc → Bool) : Hel (l.filter f) := ⟨List.Pairwise.filter _ h.1, fun x hx => h.2 x (List.mem_filter.1 hx).1⟩
theorem get_filter {l : List Rc} (h : Hel l) (f : Rc → Bool) (k : Nm) : getF (l.filter f) k = if f (k, getF l k) = true then getF l k else [] := by
 by_cases hg : getF l k = []
 ·rw [hg, ite_self]
  refine Classical.byContradiction fun hne => ?_
  have h1 := (List.mem_filter.1 (mem_getF hne)).1
  have h2 := getF_mem h.1 h1
  exact hne (h2.symm.trans hg)
 ·have hm := mem_getF hg
  by_cases hf : f (k, getF l k) = true
  ·rw [if_pos hf]
   exact getF_mem (hel_filter h f).1 (List.mem_filter.2 ⟨hm, hf⟩)
  ·rw [if_neg hf]
   refine Classical.byContradiction fun hne => ?_
   have h1 := List.mem_filter.1 (mem_getF hne)
   have h2 : getF l k = getF (l.filter f) k := getF_mem h.1 h1.1
   rw [← h2] at h1
   exact hf h1.2
theorem get_take {a : List Rc} (ha : Hel a) (hoa : okL a) {t : List Rc} (ht : Hel t) (k : Nm) : getF (takeF a t) k = if mg1 (getF a k) (getF t k) = getF a k then [] else mg1 (getF a k) (getF t k) := by
 unfold takeF
 rw [held_self ha, get_filter (now_hel ha t), (get_now ht a hoa k).1]
 by_cases h : mg1 (getF a k) (getF t k) = getF a k
 ·rw [if_pos h, if_neg (by simp [h])]
 ·rw [if_neg h, if_pos (by simp [h])]
theorem take_hel {a : List Rc} (ha : Hel a) (t : List Rc) : Hel (takeF a t) := by
 unfold takeF
 rw [held_self ha]
 exact hel_filter (now_hel ha t) _
theorem get_took {a : List Rc} (ha : Hel a) (hoa : okL a) {t : List Rc} (ht : Hel t) (k : Nm) : getF ((takeF a t).foldl withR a) k = if mg1 (getF a k) (getF t k) = [] then getF a k else mg1 (getF a k) (getF t k) := by
 rw [get_laid _ (take_hel ha t), get_take ha hoa ht]
 by_cases h : mg1 (getF a k) (getF t k) = getF a k
 ·rw [if_pos h, if_pos rfl, h, ite_self]
 ·rw [if_neg h]
theorem okL_merge {now : List Rc} (h : okL now) {r : Rc} (hr : okR r) : okL (mergeR now r) := by
 unfold mergeR
 split
 ·rename_i hm
  intro x hx
  rcases with_mem.1 hx with ⟨rfl, _⟩ | ⟨h1, _⟩
  ·exact ⟨hr.1, hr.2.1, (merge_right (r := (mergeF (getF now r.1) r.2).1) (a := getF now r.1) (b := r.2) (by rw [← hm])).2.2.2.2⟩
  ·exact h x h1
 ·exact h
theorem now_okL : ∀ (t : List Rc), okL t → ∀ a : List Rc, okL a → okL (nowF a t) := by
 intro t
 induction t with
 | nil => exact fun _ _ h => h
 | cons r t ih => exact fun ht a ha => ih (fun x hx => ht x (by simp [hx])) _ (okL_merge ha (ht r (by simp)))
theorem take_okL {a t : List Rc} (ha : Hel a) (hoa : okL a) (hot : okL t) : okL (takeF a t) := by
 unfold takeF
 rw [held_self ha]
 exact fun r hr => now_okL t hot a hoa r (List.mem_filter.1 hr).1
/-! ### Where all can be merged -/
theorem okB_cons {a t : List Rc} {r : Rc} (h : okB a (r :: t)) : (mergeF (getF a r.1) r.2).2 = 0 ∧ okB (mergeR a r) t := by
 refine ⟨by simpa using h 0 (by simp), fun k hk => ?_⟩
 have := h (k + 1) (by simpa using hk)
 simpa using this
theorem fine_at : ∀ {t : List Rc}, Hel t → ∀ {a : List Rc}, okB a t → ∀ {k : Nm}, getF t k ≠ [] → (mergeF (getF a k) (getF t k)).2 = 0 := by
 intro t
 induction t with
 | nil => intro _ a _ k h; exact absurd rfl h
 | cons r t ih =>
  intro h a hf k hk
  obtain ⟨h1, _, h3⟩ := hel_cons h
  obtain ⟨f1, f2⟩ := okB_cons hf
  rw [get_cons] at hk ⊢
  by_cases e : r.1 = k
  ·subst e
   rw [if_pos rfl]
   exact f1
  ·rw [if_neg e] at hk ⊢
   have := ih h1 f2 hk
   rwa [get_merge, if_neg (fun q => e q.symm)] at this
theorem fine_mg {a t : List Rc} (ha : okL a) (ht : Hel t) (hf : okB a t) (k : Nm) : mergeF (getF a k) (getF t k) = (mg1 (getF a k) (getF t k), 0) := by
 by_cases hk : getF t k = []
 ·rw [hk, mg1_nil (getF_right ha k), merge_comm, merge_nil (getF_right ha k)]
 ·have h := fine_at ht hf hk
  unfold mg1
  rw [if_pos h]
  exact Prod.ext rfl h
theorem now_len9 (l : List Rc) : ∀ was : List Rc, (nowF was l).length ≤ was.length + l.length := by
 induction l with
 | nil => intro was; simp [nowF]
 | cons r l ih =>
  intro was
  have h1 := ih (mergeR was r)
  have h2 := merge_len was r
  unfold nowF at h1 ⊢
  simp only [List.foldl_cons, List.length_cons]
  omega
end Mend
end Go.Proofs.YtekhaejhmlebbaaGreat
