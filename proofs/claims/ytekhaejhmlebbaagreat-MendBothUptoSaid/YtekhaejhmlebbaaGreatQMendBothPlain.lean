/-
 Two who exchange leaf by leaf come to hold the same (layer 14).
-/
import Derived.Test.YtekhaejhmlebbaaGreatQMendKeyPlain
import Derived.Test.YtekhaejhmlebbaaGreatQMendWritten
import Derived.Test.YtekhaejhmlebbaaGreatQMendHeldUp
namespace Go.Proofs.YtekhaejhmlebbaaGreat
namespace Mend
open Go.RowKit Vers Num Ring Disk Blk Tree
open Go.Proofs.YtekhaejhmlebbaaGreat.Code hiding Bn
def leafOf (k : Nm) : Int × Int := (dig0 k, dig1 k)
theorem in_leafOf (d e : Int) (k : Nm) : inP [d, e] k = true ↔ leafOf k = (d, e) := by
 unfold leafOf
 simp [inP, Prod.ext_iff]
structure Two (a b : List Rc) : Prop where
 la : Lst a
 lb : Lst b
 fine : okB a b
 pl : ∀ k, getF a k ≠ [] ∨ getF b k ≠ [] → plB (getF a k ++ getF b k) = true
theorem two_of {a b : List Rc} (la : Lst a) (lb : Lst b) (fine : okB a b) (h1 : wrB a b = true) (h2 : wrB b a = true) : Two a b := ⟨la, lb, fine, fun k hk => by
 by_cases ha : getF a k = []
 ·have hb : getF b k ≠ [] := hk.resolve_left (fun h => h ha)
  have h := List.all_eq_true.1 h2 _ (mem_getF hb)
  unfold wrOne at h
  simp only [Bool.and_eq_true] at h
  have h3 := h.2
  rw [ha, List.append_nil] at h3
  rw [ha, List.nil_append]
  exact h3
 ·have h := List.all_eq_true.1 h1 _ (mem_getF ha)
  unfold wrOne at h
  simp only [Bool.and_eq_true] at h
  exact h.2⟩
def wF (a b : List Rc) (k : Nm) : List Vr := getF (nowF a b) k
section
variable {a b x y : List Rc} {P : List (Int × Int)}
theorem Two.twMerge (h : Two a b) (k : Nm) : mergeF (getF a k) (getF b k) = (wF a b k, 0) := by
 unfold wF
 rw [(get_now h.lb.1 a h.la.2 k).1]
 exact fine_mg h.la.2 h.lb.1 h.fine k
theorem Two.twNone (h : Two a b) {k : Nm} (hw : wF a b k = []) : getF a k = [] ∧ getF b k = [] := by
 refine Classical.byContradiction fun hn => ?_
 have hne : getF a k ≠ [] ∨ getF b k ≠ [] := by
  by_cases ha : getF a k = []
  ·exact .inr fun hb => hn ⟨ha, hb⟩
  ·exact .inl ha
 exact merge_some (h.twMerge k) (h.pl k hne) hne hw
theorem Two.twLeft (h : Two a b) (k : Nm) : mergeF (getF a k) (wF a b k) = (wF a b k, 0) ∧ mergeF (getF b k) (wF a b k) = (wF a b k, 0) := by
 by_cases hw : wF a b k = []
 ·obtain ⟨h1, h2⟩ := h.twNone hw
  rw [hw, h1, h2]
  exact ⟨merge_nil right_nil, merge_nil right_nil⟩
 ·have hne : getF a k ≠ [] ∨ getF b k ≠ [] := by
   refine Classical.byContradiction fun hn => hw ?_
   have h1 : getF a k = [] := Classical.byContradiction fun e => hn (.inl e)
   have h2 : getF b k = [] := Classical.byContradiction fun e => hn (.inr e)
   have := h.twMerge k
   rw [h1, h2, merge_nil right_nil] at this
   injection this with e1 e2
   exact e1.symm
  have h3 := merge_left (h.twMerge k) (h.pl k hne)
  exact ⟨by rw [merge_comm]; exact h3.1, by rw [merge_comm]; exact h3.2⟩
def Ex (a b : List Rc) (P : List (Int × Int)) (x y : List Rc) : Prop :=
 Lst x ∧ Lst y ∧ (∀ k, getF x k = if leafOf k ∈ P then wF a b k else getF a k) ∧ ∀ k, getF y k = if leafOf k ∈ P then wF a b k else getF b k
theorem Two.twStart (h : Two a b) : Ex a b [] a b := ⟨h.la, h.lb, fun k => by simp, fun k => by simp⟩
theorem beneath_hel {x : List Rc} (h : Hel x) (p : List Int) : Hel (beneath x p) := hel_filter h _
theorem get_beneath {x : List Rc} (h : Hel x) (p : List Int) (k : Nm) : getF (beneath x p) k = if inP p k = true then getF x k else [] := by
 unfold beneath
 rw [get_filter h]
theorem Ex.exSame (h : Ex a b P x y) (ha : Hel a) {p : List Int} (hp : ∀ k, inP p k = true → leafOf k ∉ P) : beneath x p = beneath a p := by
 refine hel_ext (beneath_hel h.1.1 p) (beneath_hel ha p) fun k => ?_
 rw [get_beneath h.1.1, get_beneath ha]
 split
 ·rename_i hk
  rw [h.2.2.1, if_neg (hp k hk)]
 ·rfl
theorem Ex.exKids (h : Ex a b P x y) (ha : Hel a) {d : Int} (hd : 0 ≤ d ∧ d < 16) (hp : ∀ l ∈ P, l.1 ≠ d) : kidsF x [d] = kidsF a [d] := by
 unfold kidsF
 rw [if_pos ⟨ok_one.2 hd, by simp⟩, if_pos ⟨ok_one.2 hd, by simp⟩]
 refine List.map_congr_left fun i hi => ?_
 have hi := List.mem_range.1 hi
 refine hash_same (ok_two.2 ⟨hd, by omega⟩) (h.exSame ha fun k hk hm => ?_)
 have := (in_leafOf d i k).1 hk
 exact hp _ hm (by rw [this])
theorem okL_sub {x y : List Rc} (h : okL x) (hs : ∀ r ∈ y, r ∈ x) : okL y := fun r hr => h r (hs r hr)
theorem Ex.exStep (h : Ex a b P x y) (ht : Two a b) {d e : Int} (hde : okP [d, e]) (hn : (d, e) ∉ P) :
  Ex a b (P ++ [(d, e)]) ((takeF x (giveF ((takeF y (beneath a [d, e])).foldl withR y) [d, e] (beneath a [d, e]))).foldl withR x) ((takeF y (beneath a [d, e])).foldl withR y) ∧ okL (giveF ((takeF y (beneath a [d, e])).foldl withR y) [d, e] (beneath a [d, e])) := by
 obtain ⟨lx, ly, gx, gy⟩ := h
 obtain ⟨S, hS⟩ : ∃ S, beneath a [d, e] = S := ⟨_, rfl⟩
 have hSh : Hel S := by rw [← hS]; exact beneath_hel ht.la.1 _
 have hSo : okL S := by rw [← hS]; exact okL_sub ht.la.2 fun r hr => (beneath_mem.1 hr).1
 have gS : ∀ k, getF S k = if leafOf k = (d, e) then getF a k else [] := fun k => by
  rw [← hS, get_beneath ht.la.1]
  by_cases hk : leafOf k = (d, e)
  ·rw [if_pos hk, if_pos ((in_leafOf d e k).2 hk)]
  ·rw [if_neg hk, if_neg fun q => hk ((in_leafOf d e k).1 q)]
 rw [hS]
 obtain ⟨y', hy'⟩ : ∃ y', (takeF y S).foldl withR y = y' := ⟨_, rfl⟩
 have ly' : Lst y' := by rw [← hy']; exact ly.fold (take_okL ly.1 ly.2 hSo)
 have gy' : ∀ k, getF y' k = if leafOf k ∈ P ++ [(d, e)] then wF a b k else getF b k := fun k => by
  rw [← hy', get_took ly.1 ly.2 hSh, gS, gy]
  by_cases hk : leafOf k = (d, e)
  ·have hkP : leafOf k ∉ P := by rw [hk]; exact hn
   have hkP2 : leafOf k ∈ P ++ [(d, e)] := by rw [hk]; simp
   rw [if_pos hk, if_neg hkP, if_pos hkP2]
   have hm : mg1 (getF b k) (getF a k) = wF a b k := by
    unfold mg1
    rw [merge_comm, ht.twMerge k]
    rfl
   rw [hm]
   by_cases hw : wF a b k = []
   ·rw [if_pos hw, (ht.twNone hw).2, hw]
   ·rw [if_neg hw]
  ·have hR : RightV (if leafOf k ∈ P then wF a b k else getF b k) := by
    split
    ·exact (merge_right (ht.twMerge k)).2.2.2.2
    ·exact getF_right ht.lb.2 k
   rw [if_neg hk, mg1_nil hR]
   rw [ite_self]
   by_cases hkP : leafOf k ∈ P
   ·rw [if_pos hkP, if_pos (by simp [hkP])]
   ·rw [if_neg hkP, if_neg (by simp [hkP, hk])]
 rw [hy']
 obtain ⟨G, hG⟩ : ∃ G, giveF y' [d, e] S = G := ⟨_, rfl⟩
 have hG2 : G = (beneath y' [d, e]).filter fun r => lacksF (getF S r.1) r.2 := by
  rw [← hG]
  unfold giveF recsF
  rw [if_pos hde, held_self ly'.1, held_self hSh]
 have hGh : Hel G := by rw [hG2]; exact hel_filter (beneath_hel ly'.1 _) _
 have hGo : okL G := by rw [hG2]; exact okL_sub ly'.2 fun r hr => (beneath_mem.1 (List.mem_filter.1 hr).1).1
 have gG : ∀ k, getF G k = if leafOf k = (d, e) ∧ wF a b k ≠ getF a k then wF a b k else [] := fun k => by
  rw [hG2, get_filter (beneath_hel ly'.1 _), get_beneath ly'.1, gS, gy']
  by_cases hk : leafOf k = (d, e)
  ·have hkP2 : leafOf k ∈ P ++ [(d, e)] := by rw [hk]; simp
   rw [if_pos ((in_leafOf d e k).2 hk), if_pos hk, if_pos hkP2]
   have hl : lacksF (getF a k) (wF a b k) = decide (wF a b k ≠ getF a k) := by
    unfold lacksF
    rw [(ht.twLeft k).1]
    simp
   rw [hl]
   by_cases hw : wF a b k = getF a k
   ·rw [if_neg (by simp [hw]), if_neg (by simp [hw])]
   ·rw [if_pos (by simp [hw]), if_pos ⟨hk, hw⟩]
  ·rw [if_neg fun q => hk ((in_leafOf d e k).1 q), ite_self, if_neg fun q => hk q.1]
 rw [hG]
 refine ⟨⟨lx.fold (take_okL lx.1 lx.2 hGo), ly', fun k => ?_, gy'⟩, hGo⟩
 rw [get_took lx.1 lx.2 hGh, gG, gx]
 by_cases hk : leafOf k = (d, e)
 ·have hkP : leafOf k ∉ P := by rw [hk]; exact hn
  have hkP2 : leafOf k ∈ P ++ [(d, e)] := by rw [hk]; simp
  rw [if_neg hkP, if_pos hkP2]
  by_cases hw : wF a b k = getF a k
  ·rw [show (if leafOf k = (d, e) ∧ wF a b k ≠ getF a k then wF a b k else []) = [] from if_neg (fun q => q.2 hw), mg1_nil (getF_right ht.la.2 k), ite_self, hw]
  ·rw [show (if leafOf k = (d, e) ∧ wF a b k ≠ getF a k then wF a b k else []) = wF a b k from if_pos ⟨hk, hw⟩]
   have hm : mg1 (getF a k) (wF a b k) = wF a b k := by
    unfold mg1
    rw [(ht.twLeft k).1]
    rfl
   rw [hm]
   by_cases h0 : wF a b k = []
   ·exact absurd (h0.trans (ht.twNone h0).1.symm) hw
   ·rw [if_neg h0]
 ·have hR : RightV (if leafOf k ∈ P then wF a b k else getF a k) := by
   split
   ·exact (merge_right (ht.twMerge k)).2.2.2.2
   ·exact getF_right ht.la.2 k
  rw [show (if leafOf k = (d, e) ∧ wF a b k ≠ getF a k then wF a b k else []) = [] from if_neg (fun q => hk q.1), mg1_nil hR, ite_self]
  by_cases hkP : leafOf k ∈ P
  ·rw [if_pos hkP, if_pos (by simp [hkP])]
  ·rw [if_neg hkP, if_neg (by simp [hkP, hk])]
theorem Ex.exDone (h : Ex a b P x y) (ht : Two a b) (hdb : ∀ p, okP p → ¬ dbF a b p) (hP : P = (diffF (kidsF b []) (kidsF a [])).flatMap (leavesF a b)) : x = y ∧ x = nowF a b := by
 have hk : ∀ k, leafOf k ∉ P → getF a k = wF a b k ∧ getF b k = wF a b k := fun k hk => by
  have h0 := dig0_range k
  have h1 := dig1_range k
  have hab : getF a k = getF b k := by
   by_cases hd : dig0 k ∈ diffF (kidsF b []) (kidsF a [])
   ·have he : dig1 k ∉ diffF (kidsF a [dig0 k]) (kidsF b [dig0 k]) := fun he => hk (by
     rw [hP]
     exact List.mem_flatMap.2 ⟨_, hd, List.mem_map.2 ⟨_, he, rfl⟩⟩)
    have hh : hashF a [dig0 k, dig1 k] = hashF b [dig0 k, dig1 k] := by
     refine Classical.byContradiction fun hne => he ?_
     unfold diffF
     refine List.mem_map.2 ⟨(dig1 k).toNat, List.mem_filter.2 ⟨List.mem_range.2 (by omega), ?_⟩, by omega⟩
     have e1 : (((dig1 k).toNat : Nat) : Int) = dig1 k := by omega
     rw [kids_at (ok_one.2 h0) (by simp) (by omega), kids_at (ok_one.2 h0) (by simp) (by omega), e1]
     simpa using hne
    have hr : recsF a [dig0 k, dig1 k] = recsF b [dig0 k, dig1 k] := Classical.byContradiction fun hne => hdb _ (ok_two.2 ⟨h0, h1⟩) ⟨hh, hne⟩
    unfold recsF at hr
    rw [if_pos (ok_two.2 ⟨h0, h1⟩), if_pos (ok_two.2 ⟨h0, h1⟩)] at hr
    have h2 := get_beneath ht.la.1 [dig0 k, dig1 k] k
    have h3 := get_beneath ht.lb.1 [dig0 k, dig1 k] k
    rw [if_pos (by simp [inP])] at h2 h3
    rw [← h2, ← h3, hr]
   ·have hh : hashF a [dig0 k] = hashF b [dig0 k] := by
     refine Classical.byContradiction fun hne => hd ?_
     unfold diffF
     refine List.mem_map.2 ⟨(dig0 k).toNat, List.mem_filter.2 ⟨List.mem_range.2 (by omega), ?_⟩, by omega⟩
     have e1 : (((dig0 k).toNat : Nat) : Int) = dig0 k := by omega
     rw [kids_at ok_zero (by simp) (by omega), kids_at ok_zero (by simp) (by omega), e1]
     simpa using fun q : hashF b [dig0 k] = hashF a [dig0 k] => hne q.symm
    have hr : recsF a [dig0 k] = recsF b [dig0 k] := Classical.byContradiction fun hne => hdb _ (ok_one.2 h0) ⟨hh, hne⟩
    unfold recsF at hr
    rw [if_pos (ok_one.2 h0), if_pos (ok_one.2 h0)] at hr
    have h2 := get_beneath ht.la.1 [dig0 k] k
    have h3 := get_beneath ht.lb.1 [dig0 k] k
    rw [if_pos (by simp [inP])] at h2 h3
    rw [← h2, ← h3, hr]
  have hm := ht.twMerge k
  rw [← hab, merge_self (getF_right ht.la.2 k)] at hm
  injection hm with e1 e2
  exact ⟨e1, hab ▸ e1⟩
 have hx : ∀ k, getF x k = wF a b k := fun k => by
  rw [h.2.2.1]
  split
  ·rfl
  ·rename_i q; exact (hk k q).1
 have hy : ∀ k, getF y k = wF a b k := fun k => by
  rw [h.2.2.2]
  split
  ·rfl
  ·rename_i q; exact (hk k q).2
 exact ⟨hel_ext h.1.1 h.2.1.1 fun k => (hx k).trans (hy k).symm, hel_ext h.1.1 (now_hel ht.la.1 b) hx⟩
theorem keys_nodup {x : List Rc} (h : Srt x) : (x.map Prod.fst).Nodup := by
 rw [List.Nodup, List.pairwise_map]
 exact List.Pairwise.imp (fun hxy e => nlt_ne hxy e) h
theorem Ex.exLen (h : Ex a b P x y) (ht : Two a b) : x.length ≤ a.length + b.length ∧ y.length ≤ a.length + b.length := by
 have main : ∀ z : List Rc, Hel z → (∀ k, getF z k ≠ [] → getF a k ≠ [] ∨ getF b k ≠ []) → z.length ≤ a.length + b.length := fun z hz hk => by
  have h1 := nodup_len (l := z.map Prod.fst) (m := (a ++ b).map Prod.fst) (keys_nodup hz.1) fun k hkz => by
   obtain ⟨r, hr, rfl⟩ := List.mem_map.1 hkz
   have hg := getF_mem hz.1 hr
   have hne : getF z r.1 ≠ [] := by rw [hg]; exact hz.2 r hr
   rcases hk r.1 hne with h | h
   ·exact List.mem_map.2 ⟨_, List.mem_append.2 (.inl (mem_getF h)), rfl⟩
   ·exact List.mem_map.2 ⟨_, List.mem_append.2 (.inr (mem_getF h)), rfl⟩
  simpa using h1
 have hw : ∀ k, wF a b k ≠ [] → getF a k ≠ [] ∨ getF b k ≠ [] := fun k hk => by
  refine Classical.byContradiction fun hn => hk ?_
  have h1 : getF a k = [] := Classical.byContradiction fun e => hn (.inl e)
  have h2 : getF b k = [] := Classical.byContradiction fun e => hn (.inr e)
  have := ht.twMerge k
  rw [h1, h2, merge_nil right_nil] at this
  injection this with e1 e2
  exact e1.symm
 refine ⟨main x h.1.1 fun k hk => ?_, main y h.2.1.1 fun k hk => ?_⟩
 ·rw [h.2.2.1] at hk
  split at hk
  ·exact hw k hk
  ·exact .inl hk
 ·rw [h.2.2.2] at hk
  split at hk
  ·exact hw k hk
  ·exact .inr hk
end
end Mend
end Go.Proofs.YtekhaejhmlebbaaGreat
