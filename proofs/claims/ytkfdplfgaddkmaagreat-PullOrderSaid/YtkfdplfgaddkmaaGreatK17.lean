/-
  Several texts of this family in one: PullPlain, PullOwn, PullCut, PullHeld, PullNew, PullWanted.
-/
import Derived.Test.YtkfdplfgaddkmaaGreatK16
import Derived.Test.YtkfdplfgaddkmaaGreatK9
import Derived.Test.YtkfdplfgaddkmaaGreatK10
import Derived.Test.YtkfdplfgaddkmaaGreatK15
import Derived.Test.YtkfdplfgaddkmaaGreatK11
import Derived.Test.YtkfdplfgaddkmaaGreatK3
import Derived.Deep.RegionHeld3
import Derived.Deep.DrawnRows
import Derived.Deep.AppendLies
import Derived.Deep.RegionLaw
/-
 A pull in the plain: what is wanted, what is staged, and that the order in which answers come is nothing to it (layer 19).
-/
namespace Go.Proofs.YtkfdplfgaddkmaaGreat
namespace Pull
open Go.RowKit Vers Num Ring Disk Blk Tree Mend
open Go.Proofs.YtkfdplfgaddkmaaGreat.Code hiding Bn
def wantF (own : List Rc) (fr : List Int) (hs : List Int) : List (List Int) := (diffF (kidsF own fr) hs).map fun d => fr ++ [d]
def areF (leaf : List Int) (l : List Rc) : Bool := l.all fun r => decide (okR r) && decide ([dig0 r.1, dig1 r.1] = leaf)
section
variable {own cut st : List Rc} {W : List (List Int)} {T : List (Int × Int)}
def D0 (own cut : List Rc) : List Int := diffF (kidsF own []) (kidsF cut [])
def E0 (own cut : List Rc) (d : Int) : List Int := diffF (kidsF own [d]) (kidsF cut [d])
structure Tl (own cut : List Rc) (T : List (Int × Int)) (W : List (List Int)) (st : List Rc) : Prop where
 lst : Lst st
 get : ∀ k, getF st k = if leafOf k ∈ T then getF cut k else []
 nd : W.Nodup
 shape : ∀ p ∈ W, (∃ d, p = [d] ∧ d ∈ D0 own cut) ∨ ∃ d e, p = [d, e] ∧ d ∈ D0 own cut ∧ e ∈ E0 own cut d ∧ [d] ∉ W ∧ (d, e) ∉ T
 some : ∀ d e, d ∈ D0 own cut → e ∈ E0 own cut d → [d] ∈ W ∨ [d, e] ∈ W ∨ (d, e) ∈ T
 tn : T.Nodup
 tin : ∀ d e, (d, e) ∈ T → d ∈ D0 own cut ∧ e ∈ E0 own cut d ∧ [d] ∉ W
theorem one_inj {d d' : Int} (h : ([d] : List Int) = [d']) : d = d' := by injection h
theorem want_root (own cut : List Rc) : wantF own [] (kidsF cut []) = (D0 own cut).map fun d => [d] := rfl
theorem Tl.start (own cut : List Rc) : Tl own cut [] (wantF own [] (kidsF cut [])) [] := by
 rw [want_root]
 refine ⟨⟨⟨List.Pairwise.nil, fun x hx => by cases hx⟩, fun x hx => by cases hx⟩, fun k => by simp [getF, find], ?_, fun p hp => ?_, fun d e hd _ => .inl (List.mem_map.2 ⟨d, hd, rfl⟩), List.nodup_nil, fun d e h => by cases h⟩
 ·rw [List.Nodup, List.pairwise_map]
  exact List.Pairwise.imp (fun hxy e => hxy (one_inj e)) (diff_nodup _ _)
 ·obtain ⟨d, hd, rfl⟩ := List.mem_map.1 hp
  exact .inl ⟨d, rfl, hd⟩
def work (W : List (List Int)) : Nat := (W.map fun p => if p.length = 1 then 17 else 1).sum
theorem work_append (a b : List (List Int)) : work (a ++ b) = work a + work b := by simp [work]
theorem work_erase {W : List (List Int)} {p : List Int} (h : p ∈ W) : work W = (if p.length = 1 then 17 else 1) + work (W.erase p) := by
 induction W with
 | nil => cases h
 | cons x W ih =>
  by_cases hx : x = p
  ·subst hx
   rw [List.erase_cons_head]
   simp [work]
  ·have h2 : p ∈ W := (List.mem_cons.1 h).resolve_left fun e => hx e.symm
   rw [List.erase_cons_tail (by simpa using hx)]
   have := ih h2
   unfold work at this ⊢
   simp only [List.map_cons, List.sum_cons]
   omega
theorem work_ones (l : List (List Int)) (h : ∀ p ∈ l, p.length ≠ 1) : work l = l.length := by
 induction l with
 | nil => rfl
 | cons x l ih =>
  have h1 := ih fun p hp => h p (by simp [hp])
  unfold work at h1 ⊢
  simp only [List.map_cons, List.sum_cons, List.length_cons, if_neg (h x (by simp))]
  omega
theorem work_start (own cut : List Rc) : work (wantF own [] (kidsF cut [])) ≤ 272 := by
 rw [want_root]
 have h : (D0 own cut).length ≤ 16 := diff_16 _ _
 have e : work ((D0 own cut).map fun d => [d]) = (D0 own cut).length * 17 := by
  generalize D0 own cut = l
  induction l with
  | nil => rfl
  | cons x l ih =>
   unfold work at ih ⊢
   simp only [List.map_cons, List.sum_cons, List.length_cons, ih]
   simp
   omega
 omega
theorem Tl.one (h : Tl own cut T W st) {d : Int} (hd : [d] ∈ W) : Tl own cut T (W.erase [d] ++ wantF own [d] (kidsF cut [d])) st ∧ work (W.erase [d] ++ wantF own [d] (kidsF cut [d])) < work W := by
 have hdd : d ∈ D0 own cut := by
  rcases h.shape _ hd with ⟨d', e, hd'⟩ | ⟨d', e', e, _⟩
  ·rw [one_inj e]; exact hd'
  ·simp at e
 have hw : wantF own [d] (kidsF cut [d]) = (E0 own cut d).map fun e => [d, e] := rfl
 have hmem : ∀ p, p ∈ W.erase [d] ↔ p ≠ [d] ∧ p ∈ W := fun p => h.nd.mem_erase_iff
 have hnew : ∀ e, [d, e] ∉ W := fun e he => by
  rcases h.shape _ he with ⟨d', e', _⟩ | ⟨d', e', e2, _, _, h3, _⟩
  ·simp at e'
  ·injection e2 with e3 _
   exact h3 (e3 ▸ hd)
 have hno : [d] ∉ W.erase [d] ++ (E0 own cut d).map fun e => [d, e] := fun hm => by
  rcases List.mem_append.1 hm with hm | hm
  ·exact ((hmem _).1 hm).1 rfl
  ·obtain ⟨e, _, he⟩ := List.mem_map.1 hm
   simp at he
 have h1 : ∀ d' : Int, [d'] ∉ W → [d'] ∉ W.erase [d] ++ (E0 own cut d).map fun e => [d, e] := fun d' hn hm => by
  rcases List.mem_append.1 hm with hm | hm
  ·exact hn ((hmem _).1 hm).2
  ·obtain ⟨e, _, he⟩ := List.mem_map.1 hm
   simp at he
 rw [hw]
 refine ⟨⟨h.lst, h.get, ?_, fun p hp => ?_, fun d' e' hd' he' => ?_, h.tn, fun d' e' ht => ?_⟩, ?_⟩
 ·rw [List.nodup_append]
  refine ⟨h.nd.erase _, ?_, fun x hx y hy e => ?_⟩
  ·rw [List.Nodup, List.pairwise_map]
   exact List.Pairwise.imp (fun hxy e => hxy (by injection e with _ e; exact one_inj e)) (diff_nodup _ _)
  ·obtain ⟨e', _, rfl⟩ := List.mem_map.1 hy
   subst e
   exact hnew e' ((hmem _).1 hx).2
 ·rcases List.mem_append.1 hp with hp | hp
  ·obtain ⟨hne, hpW⟩ := (hmem _).1 hp
   rcases h.shape _ hpW with ⟨d', rfl, hd'⟩ | ⟨d', e', rfl, q1, q2, q3, q4⟩
   ·exact .inl ⟨d', rfl, hd'⟩
   ·exact .inr ⟨d', e', rfl, q1, q2, h1 d' q3, q4⟩
  ·obtain ⟨e', he', rfl⟩ := List.mem_map.1 hp
   exact .inr ⟨d, e', rfl, hdd, he', hno, fun ht => (h.tin _ _ ht).2.2 hd⟩
 ·rcases h.some d' e' hd' he' with q | q | q
  ·by_cases hdd' : d' = d
   ·subst hdd'
    exact .inr (.inl (List.mem_append.2 (.inr (List.mem_map.2 ⟨e', he', rfl⟩))))
   ·exact .inl (List.mem_append.2 (.inl ((hmem _).2 ⟨fun e => hdd' (one_inj e), q⟩)))
  ·exact .inr (.inl (List.mem_append.2 (.inl ((hmem _).2 ⟨by simp, q⟩))))
  ·exact .inr (.inr q)
 ·obtain ⟨q1, q2, q3⟩ := h.tin _ _ ht
  exact ⟨q1, q2, h1 d' q3⟩
 ·have e1 := work_erase hd
  have e2 : work ((E0 own cut d).map fun e => [d, e]) = (E0 own cut d).length := by
   rw [work_ones _ fun p hp => by obtain ⟨e, _, rfl⟩ := List.mem_map.1 hp; simp, List.length_map]
  have e3 : (E0 own cut d).length ≤ 16 := diff_16 _ _
  rw [work_append, e2]
  simp only [List.length_singleton, if_pos] at e1
  omega
theorem Tl.two (h : Tl own cut T W st) (hc : Lst cut) {d e : Int} (hd : [d, e] ∈ W) : Tl own cut ((d, e) :: T) (W.erase [d, e]) ((beneath cut [d, e]).foldl withR st) ∧ work (W.erase [d, e]) < work W ∧ areF [d, e] (beneath cut [d, e]) = true := by
 obtain ⟨q1, q2, q3, q4⟩ : d ∈ D0 own cut ∧ e ∈ E0 own cut d ∧ [d] ∉ W ∧ (d, e) ∉ T := by
  rcases h.shape _ hd with ⟨d', e', _⟩ | ⟨d', e', e2, r1, r2, r3, r4⟩
  ·simp at e'
  ·injection e2 with e3 e4
   have e5 := one_inj e4
   subst e3 e5
   exact ⟨r1, r2, r3, r4⟩
 have hmem : ∀ p, p ∈ W.erase [d, e] ↔ p ≠ [d, e] ∧ p ∈ W := fun p => h.nd.mem_erase_iff
 have hSh : Hel (beneath cut [d, e]) := beneath_hel hc.1 _
 have hSo : okL (beneath cut [d, e]) := okL_sub hc.2 fun r hr => (beneath_mem.1 hr).1
 refine ⟨⟨h.lst.fold hSo, fun k => ?_, h.nd.erase _, fun p hp => ?_, fun d' e' hd' he' => ?_, List.nodup_cons.2 ⟨q4, h.tn⟩, fun d' e' ht => ?_⟩, ?_, ?_⟩
 ·rw [get_laid _ hSh, get_beneath hc.1, h.get]
  by_cases hk : leafOf k = (d, e)
  ·have h1 : leafOf k ∈ (d, e) :: T := by rw [hk]; simp
   have h2 : leafOf k ∉ T := by rw [hk]; exact q4
   rw [if_pos ((in_leafOf d e k).2 hk), if_neg h2, if_pos h1]
   by_cases h3 : getF cut k = []
   ·rw [if_pos h3, h3]
   ·rw [if_neg h3]
  ·rw [if_neg fun q => hk ((in_leafOf d e k).1 q), if_pos rfl]
   by_cases h2 : leafOf k ∈ T
   ·rw [if_pos h2, if_pos (by simp [h2])]
   ·rw [if_neg h2, if_neg (by simp [h2, hk])]
 ·obtain ⟨hne, hpW⟩ := (hmem _).1 hp
  rcases h.shape _ hpW with ⟨d', rfl, hd'⟩ | ⟨d', e', rfl, r1, r2, r3, r4⟩
  ·exact .inl ⟨d', rfl, hd'⟩
  ·refine .inr ⟨d', e', rfl, r1, r2, fun hm => r3 ((hmem _).1 hm).2, fun hm => ?_⟩
   rcases List.mem_cons.1 hm with hm | hm
   ·injection hm with m1 m2
    exact hne (by rw [m1, m2])
   ·exact r4 hm
 ·rcases h.some d' e' hd' he' with q | q | q
  ·exact .inl ((hmem _).2 ⟨by simp, q⟩)
  ·by_cases hq : ([d', e'] : List Int) = [d, e]
   ·injection hq with m1 m2
    exact .inr (.inr (by rw [m1, one_inj m2]; simp))
   ·exact .inr (.inl ((hmem _).2 ⟨hq, q⟩))
  ·exact .inr (.inr (by simp [q]))
 ·rcases List.mem_cons.1 ht with hm | hm
  ·injection hm with m1 m2
   subst m1 m2
   exact ⟨q1, q2, fun hm => q3 ((hmem _).1 hm).2⟩
  ·obtain ⟨r1, r2, r3⟩ := h.tin _ _ hm
   exact ⟨r1, r2, fun hm => r3 ((hmem _).1 hm).2⟩
 ·have e1 := work_erase hd
  simp only [List.length_cons, List.length_nil] at e1
  simp at e1
  omega
 ·unfold areF
  refine List.all_eq_true.2 fun r hr => ?_
  have h1 := (beneath_mem.1 hr).2
  obtain ⟨e1, e2⟩ := in_two h1
  rw [decide_eq_true (hSo r hr), e1, e2]
  simp
theorem Tl.done (h : Tl own cut T [] st) (k : Nm) : getF st k = if dig0 k ∈ D0 own cut ∧ dig1 k ∈ E0 own cut (dig0 k) then getF cut k else [] := by
 rw [h.get]
 by_cases hk : leafOf k ∈ T
 ·rw [if_pos hk, if_pos]
  exact ⟨(h.tin _ _ hk).1, (h.tin _ _ hk).2.1⟩
 ·rw [if_neg hk, if_neg]
  rintro ⟨h1, h2⟩
  rcases h.some _ _ h1 h2 with q | q | q
  ·cases q
  ·cases q
  ·exact hk q
theorem Tl.whole (h : Tl own cut T [] st) (ho : Lst own) (hc : Lst cut) (hdb : ∀ p, okP p → ¬ dbF own cut p) (k : Nm) : getF st k = getF cut k ∨ (getF st k = [] ∧ getF own k = getF cut k) := by
 rw [h.done]
 by_cases hd : dig0 k ∈ D0 own cut ∧ dig1 k ∈ E0 own cut (dig0 k)
 ·rw [if_pos hd]
  exact .inl rfl
 ·rw [if_neg hd]
  refine .inr ⟨rfl, ?_⟩
  have h0 := dig0_range k
  have h1 := dig1_range k
  by_cases hd0 : dig0 k ∈ D0 own cut
  ·have he : dig1 k ∉ E0 own cut (dig0 k) := fun he => hd ⟨hd0, he⟩
   have hh : hashF own [dig0 k, dig1 k] = hashF cut [dig0 k, dig1 k] := by
    refine Classical.byContradiction fun hne => he ?_
    unfold E0 diffF
    refine List.mem_map.2 ⟨(dig1 k).toNat, List.mem_filter.2 ⟨List.mem_range.2 (by omega), ?_⟩, by omega⟩
    have e1 : (((dig1 k).toNat : Nat) : Int) = dig1 k := by omega
    rw [kids_at (ok_one.2 h0) (by simp) (by omega), kids_at (ok_one.2 h0) (by simp) (by omega), e1]
    simpa using hne
   have hr : recsF own [dig0 k, dig1 k] = recsF cut [dig0 k, dig1 k] := Classical.byContradiction fun hne => hdb _ (ok_two.2 ⟨h0, h1⟩) ⟨hh, hne⟩
   unfold recsF at hr
   rw [if_pos (ok_two.2 ⟨h0, h1⟩), if_pos (ok_two.2 ⟨h0, h1⟩)] at hr
   have h2 := get_beneath ho.1 [dig0 k, dig1 k] k
   have h3 := get_beneath hc.1 [dig0 k, dig1 k] k
   rw [if_pos (by simp [inP])] at h2 h3
   rw [← h2, ← h3, hr]
  ·have hh : hashF own [dig0 k] = hashF cut [dig0 k] := by
    refine Classical.byContradiction fun hne => hd0 ?_
    unfold D0 diffF
    refine List.mem_map.2 ⟨(dig0 k).toNat, List.mem_filter.2 ⟨List.mem_range.2 (by omega), ?_⟩, by omega⟩
    have e1 : (((dig0 k).toNat : Nat) : Int) = dig0 k := by omega
    rw [kids_at ok_zero (by simp) (by omega), kids_at ok_zero (by simp) (by omega), e1]
    simpa using hne
   have hr : recsF own [dig0 k] = recsF cut [dig0 k] := Classical.byContradiction fun hne => hdb _ (ok_one.2 h0) ⟨hh, hne⟩
   unfold recsF at hr
   rw [if_pos (ok_one.2 h0), if_pos (ok_one.2 h0)] at hr
   have h2 := get_beneath ho.1 [dig0 k] k
   have h3 := get_beneath hc.1 [dig0 k] k
   rw [if_pos (by simp [inP])] at h2 h3
   rw [← h2, ← h3, hr]
theorem Tl.theirs (h : Tl own cut T W st) {r : Rc} (hr : r ∈ st) : getF cut r.1 = r.2 := by
 have h1 := getF_mem h.lst.1.1 hr
 have h2 := h.get r.1
 rw [h1] at h2
 by_cases hk : leafOf r.1 ∈ T
 ·rw [if_pos hk] at h2
  exact h2.symm
 ·rw [if_neg hk] at h2
  exact absurd h2 (h.lst.1.2 r hr)
theorem Tl.order {st' : List Rc} {T' : List (Int × Int)} (h : Tl own cut T [] st) (h' : Tl own cut T' [] st') : st = st' :=
 hel_ext h.lst.1 h'.lst.1 fun k => by rw [h.done, h'.done]
theorem diff_comm (a b : List Int) : diffF a b = diffF b a := by
 unfold diffF
 congr 1
 refine List.filter_congr fun i _ => ?_
 simp [eq_comm]
theorem few_first {a m : List Rc} (ha : Srt a) : (wantF a [] (kidsF (m.foldl withR a) [])).length ≤ m.length := by
 rw [want_root, List.length_map]
 unfold D0
 rw [diff_comm]
 exact first_len ha
theorem Tl.few {a m : List Rc} (h : Tl a (m.foldl withR a) T W st) (ha : Srt a) : T.length ≤ m.length := by
 refine Nat.le_trans (nodup_len h.tn fun x hx => ?_) (leaves_len (m := m) ha)
 obtain ⟨d, e⟩ := x
 obtain ⟨h1, h2, _⟩ := h.tin d e hx
 unfold D0 at h1
 rw [diff_comm] at h1
 exact List.mem_flatMap.2 ⟨d, h1, List.mem_map.2 ⟨e, h2, rfl⟩⟩
end
end Pull
end Go.Proofs.YtkfdplfgaddkmaaGreat

/-
 A cut in memory (layer 19).
-/
namespace Go.Proofs.YtkfdplfgaddkmaaGreat
namespace Pull
open Go.RowKit Blk Go.Maps Disk Tree Vers Num Ring Mend
open Go.Proofs.YtkfdplfgaddkmaaGreat.Code hiding Bn
attribute [local go_sem ↓] Go.wp_at_zero Go.wp_at_succ
section
variable {F F' G : Nat → Prop} {w V V' : World} {P : World → Prop}
theorem sta_stp (h : Sta F V P) (hs : Stp F V F' V') : Sta F' V' P := h.go hs.1.size (fun k hk hn => hs.1.block k hk hn) fun k hk hF => (hs.2 k hF).elim id fun e => by omega
theorem sta_below (h : Sta F V P) (hb : Below V.heap.size V V') : Sta F V' P := h.go hb.size (fun k hk _ => hb.block k hk) fun _ _ hF => hF
theorem sta_chg (h : Sta F V P) (hc : Chg F V V') : Sta F V' P := h.go hc.size (fun k hk hn => hc.block k hk hn) fun _ _ hF => hF
theorem sta_ns {k : IntKind} {B : Nat} {A : Option Addr} {zs : List Int} (h : Ns k V B A zs) (hB : B ≤ V.heap.size) (hF : ∀ j, F j → B ≤ j) : Sta F V (fun W => Ns k W W.heap.size A zs) := fun W hs hk =>
 (h.keep fun p hp => World.cell?_of_block (hk p.block (by omega) fun e => by have := hF _ e; omega)).more (by omega)
theorem sta_rs {B : Nat} {A : Option Addr} {l : List Rc} (h : Rs V 0 B A l) (hB : B ≤ V.heap.size) (hF : ∀ j, F j → B ≤ j) : Sta F V (fun W => Rs W 0 W.heap.size A l) := fun W hs hk =>
 (h.keep fun p _ hp => World.cell?_of_block (hk p.block (by omega) fun e => by have := hF _ e; omega)).more (by omega)
theorem sta_row {k : IntKind} {base : Nat} {t : TypeId} {A : Option Addr} {n c : Nat} {zs : List Int} (h : V.ownsRow base t 1 (.slice A n c) n (nums k zs)) (hn : zs.length = n) (hF : ∀ g, (Value.slice A n c).ownBlock = some g → ¬ F g) : Sta F V (fun W => Ns k W W.heap.size A zs) := fun W hs hk => by
 subst hn
 exact own_ns (own_keep h fun g hg => hk g (h.lt g hg).2 (hF g hg))
end
structure CI (F : Nat → Prop) (w V : World) (cb : Nat) (id : Int) (vec : List Int) (all : List Rc) (tb : Nat) (Ft : Nat → Prop) (Av : Option Addr) (nv cv : Nat) : Prop where
 blk : Bn cb 85 [.int .i64 id, .slice Av nv cv, hd tb] V
 tree : On Ft w V tb all
 len : vec.length = nv
 row : V.ownsRow w.heap.size 2 1 (.slice Av nv cv) nv (nums .i64 vec)
 sub : ∀ k, Ft k → F k
 notb : ¬ Ft cb
 vown : ∀ g, (Value.slice Av nv cv).ownBlock = some g → F g ∧ ¬ Ft g
 own : F cb
 lt : ∀ k, F k → k < V.heap.size
 new : ∀ k, F k → w.heap.size ≤ k
 old : Below w.heap.size w V
 few : all.length ≤ 3518437208882
 vfew : nv ≤ 16
def CN (F : Nat → Prop) (w V : World) (cb : Nat) (id : Int) (vec : List Int) (all : List Rc) : Prop := ∃ tb Ft Av nv cv, CI F w V cb id vec all tb Ft Av nv cv
section
variable {F G Ft : Nat → Prop} {w V V' : World} {cb tb nv cv : Nat} {id : Int} {vec : List Int} {all : List Rc} {Av : Option Addr}
theorem CI.chg (h : CI F w V cb id vec all tb Ft Av nv cv) (hc : Chg G V V') (hG : ∀ k, F k → ¬ G k) (hw : ∀ k, G k → w.heap.size ≤ k) : CI F w V' cb id vec all tb Ft Av nv cv :=
 ⟨h.blk.same (hc.block _ h.blk.lt (hG _ h.own)), h.tree.chg hc (fun k hk => hG k (h.sub k hk)) hw, h.len, own_keep h.row (fun g hg => hc.block g (h.row.lt g hg).2 (hG g (h.vown g hg).1)), h.sub, h.notb, h.vown, h.own, fun k hk => Nat.lt_of_lt_of_le (h.lt k hk) hc.size, h.new, h.old.trans (hc.below hw h.old.size), h.few, h.vfew⟩
theorem CI.turn (h : CI F w V cb id vec all tb Ft Av nv cv) (ht : On Ft w V' tb all) (hc : Chg (fun k => k = tb) V V') : CI F w V' cb id vec all tb Ft Av nv cv := by
 have htb := h.tree.own
 exact ⟨h.blk.same (hc.block _ h.blk.lt fun e => h.notb (e ▸ htb)), ht, h.len, own_keep h.row (fun g hg => hc.block g (h.row.lt g hg).2 fun e => (h.vown g hg).2 (e ▸ htb)), h.sub, h.notb, h.vown, h.own, fun k hk => Nat.lt_of_lt_of_le (h.lt k hk) hc.size, h.new, h.old.trans (hc.below (fun k e => by rw [e]; exact h.new _ (h.sub _ htb)) h.old.size), h.few, h.vfew⟩
theorem CN.chg (h : CN F w V cb id vec all) (hc : Chg G V V') (hG : ∀ k, F k → ¬ G k) (hw : ∀ k, G k → w.heap.size ≤ k) : CN F w V' cb id vec all := by
 obtain ⟨tb, Ft, Av, nv, cv, h⟩ := h
 exact ⟨tb, Ft, Av, nv, cv, h.chg hc hG hw⟩
theorem CN.below (h : CN F w V cb id vec all) (hb : Below V.heap.size V V') : CN F w V' cb id vec all := h.chg (G := fun _ => False) (Chg.of_below hb) (fun _ _ h => h) fun _ h => h.elim
theorem CN.lt (h : CN F w V cb id vec all) {k : Nat} (hk : F k) : k < V.heap.size := by
 obtain ⟨tb, Ft, Av, nv, cv, h⟩ := h
 exact h.lt k hk
theorem CN.new (h : CN F w V cb id vec all) {k : Nat} (hk : F k) : w.heap.size ≤ k := by
 obtain ⟨tb, Ft, Av, nv, cv, h⟩ := h
 exact h.new k hk
theorem CN.old (h : CN F w V cb id vec all) : Below w.heap.size w V := by
 obtain ⟨tb, Ft, Av, nv, cv, h⟩ := h
 exact h.old
theorem CN.okA (h : CN F w V cb id vec all) : okAll all := by
 obtain ⟨tb, Ft, Av, nv, cv, h⟩ := h
 exact h.tree.okA
theorem CN.few (h : CN F w V cb id vec all) : all.length ≤ 3518437208882 := by
 obtain ⟨tb, Ft, Av, nv, cv, h⟩ := h
 exact h.few
end
end Pull
end Go.Proofs.YtkfdplfgaddkmaaGreat

/-
 What is done with a cut (layer 19).
-/
namespace Go.Proofs.YtkfdplfgaddkmaaGreat
namespace Pull
open Go.RowKit Blk Go.Maps Disk Tree Vers Num Ring Mend
open Go.Proofs.YtkfdplfgaddkmaaGreat.Code hiding Bn
attribute [local go_sem ↓] Go.wp_at_zero Go.wp_at_succ
def NewC (w V : World) (id : Int) (vec : List Int) (l : List Rc) (e : Ending) (w' : World) : Prop :=
 (Vect.RightV vec ∧ okL l ∧ ∃ cb, e = .returned (.tuple #[hd cb, .int .i64 0]) ∧ Hid (∃ F, CN F w w' cb id vec (layF l) ∧ (∀ k, F k → V.heap.size ≤ k)) ∧ Below V.heap.size V w') ∨
 (¬ (Vect.RightV vec ∧ okL l) ∧ e = .returned (.tuple #[.pointer none, .int .i64 1]) ∧ Below V.heap.size V w')
set_option maxRecDepth 100000 in
theorem newcut_any {w V : World} (hb : Below w.heap.size w V) (id : Int) (Av Al : Option Addr) (nv cv n c : Nat) (vec : List Int) (l : List Rc) (hnv : vec.length = nv) (hn : l.length = n) (hvb : nv ≤ 140737488355328) (hbig : n ≤ 3518437208882) (hrv : Ns .i64 V V.heap.size Av vec) (hr : Rs V 0 V.heap.size Al l) :
  Calls Tryz.prog 10 #[.int .i64 id, .slice Av nv cv, .slice Al n c] V (NewC w V id vec l) := by
 have H1 := Lib.hid (Vect.right_v Av cv nv vec hnv V hrv hvb)
 by_cases hv : Vect.RightV vec
 ·rw [decide_eq_true hv] at H1
  by_cases hok : okL l
  ·have H2 : Hid (∀ w1, Below V.heap.size V w1 → Calls Tryz.prog 45 #[.slice Al n c] w1 (fun e w' => ∃ tb, e = .returned (.tuple #[hd tb, .int .i64 0]) ∧ Hid (∃ F, On F w w' tb (layF l) ∧ (∀ k, F k → w1.heap.size ≤ k) ∧ Below w1.heap.size w1 w'))) := Lib.hid fun w1 b1 => on_new (hb.trans (b1.mono hb.size)) Al c n l hn hbig ((hr.below b1).more b1.size) hok
   have hv16 : nv ≤ 16 := by rw [← hnv]; exact hv.2.1
   have H3 : Hid (∀ w1, Below V.heap.size V w1 → Calls Tryz.prog 46 #[.slice Av nv cv] w1 (OwnW vec nv w1)) := Lib.hid fun w1 b1 => cloneW_any Av cv nv vec hnv w1 ((hrv.below b1).more b1.size) (by omega)
   have HP := Lib.hid (And.intro hb (And.intro hnv (And.intro hv (And.intro hok (And.intro (show (layF l).length ≤ 3518437208882 by have := layF_len l; omega) hv16)))))
   clear hb hnv hn hvb hbig hrv hr hv hok hv16
   go_enter Tryz.func10, Tryz.ntmps10
   go_wp2_with fail
   refine H1.out.mono ?_
   rintro e w1 ⟨rfl, b1⟩
   have K2 := Lib.hid (H2.out w1 b1)
   have HB1 := Lib.hid b1
   clear b1 H1 H2
   go_wp2_with fail
   refine K2.out.mono ?_
   rintro e w2 ⟨tb, rfl, h2⟩
   obtain ⟨Ft, ht, hnew, b2⟩ := h2.out
   have b12 : Below V.heap.size V w2 := HB1.out.trans (b2.mono HB1.out.size)
   have K3 := Lib.hid (H3.out w2 b12)
   have HT := Lib.hid (And.intro ht (And.intro (fun k hk => Nat.le_trans HB1.out.size (hnew k hk) : ∀ k, Ft k → V.heap.size ≤ k) b12))
   clear h2 ht hnew b2 b12 K2 H3
   unfold hd
   go_wp2_with fail
   refine K3.out.mono ?_
   rintro e w3 ⟨A1, c1, rfl, h3, b3⟩
   have HF : Hid (NewC w V id vec l (.returned (.tuple #[hd w3.heap.size, .int .i64 0])) (w3.alloc (.cells #[.int .i64 id, .slice A1 nv c1, hd tb] 85))) := Lib.hid (by
    have b3' : Below w2.heap.size w2 (w3.alloc (.cells #[.int .i64 id, .slice A1 nv c1, hd tb] 85)) := b3.alloc b3.size _
    have bV := HT.out.2.2.trans (b3'.mono HT.out.2.2.size)
    have hVw := HT.out.2.2.size
    have hwV := HP.out.1.size
    have ho : (w3.alloc (.cells #[.int .i64 id, .slice A1 nv c1, hd tb] 85)).ownsRow w2.heap.size 2 1 (.slice A1 nv c1) nv (nums .i64 vec) := h3.out.alloc _
    have hl3 : ∀ g, (Value.slice A1 nv c1).ownBlock = some g → w2.heap.size ≤ g ∧ g < w3.heap.size := fun g hg => h3.out.lt g hg
    have h23 := b3.size
    have htl : ∀ k, Ft k → k < w2.heap.size := fun k hk => HT.out.1.lt hk
    refine .inl ⟨HP.out.2.2.1, HP.out.2.2.2.1, w3.heap.size, rfl, Lib.hid ⟨fun k => Ft k ∨ k = w3.heap.size ∨ (Value.slice A1 nv c1).ownBlock = some k, ⟨tb, Ft, A1, nv, c1, World.alloc_heap_new _ _, HT.out.1.below b3', HP.out.2.1, own_base ho (by omega), fun k hk => .inl hk, fun h => ?_, fun g hg => ⟨.inr (.inr hg), fun h => ?_⟩, .inr (.inl rfl), fun k hk => ?_, fun k hk => ?_, HP.out.1.trans (bV.mono hwV), HP.out.2.2.2.2.1, HP.out.2.2.2.2.2⟩, fun k hk => ?_⟩, bV⟩
    ·have := htl _ h; omega
    ·have := htl _ h; have := hl3 g hg; omega
    ·rw [World.size_alloc]
     rcases hk with h | h | h
     ·have := htl _ h; omega
     ·omega
     ·have := hl3 k h; omega
    ·rcases hk with h | h | h
     ·have := HT.out.2.1 _ h; omega
     ·omega
     ·have := hl3 k h; omega
    ·rcases hk with h | h | h
     ·exact HT.out.2.1 _ h
     ·omega
     ·have := hl3 k h; omega)
   unfold hd at HF
   clear h3 b3 HT K3
   go_wp2_with fail
   go_ret2
   exact HF.out
  ·have H2 : Hid (∀ w1, Below V.heap.size V w1 → Calls Tryz.prog 45 #[.slice Al n c] w1 (fun e w' => e = .returned (.tuple #[.pointer none, .int .i64 1]) ∧ Below w1.heap.size w1 w')) := Lib.hid fun w1 b1 => no_new Al c n l hn hbig ((hr.below b1).more b1.size) hok
   have HP := Lib.hid hok
   clear hb hnv hn hvb hbig hrv hr hv hok
   go_enter Tryz.func10, Tryz.ntmps10
   go_wp2_with fail
   refine H1.out.mono ?_
   rintro e w1 ⟨rfl, b1⟩
   have K2 := Lib.hid (H2.out w1 b1)
   have HB1 := Lib.hid b1
   clear b1 H1 H2
   go_wp2_with fail
   refine K2.out.mono ?_
   rintro e w2 ⟨rfl, b2⟩
   have HF : Hid (NewC w V id vec l (.returned (.tuple #[.pointer none, .int .i64 1])) w2) := Lib.hid (.inr ⟨fun h => HP.out h.2, rfl, HB1.out.trans (b2.mono HB1.out.size)⟩)
   clear b2 K2
   go_wp2_with fail
   go_ret2
   exact HF.out
 ·rw [decide_eq_false hv] at H1
  have HP := Lib.hid hv
  clear hb hnv hn hvb hbig hrv hr hv
  go_enter Tryz.func10, Tryz.ntmps10
  go_wp2_with fail
  refine H1.out.mono ?_
  rintro e w1 ⟨rfl, b1⟩
  have HF : Hid (NewC w V id vec l (.returned (.tuple #[.pointer none, .int .i64 1])) w1) := Lib.hid (.inr ⟨fun h => HP.out h.1, rfl, b1⟩)
  clear b1 H1
  go_wp2_with fail
  go_ret2
  exact HF.out
section
variable {F Ft : Nat → Prop} {w V : World} {cb tb nv cv : Nat} {id : Int} {vec : List Int} {all : List Rc} {Av : Option Addr}
theorem CI.cells (h : CI F w V cb id vec all tb Ft Av nv cv) : V.cell? ⟨cb, 0, none⟩ = some (.int .i64 id) ∧ V.cell? ⟨cb, 1, none⟩ = some (.slice Av nv cv) ∧ V.cell? ⟨cb, 2, none⟩ = some (hd tb) := by
 have c0 := h.blk.cell 0
 have c1 := h.blk.cell 1
 have c2 := h.blk.cell 2
 simp only [List.getElem?_cons_zero, List.getElem?_cons_succ] at c0 c1 c2
 exact ⟨c0, c1, c2⟩
theorem CN.id_any (h : CN F w V cb id vec all) : Calls Tryz.prog 21 #[hd cb] V (fun e w' => e = .returned (.int .i64 id) ∧ V = w') := by
 obtain ⟨tb, Ft, Av, nv, cv, h⟩ := h
 obtain ⟨c0, c1, c2⟩ := h.cells
 unfold hd at *
 clear h
 go_enter Tryz.func21, Tryz.ntmps21
 go_wp2_with fail
 go_ret
 exact ⟨rfl, rfl⟩
def VecN (vec : List Int) (V : World) (e : Ending) (w' : World) : Prop := ∃ A c n, e = .returned (.slice A n c) ∧ Hid (vec.length = n ∧ n ≤ 16 ∧ w'.ownsRow V.heap.size 2 1 (.slice A n c) n (nums .i64 vec)) ∧ Below V.heap.size V w'
set_option maxRecDepth 100000 in
theorem CN.vec_any (h : CN F w V cb id vec all) : Calls Tryz.prog 18 #[hd cb] V (VecN vec V) := by
 obtain ⟨tb, Ft, Av, nv, cv, h⟩ := h
 obtain ⟨c0, c1, c2⟩ := h.cells
 have hrow := h.row
 have hlen := h.len
 have hns : Ns .i64 V V.heap.size Av vec := by
  subst hlen
  exact own_ns hrow
 have hv16 := h.vfew
 have K := Lib.hid (cloneW_any Av cv nv vec h.len V hns (by omega))
 have HP := Lib.hid (And.intro h.len hv16)
 unfold hd at *
 clear h hrow hlen hns c0 c2 hv16
 go_enter Tryz.func18, Tryz.ntmps18
 go_wp2_with fail
 refine K.out.mono ?_
 rintro e w3 ⟨A1, c1', rfl, h3, b3⟩
 have HF : Hid (VecN vec V (.returned (.slice A1 nv c1')) w3) := Lib.hid ⟨A1, c1', nv, rfl, Lib.hid ⟨HP.out.1, HP.out.2, h3.out⟩, b3⟩
 clear h3 b3 K c1
 go_wp2_with fail
 go_ret
 exact HF.out
def KidN (F : Nat → Prop) (w V : World) (cb : Nat) (id : Int) (vec : List Int) (all : List Rc) (zs : List Int) (A : Option Addr) (m c : Nat) (w' : World) : Prop :=
 zs.length = m ∧ m ≤ c ∧ Ns .u64 w' w'.heap.size A zs ∧ (∀ a, 0 < m → A = some a → V.heap.size ≤ a.block) ∧ CN F w w' cb id vec all ∧ Chg F V w'
set_option maxRecDepth 100000 in
theorem CN.open_any (h : CN F w V cb id vec all) : Calls Tryz.prog 19 #[hd cb] V (fun e w' => ∃ A m c, e = .returned (.slice A m c) ∧ Hid (KidN F w V cb id vec all (kidsF all []) A m c w')) := by
 obtain ⟨tb, Ft, Av, nv, cv, h⟩ := h
 obtain ⟨c0, c1, c2⟩ := h.cells
 have K := Lib.hid (h.tree.kids h.few none 0 0 [] rfl (by omega) ns_nil)
 have HC := Lib.hid h
 unfold hd at *
 clear h c0 c1
 go_enter Tryz.func19, Tryz.ntmps19
 go_wp2_with fail
 refine K.out.mono ?_
 rintro e w3 ⟨A1, m1, c1', rfl, h3⟩
 have HF : Hid (KidN F w V cb id vec all (kidsF all []) A1 m1 c1' w3) := Lib.hid (by
  obtain ⟨q1, q2, q3, q4, q5, q6⟩ := h3.out
  exact ⟨q1, q2, q3, q4, ⟨tb, Ft, Av, nv, cv, HC.out.turn q5 q6⟩, q6.mono fun k e => by rw [e]; exact HC.out.sub _ HC.out.tree.own⟩)
 clear h3 K c2
 go_wp2_with fail
 go_ret
 exact ⟨A1, m1, c1', rfl, HF⟩
end
end Pull
end Go.Proofs.YtkfdplfgaddkmaaGreat

/-
 A pull in memory (layer 19).
-/
namespace Go.Proofs.YtkfdplfgaddkmaaGreat
namespace Pull
open Go.RowKit Blk Go.Maps Disk Tree Vers Num Ring Mend
open Go.Proofs.YtkfdplfgaddkmaaGreat.Code hiding Bn
attribute [local go_sem ↓] Go.wp_at_zero Go.wp_at_succ
def HoldP (F M : Nat → Prop) (w : World) (D : Vl) (st : List Rc) : Prop := ∀ k, (find st k = none ∧ find D k = none) ∨ ∃ lv A c L B, find st k = some lv ∧ find D k = some (.slice A lv.length c) ∧ Vs w L B A lv ∧ lv.length ≤ c ∧ B ≤ w.heap.size ∧ ∀ j, L ≤ j → j < B → F j ∧ ¬ M j
section
variable {F F' M M' : Nat → Prop} {w w' : World} {D : Vl} {st : List Rc}
theorem HoldP.keep (h : HoldP F M w D st) (hs : w.heap.size ≤ w'.heap.size) (hk : ∀ j, j < w.heap.size → F j → ¬ M j → w'.heap[j]? = w.heap[j]?) : HoldP F M w' D st := fun k => by
 rcases h k with h | ⟨lv, A, c, L, B, h1, h2, h3, h4, h5, h6⟩
 ·exact .inl h
 ·exact .inr ⟨lv, A, c, L, B, h1, h2, h3.keep fun p hp hq => World.cell?_of_block (hk _ (by omega) (h6 _ hp hq).1 (h6 _ hp hq).2), h4, by omega, h6⟩
theorem HoldP.mono (h : HoldP F M w D st) (hF : ∀ j, F j → F' j) (hM : ∀ j, j < w.heap.size → F j → M' j → M j) : HoldP F' M' w D st := fun k => by
 rcases h k with h | ⟨lv, A, c, L, B, h1, h2, h3, h4, h5, h6⟩
 ·exact .inl h
 ·exact .inr ⟨lv, A, c, L, B, h1, h2, h3, h4, h5, fun j hj hjB => ⟨hF j (h6 j hj hjB).1, fun e => (h6 j hj hjB).2 (hM j (by omega) (h6 j hj hjB).1 e)⟩⟩
theorem HoldP.put (h : HoldP F M w D st) {key : Nm} {lv : List Vr} {A : Option Addr} {c m L B : Nat} (hm : lv.length = m) (hv : Vs w L B A lv) (hc : m ≤ c) (hB : B ≤ w.heap.size) (hF : ∀ j, L ≤ j → j < B → F j ∧ ¬ M j) : HoldP F M w (wit D key (.slice A m c)) (wit st key lv) := fun k => by
 rw [find_wit, find_wit]
 by_cases hk : k = key
 ·rw [if_pos hk, if_pos hk]
  exact .inr ⟨lv, A, c, L, B, rfl, by rw [hm], hv, by omega, hB, hF⟩
 ·rw [if_neg hk, if_neg hk]
  exact h k
theorem HoldP.drop (h : HoldP F M w D st) (key : Nm) : HoldP F M w (wout D key) (wout st key) := fun k => by
 rw [find_wout, find_wout]
 by_cases hk : k = key
 ·rw [if_pos hk, if_pos hk]
  exact .inl ⟨rfl, rfl⟩
 ·rw [if_neg hk, if_neg hk]
  exact h k
end
def Mp (pb tb mb : Nat) (v : Value) (k : Nat) : Prop := k = pb ∨ k = tb ∨ k = mb ∨ v.ownBlock = some k
structure PI (F : Nat → Prop) (w V : World) (pb : Nat) (id : Int) (own : List Rc) (bg : Bool) (vec : List Int) (W : List (List Int)) (st : List Rc) (tb : Nat) (Ft : Nat → Prop) (mb : Nat) (Av : Option Addr) (nv cv : Nat) (Aw : Option Addr) (nw cw : Nat) (D : Vl) : Prop where
 blk : Bn pb 96 [.int .i64 id, hd tb, .bool bg, .slice Av nv cv, .slice Aw nw cw, .map (some mb)] V
 tree : On Ft w V tb own
 len : vec.length = nv
 row : V.ownsRow w.heap.size 2 1 (.slice Av nv cv) nv (nums .i64 vec)
 wlen : W.length = nw
 want : V.ownsRow w.heap.size 101 3 (.slice Aw nw cw) nw (pcells W)
 map : MI V mb D
 hold : HoldP F (Mp pb tb mb (.slice Aw nw cw)) V D st
 sub : ∀ k, Ft k → F k
 notb : ¬ Ft pb ∧ ¬ Ft mb
 vown : ∀ g, (Value.slice Av nv cv).ownBlock = some g → F g ∧ ¬ Ft g
 wown : ∀ g, (Value.slice Aw nw cw).ownBlock = some g → F g ∧ ¬ Ft g
 mown : F mb
 hpb : F pb
 lt : ∀ k, F k → k < V.heap.size
 new : ∀ k, F k → w.heap.size ≤ k
 old : Below w.heap.size w V
 few : own.length ≤ 3518437208882
 vfew : nv ≤ 16
 wfew : nw ≤ 1024
 lst : Lst st
 dlen : D.length ≤ st.length
def PJ (F : Nat → Prop) (w V : World) (pb : Nat) (id : Int) (own : List Rc) (bg : Bool) (vec : List Int) (W : List (List Int)) (st : List Rc) : Prop := ∃ tb Ft mb Av nv cv Aw nw cw D, PI F w V pb id own bg vec W st tb Ft mb Av nv cv Aw nw cw D
section
variable {F G Ft : Nat → Prop} {w V V' : World} {pb tb mb nv cv nw cw : Nat} {id : Int} {vec : List Int} {own st : List Rc} {bg : Bool} {W : List (List Int)} {Av Aw : Option Addr} {D : Vl}
theorem PI.chg (h : PI F w V pb id own bg vec W st tb Ft mb Av nv cv Aw nw cw D) (hc : Chg G V V') (hG : ∀ k, F k → ¬ G k) (hw : ∀ k, G k → w.heap.size ≤ k) : PI F w V' pb id own bg vec W st tb Ft mb Av nv cv Aw nw cw D :=
 ⟨h.blk.same (hc.block _ h.blk.lt (hG _ h.hpb)), h.tree.chg hc (fun k hk => hG k (h.sub k hk)) hw, h.len, own_keep h.row (fun g hg => hc.block g (h.row.lt g hg).2 (hG g (h.vown g hg).1)), h.wlen, own_keep h.want (fun g hg => hc.block g (h.want.lt g hg).2 (hG g (h.wown g hg).1)), h.map.same (hc.block _ h.map.lt (hG _ h.mown)), h.hold.keep hc.size fun j hj hF _ => hc.block j hj (hG j hF), h.sub, h.notb, h.vown, h.wown, h.mown, h.hpb, fun k hk => Nat.lt_of_lt_of_le (h.lt k hk) hc.size, h.new, h.old.trans (hc.below hw h.old.size), h.few, h.vfew, h.wfew, h.lst, h.dlen⟩
theorem PI.below (h : PI F w V pb id own bg vec W st tb Ft mb Av nv cv Aw nw cw D) (hb : Below V.heap.size V V') : PI F w V' pb id own bg vec W st tb Ft mb Av nv cv Aw nw cw D := h.chg (G := fun _ => False) (Chg.of_below hb) (fun _ _ h => h) fun _ h => h.elim
theorem PI.turn (h : PI F w V pb id own bg vec W st tb Ft mb Av nv cv Aw nw cw D) (ht : On Ft w V' tb own) (hc : Chg (fun k => k = tb) V V') : PI F w V' pb id own bg vec W st tb Ft mb Av nv cv Aw nw cw D := by
 have htb := h.tree.own
 exact ⟨h.blk.same (hc.block _ h.blk.lt fun e => h.notb.1 (e ▸ htb)), ht, h.len, own_keep h.row (fun g hg => hc.block g (h.row.lt g hg).2 fun e => (h.vown g hg).2 (e ▸ htb)), h.wlen, own_keep h.want (fun g hg => hc.block g (h.want.lt g hg).2 fun e => (h.wown g hg).2 (e ▸ htb)), h.map.same (hc.block _ h.map.lt fun e => h.notb.2 (e ▸ htb)), h.hold.keep hc.size fun j hj _ hM => hc.block j hj fun e => hM (.inr (.inl e)), h.sub, h.notb, h.vown, h.wown, h.mown, h.hpb, fun k hk => Nat.lt_of_lt_of_le (h.lt k hk) hc.size, h.new, h.old.trans (hc.below (fun k e => by rw [e]; exact h.new _ (h.sub _ htb)) h.old.size), h.few, h.vfew, h.wfew, h.lst, h.dlen⟩
theorem PI.cells (h : PI F w V pb id own bg vec W st tb Ft mb Av nv cv Aw nw cw D) : V.cell? ⟨pb, 0, none⟩ = some (.int .i64 id) ∧ V.cell? ⟨pb, 1, none⟩ = some (hd tb) ∧ V.cell? ⟨pb, 2, none⟩ = some (.bool bg) ∧ V.cell? ⟨pb, 3, none⟩ = some (.slice Av nv cv) ∧ V.cell? ⟨pb, 4, none⟩ = some (.slice Aw nw cw) ∧ V.cell? ⟨pb, 5, none⟩ = some (.map (some mb)) := by
 have c0 := h.blk.cell 0
 have c1 := h.blk.cell 1
 have c2 := h.blk.cell 2
 have c3 := h.blk.cell 3
 have c4 := h.blk.cell 4
 have c5 := h.blk.cell 5
 simp only [List.getElem?_cons_zero, List.getElem?_cons_succ] at c0 c1 c2 c3 c4 c5
 exact ⟨c0, c1, c2, c3, c4, c5⟩
theorem PI.push (h : PI F w V pb id own bg vec W st tb Ft mb Av nv cv Aw nw cw D) {X Y : World} {g7 cap7 : Nat} {p : List Int} (hX : Below V.heap.size V X) (ho : Y.ownsRow w.heap.size 101 3 (.slice (some ⟨g7, 0, none⟩) (nw + 1) cap7) (nw + 1) (pcells W ++ pcell p)) (hg : X.grownBy Y (Value.slice Aw nw cw).ownBlock) (hat : (Value.slice Aw nw cw).ownBlock = some g7 ∨ g7 = X.heap.size) (hn : nw + 1 ≤ 1024) :
  PI (fun k => F k ∨ k = g7) w (Y.setCell ⟨pb, 4, none⟩ (.slice (some ⟨g7, 0, none⟩) (nw + 1) cap7)) pb id own bg vec (W ++ [p]) st tb Ft mb Av nv cv (some ⟨g7, 0, none⟩) (nw + 1) cap7 D ∧ Stp F V (fun k => F k ∨ k = g7) (Y.setCell ⟨pb, 4, none⟩ (.slice (some ⟨g7, 0, none⟩) (nw + 1) cap7)) := by
 have hs := hX.size
 have hg7 : F g7 ∨ X.heap.size ≤ g7 := hat.imp (fun e => (h.wown g7 e).1) fun e => by omega
 have hgw : ∀ g, (Value.slice Aw nw cw).ownBlock = some g → F g := fun g e => (h.wown g e).1
 have hft7 : ¬ Ft g7 := fun e => hat.elim (fun q => (h.wown g7 q).2 e) fun q => by have := h.lt _ (h.sub _ e); omega
 have hY := (ho.lt g7 rfl).2
 obtain ⟨Z, hZ⟩ : ∃ Z, Y.setCell ⟨pb, 4, none⟩ (.slice (some ⟨g7, 0, none⟩) (nw + 1) cap7) = Z := ⟨_, rfl⟩
 have gZ : Y.grownBy Z (some pb) := by rw [← hZ]; exact Blk.gset Y pb 4 _
 have hpw : (Value.slice Aw nw cw).ownBlock ≠ some pb := own_ne h.want h.blk (by decide)
 have bX := h.blk.same (hX.block _ h.blk.lt)
 have bY : Bn pb 96 [.int .i64 id, hd tb, .bool bg, .slice Av nv cv, .slice Aw nw cw, .map (some mb)] Y := bX.kept hg (fun e => hpw e.symm)
 have hp7 : g7 ≠ pb := fun e => own_ne ho bY (by decide) (by rw [← e]; rfl)
 have bZ := bY.set 4 (.slice (some ⟨g7, 0, none⟩) (nw + 1) cap7)
 rw [hZ] at bZ ⊢
 -- what isn't the pull's cells nor its wants stays
 have hk : ∀ k, k < V.heap.size → k ≠ pb → (Value.slice Aw nw cw).ownBlock ≠ some k → Z.heap[k]? = V.heap[k]? := fun k hk h1 h2 => (gZ.block k (by have := hg.size; omega) (fun e => h1 (by injection e))).trans ((hg.block k (by omega) (fun e => h2 e.symm)).trans (hX.block k hk))
 have hc : Chg (fun k => k = pb ∨ (Value.slice Aw nw cw).ownBlock = some k) V Z := ⟨gZ.os.trans (hg.os.trans hX.os), gZ.tape.trans (hg.tape.trans hX.tape), gZ.output.trans (hg.output.trans hX.output), Nat.le_trans hs (Nat.le_trans hg.size gZ.size), fun k h1 h2 => hk k h1 (fun e => h2 (.inl e)) fun e => h2 (.inr e)⟩
 have hnew : ∀ k, k = pb ∨ (Value.slice Aw nw cw).ownBlock = some k → w.heap.size ≤ k := fun k e => e.elim (fun e => by rw [e]; exact h.new _ h.hpb) fun e => h.new _ (hgw k e)
 have hft : ∀ k, Ft k → ¬ (k = pb ∨ (Value.slice Aw nw cw).ownBlock = some k) := fun k hk e => e.elim (fun e => h.notb.1 (e ▸ hk)) fun e => (h.wown k e).2 hk
 refine ⟨⟨bZ, h.tree.chg hc hft hnew, h.len, own_keep h.row (fun g hg => hk g (h.row.lt g hg).2 (fun e => own_ne h.row h.blk (by decide) (e ▸ hg)) (own_ne2 h.row h.want (by decide) hg)), by rw [List.length_append, h.wlen]; rfl, ?_, h.map.same (hk mb h.map.lt (fun e => h.map.ne h.blk e.symm) (fun e => ?_)), ?_, fun k hk => .inl (h.sub k hk), h.notb, fun g hg => ⟨.inl (h.vown g hg).1, (h.vown g hg).2⟩, fun g hg => ?_, .inl h.mown, .inl h.hpb, fun k hk => ?_, fun k hk => ?_, h.old.trans (hc.below hnew h.old.size), h.few, h.vfew, hn, h.lst, h.dlen⟩, ?_, fun k hk => ?_⟩
 ·rw [pcells_append, pcells_one]
  exact own_keep ho fun g hg => gZ.block g (ho.lt g hg).2 fun e => hp7 (by have q : some g7 = some g := hg; injection q with q; injection e with e; omega)
 ·obtain ⟨cur, hcur⟩ := own_block h.want e
  exact h.map.ne hcur rfl
 ·refine ((h.hold.keep hc.size fun j hj _ hM => hk j hj (fun e => hM (.inl e)) fun e => hM (.inr (.inr (.inr e)))).mono (F' := fun k => F k ∨ k = g7) (M' := Mp pb tb mb (.slice (some ⟨g7, 0, none⟩) (nw + 1) cap7)) (fun j hj => .inl hj) fun j _ hF hM => ?_)
  rcases hM with e | e | e | e
  ·exact .inl e
  ·exact .inr (.inl e)
  ·exact .inr (.inr (.inl e))
  ·have e : g7 = j := by have q : some g7 = some j := e; injection q
   rcases hat with q | q
   ·exact .inr (.inr (.inr (e ▸ q)))
   ·have := h.lt _ hF
    omega
 ·have e : g7 = g := by have q : some g7 = some g := hg; injection q
  subst e
  exact ⟨.inr rfl, hft7⟩
 ·have hz := gZ.size
  have hy := hg.size
  rcases hk with e | e
  ·have := h.lt k e; omega
  ·omega
 ·rcases hk with e | e
  ·exact h.new k e
  ·rcases hg7 with q | q
   ·rw [e]; exact h.new _ q
   ·have := h.old.size; omega
 ·exact hc.mono fun k e => e.elim (fun e => by rw [e]; exact h.hpb) (hgw k)
 ·rcases hk with e | e
  ·exact .inl e
  ·rcases hg7 with q | q
   ·exact .inl (e ▸ q)
   ·exact .inr (by omega)
end
end Pull
end Go.Proofs.YtkfdplfgaddkmaaGreat

/-
 A pull is made; what it tells of itself (layer 19).
-/
namespace Go.Proofs.YtkfdplfgaddkmaaGreat
namespace Pull
open Go.RowKit Blk Go.Maps Disk Tree Vers Num Ring Mend
open Go.Proofs.YtkfdplfgaddkmaaGreat.Code hiding Bn
attribute [local go_sem ↓] Go.wp_at_zero Go.wp_at_succ
theorem lst_nil : Lst [] := ⟨⟨List.Pairwise.nil, fun x hx => by cases hx⟩, fun x hx => by cases hx⟩
def NewP (w V : World) (id : Int) (l : List Rc) (e : Ending) (w' : World) : Prop :=
 (okL l ∧ ∃ pb, e = .returned (.tuple #[hd pb, .int .i64 0]) ∧ Hid (∃ F, PJ F w w' pb id (layF l) false [] [] [] ∧ (∀ k, F k → V.heap.size ≤ k)) ∧ Below V.heap.size V w') ∨
 (¬ okL l ∧ e = .returned (.tuple #[.pointer none, .int .i64 1]) ∧ Below V.heap.size V w')
set_option maxRecDepth 100000 in
theorem newpull_any {w V : World} (hb : Below w.heap.size w V) (id : Int) (Al : Option Addr) (n c : Nat) (l : List Rc) (hn : l.length = n) (hbig : n ≤ 3518437208882) (hr : Rs V 0 V.heap.size Al l) :
  Calls Tryz.prog 22 #[.int .i64 id, .slice Al n c] V (NewP w V id l) := by
 by_cases hok : okL l
 ·have K2 := Lib.hid (on_new hb Al c n l hn hbig hr hok)
  have HP := Lib.hid (And.intro hb (And.intro hok (show (layF l).length ≤ 3518437208882 by have := layF_len l; omega)))
  have hmm := @run_makeMap Tryz.prog
  clear hb hn hbig hr hok
  go_enter Tryz.func22, Tryz.ntmps22
  go_wp2_with fail
  refine K2.out.mono ?_
  rintro e w2 ⟨tb, rfl, h2⟩
  have HF : Hid (NewP w V id l (.returned (.tuple #[hd (w2.heap.size + 1), .int .i64 0])) ((w2.alloc (.map #[] 0)).alloc (.cells #[.int .i64 id, hd tb, .bool false, .slice none 0 0, .slice none 0 0, .map (some w2.heap.size)] 96))) := Lib.hid (by
   obtain ⟨Ft, ht, hnew, b2⟩ := h2.out
   obtain ⟨X, hX⟩ : ∃ X, w2.alloc (.map #[] 0) = X := ⟨_, rfl⟩
   have hXs : X.heap.size = w2.heap.size + 1 := by rw [← hX]; simp
   have hmi : MI X w2.heap.size [] := by rw [← hX]; exact mi_made w2
   have bX : Below w2.heap.size w2 X := by rw [← hX]; exact (Below.refl _ w2).alloc (Nat.le_refl _) _
   rw [hX]
   obtain ⟨Y, hY⟩ : ∃ Y, X.alloc (.cells #[.int .i64 id, hd tb, .bool false, .slice none 0 0, .slice none 0 0, .map (some w2.heap.size)] 96) = Y := ⟨_, rfl⟩
   have bY : Below X.heap.size X Y := by rw [← hY]; exact (Below.refl _ X).alloc (Nat.le_refl _) _
   have BY : Bn (w2.heap.size + 1) 96 [.int .i64 id, hd tb, .bool false, .slice none 0 0, .slice none 0 0, .map (some w2.heap.size)] Y := by rw [← hY, ← hXs]; exact World.alloc_heap_new _ _
   rw [hY]
   have hYs : Y.heap.size = w2.heap.size + 2 := by rw [← hY]; simp [hXs]
   have bXY : Below w2.heap.size w2 Y := bX.trans (bY.mono bX.size)
   have bV := b2.trans (bXY.mono b2.size)
   have hVw := b2.size
   have hwV := HP.out.1.size
   have htl : ∀ k, Ft k → k < w2.heap.size := fun k hk => ht.lt hk
   refine .inl ⟨HP.out.2.1, w2.heap.size + 1, rfl, Lib.hid ⟨fun k => Ft k ∨ k = w2.heap.size ∨ k = w2.heap.size + 1, ⟨tb, Ft, w2.heap.size, none, 0, 0, none, 0, 0, [], BY, ht.below bXY, rfl, World.ownsRow_nil _ _ _ _, rfl, World.ownsRow_nil _ _ _ _, hmi.same (bY.block _ (by omega)), (fun k => .inl ⟨rfl, rfl⟩), fun k hk => .inl hk, ⟨fun h => ?_, fun h => ?_⟩, (fun g hg => by cases hg), (fun g hg => by cases hg), .inr (.inl rfl), .inr (.inr rfl), fun k hk => ?_, fun k hk => ?_, HP.out.1.trans (bV.mono hwV), HP.out.2.2, by omega, by omega, lst_nil, Nat.le_refl _⟩, fun k hk => ?_⟩, bV⟩
   ·have := htl _ h; omega
   ·have := htl _ h; omega
   ·rcases hk with h | h | h
    ·have := htl _ h; omega
    ·omega
    ·omega
   ·rcases hk with h | h | h
    ·have := hnew _ h; omega
    ·omega
    ·omega
   ·rcases hk with h | h | h
    ·exact hnew _ h
    ·omega
    ·omega)
  unfold hd at *
  clear h2 K2
  go_wp2_with fail
  go_ret2
  exact HF.out
 ·have K2 := Lib.hid (no_new Al c n l hn hbig hr hok)
  have HP := Lib.hid hok
  clear hb hn hbig hr hok
  go_enter Tryz.func22, Tryz.ntmps22
  go_wp2_with fail
  refine K2.out.mono ?_
  rintro e w2 ⟨rfl, b2⟩
  have HF : Hid (NewP w V id l (.returned (.tuple #[.pointer none, .int .i64 1])) w2) := Lib.hid (.inr ⟨HP.out, rfl, b2⟩)
  clear b2 K2
  go_wp2_with fail
  go_ret2
  exact HF.out
section
variable {F G Ft : Nat → Prop} {w V V' : World} {pb tb mb nv cv nw cw : Nat} {id : Int} {vec : List Int} {own st : List Rc} {bg : Bool} {W : List (List Int)} {Av Aw : Option Addr} {D : Vl}
theorem PJ.chg (h : PJ F w V pb id own bg vec W st) (hc : Chg G V V') (hG : ∀ k, F k → ¬ G k) (hw : ∀ k, G k → w.heap.size ≤ k) : PJ F w V' pb id own bg vec W st := by
 obtain ⟨tb, Ft, mb, Av, nv, cv, Aw, nw, cw, D, h⟩ := h
 exact ⟨tb, Ft, mb, Av, nv, cv, Aw, nw, cw, D, h.chg hc hG hw⟩
theorem PJ.below (h : PJ F w V pb id own bg vec W st) (hb : Below V.heap.size V V') : PJ F w V' pb id own bg vec W st := h.chg (G := fun _ => False) (Chg.of_below hb) (fun _ _ h => h) fun _ h => h.elim
theorem PJ.lt (h : PJ F w V pb id own bg vec W st) {k : Nat} (hk : F k) : k < V.heap.size := by
 obtain ⟨tb, Ft, mb, Av, nv, cv, Aw, nw, cw, D, h⟩ := h
 exact h.lt k hk
theorem PJ.new (h : PJ F w V pb id own bg vec W st) {k : Nat} (hk : F k) : w.heap.size ≤ k := by
 obtain ⟨tb, Ft, mb, Av, nv, cv, Aw, nw, cw, D, h⟩ := h
 exact h.new k hk
theorem PJ.old (h : PJ F w V pb id own bg vec W st) : Below w.heap.size w V := by
 obtain ⟨tb, Ft, mb, Av, nv, cv, Aw, nw, cw, D, h⟩ := h
 exact h.old
theorem PJ.lst (h : PJ F w V pb id own bg vec W st) : Lst st := by
 obtain ⟨tb, Ft, mb, Av, nv, cv, Aw, nw, cw, D, h⟩ := h
 exact h.lst
theorem PJ.okA (h : PJ F w V pb id own bg vec W st) : okAll own := by
 obtain ⟨tb, Ft, mb, Av, nv, cv, Aw, nw, cw, D, h⟩ := h
 exact h.tree.okA
theorem PJ.id_any (h : PJ F w V pb id own bg vec W st) : Calls Tryz.prog 34 #[hd pb] V (fun e w' => e = .returned (.int .i64 id) ∧ V = w') := by
 obtain ⟨tb, Ft, mb, Av, nv, cv, Aw, nw, cw, D, h⟩ := h
 obtain ⟨c0, c1, c2, c3, c4, c5⟩ := h.cells
 unfold hd at *
 clear h
 go_enter Tryz.func34, Tryz.ntmps34
 go_wp2_with fail
 go_ret
 exact ⟨rfl, rfl⟩
theorem PJ.done_any (h : PJ F w V pb id own bg vec W st) : Calls Tryz.prog 28 #[hd pb] V (fun e w' => e = .returned (.bool (bg && decide (W = []))) ∧ V = w') := by
 obtain ⟨tb, Ft, mb, Av, nv, cv, Aw, nw, cw, D, h⟩ := h
 obtain ⟨c0, c1, c2, c3, c4, c5⟩ := h.cells
 have hl := h.wlen
 obtain ⟨B, hB⟩ : ∃ B, decide (W = []) = B := ⟨_, rfl⟩
 have hz : ((nw : Int) == 0) = B := by
  rw [← hB]
  by_cases h0 : W = []
  ·subst h0; rw [← hl]; rfl
  ·rw [decide_eq_false h0]
   have : W.length ≠ 0 := fun e => h0 (List.eq_nil_of_length_eq_zero e)
   simp; omega
 rw [hB]
 unfold hd at *
 clear h hl hB
 cases bg
 ·go_enter Tryz.func28, Tryz.ntmps28
  go_wp2_with fail
  go_ret
  exact ⟨rfl, rfl⟩
 ·go_enter Tryz.func28, Tryz.ntmps28
  go_wp2_with fail
  go_ret
  exact ⟨rfl, rfl⟩
set_option maxRecDepth 100000 in
theorem PJ.vec_any (h : PJ F w V pb id own bg vec W st) : Calls Tryz.prog 33 #[hd pb] V (VecN vec V) := by
 obtain ⟨tb, Ft, mb, Av, nv, cv, Aw, nw, cw, D, h⟩ := h
 obtain ⟨c0, c1, c2, c3, c4, c5⟩ := h.cells
 have hrow := h.row
 have hlen := h.len
 have hns : Ns .i64 V V.heap.size Av vec := by
  subst hlen
  exact own_ns hrow
 have hv16 := h.vfew
 have K := Lib.hid (cloneW_any Av cv nv vec h.len V hns (by omega))
 have HP := Lib.hid (And.intro h.len hv16)
 unfold hd at *
 clear h hrow hlen hns c0 c1 c2 c4 c5 hv16
 go_enter Tryz.func33, Tryz.ntmps33
 go_wp2_with fail
 refine K.out.mono ?_
 rintro e w3 ⟨A1, c1', rfl, h3, b3⟩
 have HF : Hid (VecN vec V (.returned (.slice A1 nv c1')) w3) := Lib.hid ⟨A1, c1', nv, rfl, Lib.hid ⟨HP.out.1, HP.out.2, h3.out⟩, b3⟩
 clear h3 b3 K c3
 go_wp2_with fail
 go_ret
 exact HF.out
end
end Pull
end Go.Proofs.YtkfdplfgaddkmaaGreat

/-
 Paths come to be wanted (layer 19).
-/
namespace Go.Proofs.YtkfdplfgaddkmaaGreat
namespace Pull
open Go.RowKit Blk Go.Maps Disk Tree Vers Num Ring Mend
open Go.Proofs.YtkfdplfgaddkmaaGreat.Code hiding Bn
attribute [local go_sem ↓] Go.wp_at_zero Go.wp_at_succ
theorem ns_app {V : World} {base n c : Nat} {A : Option Addr} {l : List Int} {x : Int} (h : V.ownsRow base 3 1 (.slice A (n + 1) c) (n + 1) (nums .i64 l ++ [.int .i64 x])) (hl : l.length = n) : Ns .i64 V V.heap.size A (l ++ [x]) := by
 subst hl
 have e : nums .i64 l ++ [.int .i64 x] = nums .i64 (l ++ [x]) := by simp [nums]
 rw [e] at h
 have h' : V.ownsRow base 3 1 (.slice A (l ++ [x]).length c) (l ++ [x]).length (nums .i64 (l ++ [x])) := by simpa using h
 exact own_ns h'
theorem info_intW : (Tryz.prog.info? 3).map (fun i => (i.zero, i.size, i.bytes)) = some (some (.int .i64 0), 1, 8) := by kernel_rfl
theorem want_take {own : List Rc} {fr hs : List Int} {i : Nat} {x : Int} (hi : i < (diffF (kidsF own fr) hs).length) (hx : (diffF (kidsF own fr) hs).getD i 0 = x) : (wantF own fr hs).take (i + 1) = (wantF own fr hs).take i ++ [fr ++ [x]] := by
 unfold wantF
 rw [← List.map_take, List.take_succ_eq_append_getElem hi, List.map_append, List.map_take]
 rw [List.getD_eq_getElem?_getD, List.getElem?_eq_getElem hi, Option.getD_some] at hx
 rw [hx]
 rfl
section
variable {F : Nat → Prop} {w V : World} {pb : Nat} {id : Int} {vec : List Int} {own st : List Rc} {bg : Bool} {W : List (List Int)}
def WantQ (F : Nat → Prop) (w V : World) (pb : Nat) (id : Int) (own : List Rc) (bg : Bool) (vec : List Int) (W : List (List Int)) (st : List Rc) (e : Ending) (w' : World) : Prop := e = .returned (.tuple #[]) ∧ ∃ F', Hid (PJ F' w w' pb id own bg vec W st ∧ Stp F V F' w')
set_option maxRecDepth 100000 in
set_option maxHeartbeats 4000000 in
theorem PJ.want (h : PJ F w V pb id own bg vec W st) (hW : W.length ≤ 900) (Af Ah : Option Addr) (cf ch nf nh : Nat) (fr hs : List Int) (hnf : fr.length = nf) (hnh : hs.length = nh) (hf1 : nf ≤ 1) (hfr : Sta F V (fun X => Ns .i64 X X.heap.size Af fr)) (hhs : Sta F V (fun X => Ns .u64 X X.heap.size Ah hs)) :
  Calls Tryz.prog 56 #[hd pb, .slice Af nf cf, .slice Ah nh ch] V (WantQ F w V pb id own bg vec (W ++ wantF own fr hs) st) := by
 obtain ⟨i0, hi0, hz0, hz1, hz2⟩ := info_parts info_intW
 obtain ⟨j0, hj0, hy0, hy1, hy2⟩ := info_parts info_path
 have HI := Lib.hid (And.intro (And.intro hi0 (And.intro hz0 (And.intro hz1 hz2))) (And.intro hj0 (And.intro hy0 (And.intro hy1 hy2))))
 clear hi0 hz0 hz1 hz2 hj0 hy0 hy1 hy2
 obtain ⟨tb, Ft, mb, Av, nv, cv, Aw, nw, cw, D, hp⟩ := h
 obtain ⟨c0, c1, c2, c3, c4, c5⟩ := hp.cells
 have K0 := Lib.hid (hp.tree.kids hp.few Af cf nf fr hnf (by omega) hfr.now)
 have HP := Lib.hid (And.intro hp (And.intro hfr (And.intro hhs (And.intro hnf (And.intro hnh hW)))))
 unfold hd at *
 clear hp hfr hhs hnf hnh hW c0 c2 c3 c4 c5
 go_enter Tryz.func56, Tryz.ntmps56
 go_wp2_with fail
 refine K0.out.mono ?_
 rintro e w1 ⟨A1, m1, c1', rfl, h1⟩
 have HW1 : Hid (PI F w w1 pb id own bg vec W st tb Ft mb Av nv cv Aw nw cw D ∧ Stp F V F w1 ∧ Sta F w1 (fun X => Ns .i64 X X.heap.size Af fr) ∧ Sta F w1 (fun X => Ns .u64 X X.heap.size Ah hs)) := Lib.hid (by
  obtain ⟨_, _, _, _, q5, q6⟩ := h1.out
  have hc : Chg F V w1 := q6.mono fun k e => by rw [e]; exact HP.out.1.sub _ HP.out.1.tree.own
  exact ⟨HP.out.1.turn q5 q6, ⟨hc, fun k hk => .inl hk⟩, sta_chg HP.out.2.1 hc, sta_chg HP.out.2.2.1 hc⟩)
 have K1 := Lib.hid (differ_any A1 Ah c1' ch m1 nh (kidsF own fr) hs h1.out.1 HP.out.2.2.2.2.1 w1 h1.out.2.2.1 HW1.out.2.2.2.now)
 clear h1 K0 c1
 go_wp2_with fail
 refine K1.out.mono ?_
 rintro e w2 ⟨Ad, md, cd, rfl, h2, b2⟩
 obtain ⟨ds, hds⟩ : ∃ ds, diffF (kidsF own fr) hs = ds := ⟨_, rfl⟩
 have HD : Hid (diffF (kidsF own fr) hs = ds ∧ ds.length = md ∧ md ≤ 16) := Lib.hid ⟨hds, by rw [← hds]; exact h2.out.1, by rw [← h2.out.1]; exact diff_16 _ _⟩
 have H0 : Hid (PJ F w w2 pb id own bg vec (W ++ (wantF own fr hs).take 0) st ∧ Stp F V F w2 ∧ Sta F w2 (fun X => Ns .i64 X X.heap.size Af fr) ∧ Sta F w2 (fun X => Ns .i64 X X.heap.size Ad ds)) := Lib.hid (by
  rw [List.take_zero, List.append_nil]
  have hr := h2.out.2.2
  rw [hds] at hr
  exact ⟨⟨tb, Ft, mb, Av, nv, cv, Aw, nw, cw, D, HW1.out.1.below b2⟩, HW1.out.2.1.trans (Stp.of_below b2), sta_below HW1.out.2.2.1 b2, sta_row hr HD.out.2.1 fun g hg hF => by have := (hr.lt g hg).1; have := HW1.out.1.lt g hF; omega⟩)
 have hmd := HD.out.2.2
 clear h2 b2 hds HW1 K1
 go_wp2_with fail
 go_loopw [17] (fun q wr => ∃ (i : Nat) (F1 : Nat → Prop), q = .int .i64 i ∧ i ≤ md ∧ Hid (PJ F1 w wr pb id own bg vec (W ++ (wantF own fr hs).take i) st ∧ Stp F V F1 wr ∧ Sta F1 wr (fun X => Ns .i64 X X.heap.size Af fr) ∧ Sta F1 wr (fun X => Ns .i64 X X.heap.size Ad ds))) (fun q _ => md - (intOf q).toNat)
 case atStart => exact ⟨0, F, rfl, by omega, H0⟩
 case round =>
  clear H0
  obtain ⟨i, F1, rfl, hi, hst⟩ := hrel
  by_cases hlt : i < md
  ·have d1 : (0 : Int) ≤ (i : Int) := by omega
   have d2 : (i : Int) < (md : Int) := by omega
   obtain ⟨W1, hW1⟩ : ∃ W1, W ++ (wantF own fr hs).take i = W1 := ⟨_, rfl⟩
   have hp := hst.out.1
   rw [hW1] at hp
   obtain ⟨tb1, Ft1, mb1, Av1, nv1, cv1, Aw1, nw1, cw1, D1, hp⟩ := hp
   obtain ⟨gd, od, rfl, hgd, hcd⟩ := hst.out.2.2.2.now (by have := HD.out.2.1; omega)
   obtain ⟨x, hx⟩ : ∃ x, ds.getD i 0 = x := ⟨_, rfl⟩
   have xd := hcd i (by have := HD.out.2.1; omega)
   rw [hx] at xd
   have HTK : Hid (W ++ (wantF own fr hs).take (i + 1) = W1 ++ [fr ++ [x]]) := Lib.hid (by
    rw [want_take (x := x) (by rw [HD.out.1, HD.out.2.1]; exact hlt) (by rw [HD.out.1]; exact hx), ← List.append_assoc, hW1])
   have hnw : nw1 ≤ 916 := by
    rw [← hp.wlen, ← hW1, List.length_append, List.length_take]
    have := HP.out.2.2.2.2.2
    omega
   obtain ⟨c0, c1, c2, c3, c4, c5⟩ := hp.cells
   have HPI := Lib.hid hp
   have hfrn : ∀ X, Below wr.heap.size wr X → Calls Tryz.prog 66 #[.slice Af nf cf] X (Ints.OwnI fr nf X) := fun X hX => Ints.clone_row Af cf nf fr HP.out.2.2.2.1 X ((hst.out.2.2.1.now.below hX).more hX.size) (by omega)
   obtain ⟨y0, hy0⟩ : ∃ y : Int, (((fr ++ [x]).length : Nat) : Int) = y := ⟨_, rfl⟩
   obtain ⟨y1, hy1⟩ : ∃ y, (fr ++ [x]).getD 0 0 = y := ⟨_, rfl⟩
   obtain ⟨y2, hy2⟩ : ∃ y, (fr ++ [x]).getD 1 0 = y := ⟨_, rfl⟩
   have hpo : ∀ X A c, Ns .i64 X X.heap.size A (fr ++ [x]) → Calls Tryz.prog 59 #[.slice A (nf + 1) c] X (fun e w' => e = .returned (.agg #[.int .i64 y0, .int .i64 y1, .int .i64 y2]) ∧ Below X.heap.size X w') := fun X A c hN => by
    have h := pathOf_any A c (nf + 1) (fr ++ [x]) (by simp [HP.out.2.2.2.1]) X hN
    unfold pV at h
    rw [hy0, hy1, hy2] at h
    exact h
   have how : ∀ X, Below wr.heap.size wr X → X.ownsRow w.heap.size 101 3 (.slice Aw1 nw1 cw1) nw1 (pcells W1) ∧ Bn pb 96 [.int .i64 id, hd tb1, .bool bg, .slice Av1 nv1 cv1, .slice Aw1 nw1 cw1, .map (some mb1)] X ∧ w.heap.size ≤ X.heap.size := fun X hX => ⟨own_below HPI.out.want hX (Nat.le_refl _), HPI.out.blk.same (hX.block _ HPI.out.blk.lt), Nat.le_trans HPI.out.old.size hX.size⟩
   have HC := Lib.hid (And.intro hfrn (And.intro hpo how))
   have hpw : (Value.slice Aw1 nw1 cw1).ownBlock ≠ some pb := own_ne hp.want hp.blk (by decide)
   have HQ : Hid (∀ X, Below wr.heap.size wr X → X.cell? ⟨pb, 4, none⟩ = some (.slice Aw1 nw1 cw1)) := Lib.hid fun X hX => (hX.cell (p := ⟨pb, 4, none⟩) (hp.lt _ hp.hpb)).trans c4
   have p0 := HQ.out (wr.alloc (.cells #[.int .i64 x] 3)) ((Below.refl _ wr).alloc (Nat.le_refl _) _)
   have hcf : ∀ (a : Array Value) (w : World), (callFunc 66 a).run Tryz.prog w = .ok (.enter 66 a) w := fun a w => by simp [go_sem]
   have hcf2 : ∀ (a : Array Value) (w : World), (callFunc 59 a).run Tryz.prog w = .ok (.enter 59 a) w := fun a w => by simp [go_sem]
   have HNF := Lib.hid HP.out.2.2.2.1
   have HPC : Hid (pcell (fr ++ [x]) = [.int .i64 y0, .int .i64 y1, .int .i64 y2]) := Lib.hid (by unfold pcell; rw [hy0, hy1, hy2])
   clear hp hcd hx hW1 hfrn hpo how hy0 hy1 hy2 c0 c1 c2 c3 c5
   go_wp2_with fail
   go_region_law (first
    | (refine Blk.step_call (by rfl) 66 _ _ (by rfl) (hcf _ _) #[.slice Af nf cf] (by first | rfl | (simp [Act.eval, Act.put]; done)) (HC.out.1 _ (by first | exact (Below.refl _ wr).drew | exact ((Below.refl _ wr).alloc (Nat.le_refl _) _).drew | exact (Below.refl _ wr).drew.alloc (by simp) _ | exact (Below.refl _ wr).alloc (Nat.le_refl _) _)) (fun e w' h => by obtain ⟨_, _, rfl, _⟩ := h; exact ⟨_, rfl⟩) ?_; rintro v3 w3 ⟨A3, c3, hv3, o3, b3⟩; injection hv3 with hv3; subst hv3; have bw3 : Below wr.heap.size wr w3 := (by first | exact (show Below wr.heap.size wr w3 from ⟨b3.os, b3.tape, b3.output, b3.size, b3.block⟩) | exact ((Below.refl _ wr).alloc (Nat.le_refl _) (.cells #[.int .i64 x] 3)).trans (Below.mono (show Below (wr.alloc (.cells #[.int .i64 x] 3)).heap.size (wr.alloc (.cells #[.int .i64 x] 3)) w3 from ⟨b3.os, b3.tape, b3.output, b3.size, b3.block⟩) (by simp))); have q3 := HQ.out w3 bw3; have p3 := HQ.out (w3.alloc (.cells #[.int .i64 x] 3)) (bw3.alloc bw3.size _))
    | (refine Blk.step_call (by rfl) 59 _ _ (by rfl) (hcf2 _ _) #[.slice (some ⟨g5, 0, none⟩) (nf + 1) cap5] (by first | rfl | (simp [Act.eval, Act.put]; done)) (HC.out.2.1 _ _ _ (ns_app o5 HNF.out)) (fun e w' h => by obtain ⟨rfl, _⟩ := h; exact ⟨_, rfl⟩) ?_; rintro v6 w6 ⟨hv6, b6⟩; injection hv6 with hv6; subst hv6; have bw6 : Below wr.heap.size wr w6 := bw5.trans (b6.mono bw5.size); have q6 := HQ.out w6 bw6; have p6 := HQ.out (w6.alloc (.cells #[.int .i64 y0, .int .i64 y1, .int .i64 y2] 101)) (bw6.alloc bw6.size _))
    | (refine step_append_lies _ (by rfl) _ _ _ (by rfl) wr.heap.size 3 i0 _ 1 8 Tryz.underlying24 HI.out.1.1 HI.out.1.2.1 HI.out.1.2.2.1 HI.out.1.2.2.2 (by rfl) (by omega) (.slice A3 nf c3) nf (nums .i64 fr) (by rfl) ((own_base o3.out (by simp)).alloc _) ⟨w3.heap.size, 0, none⟩ 1 1 [.int .i64 x] (by rfl) (by rfl) (World.news_of_block (World.alloc_heap_new w3 _)) (by simp [Value.oneCell']) (by omega) (by unfold maxLen; omega) (by omega) (Nat.le_trans b3.size (by simp)) (w3.heap.size + 1) (by simp) ?_; intro g5 cap5 w5 o5 gr5 at5 hl5; have bw5 : Below wr.heap.size wr w5 := (bw3.alloc bw3.size _).grown gr5 (Nat.le_trans bw3.size (by simp)) (fun g hg => Nat.le_trans (by simp) (o3.out.lt g hg).1); have q5 := HQ.out w5 bw5)
    | (refine step_append_lies _ (by rfl) _ _ _ (by rfl) wr.heap.size 3 i0 _ 1 8 Tryz.underlying24 HI.out.1.1 HI.out.1.2.1 HI.out.1.2.2.1 HI.out.1.2.2.2 (by rfl) (by omega) (.slice A3 nf c3) nf (nums .i64 fr) (by rfl) (own_base o3.out (by simp)) ⟨wr.heap.size, 0, none⟩ 1 1 [.int .i64 x] (by rfl) (by rfl) (World.news_of_block ((b3.block _ (by simp)).trans (World.alloc_heap_new wr _))) (by simp [Value.oneCell']) (by omega) (by unfold maxLen; omega) (by omega) (Nat.le_trans (by simp) b3.size) w3.heap.size rfl ?_; intro g5 cap5 w5 o5 gr5 at5 hl5; have bw5 : Below wr.heap.size wr w5 := bw3.grown gr5 bw3.size (fun g hg => Nat.le_trans (by simp) (o3.out.lt g hg).1); have q5 := HQ.out w5 bw5)
    | (refine step_append_lies _ (by rfl) _ _ _ (by rfl) w.heap.size 101 j0 _ 3 24 Tryz.underlying94 HI.out.2.1 HI.out.2.2.1 HI.out.2.2.2.1 HI.out.2.2.2.2 (by rfl) (by omega) (.slice Aw1 nw1 cw1) nw1 (pcells W1) (by rfl) (HC.out.2.2 _ (bw6.alloc bw6.size _)).1 ⟨w6.heap.size, 0, none⟩ 1 1 [.int .i64 y0, .int .i64 y1, .int .i64 y2] (by rfl) (by rfl) (World.news_of_block (World.alloc_heap_new w6 _)) (by simp [Value.oneCell']) (by omega) (by unfold maxLen; omega) (by omega) (HC.out.2.2 _ (bw6.alloc bw6.size _)).2.2 (w6.heap.size + 1) (by simp) ?_; intro g7 cap7 w7 o7 gr7 at7 hl7; have B7 := (HC.out.2.2 _ (bw6.alloc bw6.size _)).2.1.kept gr7 (fun e => hpw e.symm); have z4 := B7.frozen 4; have y4 : w7.cell? ⟨pb, 4, none⟩ = some (.slice Aw1 nw1 cw1) := B7.cell 4))
   all_goals
    have HZ : Hid (PJ (fun k => F1 k ∨ k = g7) w (w7.setCell ⟨pb, 4, none⟩ (.slice (some ⟨g7, 0, none⟩) (nw1 + 1) cap7)) pb id own bg vec (W ++ (wantF own fr hs).take (i + 1)) st ∧ Stp F V (fun k => F1 k ∨ k = g7) (w7.setCell ⟨pb, 4, none⟩ (.slice (some ⟨g7, 0, none⟩) (nw1 + 1) cap7)) ∧ Sta (fun k => F1 k ∨ k = g7) (w7.setCell ⟨pb, 4, none⟩ (.slice (some ⟨g7, 0, none⟩) (nw1 + 1) cap7)) (fun X => Ns .i64 X X.heap.size Af fr) ∧ Sta (fun k => F1 k ∨ k = g7) (w7.setCell ⟨pb, 4, none⟩ (.slice (some ⟨g7, 0, none⟩) (nw1 + 1) cap7)) (fun X => Ns .i64 X X.heap.size (some ⟨gd, od, none⟩) ds)) := Lib.hid (by
     have hP := HPI.out.push (p := fr ++ [x]) (bw6.alloc bw6.size _) (by rw [HPC.out]; exact o7) gr7 (at7.imp (fun q => q) fun q => by rw [q]; simp) (by omega)
     rw [HTK.out]
     exact ⟨⟨_, _, _, _, _, _, _, _, _, _, hP.1⟩, hst.out.2.1.trans hP.2, sta_stp hst.out.2.2.1 hP.2, sta_stp hst.out.2.2.2 hP.2⟩)
    clear hst bw6 o7 gr7 at7 hl7 B7 q6 p6 b6 q5 bw5 o5 gr5 at5 hl5 q3 p3 bw3 b3 o3 hcf hcf2 p0
    go_wp2_with fail
    go_roundw
    case rel => exact ⟨i + 1, _, by go_num, by omega, HZ⟩
    case measure => simp only [intOf]; omega
  ·have him : i = md := by omega
   subst him
   have HF : Hid (WantQ F w V pb id own bg vec (W ++ wantF own fr hs) st (.returned (.tuple #[])) wr) := Lib.hid ⟨rfl, F1, Lib.hid ⟨by
    have h := hst.out.1
    rwa [List.take_of_length_le (by unfold wantF; rw [List.length_map, HD.out.1, HD.out.2.1]; omega)] at h, hst.out.2.1⟩⟩
   clear hst
   go_wp2_with fail
   refine bodyPost_end (v := .tuple #[]) (results_none rfl _ _ _) rfl HF.out
end
end Pull
end Go.Proofs.YtkfdplfgaddkmaaGreat
