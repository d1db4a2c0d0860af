/-
  Several texts of this family in one: MendHeldUp, MendBothPlain, PullPlain, MendKeepRow, PullBeneath.
-/
import Derived.Test.YtkfdplfgaddkmaaGreatK28
import Derived.Test.YtkfdplfgaddkmaaGreatK33
import Derived.Test.YtkfdplfgaddkmaaGreatK35
import Derived.Test.YtkfdplfgaddkmaaGreatK13
import Derived.Test.YtkfdplfgaddkmaaGreatK16
import Derived.Test.YtkfdplfgaddkmaaGreatK10
import Derived.Test.YtkfdplfgaddkmaaGreatK21
/-
 What is held, as a law looks at it: right, and as it is (layer 14).
-/
namespace Go.Proofs.YtkfdplfgaddkmaaGreat
namespace Mend
open Go.RowKit Vers Num Ring Disk Blk Tree
open Go.Proofs.YtkfdplfgaddkmaaGreat.Code hiding Bn
def Lst (a : List Rc) : Prop := Hel a ∧ okL a
theorem Lst.held {l : List Rc} (h : okL l) : Lst (heldF l) := ⟨held_hel l, okL_held h⟩
theorem okL_fold (m : List Rc) (hm : okL m) : ∀ a, okL a → okL (m.foldl withR a) := by
 induction m with
 | nil => exact fun _ h => h
 | cons r m ih =>
  intro a h
  refine ih (fun x hx => hm x (by simp [hx])) _ fun x hx => ?_
  rcases with_mem.1 hx with ⟨rfl, _⟩ | ⟨h1, _⟩
  ·exact hm _ (by simp)
  ·exact h x h1
theorem Lst.fold {a m : List Rc} (h : Lst a) (hm : okL m) : Lst (m.foldl withR a) := ⟨hel_fold m a h.1, okL_fold m hm a h.2⟩
theorem held_up (A : Option Addr) (c n : Nat) (l : List Rc) (hn : l.length = n) (hbig : n ≤ 3518437208882) (V : World) (hr : Rs V 0 V.heap.size A l) :
  Calls Tryz.prog 35 #[.slice A n c] V (fun e w' => (okL l ∧ ∃ A m c, e = .returned (.tuple #[.slice A m c, .bool true]) ∧ Hid ((heldF l).length = m ∧ m ≤ c ∧ m ≤ n ∧ Rs w' 0 w'.heap.size A (heldF l)) ∧ Below V.heap.size V w') ∨ (¬ okL l ∧ e = .returned (.tuple #[.slice none 0 0, .bool false]) ∧ Below V.heap.size V w')) := by
 refine (held_any A c n V.heap.size l hn hbig V (Nat.le_refl _) (rs_rb hr)).mono ?_
 rintro e w' (⟨hok, Aa, m, ca, ps, rfl, h, hb⟩ | ⟨hno, rfl, hb⟩)
 ·refine .inl ⟨hok, Aa, m, ca, rfl, Lib.hid ⟨h.out.2.1, h.out.2.2.1, ?_, ?_⟩, hb⟩
  ·have := held_len l
   rw [hn, h.out.2.1] at this
   exact this
  ·have h1 := h.out.2.2.2.rb
   rw [h.out.1] at h1
   exact rb_rs h1 hb.size
 ·exact .inr ⟨hno, rfl, hb⟩
theorem diff_16 (a b : List Int) : (diffF a b).length ≤ 16 := by
 have h := dk_len a b 16
 rwa [dk_full] at h
theorem kids_len16 (a : List Rc) (p : List Int) : (kidsF a p).length ≤ 16 := by
 unfold kidsF
 split
 ·simp
 ·simp
end Mend
end Go.Proofs.YtkfdplfgaddkmaaGreat

/-
 Two who exchange leaf by leaf come to hold the same (layer 14).
-/
namespace Go.Proofs.YtkfdplfgaddkmaaGreat
namespace Mend
open Go.RowKit Vers Num Ring Disk Blk Tree
open Go.Proofs.YtkfdplfgaddkmaaGreat.Code hiding Bn
def leafOf (k : Nm) : Int × Int := (dig0 k, dig1 k)
theorem in_leafOf (d e : Int) (k : Nm) : inP [d, e] k = true ↔ leafOf k = (d, e) := by
 unfold leafOf
 simp [inP, Prod.ext_iff]
structure Two (a b : List Rc) : Prop where
 la : Lst a
 lb : Lst b
 fine : okB a b
 pl : ∀ k, getF a k ≠ [] ∨ getF b k ≠ [] → plB (getF a k ++ getF b k) = true
section
variable {a b x y : List Rc} {P : List (Int × Int)}
theorem beneath_hel {x : List Rc} (h : Hel x) (p : List Int) : Hel (beneath x p) := hel_filter h _
theorem get_beneath {x : List Rc} (h : Hel x) (p : List Int) (k : Nm) : getF (beneath x p) k = if inP p k = true then getF x k else [] := by
 unfold beneath
 rw [get_filter h]
theorem okL_sub {x y : List Rc} (h : okL x) (hs : ∀ r ∈ y, r ∈ x) : okL y := fun r hr => h r (hs r hr)
end
end Mend
end Go.Proofs.YtkfdplfgaddkmaaGreat

/-
 A pull in the plain: what is wanted, what is staged, and that the order in which answers come is nothing to it (layer 19).
-/
namespace Go.Proofs.YtkfdplfgaddkmaaGreat
namespace Pull
open Go.RowKit Vers Num Ring Disk Blk Tree Mend
open Go.Proofs.YtkfdplfgaddkmaaGreat.Code hiding Bn
def wantF (own : List Rc) (fr : List Int) (hs : List Int) : List (List Int) := (diffF (kidsF own fr) hs).map fun d => fr ++ [d]
def areF (leaf : List Int) (l : List Rc) : Bool := l.all fun r => decide (okR r) && decide ([dig0 r.1, dig1 r.1] = leaf)
section
variable {own cut st : List Rc} {W : List (List Int)} {T : List (Int × Int)}
def D0 (own cut : List Rc) : List Int := diffF (kidsF own []) (kidsF cut [])
def E0 (own cut : List Rc) (d : Int) : List Int := diffF (kidsF own [d]) (kidsF cut [d])
structure Tl (own cut : List Rc) (T : List (Int × Int)) (W : List (List Int)) (st : List Rc) : Prop where
 lst : Lst st
 get : ∀ k, getF st k = if leafOf k ∈ T then getF cut k else []
 nd : W.Nodup
 shape : ∀ p ∈ W, (∃ d, p = [d] ∧ d ∈ D0 own cut) ∨ ∃ d e, p = [d, e] ∧ d ∈ D0 own cut ∧ e ∈ E0 own cut d ∧ [d] ∉ W ∧ (d, e) ∉ T
 some : ∀ d e, d ∈ D0 own cut → e ∈ E0 own cut d → [d] ∈ W ∨ [d, e] ∈ W ∨ (d, e) ∈ T
 tn : T.Nodup
 tin : ∀ d e, (d, e) ∈ T → d ∈ D0 own cut ∧ e ∈ E0 own cut d ∧ [d] ∉ W
theorem one_inj {d d' : Int} (h : ([d] : List Int) = [d']) : d = d' := by injection h
theorem want_root (own cut : List Rc) : wantF own [] (kidsF cut []) = (D0 own cut).map fun d => [d] := rfl
theorem Tl.start (own cut : List Rc) : Tl own cut [] (wantF own [] (kidsF cut [])) [] := by
 rw [want_root]
 refine ⟨⟨⟨List.Pairwise.nil, fun x hx => by cases hx⟩, fun x hx => by cases hx⟩, fun k => by simp [getF, find], ?_, fun p hp => ?_, fun d e hd _ => .inl (List.mem_map.2 ⟨d, hd, rfl⟩), List.nodup_nil, fun d e h => by cases h⟩
 ·rw [List.Nodup, List.pairwise_map]
  exact List.Pairwise.imp (fun hxy e => hxy (one_inj e)) (diff_nodup _ _)
 ·obtain ⟨d, hd, rfl⟩ := List.mem_map.1 hp
  exact .inl ⟨d, rfl, hd⟩
def work (W : List (List Int)) : Nat := (W.map fun p => if p.length = 1 then 17 else 1).sum
theorem work_append (a b : List (List Int)) : work (a ++ b) = work a + work b := by simp [work]
theorem work_erase {W : List (List Int)} {p : List Int} (h : p ∈ W) : work W = (if p.length = 1 then 17 else 1) + work (W.erase p) := by
 induction W with
 | nil => cases h
 | cons x W ih =>
  by_cases hx : x = p
  ·subst hx
   rw [List.erase_cons_head]
   simp [work]
  ·have h2 : p ∈ W := (List.mem_cons.1 h).resolve_left fun e => hx e.symm
   rw [List.erase_cons_tail (by simpa using hx)]
   have := ih h2
   unfold work at this ⊢
   simp only [List.map_cons, List.sum_cons]
   omega
theorem work_ones (l : List (List Int)) (h : ∀ p ∈ l, p.length ≠ 1) : work l = l.length := by
 induction l with
 | nil => rfl
 | cons x l ih =>
  have h1 := ih fun p hp => h p (by simp [hp])
  unfold work at h1 ⊢
  simp only [List.map_cons, List.sum_cons, List.length_cons, if_neg (h x (by simp))]
  omega
theorem work_start (own cut : List Rc) : work (wantF own [] (kidsF cut [])) ≤ 272 := by
 rw [want_root]
 have h : (D0 own cut).length ≤ 16 := diff_16 _ _
 have e : work ((D0 own cut).map fun d => [d]) = (D0 own cut).length * 17 := by
  generalize D0 own cut = l
  induction l with
  | nil => rfl
  | cons x l ih =>
   unfold work at ih ⊢
   simp only [List.map_cons, List.sum_cons, List.length_cons, ih]
   simp
   omega
 omega
theorem Tl.one (h : Tl own cut T W st) {d : Int} (hd : [d] ∈ W) : Tl own cut T (W.erase [d] ++ wantF own [d] (kidsF cut [d])) st ∧ work (W.erase [d] ++ wantF own [d] (kidsF cut [d])) < work W := by
 have hdd : d ∈ D0 own cut := by
  rcases h.shape _ hd with ⟨d', e, hd'⟩ | ⟨d', e', e, _⟩
  ·rw [one_inj e]; exact hd'
  ·simp at e
 have hw : wantF own [d] (kidsF cut [d]) = (E0 own cut d).map fun e => [d, e] := rfl
 have hmem : ∀ p, p ∈ W.erase [d] ↔ p ≠ [d] ∧ p ∈ W := fun p => h.nd.mem_erase_iff
 have hnew : ∀ e, [d, e] ∉ W := fun e he => by
  rcases h.shape _ he with ⟨d', e', _⟩ | ⟨d', e', e2, _, _, h3, _⟩
  ·simp at e'
  ·injection e2 with e3 _
   exact h3 (e3 ▸ hd)
 have hno : [d] ∉ W.erase [d] ++ (E0 own cut d).map fun e => [d, e] := fun hm => by
  rcases List.mem_append.1 hm with hm | hm
  ·exact ((hmem _).1 hm).1 rfl
  ·obtain ⟨e, _, he⟩ := List.mem_map.1 hm
   simp at he
 have h1 : ∀ d' : Int, [d'] ∉ W → [d'] ∉ W.erase [d] ++ (E0 own cut d).map fun e => [d, e] := fun d' hn hm => by
  rcases List.mem_append.1 hm with hm | hm
  ·exact hn ((hmem _).1 hm).2
  ·obtain ⟨e, _, he⟩ := List.mem_map.1 hm
   simp at he
 rw [hw]
 refine ⟨⟨h.lst, h.get, ?_, fun p hp => ?_, fun d' e' hd' he' => ?_, h.tn, fun d' e' ht => ?_⟩, ?_⟩
 ·rw [List.nodup_append]
  refine ⟨h.nd.erase _, ?_, fun x hx y hy e => ?_⟩
  ·rw [List.Nodup, List.pairwise_map]
   exact List.Pairwise.imp (fun hxy e => hxy (by injection e with _ e; exact one_inj e)) (diff_nodup _ _)
  ·obtain ⟨e', _, rfl⟩ := List.mem_map.1 hy
   subst e
   exact hnew e' ((hmem _).1 hx).2
 ·rcases List.mem_append.1 hp with hp | hp
  ·obtain ⟨hne, hpW⟩ := (hmem _).1 hp
   rcases h.shape _ hpW with ⟨d', rfl, hd'⟩ | ⟨d', e', rfl, q1, q2, q3, q4⟩
   ·exact .inl ⟨d', rfl, hd'⟩
   ·exact .inr ⟨d', e', rfl, q1, q2, h1 d' q3, q4⟩
  ·obtain ⟨e', he', rfl⟩ := List.mem_map.1 hp
   exact .inr ⟨d, e', rfl, hdd, he', hno, fun ht => (h.tin _ _ ht).2.2 hd⟩
 ·rcases h.some d' e' hd' he' with q | q | q
  ·by_cases hdd' : d' = d
   ·subst hdd'
    exact .inr (.inl (List.mem_append.2 (.inr (List.mem_map.2 ⟨e', he', rfl⟩))))
   ·exact .inl (List.mem_append.2 (.inl ((hmem _).2 ⟨fun e => hdd' (one_inj e), q⟩)))
  ·exact .inr (.inl (List.mem_append.2 (.inl ((hmem _).2 ⟨by simp, q⟩))))
  ·exact .inr (.inr q)
 ·obtain ⟨q1, q2, q3⟩ := h.tin _ _ ht
  exact ⟨q1, q2, h1 d' q3⟩
 ·have e1 := work_erase hd
  have e2 : work ((E0 own cut d).map fun e => [d, e]) = (E0 own cut d).length := by
   rw [work_ones _ fun p hp => by obtain ⟨e, _, rfl⟩ := List.mem_map.1 hp; simp, List.length_map]
  have e3 : (E0 own cut d).length ≤ 16 := diff_16 _ _
  rw [work_append, e2]
  simp only [List.length_singleton, if_pos] at e1
  omega
theorem Tl.two (h : Tl own cut T W st) (hc : Lst cut) {d e : Int} (hd : [d, e] ∈ W) : Tl own cut ((d, e) :: T) (W.erase [d, e]) ((beneath cut [d, e]).foldl withR st) ∧ work (W.erase [d, e]) < work W ∧ areF [d, e] (beneath cut [d, e]) = true := by
 obtain ⟨q1, q2, q3, q4⟩ : d ∈ D0 own cut ∧ e ∈ E0 own cut d ∧ [d] ∉ W ∧ (d, e) ∉ T := by
  rcases h.shape _ hd with ⟨d', e', _⟩ | ⟨d', e', e2, r1, r2, r3, r4⟩
  ·simp at e'
  ·injection e2 with e3 e4
   have e5 := one_inj e4
   subst e3 e5
   exact ⟨r1, r2, r3, r4⟩
 have hmem : ∀ p, p ∈ W.erase [d, e] ↔ p ≠ [d, e] ∧ p ∈ W := fun p => h.nd.mem_erase_iff
 have hSh : Hel (beneath cut [d, e]) := beneath_hel hc.1 _
 have hSo : okL (beneath cut [d, e]) := okL_sub hc.2 fun r hr => (beneath_mem.1 hr).1
 refine ⟨⟨h.lst.fold hSo, fun k => ?_, h.nd.erase _, fun p hp => ?_, fun d' e' hd' he' => ?_, List.nodup_cons.2 ⟨q4, h.tn⟩, fun d' e' ht => ?_⟩, ?_, ?_⟩
 ·rw [get_laid _ hSh, get_beneath hc.1, h.get]
  by_cases hk : leafOf k = (d, e)
  ·have h1 : leafOf k ∈ (d, e) :: T := by rw [hk]; simp
   have h2 : leafOf k ∉ T := by rw [hk]; exact q4
   rw [if_pos ((in_leafOf d e k).2 hk), if_neg h2, if_pos h1]
   by_cases h3 : getF cut k = []
   ·rw [if_pos h3, h3]
   ·rw [if_neg h3]
  ·rw [if_neg fun q => hk ((in_leafOf d e k).1 q), if_pos rfl]
   by_cases h2 : leafOf k ∈ T
   ·rw [if_pos h2, if_pos (by simp [h2])]
   ·rw [if_neg h2, if_neg (by simp [h2, hk])]
 ·obtain ⟨hne, hpW⟩ := (hmem _).1 hp
  rcases h.shape _ hpW with ⟨d', rfl, hd'⟩ | ⟨d', e', rfl, r1, r2, r3, r4⟩
  ·exact .inl ⟨d', rfl, hd'⟩
  ·refine .inr ⟨d', e', rfl, r1, r2, fun hm => r3 ((hmem _).1 hm).2, fun hm => ?_⟩
   rcases List.mem_cons.1 hm with hm | hm
   ·injection hm with m1 m2
    exact hne (by rw [m1, m2])
   ·exact r4 hm
 ·rcases h.some d' e' hd' he' with q | q | q
  ·exact .inl ((hmem _).2 ⟨by simp, q⟩)
  ·by_cases hq : ([d', e'] : List Int) = [d, e]
   ·injection hq with m1 m2
    exact .inr (.inr (by rw [m1, one_inj m2]; simp))
   ·exact .inr (.inl ((hmem _).2 ⟨hq, q⟩))
  ·exact .inr (.inr (by simp [q]))
 ·rcases List.mem_cons.1 ht with hm | hm
  ·injection hm with m1 m2
   subst m1 m2
   exact ⟨q1, q2, fun hm => q3 ((hmem _).1 hm).2⟩
  ·obtain ⟨r1, r2, r3⟩ := h.tin _ _ hm
   exact ⟨r1, r2, fun hm => r3 ((hmem _).1 hm).2⟩
 ·have e1 := work_erase hd
  simp only [List.length_cons, List.length_nil] at e1
  simp at e1
  omega
 ·unfold areF
  refine List.all_eq_true.2 fun r hr => ?_
  have h1 := (beneath_mem.1 hr).2
  obtain ⟨e1, e2⟩ := in_two h1
  rw [decide_eq_true (hSo r hr), e1, e2]
  simp
theorem Tl.done (h : Tl own cut T [] st) (k : Nm) : getF st k = if dig0 k ∈ D0 own cut ∧ dig1 k ∈ E0 own cut (dig0 k) then getF cut k else [] := by
 rw [h.get]
 by_cases hk : leafOf k ∈ T
 ·rw [if_pos hk, if_pos]
  exact ⟨(h.tin _ _ hk).1, (h.tin _ _ hk).2.1⟩
 ·rw [if_neg hk, if_neg]
  rintro ⟨h1, h2⟩
  rcases h.some _ _ h1 h2 with q | q | q
  ·cases q
  ·cases q
  ·exact hk q
theorem Tl.theirs (h : Tl own cut T W st) {r : Rc} (hr : r ∈ st) : getF cut r.1 = r.2 := by
 have h1 := getF_mem h.lst.1.1 hr
 have h2 := h.get r.1
 rw [h1] at h2
 by_cases hk : leafOf r.1 ∈ T
 ·rw [if_pos hk] at h2
  exact h2.symm
 ·rw [if_neg hk] at h2
  exact absurd h2 (h.lst.1.2 r hr)
theorem Tl.order {st' : List Rc} {T' : List (Int × Int)} (h : Tl own cut T [] st) (h' : Tl own cut T' [] st') : st = st' :=
 hel_ext h.lst.1 h'.lst.1 fun k => by rw [h.done, h'.done]
theorem diff_comm (a b : List Int) : diffF a b = diffF b a := by
 unfold diffF
 congr 1
 refine List.filter_congr fun i _ => ?_
 simp [eq_comm]
theorem Tl.few {a m : List Rc} (h : Tl a (m.foldl withR a) T W st) (ha : Srt a) : T.length ≤ m.length := by
 refine Nat.le_trans (nodup_len h.tn fun x hx => ?_) (leaves_len (m := m) ha)
 obtain ⟨d, e⟩ := x
 obtain ⟨h1, h2, _⟩ := h.tin d e hx
 unfold D0 at h1
 rw [diff_comm] at h1
 exact List.mem_flatMap.2 ⟨d, h1, List.mem_map.2 ⟨e, h2, rfl⟩⟩
end
end Pull
end Go.Proofs.YtkfdplfgaddkmaaGreat

/-
 Records that a law copies one by one, and records among its arguments with what they hold (layer 14).
-/
namespace Go.Proofs.YtkfdplfgaddkmaaGreat
namespace Mend
open Go.ChangeShapes Go.WideShapes Go.ChangeAt Go.RowKit Go.Joins Go.Deep Vers Num Ring Disk Blk Tree
open Go.Proofs.YtkfdplfgaddkmaaGreat.Code hiding Bn
section
variable {H : Type} {enc : TypeId × Value → H} {W : World}
end
def RowW (base : Nat) (w : World) (v : Value) (ps : List Pr) : Prop :=
 w.ownsRow base 70 2 v ps.length (rcs ps) ∧ ∀ p ∈ ps, ∃ L B, B ≤ w.heap.size ∧ Vs w L B p.2.1 p.1.2 ∧ (∀ g, v.ownBlock = some g → g < L ∨ B ≤ g) ∧ p.1.2.length ≤ p.2.2 ∧ p.1.2.length ≤ 140737488355328 ∧ p.1.1.size ≤ 140737488355328
section
variable {base : Nat} {w w' : World} {v v' : Value} {ps : List Pr} {p : Pr}
theorem RowW.below (h : RowW base w v ps) (hb : Below w.heap.size w w') : RowW base w' v ps :=
 ⟨own_below h.1 hb (Nat.le_refl _), fun p hp => by
  obtain ⟨L, B, h1, h2, h3⟩ := h.2 p hp
  exact ⟨L, B, Nat.le_trans h1 hb.size, h2.keep fun a _ ha => hb.cell (by omega), h3⟩⟩
theorem RowW.add (h : RowW base w v ps) (ho : w'.ownsRow base 70 2 v' (ps.length + 1) (rcs (ps ++ [p]))) (hg : w.grownBy w' v.ownBlock) (hat : v'.ownBlock = v.ownBlock ∨ ∃ g, v'.ownBlock = some g ∧ w.heap.size ≤ g)
  (hp : ∃ L B, B ≤ w.heap.size ∧ Vs w L B p.2.1 p.1.2 ∧ (∀ g, v.ownBlock = some g → g < L ∨ B ≤ g) ∧ p.1.2.length ≤ p.2.2 ∧ p.1.2.length ≤ 140737488355328 ∧ p.1.1.size ≤ 140737488355328) : RowW base w' v' (ps ++ [p]) := by
 refine ⟨by simpa using ho, fun q hq => ?_⟩
 obtain ⟨L, B, h1, h2, h3, h4⟩ : ∃ L B, B ≤ w.heap.size ∧ Vs w L B q.2.1 q.1.2 ∧ (∀ g, v.ownBlock = some g → g < L ∨ B ≤ g) ∧ q.1.2.length ≤ q.2.2 ∧ q.1.2.length ≤ 140737488355328 ∧ q.1.1.size ≤ 140737488355328 := by
  rcases List.mem_append.1 hq with hq | hq
  ·exact h.2 q hq
  ·rw [List.mem_singleton.1 hq]
   exact hp
 refine ⟨L, B, Nat.le_trans h1 hg.size, h2.keep fun a ha hb => World.cell?_of_block (hg.block a.block (by omega) fun e => ?_), fun g hgv => ?_, h4⟩
 ·rcases h3 a.block e.symm with h | h <;> omega
 ·rcases hat with e | ⟨g2, e, hg2⟩
  ·exact h3 g (e ▸ hgv)
  ·rw [e] at hgv
   injection hgv with hgv
   exact .inr (by omega)
theorem RowW.rs {n c : Nat} {A : Option Addr} (h : RowW base w (.slice A n c) ps) : Rs w 0 w.heap.size A (ps.map Prod.fst) := fun hp => by
 rw [List.length_map] at hp
 obtain ⟨ho, hpa⟩ := h
 rcases ho.2 with ⟨_, h0⟩ | ⟨g, cap, cur, hv, hbg, hg, rest⟩
 ·omega
 ·injection hv with h1 h2 h3
  subst h1
  refine ⟨g, 0, rfl, Nat.zero_le _, (Array.getElem?_eq_some_iff.1 hg).1, fun j hj => ?_⟩
  rw [List.length_map] at hj
  have e : (ps.map Prod.fst).getD j r0 = (ps.getD j (r0, none, 0)).1 := by simp [List.getD_eq_getElem?_getD, hj]
  have hm : ps.getD j (r0, none, 0) ∈ ps := by
   rw [List.getD_eq_getElem?_getD, List.getElem?_eq_getElem hj]
   exact List.getElem_mem _
  rw [e]
  have hat : ∀ r, r < 2 → ∀ u, (rcc (ps.getD j (r0, none, 0)))[r]? = some u → w.cell? ⟨g, 0 + j * 2 + r, none⟩ = some u := fun r hr u hu => by
   have hc := ho.cells (g := g) rfl (j * 2 + r) u (by rw [rcs_at ps j hj r hr]; exact hu)
   rw [Vers.add_plain] at hc
   rw [show 0 + j * 2 + r = 0 + (j * 2 + r) by omega]
   exact hc
  obtain ⟨L, B, q0, q1, _, q2, q3, q4⟩ := hpa _ hm
  exact ⟨_, _, hat 0 (by omega) _ (by simp [rcc]), hat 1 (by omega) _ (by simp [rcc]), (q1.less (Nat.zero_le _)).more q0, q2, q3, q4⟩
end
end Mend
end Go.Proofs.YtkfdplfgaddkmaaGreat

/-
 Whether all records are right, and beneath a leaf (layer 19).
-/
namespace Go.Proofs.YtkfdplfgaddkmaaGreat
namespace Pull
open Go.RowKit Blk Go.Maps Disk Tree Vers Num Ring Mend
open Go.Proofs.YtkfdplfgaddkmaaGreat.Code hiding Bn
attribute [local go_sem ↓] Go.wp_at_zero Go.wp_at_succ
theorem belowN (B : Nat) (w : World) (n : Nat) : Below B w (w.drewN n) := ⟨rfl, rfl, rfl, Nat.le_refl _, fun _ _ => rfl⟩
theorem takeI_eq {l m : List Int} {k : Nat} (hl : k < l.length) (hm : k < m.length) (h : l.take k = m.take k) (he : l.getD k 0 = m.getD k 0) : l.take (k + 1) = m.take (k + 1) := by
 rw [List.take_succ_eq_append_getElem hl, List.take_succ_eq_append_getElem hm, h]
 have e1 : l.getD k 0 = l[k] := by simp [List.getD_eq_getElem?_getD, hl]
 have e2 : m.getD k 0 = m[k] := by simp [List.getD_eq_getElem?_getD, hm]
 rw [← e1, ← e2, he]
theorem takeI_ne {l m : List Int} {k : Nat} (he : l.getD k 0 ≠ m.getD k 0) : ¬ l = m := fun h => he (by rw [h])
set_option maxRecDepth 100000 in
set_option maxHeartbeats 1000000 in
theorem equal_any (A A' : Option Addr) (c c' n n' : Nat) (l m : List Int) (hn : l.length = n) (hn' : m.length = n') (w : World) (hr : Ns .i64 w w.heap.size A l) (hr' : Ns .i64 w w.heap.size A' m) (hbig : n ≤ 140737488355328) (hbig' : n' ≤ 140737488355328) :
  Calls Tryz.prog 83 #[.slice A n c, .slice A' n' c'] w fun e w' => e = .returned (.bool (decide (l = m))) ∧ Below w.heap.size w w' := by
 obtain ⟨R, hR⟩ : ∃ R, decide (l = m) = R := ⟨_, rfl⟩
 rw [hR]
 by_cases hlen : n = n'
 ·subst hlen
  have HV := Lib.hid (And.intro hr (And.intro hr' (And.intro hn (And.intro hn' hR))))
  clear hr hr' hn hn' hR
  go_enter Tryz.func83, Tryz.ntmps83
  go_wp2_with fail
  go_loopw [13] (fun q wr => ∃ k : Nat, q = .int .i64 k ∧ k ≤ n ∧ Below w.heap.size w wr ∧ Hid (l.take k = m.take k)) (fun q _ => n - (intOf q).toNat)
  case atStart => exact ⟨0, rfl, by omega, Below.refl _ _, Lib.hid rfl⟩
  case round =>
   obtain ⟨k, rfl, hk, hb, hst⟩ := hrel
   by_cases hlt : k < n
   ·obtain ⟨b, off, rfl, _, hc⟩ := (HV.out.1.below hb) (by have := HV.out.2.2.1; omega)
    obtain ⟨b', off', rfl, _, hc'⟩ := (HV.out.2.1.below hb) (by have := HV.out.2.2.2.1; omega)
    have c0 := hc k (by have := HV.out.2.2.1; omega)
    have c0' := hc' k (by have := HV.out.2.2.2.1; omega)
    have hy := takeI_eq (l := l) (m := m) (by have := HV.out.2.2.1; omega) (by have := HV.out.2.2.2.1; omega) hst.out
    have hz := takeI_ne (l := l) (m := m) (k := k)
    obtain ⟨x, hx⟩ : ∃ x, l.getD k 0 = x := ⟨_, rfl⟩
    obtain ⟨y, hyy⟩ : ∃ y, m.getD k 0 = y := ⟨_, rfl⟩
    rw [hx] at c0 hy hz
    rw [hyy] at c0' hy hz
    have HY := Lib.hid hy
    have HZ := Lib.hid (fun h => show R = false by rw [← HV.out.2.2.2.2]; exact decide_eq_false (hz h))
    have d1 : (0 : Int) ≤ (k : Int) := by omega
    have d2 : (k : Int) < (n : Int) := by omega
    have HB := Lib.hid (fun j => hb.trans (belowN w.heap.size wr j))
    clear hy hz hx hyy hc hc' hst hb
    by_cases he : x = y
    ·have HF := Lib.hid (HY.out he)
     subst he
     have g1 : (x != x) = false := by simp
     clear HY HZ
     go_wp2_with fail
     go_quiet (fail)
     go_wp2_with fail
     exact ⟨⟨k + 1, rfl, by omega, HB.out _, HF⟩, by simp only [intOf]; omega⟩
    ·have HF := Lib.hid (HZ.out he)
     have g1 : (x != y) = true := by simpa using he
     have g2 : (x == y) = false := by simpa using he
     clear HY HZ
     go_wp2_with fail
     go_quiet (fail)
     go_wp2_with fail
     go_ret
     exact ⟨by rw [HF.out]; rfl, HB.out _⟩
   ·have hkn : k = n := by omega
    subst hkn
    have HF := Lib.hid (show R = true by
     rw [← HV.out.2.2.2.2]
     refine decide_eq_true ?_
     have := hst.out
     rwa [List.take_of_length_le (by have := HV.out.2.2.1; omega), List.take_of_length_le (by have := HV.out.2.2.2.1; omega)] at this)
    clear hst
    go_wp2_with fail
    go_ret
    exact ⟨by rw [HF.out]; rfl, hb⟩
 ·have HF := Lib.hid (show R = false by rw [← hR]; exact decide_eq_false fun h => hlen (by rw [← hn, ← hn', h]))
  have g1 : ((n : Int) == (n' : Int)) = false := by simp; omega
  have g2 : ((n : Int) != (n' : Int)) = true := by simp; omega
  clear hr hr' hn hn' hR
  go_enter Tryz.func83, Tryz.ntmps83
  go_wp2_with fail
  go_ret
  exact ⟨by rw [HF.out]; rfl, Below.refl _ _⟩
set_option maxRecDepth 100000 in
set_option maxHeartbeats 1000000 in
theorem beneath_any (Ap Al : Option Addr) (cp cl np n : Nat) (p : List Int) (l : List Rc) (hnp : p.length = np) (hn : l.length = n) (hbp : np ≤ 140737488355328) (hbig : n ≤ 3518437208882) (V : World) (hr : Ns .i64 V V.heap.size Ap p) (hl : Rb V V.heap.size Al l) :
  Calls Tryz.prog 61 #[.slice Ap np cp, .slice Al n cl] V (fun e w' => e = .returned (.bool (areF p l)) ∧ Below V.heap.size V w') := by
 obtain ⟨R, hR⟩ : ∃ R, areF p l = R := ⟨_, rfl⟩
 rw [hR]
 have HP := Lib.hid (And.intro hnp (And.intro hn (And.intro hr (And.intro hl hR))))
 clear hnp hn hr hl hR
 go_enter Tryz.func61, Tryz.ntmps61
 go_wp2_with fail
 go_loopw [9] (fun q wr => ∃ k : Nat, q = .int .i64 k ∧ k ≤ n ∧ Hid (Below V.heap.size V wr ∧ areF p (l.take k) = true)) (fun q _ => n - (intOf q).toNat)
 case atStart => exact ⟨0, rfl, by omega, Lib.hid ⟨Below.refl _ _, by simp [areF]⟩⟩
 case round =>
  obtain ⟨k, rfl, hk, hst⟩ := hrel
  have hbV := hst.out.1
  by_cases hlt : k < n
  ·have d1 : (0 : Int) ≤ (k : Int) := by omega
   have d2 : (k : Int) < (n : Int) := by omega
   obtain ⟨pb, off, A4, c4, rfl, _, hbB, k0, k1, k2, k3⟩ := HP.out.2.2.2.1.at HP.out.2.1 (Nat.le_refl _) hbV hlt rfl
   obtain ⟨r, hrr⟩ : ∃ r, l.getD k r0 = r := ⟨_, rfl⟩
   rw [hrr] at k0 k1 k2 k3
   obtain ⟨key', lv'⟩ := r
   simp only at k0 k1 k2 k3
   obtain ⟨ml, hml⟩ : ∃ ml, lv'.length = ml := ⟨_, rfl⟩
   rw [hml] at k1 k3
   have hkl : k < l.length := by have := HP.out.2.1; omega
   have hVw := hbV.size
   obtain ⟨Y, hY⟩ : ∃ Y, wr.alloc (.cells #[.string key', .slice A4 ml c4] 70) = Y := ⟨_, rfl⟩
   obtain ⟨rb, hrb⟩ : ∃ rb, wr.heap.size = rb := ⟨_, rfl⟩
   have bY : Below wr.heap.size wr Y := by rw [← hY]; exact (Below.refl _ wr).alloc (Nat.le_refl _) _
   have BY : Blk.Bn rb 70 [.string key', .slice A4 ml c4] Y := by rw [← hY, ← hrb]; exact World.alloc_heap_new _ _
   have H1 := rrecord_any A4 c4 ml key' lv' hml k3.2.1 k3.2.2 Y ((k2.below (bY.mono hVw)).more (Nat.le_trans hVw bY.size))
   have hcl : ∀ w3, Below Y.heap.size Y w3 → w3.cell? ⟨rb, 0, none⟩ = some (.string key') ∧ w3.cell? ⟨rb, 1, none⟩ = some (.slice A4 ml c4) := fun w3 b3 => by
    have hB3 := BY.same (b3.block rb BY.lt)
    have x0 := hB3.cell 0
    have x1 := hB3.cell 1
    simp only [List.getElem?_cons_zero, List.getElem?_cons_succ] at x0 x1
    exact ⟨x0, x1⟩
   obtain ⟨x0, x1⟩ := hcl Y (Below.refl _ _)
   have hsn : l.take (k + 1) = l.take k ++ [(key', lv')] := by rw [Mend.take_at hkl, hrr]
   have hYV : Below V.heap.size V Y := hbV.trans (bY.mono hVw)
   have HB : Hid (areF p (l.take (k + 1)) = (decide (okR (key', lv')) && decide ([dig0 key', dig1 key'] = p)) ∧ Below V.heap.size V Y ∧ key'.size ≤ 140737488355328) := Lib.hid ⟨by
    have h := hst.out.2
    unfold areF at h ⊢
    rw [hsn, List.all_append, h]
    simp, hYV, k3.2.2⟩
   have HNO : Hid ((decide (okR (key', lv')) && decide ([dig0 key', dig1 key'] = p)) = false → R = false) := Lib.hid fun h => by
    rw [← HP.out.2.2.2.2]
    unfold areF
    rw [← List.take_append_drop (k + 1) l, List.all_append]
    have h1 := HB.out.1
    unfold areF at h1
    rw [h1, h]
    rfl
   by_cases hok : okR (key', lv')
   ·rw [decide_eq_true hok] at H1 HB HNO
    have H1 := Lib.hid H1
    have HX : Hid (∀ w3, Below Y.heap.size Y w3 → w3.cell? ⟨rb, 0, none⟩ = some (.string key') ∧ w3.cell? ⟨rb, 1, none⟩ = some (.slice A4 ml c4)) := Lib.hid hcl
    clear hst hbV k2 k3 hrr hml hok hVw bY BY hcl hkl hsn hYV
    go_wp2_with fail
    refine H1.out.mono ?_
    rintro e3 w3 ⟨rfl, b3⟩
    obtain ⟨q0, q1⟩ := HX.out w3 b3
    have HB3 := Lib.hid (HB.out.2.1.trans (b3.mono HB.out.2.1.size))
    have H4 := Lib.hid (place_any key' w3 HB.out.2.2)
    clear b3 H1 x0 x1 hY HX
    go_wp2_with fail
    refine H4.out.mono ?_
    rintro e4 w4 ⟨g4, rfl, hp4, b4⟩
    have hV4 := HB3.out.trans (b4.mono HB3.out.size)
    obtain ⟨E, hE⟩ : ∃ E, decide ([dig0 key', dig1 key'] = p) = E := ⟨_, rfl⟩
    have H5 := equal_any (some ⟨g4, 0, none⟩) Ap 2 cp 2 np [dig0 key', dig1 key'] p rfl HP.out.1 w4 hp4.out.1 ((HP.out.2.2.1.below hV4).more hV4.size) (by omega) hbp
    rw [hE] at H5 HB HNO
    have H5 := Lib.hid H5
    have HB4 := Lib.hid hV4
    clear hE hp4 b4 hV4 H4 q0 q1
    go_wp2_with fail
    refine H5.out.mono ?_
    rintro e5 w5 ⟨rfl, b5⟩
    have hV5 := HB4.out.trans (b5.mono HB4.out.size)
    cases E
    ·have HF := Lib.hid (And.intro (HNO.out rfl) hV5)
     clear b5 hV5 H5 HB HNO
     go_wp2_with fail
     go_ret
     exact ⟨by rw [HF.out.1]; rfl, HF.out.2⟩
    ·have HF : Hid (Below V.heap.size V w5 ∧ areF p (l.take (k + 1)) = true) := Lib.hid ⟨hV5, HB.out.1⟩
     clear b5 hV5 H5 HB HNO
     go_wp2_with fail
     go_roundw
     case rel => exact ⟨k + 1, by go_num, by omega, HF⟩
     case measure => simp only [intOf]; omega
   ·rw [decide_eq_false hok] at H1 HNO
    have H1 := Lib.hid H1
    have HN : Hid (R = false ∧ Below V.heap.size V Y) := Lib.hid ⟨HNO.out rfl, hYV⟩
    clear hst hbV k2 k3 hrr hml hok hVw bY BY hcl hkl hsn hYV HB HNO
    go_wp2_with fail
    refine H1.out.mono ?_
    rintro e3 w3 ⟨rfl, b3⟩
    have HF := Lib.hid (And.intro HN.out.1 (HN.out.2.trans (b3.mono HN.out.2.size)))
    clear b3 H1
    go_wp2_with fail
    go_ret
    exact ⟨by rw [HF.out.1]; rfl, HF.out.2⟩
  ·have hkn : k = n := by omega
   subst hkn
   have HF : Hid (R = true ∧ Below V.heap.size V wr) := Lib.hid ⟨by
    have h := hst.out.2
    rw [List.take_of_length_le (by have := HP.out.2.1; omega)] at h
    rw [← HP.out.2.2.2.2, h], hbV⟩
   clear hst hbV
   go_wp2_with fail
   go_ret
   exact ⟨by rw [HF.out.1]; rfl, HF.out.2⟩
end Pull
end Go.Proofs.YtkfdplfgaddkmaaGreat
