/-
 Several texts of this family in one: MendSort, MendTake, MendRecsRef, MendAnswerRef.
-/
import Derived.Test.YtekhaejhmlebbaaGreatRHTreeB
import Derived.Test.YtekhaejhmlebbaaGreatRHMendA
import Derived.Test.YtekhaejhmlebbaaGreatRHMendB
import Derived.Test.YtekhaejhmlebbaaGreatRVersMerge
import Derived.Test.YtekhaejhmlebbaaGreatRHTreeD
/-
 The records that one takes are sorted by their keys (layer 14).
-/
namespace Go.Proofs.YtekhaejhmlebbaaGreat
namespace Mend
open Go.RowKit Vers Num Ring Disk Blk Tree
open Go.Proofs.YtekhaejhmlebbaaGreat.Code hiding Bn
attribute [local go_sem ↓] Go.wp_at_zero Go.wp_at_succ

set_option maxRecDepth 100000 in
theorem less_any (k k' : Nm) (A A' : Option Addr) (n c n' c' : Nat) (w : World) :
  Calls Tryz.prog 52 #[.agg #[.string k, .slice A n c], .agg #[.string k', .slice A' n' c']] w fun e w' => e = .returned (.int .i64 (Lib.compareBytes k.data.toList k'.data.toList)) ∧ ∃ q os, w' = Go.Sort.grow (w.drewN q) os := by
 have H1 := Lib.hid (fun W => Tryz.strings_Compare k k' W)
 obtain ⟨r, hr⟩ : ∃ r, Lib.compareBytes k.data.toList k'.data.toList = r := ⟨_, rfl⟩
 rw [hr] at H1 ⊢
 have HB : Hid (∃ q' os, (w.alloc (.cells #[.string k, .slice A n c] 53)).alloc (.cells #[.string k', .slice A' n' c'] 53) = Go.Sort.grow (w.drewN q') os) := Lib.hid ⟨0, _, by
  rw [Go.Sort.alloc_eq_grow, Go.Sort.alloc_eq_grow, Go.Sort.grow_grow]
  rfl⟩
 clear hr
 go_enter Tryz.func52, Tryz.ntmps52
 go_wp2_with fail
 refine (H1.out _).mono ?_
 rintro e w1 ⟨rfl, rfl⟩
 go_wp2_with fail
 go_ret
 exact ⟨rfl, HB.out⟩

set_option maxRecDepth 100000 in
theorem sort_any (g cap n base : Nat) (l : List Pr) (hn : l.length = n) (w : World) (ho : w.ownsRow base 53 2 (.slice (some ⟨g, 0, none⟩) n cap) n (rcs l)) (hn2 : n < 4611686018427387904) :
  Calls Tryz.prog 51 #[.slice (some ⟨g, 0, none⟩) n cap, .func (.func 52) #[] #[]] w fun e w' => e = .returned (.tuple #[]) ∧ ∃ l', Hid (l'.Perm l ∧ l'.Pairwise (fun p q => nlt q.1.1 p.1.1 = false) ∧ Prs w' g l' ∧ w.grownBy w' (some g) ∧ ∃ cur, w'.heap[g]? = some (.cells cur 53 (0, 0))) := by
 have eg : ∀ args w, (callFunc 52 args).run Tryz.prog w = .ok (.enter 52 args) w := enters_of Tryz.func52 (by kernel_rfl) rfl
 have hH := holds_own hn ho
 have hlt := ho.lt g rfl
 have hcon := AnyQ.slices_SortFunc Tryz.sortRec 2 Tryz.isAgg53 Tryz.sizeOf53 rcc (fun _ => rfl) (fun x v hv => by simp [rcc] at hv; rcases hv with rfl | rfl <;> rfl) cmpK swoK 52 #[] g 0 cap l.toArray w eg (fun m os dk _ x y => less_any x.1.1 y.1.1 x.2.1 y.2.1 _ _ _ _ _) hH hlt.2 (by simpa [hn] using hn2)
 simp only [List.size_toArray, hn] at hcon
 refine Calls.mono hcon ?_
 rintro e w' ⟨he, d', m, os, hp, hs, hw⟩
 have hsz : d'.size = n := by have := hp.1; simpa [hn] using this
 have hH' := holdsK_sortWorldK_c rcc 2 w g 0 l.toArray d' m os hH hlt.2 (by rw [hsz]; simp [hn])
 rw [← hw] at hH'
 have hget : ∀ i, i < n → d'[i]! = d'.toList.getD i (r0, none, 0) := fun i hi => by
  rw [getElem!_pos _ _ (by omega)]
  simp [List.getD_eq_getElem?_getD, show i < d'.size by omega]
 obtain ⟨cur, hcur⟩ := own_block ho (g := g) rfl
 refine ⟨he, d'.toList, Lib.hid ⟨?_, ?_, fun j hj => ?_, ?_, ?_⟩⟩
 ·have h3 := hp.2.2
  have e1 : d'.extract 0 n = d' := by rw [← hsz]; exact Array.extract_size
  have e2 : l.toArray.extract 0 n = l.toArray := by have h := Array.extract_size (xs := l.toArray); simpa [hn] using h
  rw [e1, e2] at h3
  simpa using h3
 ·rw [List.pairwise_iff_getElem]
  intro i j hi hj hij
  have hi' : i < d'.size := by simpa using hi
  have hj' : j < d'.size := by simpa using hj
  have h3 := hs i j (Nat.zero_le _) hij (by omega)
  unfold ltOf at h3
  rw [decide_eq_false_iff_not, cmpK_lt, Bool.not_eq_true] at h3
  rw [getElem!_pos d' i hi', getElem!_pos d' j hj'] at h3
  simpa only [Array.getElem_toList] using h3
 ·have hj' : j < d'.size := by simpa using hj
  have c0 := (hH'.cell hj' (c := 0) (by omega)).1
  have c1 := (hH'.cell hj' (c := 1) (by omega)).1
  rw [hget j (by omega), Nat.zero_add] at c0 c1
  exact ⟨c0, c1⟩
 ·rw [hw]
  refine ⟨rfl, rfl, rfl, size_sortWorldK_c _ _ _ _ _ _ _ _, fun k hk hne => ?_⟩
  have hkg : k ≠ g := fun e => hne (by rw [e])
  unfold sortWorldK
  rw [Go.Sort.heap_grow_old _ _ (by rw [Go.Sort.size_putRowK]; show k < w.heap.size; omega)]
  unfold Go.Sort.putRowK Go.Sort.putRow Go.Sort.mapBlock
  simp only [Go.Sort.heap_ahead, Array.getElem?_modify]
  rw [if_neg (fun e => hkg e.symm)]
 ·rw [hw]
  unfold sortWorldK
  rw [Go.Sort.heap_grow_old _ _ (by rw [Go.Sort.size_putRowK]; show g < w.heap.size; omega)]
  unfold Go.Sort.putRowK Go.Sort.putRow Go.Sort.mapBlock
  simp only [Go.Sort.heap_ahead, Array.getElem?_modify, hcur, if_true, Option.map_some]
  exact ⟨_, rfl⟩

end Mend
end Go.Proofs.YtekhaejhmlebbaaGreat

/-
 mend.Take (layer 14).
-/
namespace Go.Proofs.YtekhaejhmlebbaaGreat
namespace Mend
open Go.RowKit Vers Num Ring Disk Blk Tree Go.Maps
open Go.Proofs.YtekhaejhmlebbaaGreat.Code hiding Bn
attribute [local go_sem ↓] Go.wp_at_zero Go.wp_at_succ
def HoldN (w : World) (L B : Nat) (D : Vl) (M : List Rc) : Prop := ∀ k, (find M k = none ∧ find D k = none) ∨ ∃ lv A c, find M k = some lv ∧ find D k = some (.slice A lv.length c) ∧ Vs w L B A lv ∧ lv.length ≤ c ∧ RightV lv ∧ k.size ≤ 140737488355328
theorem HoldN.keep {w w' : World} {L B : Nat} {D : Vl} {M : List Rc} (h : HoldN w L B D M) (hk : ∀ p : Addr, L ≤ p.block → p.block < B → w'.cell? p = w.cell? p) : HoldN w' L B D M := fun k => by
 rcases h k with h | ⟨lv, A, c, h1, h2, h3, h4⟩
 ·exact .inl h
 ·exact .inr ⟨lv, A, c, h1, h2, h3.keep hk, h4⟩
theorem HoldN.more {w : World} {L B B' : Nat} {D : Vl} {M : List Rc} (h : HoldN w L B D M) (hB : B ≤ B') : HoldN w L B' D M := fun k => by
 rcases h k with h | ⟨lv, A, c, h1, h2, h3, h4⟩
 ·exact .inl h
 ·exact .inr ⟨lv, A, c, h1, h2, h3.more hB, h4⟩
theorem HoldN.put {w : World} {L B : Nat} {D : Vl} {M : List Rc} (h : HoldN w L B D M) {key : Nm} {lv : List Vr} {A : Option Addr} {c m : Nat} (hm : lv.length = m) (hv : Vs w L B A lv) (hc : m ≤ c) (h5 : RightV lv) (hz : key.size ≤ 140737488355328) : HoldN w L B (wit D key (.slice A m c)) (wit M key lv) := fun k => by
 rw [find_wit, find_wit]
 by_cases hk : k = key
 ·rw [if_pos hk, if_pos hk]
  exact .inr ⟨lv, A, c, rfl, by rw [hm], hv, by omega, h5, by rw [hk]; exact hz⟩
 ·rw [if_neg hk, if_neg hk]
  exact h k
theorem mergeT_len (was t : List Rc) (r : Rc) : (mergeT was t r).length ≤ t.length + 1 := by
 unfold mergeT
 split
 ·rw [wit, Tree.ins_len]
  have := wout_len t r.1
  omega
 ·omega
theorem taken_len (was l : List Rc) : ∀ acc : List Rc, (l.foldl (mergeT was) acc).length ≤ acc.length + l.length := by
 induction l with
 | nil => intro acc; simp
 | cons r l ih =>
  intro acc
  have h1 := ih (mergeT was acc r)
  have h2 := mergeT_len was acc r
  simp only [List.foldl_cons, List.length_cons]
  omega
theorem taken_srt (was l : List Rc) : ∀ acc : List Rc, Srt acc → Srt (l.foldl (mergeT was) acc) := by
 induction l with
 | nil => exact fun acc h => h
 | cons r l ih => exact fun acc h => ih _ (mergeT_srt h r)
theorem fold_takeT {l : List Rc} {k : Nat} {r : Rc} (was : List Rc) (hk : k < l.length) (hr : l.getD k r0 = r) : (l.take (k + 1)).foldl (mergeT was) [] = mergeT was ((l.take k).foldl (mergeT was) []) r := by
 rw [take_at hk, hr, List.foldl_append]
 rfl
def CollT (all : List Rc) (pick : Rc → Bool) (more : Rc → Prop) (ps : List Pr) : Prop := (ps.map Prod.fst).Nodup ∧ ∀ r, r ∈ ps.map Prod.fst ↔ r ∈ all ∧ pick r = true ∧ more r
theorem CollT.same {all : List Rc} {pick : Rc → Bool} {more more' : Rc → Prop} {ps : List Pr} (h : CollT all pick more ps) (hm : ∀ r, r ∈ all → pick r = true → (more r ↔ more' r)) : CollT all pick more' ps := by
 refine ⟨h.1, fun r => (h.2 r).trans ?_⟩
 constructor
 ·rintro ⟨h1, h2, h3⟩
  exact ⟨h1, h2, (hm r h1 h2).1 h3⟩
 ·rintro ⟨h1, h2, h3⟩
  exact ⟨h1, h2, (hm r h1 h2).2 h3⟩
theorem CollT.add {all : List Rc} {pick : Rc → Bool} {more more' : Rc → Prop} {ps : List Pr} (h : CollT all pick more ps) (p : Pr) (hp : p.1 ∈ all) (hl : pick p.1 = true) (hno : ¬ more p.1) (hm : ∀ r, r ∈ all → pick r = true → (more' r ↔ more r ∨ r = p.1)) : CollT all pick more' (ps ++ [p]) := by
 refine ⟨?_, fun r => ?_⟩
 ·rw [List.map_append, List.nodup_append]
  refine ⟨h.1, by simp, fun x hx y hy e => ?_⟩
  simp at hy
  subst hy
  subst e
  exact hno ((h.2 _).1 hx).2.2
 ·rw [List.map_append, List.mem_append, h.2 r]
  simp only [List.map_cons, List.map_nil, List.mem_singleton]
  constructor
  ·rintro (⟨h1, h2, h3⟩ | rfl)
   ·exact ⟨h1, h2, (hm r h1 h2).2 (.inl h3)⟩
   ·exact ⟨hp, hl, (hm _ hp hl).2 (.inr rfl)⟩
  ·rintro ⟨h1, h2, h3⟩
   rcases (hm r h1 h2).1 h3 with h4 | rfl
   ·exact .inl ⟨h1, h2, h4⟩
   ·exact .inr rfl
theorem CollT.len {all : List Rc} {pick : Rc → Bool} {more : Rc → Prop} {ps : List Pr} (h : CollT all pick more ps) : ps.length ≤ all.length := by
 have := nodup_len h.1 fun x hx => ((h.2 x).1 hx).1
 simpa using this
theorem collT_end {all : List Rc} (hs : Srt all) {pick : Rc → Bool} {more : Rc → Prop} {ps ps' : List Pr} (h : CollT all pick more ps) (hall : ∀ r ∈ all, more r) (h1 : ps'.Perm ps) (h2 : ps'.Pairwise fun x y => nlt y.1.1 x.1.1 = false) : ps'.map Prod.fst = all.filter pick := by
 have hmem : ∀ r, r ∈ ps'.map Prod.fst ↔ r ∈ all.filter pick := fun r => by
  rw [(h1.map Prod.fst).mem_iff, h.2 r, List.mem_filter]
  constructor
  ·rintro ⟨q1, q2, _⟩
   exact ⟨q1, q2⟩
  ·rintro ⟨q1, q2⟩
   exact ⟨q1, q2, hall r q1⟩
 have hnd : (ps'.map Prod.fst).Nodup := (h1.map Prod.fst).nodup_iff.2 h.1
 have hsrt : Srt (ps'.map Prod.fst) := by
  unfold Srt
  rw [List.pairwise_map]
  have hk : ps'.Pairwise fun x y => x.1 ≠ y.1 := by
   unfold List.Nodup at hnd
   rwa [List.pairwise_map] at hnd
  refine List.Pairwise.imp_of_mem ?_ (List.Pairwise.and hk h2)
  rintro x y hx hy ⟨e1, e2⟩
  have m1 := (List.mem_filter.1 ((hmem _).1 (List.mem_map.2 ⟨x, hx, rfl⟩))).1
  have m2 := (List.mem_filter.1 ((hmem _).1 (List.mem_map.2 ⟨y, hy, rfl⟩))).1
  refine nlt_tri e2 fun e => e1 ?_
  have f1 := find_mem hs m1
  have f2 := find_mem hs m2
  rw [← e, f2] at f1
  exact Prod.ext e.symm (by injection f1 with f1; exact f1.symm)
 exact srt_mem hsrt (List.Pairwise.filter _ hs) hmem
def TakeN (r : List Rc × Int) (V : World) (e : Ending) (w' : World) : Prop := ∃ A m c ps, e = .returned (.tuple #[.slice A m c, .int .i64 r.2]) ∧ Hid (ps.map Prod.fst = r.1 ∧ r.1.length = m ∧ m ≤ c ∧ Got V.heap.size w' A ps) ∧ Below V.heap.size V w'
theorem takeN_no {l l' : List Rc} (h : ¬ (okL l ∧ okL l')) {V w : World} (hb : Below V.heap.size V w) : TakeN (takeR l l') V (.returned (.tuple #[.slice none 0 0, .int .i64 1])) w := by
 unfold takeR
 rw [if_neg h]
 exact ⟨none, 0, 0, [], rfl, Lib.hid ⟨rfl, rfl, Nat.le_refl _, fun h => absurd h (by simp)⟩, hb⟩
def TakeL (was l' : List Rc) (n' tb : Nat) (U : World) (q : Value) (wr : World) : Prop :=
 ∃ k : Nat, q = .int .i64 k ∧ k ≤ n' ∧ Hid (∃ D, MI wr tb D ∧ D.length ≤ k ∧ HoldN wr (tb + 1) wr.heap.size D ((l'.take k).foldl (mergeT was) []) ∧ Below tb U wr ∧ tb < wr.heap.size)
set_option maxRecDepth 100000 in
set_option maxHeartbeats 4000000 in
theorem take_any (A A' : Option Addr) (c c' n n' : Nat) (l l' : List Rc) (hn : l.length = n) (hn' : l'.length = n') (hbig : n ≤ 3518437208882) (hbig' : n' ≤ 3518437208882) (V : World) (hr : Rs V 0 V.heap.size A l) (hr' : Rs V 0 V.heap.size A' l') :
  Calls Tryz.prog 18 #[.slice A n c, .slice A' n' c'] V (TakeN (takeR l l') V) := by
 obtain ⟨i0, hi, hz0, hz1, hz2⟩ := info_parts info_rec'
 have hmm := @run_makeMap Tryz.prog
 have H1 := Lib.hid (hold_any A c n V.heap.size l hn hbig V (Nat.le_refl _) (rs_rb hr))
 have HP := Lib.hid (And.intro hn' (And.intro (rs_rb hr') hbig'))
 clear hn hn' hr hr' hbig hbig'
 go_enter Tryz.func18, Tryz.ntmps18
 go_wp2_with fail
 refine H1.out.mono ?_
 rintro e1 w1 (⟨hok, mb, D1, rfl, h1, b1⟩ | ⟨hno, rfl, b1⟩)
 ·have H2 := Lib.hid (hold_any A' c' n' V.heap.size l' HP.out.1 HP.out.2.2 w1 b1.size (Rb.below HP.out.2.1 (Nat.le_refl _) b1))
  have HA := Lib.hid (And.intro hok (And.intro h1.out b1))
  clear H1 h1 b1 hok
  go_wp2_with fail
  refine H2.out.mono ?_
  rintro e2 w2 (⟨hok2, mb2, D2, rfl, _, b2⟩ | ⟨hno, rfl, b2⟩)
  ·have b12 : Below V.heap.size V w2 := HA.out.2.2.trans (b2.mono HA.out.2.2.size)
   obtain ⟨was, hwas⟩ : ∃ W, heldF l = W := ⟨_, rfl⟩
   have hT : takeR l l' = ((takenF was l').filter (fun r => !decide (r.2 = []) && !decide (r.2 = getF was r.1)), 0) := by
    unfold takeR
    rw [if_pos ⟨HA.out.1, hok2⟩, ← taken_same, hwas]
   obtain ⟨hmi1, hho1, hle1⟩ := HA.out.2.1
   have hgw : ∀ k, getF (lastF l) k = getF was k := fun k => by rw [last_get, hwas]
   have hmlt := hmi1.lt
   obtain ⟨tb, htb⟩ : ∃ tb, w2.heap.size = tb := ⟨_, rfl⟩
   obtain ⟨U, hU⟩ : ∃ U, w2.alloc (.map #[] 0) = U := ⟨_, rfl⟩
   have bU : Below w2.heap.size w2 U := by rw [← hU]; exact (Below.refl _ w2).alloc (Nat.le_refl _) _
   have hUs : U.heap.size = tb + 1 := by rw [← hU, ← htb]; simp
   have HB := Lib.hid (And.intro b12 (And.intro ((hmi1.same (b2.block mb hmlt)).same (bU.block mb (Nat.lt_of_lt_of_le hmlt b2.size))) (And.intro ((hho1.keep (b2.mono HA.out.2.2.size)).keep (bU.mono b12.size)) (And.intro hgw (And.intro hT (And.intro (Nat.lt_of_lt_of_le hmlt (by have := b2.size; omega) : mb < tb) (And.intro bU (And.intro htb hUs))))))))
   have HI : Hid (TakeL was l' n' tb U (.int .i64 0) U) := Lib.hid ⟨0, rfl, by omega, Lib.hid ⟨[], by rw [← hU, ← htb]; exact mi_made w2, Nat.le_refl _, fun k => .inl ⟨rfl, rfl⟩, Below.refl _ _, by omega⟩⟩
   clear H2 b2 hok2 b12 hwas hT HA hmi1 hho1 hle1 hgw hmlt bU hUs
   go_wp2_with fail
   go_loopw [39] (fun q wr => TakeL was l' n' tb U q wr) (fun q _ => n' - (intOf q).toNat)
   case atStart => exact HI.out
   case round =>
    clear HI
    obtain ⟨k, rfl, hk, hst⟩ := hrel
    have hbU : Below tb U wr ∧ tb < wr.heap.size := by obtain ⟨D, _, _, _, hb⟩ := hst.out; exact hb
    have hbg := HP.out.2.2
    by_cases hlt : k < n'
    ·have d1 : (0 : Int) ≤ (k : Int) := by omega
     have d2 : (k : Int) < (n' : Int) := by omega
     have hVt : V.heap.size ≤ tb := by have := HB.out.1.size; have := HB.out.2.2.2.2.2.2.2.1; omega
     have hbV : Below V.heap.size V wr := HB.out.1.trans ((HB.out.2.2.2.2.2.2.1.mono HB.out.1.size).trans (hbU.1.mono hVt))
     obtain ⟨pb, off, A4, c4, rfl, _, hbB, k0, k1, k2, k3⟩ := HP.out.2.1.at HP.out.1 (Nat.le_refl _) hbV hlt rfl
     obtain ⟨r, hrr⟩ : ∃ r, l'.getD k r0 = r := ⟨_, rfl⟩
     rw [hrr] at k0 k1 k2 k3
     obtain ⟨key', lv'⟩ := r
     simp only at k0 k1 k2 k3
     obtain ⟨ml, hml⟩ : ∃ ml, lv'.length = ml := ⟨_, rfl⟩
     rw [hml] at k1 k3
     have hkl : k < l'.length := by have := HP.out.1; omega
     have hVw := hbV.size
     obtain ⟨Y, hY⟩ : ∃ Y, wr.alloc (.cells #[.string key', .slice A4 ml c4] 53) = Y := ⟨_, rfl⟩
     obtain ⟨rb, hrb⟩ : ∃ rb, wr.heap.size = rb := ⟨_, rfl⟩
     have bY : Below wr.heap.size wr Y := by rw [← hY]; exact (Below.refl _ wr).alloc (Nat.le_refl _) _
     have BY : Blk.Bn rb 53 [.string key', .slice A4 ml c4] Y := by rw [← hY, ← hrb]; exact World.alloc_heap_new _ _
     have hcl : ∀ w3, Below Y.heap.size Y w3 → w3.cell? ⟨rb, 0, none⟩ = some (.string key') ∧ w3.cell? ⟨rb, 1, none⟩ = some (.slice A4 ml c4) := fun w3 b3 => by
      have hB3 := BY.same (b3.block rb BY.lt)
      have x0 := hB3.cell 0
      have x1 := hB3.cell 1
      simp only [List.getElem?_cons_zero, List.getElem?_cons_succ] at x0 x1
      exact ⟨x0, x1⟩
     obtain ⟨x0, x1⟩ := hcl Y (Below.refl _ _)
     have hokN : Tree.okN key' := by have := k3.2.2; unfold Tree.okN maxLen; omega
     obtain ⟨D, hmi, hlen, hho, _, _⟩ := hst.out
     obtain ⟨T, hTT⟩ : ∃ T, (l'.take k).foldl (mergeT was) [] = T := ⟨_, rfl⟩
     rw [hTT] at hho
     have hmiY := hmi.same (bY.block tb hbU.2)
     have hl1 := hm_look_ok hmiY key' hokN
     have hhoY : HoldN Y (tb + 1) wr.heap.size D T := hho.keep fun p _ hp => bY.cell hp
     have HMb := HB.out.2.1.same ((hbU.1.trans (bY.mono (Nat.le_of_lt hbU.2))).block mb HB.out.2.2.2.2.2.1)
     have hl2 := hm_look HMb key' hokN
     -- what was there
     have hbase : ∃ A6 c6 m6 lv6, Hid (baseT was T key' = lv6 ∧ lv6.length = m6 ∧ m6 ≤ c6 ∧ m6 ≤ 512 ∧ Vs Y 0 Y.heap.size A6 lv6) ∧ ((find D key' = some (.slice A6 m6 c6)) ∨ (find D key' = none ∧ (find D1 key').getD (.slice none 0 0) = .slice A6 m6 c6)) := by
      rcases hhoY key' with ⟨h1, h2⟩ | ⟨lv, A6, c6, h1, h2, h3, h4, h5⟩
      ·obtain ⟨A6, c6, g1, g2, g3, g4⟩ := hold_get HB.out.2.2.1 key'
       rw [HB.out.2.2.2.1] at g1 g2 g3 g4
       refine ⟨A6, c6, _, _, Lib.hid ⟨?_, rfl, g3, g4, ?_⟩, .inr ⟨h2, g1⟩⟩
       ·unfold baseT; rw [h1]; rfl
       ·exact (g2.below ((hbU.1.mono hVt).trans (bY.mono hVw))).more (Nat.le_trans hVw bY.size)
      ·refine ⟨A6, c6, lv.length, lv, Lib.hid ⟨?_, rfl, h4, h5.1.1, (h3.more bY.size).less (Nat.zero_le _)⟩, .inl h2⟩
       unfold baseT; rw [h1]; rfl
     obtain ⟨A6, c6, m6, lv6, HQ, hfind⟩ := hbase
     have HM : Hid (Calls Tryz.prog 48 #[.slice A6 m6 c6, .slice A4 ml c4] Y (fun e w3 => ∃ A7 m7 c7 e7, e = .returned (.tuple #[.slice A7 m7 c7, .int .i64 e7]) ∧ w3.cell? ⟨rb, 0, none⟩ = some (.string key') ∧ w3.cell? ⟨rb, 1, none⟩ = some (.slice A4 ml c4) ∧
       ((e7 = 0 ∧ ∃ w4, (Instr.mapUpdate 82 (.map (some tb)) (.string key') (.slice A7 m7 c7)).run Tryz.prog w3 = .ok () w4 ∧ Hid (TakeL was l' n' tb U (.int .i64 ((k : Int) + 1)) w4)) ∨ (e7 ≠ 0 ∧ Hid (TakeL was l' n' tb U (.int .i64 ((k : Int) + 1)) w3))))) := Lib.hid (by
      refine (merge_any A6 A4 c6 c4 m6 ml lv6 lv' HQ.out.2.1 hml HQ.out.2.2.1 k3.1 Y HQ.out.2.2.2.2 ((k2.below (bY.mono hVw)).more (Nat.le_trans hVw bY.size)) (by have := HQ.out.2.2.2.1; omega) k3.2.1).mono ?_
      rintro e w3 ⟨A7, c7, rfl, hc7, hv7, b3⟩
      obtain ⟨y0, y1⟩ := hcl w3 b3
      have b13 : Below wr.heap.size wr w3 := bY.trans (b3.mono bY.size)
      refine ⟨A7, _, c7, _, rfl, y0, y1, ?_⟩
      obtain ⟨R, hR⟩ : ∃ R, mergeF lv6 lv' = R := ⟨_, rfl⟩
      rw [hR] at hc7 hv7 ⊢
      have hho3 : HoldN w3 (tb + 1) w3.heap.size D T := (hho.keep fun p _ hp => b13.cell hp).more b13.size
      have hmi3 := hmi.same (b13.block tb hbU.2)
      have hs3 := b13.size
      have hft := fold_takeT was hkl hrr
      rw [hTT] at hft
      have hU3 : Below tb U w3 := hbU.1.trans (b13.mono (Nat.le_of_lt hbU.2))
      by_cases he : R.2 = 0
      ·have hmr := merge_right (a := lv6) (b := lv') (r := R.1) (by rw [hR, ← he])
       refine .inl ⟨he, ?_⟩
       obtain ⟨w4, hrun, hmi4, hg⟩ := hm_store hmi3 (by omega) key' hokN (.slice A7 R.1.length c7)
       refine ⟨w4, hrun, Lib.hid ⟨k + 1, by go_num, by omega, Lib.hid ⟨_, hmi4, ?_, ?_, ?_, ?_⟩⟩⟩
       ·rw [wit, Tree.ins_len]
        have := wout_len D key'
        omega
       ·rw [hft]
        have e1 : mergeT was T (key', lv') = wit T key' R.1 := by
         unfold mergeT
         rw [show baseT was T (key', lv').1 = lv6 from HQ.out.1, hR, if_pos he]
        rw [e1]
        have hk4 : ∀ p : Addr, tb + 1 ≤ p.block → p.block < w3.heap.size → w4.cell? p = w3.cell? p := fun p h1 h2 => World.cell?_of_block (hg.block p.block h2 (by intro e; injection e with e; omega))
        refine HoldN.put ((hho3.keep hk4).more hg.size) rfl ?_ hc7 hmr.2.2.2.2 k3.2.2
        have h7 : Vs w3 (tb + 1) w3.heap.size A7 R.1 := hv7.less (by have := bY.size; have := hbU.2; omega)
        exact (h7.keep hk4).more hg.size
       ·exact hU3.grown hg (by have := hbU.2; omega) (fun j hj => by injection hj with hj; omega)
       ·have := hg.size; have := hbU.2; omega
      ·refine .inr ⟨he, Lib.hid ⟨k + 1, by go_num, by omega, Lib.hid ⟨D, hmi3, by omega, ?_, hU3, by have := hbU.2; omega⟩⟩⟩
       rw [hft]
       have e1 : mergeT was T (key', lv') = T := by
        unfold mergeT
        rw [show baseT was T (key', lv').1 = lv6 from HQ.out.1, hR, if_neg he]
       rw [e1]
       exact hho3)
     clear hst hbU hVt hbV k2 k3 hrr hml hkl hVw bY BY hcl hokN hmi hlen hho hTT hmiY hhoY HMb HQ
     rcases hfind with h2 | ⟨h2, h3⟩
     ·rw [h2] at hl1
      simp only [Option.getD_some, Option.isSome_some] at hl1
      clear h2 hl2
      go_wp2_with fail
      refine HM.out.mono ?_
      rintro e3 w3 ⟨A7, m7, c7, e7, rfl, y0, y1, ⟨rfl, w4, hrun, HF⟩ | ⟨he7, HF⟩⟩
      ·clear HM x0 x1 hl1 hY
       go_wp2_with fail
       go_roundw
       case rel => exact HF.out
       case measure => simp only [intOf]; omega
      ·have e1 : (e7 == 0) = false := by simpa using he7
       clear HM x0 x1 hl1 hY he7
       go_wp2_with fail
       go_roundw
       case rel => exact HF.out
       case measure => simp only [intOf]; omega
     ·rw [h2] at hl1
      rw [h3] at hl2
      simp only [Option.getD_none, Option.isSome_none] at hl1
      clear h2 h3
      go_wp2_with fail
      refine HM.out.mono ?_
      rintro e3 w3 ⟨A7, m7, c7, e7, rfl, y0, y1, ⟨rfl, w4, hrun, HF⟩ | ⟨he7, HF⟩⟩
      ·clear HM x0 x1 hl1 hl2 hY
       go_wp2_with fail
       go_roundw
       case rel => exact HF.out
       case measure => simp only [intOf]; omega
      ·have e1 : (e7 == 0) = false := by simpa using he7
       clear HM x0 x1 hl1 hl2 hY he7
       go_wp2_with fail
       go_roundw
       case rel => exact HF.out
       case measure => simp only [intOf]; omega
    ·have hkn : k = n' := by omega
     subst hkn
     have hfull : l'.take k = l' := List.take_of_length_le (by have := HP.out.1; omega)
     obtain ⟨D, hmi, hlen, hho, _, htw⟩ := hst.out
     rw [hfull] at hho
     obtain ⟨wo, hwo⟩ : ∃ W, W = wr := ⟨_, rfl⟩
     subst hwo
     have hVt : V.heap.size ≤ tb := by have := HB.out.1.size; have := HB.out.2.2.2.2.2.2.2.1; omega
     have hbV : Below V.heap.size V wo := HB.out.1.trans ((HB.out.2.2.2.2.2.2.1.mono HB.out.1.size).trans (hbU.1.mono hVt))
     obtain ⟨N, hN⟩ : ∃ N, takenF was l' = N := ⟨_, rfl⟩
     obtain ⟨pick, hpick⟩ : ∃ f : Rc → Bool, (fun r : Rc => !decide (r.2 = []) && !decide (r.2 = getF was r.1)) = f := ⟨_, rfl⟩
     have hNl : N.length ≤ 3518437208882 := by have h := taken_len was l' []; rw [show l'.foldl (mergeT was) [] = N from hN] at h; simp at h; have := HP.out.1; omega
     have hNs : Srt N := by rw [← hN]; exact taken_srt was l' [] Srt.nil
     rw [show l'.foldl (mergeT was) [] = N from hN] at hho
     have hT := HB.out.2.2.2.2.1
     rw [hN, hpick] at hT
     have HMb := Lib.hid (And.intro (HB.out.2.1.same (hbU.1.block mb HB.out.2.2.2.2.2.1)) (And.intro HB.out.2.2.2.2.2.1 (And.intro (HB.out.2.2.1.keep (hbU.1.mono hVt)) (And.intro ((hbU.1.mono hVt).size) HB.out.2.2.2.1))))
     have HE : Hid (∀ {more : Rc → Prop} {ps ps' : List Pr}, CollT N pick more ps → (∀ r ∈ N, more r) → ps'.Perm ps → (ps'.Pairwise fun x y => nlt y.1.1 x.1.1 = false) → ps'.map Prod.fst = N.filter pick) := Lib.hid fun q1 q2 q3 q4 => collT_end hNs q1 q2 q3 q4
     have HN := Lib.hid (And.intro hNl (And.intro hho (And.intro hT (And.intro hpick (And.intro hbV hNs)))))
     obtain ⟨D0, n0, hown, hm, hsr, hok, hsz⟩ := hmi
     have HMM := Lib.hid (And.intro hm (And.intro hsr hok))
     have htw' := htw
     have HTW := Lib.hid (And.intro htw hVt)
     clear hst hbU hfull hlen hho hVt hbV hN hNl hNs hT hm hsr hok hsz HB hbg htw' hpick
     go_wp2_with (first
      | (at_range; refine wpList_range_own _ rfl _ 82 rfl 9 50 keyed Tryz.underlying82 _ tb n0 _ rfl hown ?_; intro w0 hrg0 hg0 hs0)
      | fail)
     go_frame
     have hb0 : Below wo.heap.size wo w0 := (Below.refl _ _).grown hg0 (Nat.le_refl _) (fun j hj => by cases hj)
     have HI2 := Lib.hid (And.intro hrg0 (And.intro hb0 hs0))
     clear hrg0 hg0 hb0 hs0 hown
     go_loopw [17] (fun v wq => ∃ (left : Lit → Bool) (cnt : Nat) (qs : List Pr), wq.ranges Tryz.prog 9 heldE tb wo.heap.size n0 D0 left cnt ∧ Hid (RowT wo.heap.size wo.heap.size wq v qs ∧ CollT N pick (fun r => ∃ kl, keyOf Tryz.prog 9 (.string r.1) = some kl ∧ left kl = false) qs ∧ Below wo.heap.size wo wq ∧ wo.heap.size < wq.heap.size))
      (fun _ wq => wq.rangeLeft tb wo.heap.size)
     case atStart =>
      refine ⟨_, _, [], HI2.out.1, Lib.hid ⟨rowT_nil _ _ _, ⟨by simp, fun r => ⟨fun h => (by simp at h), ?_⟩⟩, HI2.out.2.1, by rw [HI2.out.2.2]; omega⟩⟩
      rintro ⟨hr, _, kl, h1, h2⟩
      rw [HMM.out.1.has h1] at h2
      have h4 := find_mem HN.out.2.2.2.2.2 hr
      rcases HN.out.2.1 r.1 with ⟨h5, _⟩ | ⟨_, _, _, _, h6, _⟩
      ·rw [h5] at h4; cases h4
      ·rw [h6] at h2; cases h2
     case round =>
      obtain ⟨left, cnt, qs, hrg, hst⟩ := hrel
      go_wp2_with (first
       | (at_next; refine wpList_next_ranges _ rfl _ rfl 9 keyed heldE Value.string (fun v : Value => v) (fun key kl hk => by obtain ⟨x, hx, _⟩ := key_inv hk; exact ⟨x, hx⟩) (fun v y hv => ⟨v, rfl⟩) tb wo.heap.size n0 _ _ _ rfl hrg ?_ ?_)
       | fail)
      ·intro hc0 hl0
       have hcol : CollT N pick (fun _ => True) qs := hst.out.2.1.same fun r hr _ => ⟨fun _ => trivial, fun _ => by
        rcases HN.out.2.1 r.1 with ⟨h5, _⟩ | ⟨_, _, _, _, h6, _⟩
        ·have h4 := find_mem HN.out.2.2.2.2.2 hr
         rw [h5] at h4; cases h4
        ·obtain ⟨kl, hkl⟩ := key_of (HMM.out.2.2 _ (find_some h6))
         exact ⟨kl, hkl, hl0 kl⟩⟩
       have hrow := hst.out.1
       have hps := hcol.len
       have hN2 := HN.out.1
       have hbs := hst.out.2.2.1.size
       have hb := hst.out.2.2.1
       have HB3 := Lib.hid (And.intro (Nat.le_trans HTW.out.2 (Nat.le_of_lt HTW.out.1)) (HN.out.2.2.2.2.1.trans (hb.mono HN.out.2.2.2.2.1.size)))
       rcases hrow.1.2 with ⟨hv, h0⟩ | ⟨g, cap, cur, hv, hbg, hg, hnc, _⟩
       ·have hnil : qs = [] := List.eq_nil_of_length_eq_zero h0
        subst hnil
        have hR := HE.out hcol (fun _ _ => trivial) (List.Perm.refl _) List.Pairwise.nil
        have HF : Hid (TakeN (takeR l l') V (.returned (.tuple #[.slice none 0 0, .int .i64 0])) wr) := Lib.hid (by
         rw [HN.out.2.2.1]
         exact ⟨none, 0, 0, [], rfl, Lib.hid ⟨hR, by show (N.filter pick).length = 0; rw [← hR]; rfl, Nat.le_refl _, fun h => absurd h (by simp)⟩, HB3.out.2⟩)
        subst hv
        clear hst hrow hcol hps hR hb hrg hbs
        go_wp2_with fail
        refine (sort_none none 0 _ wr).mono ?_
        rintro e w4 ⟨rfl, rfl⟩
        go_wp2_with fail
        go_ret2
        exact HF.out
       ·obtain ⟨nn, hnn⟩ : ∃ nn, qs.length = nn := ⟨_, rfl⟩
        have ho := hrow.1
        rw [hv, hnn] at ho
        rw [hnn] at hv hnc hps
        have hgl := (ho.lt g rfl).2
        have hS := Lib.hid (sort_any g cap nn wo.heap.size qs hnn wr ho (by omega))
        have HF : Hid (∀ w', (∃ l', Hid (l'.Perm qs ∧ l'.Pairwise (fun p q => nlt q.1.1 p.1.1 = false) ∧ Prs w' g l' ∧ wr.grownBy w' (some g) ∧ ∃ cur, w'.heap[g]? = some (.cells cur 53 (0, 0)))) → TakeN (takeR l l') V (.returned (.tuple #[.slice (some ⟨g, 0, none⟩) nn cap, .int .i64 0])) w') := Lib.hid fun w' ⟨l'', hh⟩ => by
         obtain ⟨h1, h2, h3, h4, h5⟩ := hh.out
         have hR := HE.out hcol (fun _ _ => trivial) h1 h2
         have hVo := HB3.out.1
         rw [HN.out.2.2.1]
         refine ⟨some ⟨g, 0, none⟩, nn, cap, l'', rfl, Lib.hid ⟨hR, by show (N.filter pick).length = nn; rw [← hR, List.length_map, h1.length_eq, hnn], hnc, fun hp => ⟨g, rfl, Nat.le_trans hVo hbg, h3, h5, fun p hp => ?_⟩⟩, HB3.out.2.grown h4 HB3.out.2.size (fun j hj => by injection hj with hj; omega)⟩
         obtain ⟨L, B, q1, q2, q3, q4, q5⟩ := hrow.2 p (h1.mem_iff.1 hp)
         have q3' := q3 g (by rw [hv]; rfl)
         exact ⟨L, B, Nat.le_trans hVo q1, Nat.le_trans q2 h4.size, q3', q5.keep fun j a1 a2 => h4.block j (by omega) fun e => by injection e with e; omega⟩
        subst hv
        clear hst hrow hcol hps hb ho hg hnn hnc hrg hbs
        go_wp2_with fail
        refine hS.out.mono ?_
        rintro e w4 ⟨rfl, hw4⟩
        have HG := Lib.hid (HF.out w4 hw4)
        clear hw4
        go_wp2_with fail
        go_ret2
        exact HG.out
      ·intro x cv kl yd yp w2 cnt2 hkey hlk hv hat hrg2 hlt2 hg2 hs2 hen
       have hfx := find_mem HMM.out.2.1 (map_entry HMM.out.1 hkey hv hat)
       have hxN := HMM.out.2.2 _ (map_entry HMM.out.1 hkey hv hat)
       rcases HN.out.2.1 x with ⟨_, h5⟩ | ⟨lv, Av, cvv, hf1, hf2, hvs, hlc, hrv, hkz⟩
       ·rw [h5] at hfx; cases hfx
       ·have hcv : cv = .slice Av lv.length cvv := by
         rw [hf2] at hfx
         injection hfx with hfx
         exact hfx.symm
        have hall : (x, lv) ∈ N := find_some hf1
        have hno : ¬ ∃ kl', keyOf Tryz.prog 9 (.string (x, lv).1) = some kl' ∧ left kl' = false := by
         rintro ⟨kl', h1, h2⟩
         rw [hkey] at h1
         injection h1 with h1
         subst h1
         rw [hlk] at h2
         cases h2
        have hmore : ∀ q, q ∈ N → ((∃ kl', keyOf Tryz.prog 9 (.string q.1) = some kl' ∧ (left kl' && !kl'.sameKey kl) = false) ↔ (∃ kl', keyOf Tryz.prog 9 (.string q.1) = some kl' ∧ left kl' = false) ∨ q = (x, lv)) := fun q hq => by
         constructor
         ·rintro ⟨kl', h1, h2⟩
          by_cases e : q.1 = x
          ·refine .inr ?_
           have g1 := find_mem HN.out.2.2.2.2.2 hq
           rw [e, hf1] at g1
           exact Prod.ext e (by injection g1 with g1; exact g1.symm)
          ·refine .inl ⟨kl', h1, ?_⟩
           have hs : kl'.sameKey kl = false := by
            rw [Bool.eq_false_iff]
            intro h3
            refine e ?_
            have h4 := WideAt.sameKey_eq h3
            rw [h4] at h1
            have h5 := keyed.inj h1 hkey
            injection h5
           rw [hs] at h2
           simpa using h2
         ·rintro (⟨kl', h1, h2⟩ | rfl)
          ·exact ⟨kl', h1, by rw [h2]; rfl⟩
          ·refine ⟨kl, hkey, ?_⟩
           rw [WideAt.sameKey_self (keyed.key hkey)]
           simp
        have hrow2 := hst.out.1.step hg2 (row_ne_iter hst.out.1.1 hrg)
        have b2 : Below wo.heap.size wo w2 := hst.out.2.2.1.grown hg2 hst.out.2.2.1.size (fun j hj => by cases hj; omega)
        have HC : Hid ((pick (x, lv) = false → CollT N pick (fun r => ∃ kl', keyOf Tryz.prog 9 (.string r.1) = some kl' ∧ (left kl' && !kl'.sameKey kl) = false) qs) ∧ (pick (x, lv) = true → ∀ A1 c1, CollT N pick (fun r => ∃ kl', keyOf Tryz.prog 9 (.string r.1) = some kl' ∧ (left kl' && !kl'.sameKey kl) = false) (qs ++ [((x, lv), A1, c1)]))) := Lib.hid ⟨fun hp => hst.out.2.1.same fun r hr hpr => (by
          rw [hmore r hr]
          constructor
          ·exact .inl
          ·rintro (h | rfl)
           ·exact h
           ·rw [hp] at hpr; cases hpr), fun hp A1 c1 => hst.out.2.1.add ((x, lv), A1, c1) hall hp hno fun r hr _ => hmore r hr⟩
        obtain ⟨ml, hml⟩ : ∃ ml, lv.length = ml := ⟨_, rfl⟩
        rw [hml] at hcv hlc
        subst hcv
        have hVt := Nat.le_trans HTW.out.2 (Nat.le_of_lt HTW.out.1)
        have HV2 := Lib.hid (And.intro (show Vs w2 0 w2.heap.size Av lv from ((hvs.below b2).more b2.size).less (Nat.zero_le _)) (And.intro hml (And.intro hlc hrv)))
        have HHo := Lib.hid (And.intro (HMb.out.1.same (b2.block mb HMb.out.1.lt)) (HMb.out.2.2.1.keep (b2.mono hVt)))
        have HR2 := Lib.hid (And.intro hrow2 (And.intro b2 (And.intro hg2.size (And.intro hst.out.2.2.2 hVt))))
        have HH := Lib.hid (And.intro hrg2 hlt2)
        have HRG := Lib.hid hrg
        have hN2 := HN.out.1
        have hpk : pick (x, lv) = (!decide (lv = []) && !decide (lv = getF was x)) := by rw [← HN.out.2.2.2.1]
        by_cases h0 : ml = 0
        ·have d3 : ¬ (0 : Int) < (ml : Int) := by omega
         have d4 : decide ((0 : Int) < (ml : Int)) = false := decide_eq_false d3
         have hp0 : pick (x, lv) = false := by
          rw [hpk, List.eq_nil_of_length_eq_zero (by omega : lv.length = 0)]; rfl
         have hcf := HC.out.1 hp0
         have HF : Hid (RowT wo.heap.size wo.heap.size w2 u17 qs ∧ CollT N pick (fun r => ∃ kl', keyOf Tryz.prog 9 (.string r.1) = some kl' ∧ (left kl' && !kl'.sameKey kl) = false) qs ∧ Below wo.heap.size wo w2 ∧ wo.heap.size < w2.heap.size) := Lib.hid ⟨HR2.out.1, hcf, HR2.out.2.1, by have := HR2.out.2.2.1; have := HR2.out.2.2.2.1; omega⟩
         clear hfx hxN hf1 hf2 hvs hall hno hmore hrow2 b2 hlc hml hst hkey hlk hv hat hrg2 hlt2 hg2 hs2 hrg hpk hp0 hcf HC h0 hrv
         go_wp2_with fail
         refine ⟨⟨_, cnt2, qs, HH.out.1, HF⟩, ?_⟩
         rw [HH.out.1.left_eq, HRG.out.left_eq]
         exact HH.out.2
        ·have d3 : (0 : Int) < (ml : Int) := by omega
         have d4 : decide ((0 : Int) < (ml : Int)) = true := decide_eq_true d3
         have hne : decide (lv = []) = false := decide_eq_false (by intro e; rw [e] at hml; exact h0 hml.symm)
         rw [hne] at hpk
         simp only [Bool.not_false, Bool.true_and] at hpk
         obtain ⟨A8, c8, g1, g2, g3, g4⟩ := hold_get HHo.out.2 x
         have hlook := hm_look HHo.out.1 x hxN
         rw [g1] at hlook
         have hgw : getF (lastF l) x = getF was x := HMb.out.2.2.2.2 x
         rw [hgw] at hlook g2 g3 g4
         obtain ⟨m8, hm8⟩ : ∃ m8, (getF was x).length = m8 := ⟨_, rfl⟩
         rw [hm8] at hlook g3 g4
         obtain ⟨b, hb⟩ : ∃ b, decide (lv = getF was x) = b := ⟨_, rfl⟩
         rw [hb] at hpk
         have hl512 : ml ≤ 512 := by have := HV2.out.2.2.2.1; omega
         have HS := Lib.hid (sameV_any Av A8 cvv c8 ml m8 lv (getF was x) hml hm8 w2 HV2.out.1 (g2.more (by have := HR2.out.2.1.size; have := HR2.out.2.2.2.2; omega)) (by omega) (by omega))
         rw [hb] at HS
         have HPK := Lib.hid hpk
         have hbs2 := HR2.out.2.1.size
         clear hfx hf1 hf2 hvs hno hmore hrow2 b2 hst hkey hlk hv hat hrg2 hlt2 hg2 hs2 hrg hpk h0 hrv hb hne g1 g2 g3 g4 hgw hm8
         go_wp2_with fail
         refine HS.out.mono ?_
         rintro e w3 ⟨rfl, b3⟩
         clear HS hlook
         have hs3 := b3.size
         have hg3 : w2.grownBy w3 none := ⟨b3.os, b3.tape, b3.output, b3.size, fun j hj _ => b3.block j hj⟩
         have hrg3 := HH.out.1.kept hg3 (by simp) (by simp)
         have hrow3 := HR2.out.1.below b3
         cases b
         ·have hcf := HC.out.2 HPK.out
          have hlq : qs.length + 1 ≤ N.length := by
           have h := (hcf none 0).len
           simpa using h
          have HCF := Lib.hid hcf
          have hK := Lib.hid (vers_new x hkz Av cvv ml lv hml HV2.out.2.2.2 w3 ((HV2.out.1.below b3).more hs3))
          have HR3 := Lib.hid (And.intro hrow3 (HR2.out.2.1.trans (b3.mono hbs2)))
          have HG3 := Lib.hid (And.intro hrg3 hml)
          clear hcf HC b3 hg3 hrg3 hrow3 hml hall
          go_wp2_with fail
          refine hK.out.mono ?_
          rintro e w4 ⟨A1, c1, rfl, hrec, b4⟩
          have hs4 := b4.size
          have hown4 := own_below HR3.out.1.1 b4 (Nat.le_refl _)
          have hl2 : qs.length + 1 ≤ 3518437208882 := by omega
          have hl3 : (qs.length + 1) * 40 ≤ 140737488355328 := by omega
          have hl4 : wo.heap.size ≤ w4.heap.size := by omega
          go_wp2_with (at_builtin; refine wpList_append_r _ rfl (.tmp 88) (.tmp 93) 22 rfl wo.heap.size 53 i0 _ 40 Tryz.underlying22 hi hz0 hz1 hz2 rfl _ qs.length qs rfl hown4 ((x, lv), A1, c1) ml HG3.out.2 1 rfl hl3 (by omega) hl4 ?_; intro v5 w5 o5 g5 at5)
          have hg4 : w3.grownBy w4 none := ⟨b4.os, b4.tape, b4.output, b4.size, fun j hj _ => b4.block j hj⟩
          have hrg4 := HG3.out.1.kept hg4 (by simp) (by simp)
          have hrg5 := hrg4.kept g5 (row_ne_low hown4 HTW.out.1) (row_ne_iter hown4 hrg4)
          have b5 : Below wo.heap.size wo w5 := (HR3.out.2.trans (b4.mono HR3.out.2.size)).grown g5 hl4 (fun j hj => (hown4.lt j hj).1)
          have s5 := g5.size
          have hit2 := HR2.out.2.2.1
          have hit3 := HR2.out.2.2.2.1
          refine ⟨⟨_, cnt2, qs ++ [((x, lv), A1, c1)], hrg5, Lib.hid ⟨HR3.out.1.add (by omega) b4 hrec.out HR3.out.2.size o5 g5 at5, HCF.out A1 c1, b5, by omega⟩⟩, ?_⟩
          rw [hrg5.left_eq, HRG.out.left_eq]
          exact HH.out.2
         ·have hcf := HC.out.1 HPK.out
          have HF : Hid (RowT wo.heap.size wo.heap.size w3 u17 qs ∧ CollT N pick (fun r => ∃ kl', keyOf Tryz.prog 9 (.string r.1) = some kl' ∧ (left kl' && !kl'.sameKey kl) = false) qs ∧ Below wo.heap.size wo w3 ∧ wo.heap.size < w3.heap.size) := Lib.hid ⟨hrow3, hcf, HR2.out.2.1.trans (b3.mono hbs2), by have := HR2.out.2.2.1; have := HR2.out.2.2.2.1; omega⟩
          have HG3 := Lib.hid hrg3
          clear hcf HC b3 hg3 hrg3 hrow3
          go_wp2_with fail
          refine ⟨⟨_, cnt2, qs, HG3.out, HF⟩, ?_⟩
          rw [HG3.out.left_eq, HRG.out.left_eq]
          exact HH.out.2
  ·have HE := Lib.hid (takeN_no (fun h => hno h.2) (HA.out.2.2.trans (b2.mono HA.out.2.2.size)) (l := l) (l' := l'))
   clear H2 b2 hno
   go_wp2_with fail
   go_ret2
   exact HE.out
 ·have H2 := Lib.hid (hold_any A' c' n' V.heap.size l' HP.out.1 HP.out.2.2 w1 b1.size (Rb.below HP.out.2.1 (Nat.le_refl _) b1))
  have HE : Hid (∀ w2, Below w1.heap.size w1 w2 → TakeN (takeR l l') V (.returned (.tuple #[.slice none 0 0, .int .i64 1])) w2) := Lib.hid fun w2 b2 => takeN_no (fun h => hno h.1) (b1.trans (b2.mono b1.size))
  clear H1 b1 hno
  go_wp2_with fail
  refine H2.out.mono ?_
  rintro e2 w2 (⟨_, mb, D, rfl, _, b2⟩ | ⟨_, rfl, b2⟩)
  ·have HF := Lib.hid (HE.out w2 b2)
   clear b2 H2
   go_wp2_with fail
   go_ret2
   exact HF.out
  ·have HF := Lib.hid (HE.out w2 b2)
   clear b2 H2
   go_wp2_with fail
   go_ret2
   exact HF.out
end Mend
end Go.Proofs.YtekhaejhmlebbaaGreat

/-
 The document's Recs, told where the versions lie (layer 14).
-/
namespace Go.Proofs.YtekhaejhmlebbaaGreat
namespace Tree
open Go.RowKit Vers Num Ring Disk Blk
open Go.Proofs.YtekhaejhmlebbaaGreat.Code hiding Bn
attribute [local go_sem ↓] Go.wp_at_zero Go.wp_at_succ
end Tree
end Go.Proofs.YtekhaejhmlebbaaGreat

/-
 The document's Answer (layer 14).
-/
namespace Go.Proofs.YtekhaejhmlebbaaGreat
namespace Mend
open Go.RowKit Vers Num Ring Disk Blk Tree
open Go.Proofs.YtekhaejhmlebbaaGreat.Code hiding Bn
attribute [local go_sem ↓] Go.wp_at_zero Go.wp_at_succ
theorem sta_ns {k : IntKind} {G : Nat → Prop} {Z : World} {base n c : Nat} {t : TypeId} {A : Option Addr} {zs : List Int} (ho : Z.ownsRow base t 1 (.slice A n c) n (nums k zs)) (hl : zs.length = n) (hG : ∀ g, base ≤ g → ¬ G g) : Sta G Z (fun W => Ns k W W.heap.size A zs) := fun w' _ hk => by
 have h := Blk.own_keep ho fun g hg => hk g (ho.lt g hg).2 (hG g (ho.lt g hg).1)
 rw [← hl] at h
 exact own_ns h
theorem diff_range {a b : List Int} {d : Int} (h : d ∈ diffF a b) : 0 ≤ d ∧ d < 16 := by
 unfold diffF at h
 obtain ⟨i, hi, rfl⟩ := List.mem_map.1 h
 have := List.mem_range.1 (List.mem_filter.1 hi).1
 omega
theorem recsF_len (all : List Rc) (p : List Int) : (recsF all p).length ≤ all.length := recs_len all p
end Mend
end Go.Proofs.YtekhaejhmlebbaaGreat
