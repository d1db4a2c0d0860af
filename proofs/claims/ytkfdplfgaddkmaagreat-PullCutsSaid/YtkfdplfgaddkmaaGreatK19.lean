/-
  Several texts of this family in one: TreeSort, MendSort, PullSort.
-/
import Derived.Test.YtkfdplfgaddkmaaGreatK4
import Derived.Test.YtkfdplfgaddkmaaGreatK10
import Derived.Test.YtkfdplfgaddkmaaGreatK18
import Derived.Shelf.SlSortCmp.WholeK
/-
 Records are sorted by their keys (the sort of Go's library by its contract).
-/
namespace Go.Proofs.YtkfdplfgaddkmaaGreat
namespace Tree
open Go.RowKit Vers Num Ring Disk Blk
open Go.Proofs.YtkfdplfgaddkmaaGreat.Code hiding Bn
attribute [local go_sem ↓] Go.wp_at_zero Go.wp_at_succ

theorem cmpB_lt : ∀ a b : List UInt8, Lib.compareBytes a b < 0 ↔ a < b
 | [], [] => by simp [Lib.compareBytes]
 | [], _ :: _ => by simp [Lib.compareBytes]
 | _ :: _, [] => by simp [Lib.compareBytes]
 | a :: al, b :: bl => by
  unfold Lib.compareBytes
  rw [List.cons_lt_cons_iff]
  by_cases h : a < b
  ·simp [h]
  ·by_cases h2 : b < a
   ·have : a ≠ b := fun e => by subst e; exact h h2
    simp [h, h2, this]
   ·have e : a = b := UInt8.le_antisymm (UInt8.not_lt.1 h2) (UInt8.not_lt.1 h)
    simp [e]
    subst e
    exact cmpB_lt al bl
def cmpK (p q : Pr) : Int := Lib.compareBytes p.1.1.data.toList q.1.1.data.toList
theorem cmpK_lt (p q : Pr) : cmpK p q < 0 ↔ nlt p.1.1 q.1.1 = true := by
 unfold cmpK
 rw [cmpB_lt, nlt_iff, Lib.toList_data, Lib.toList_data]

set_option maxRecDepth 100000 in
theorem less_any (k k' : Nm) (A A' : Option Addr) (n c n' c' : Nat) (w : World) :
  Calls Tryz.prog 77 #[.agg #[.string k, .slice A n c], .agg #[.string k', .slice A' n' c']] w fun e w' => e = .returned (.int .i64 (Lib.compareBytes k.data.toList k'.data.toList)) ∧ ∃ q os, w' = Go.Sort.grow (w.drewN q) os := by
 have H1 := Lib.hid (fun W => Tryz.strings_Compare k k' W)
 obtain ⟨r, hr⟩ : ∃ r, Lib.compareBytes k.data.toList k'.data.toList = r := ⟨_, rfl⟩
 rw [hr] at H1 ⊢
 have HB : Hid (∃ q' os, (w.alloc (.cells #[.string k, .slice A n c] 70)).alloc (.cells #[.string k', .slice A' n' c'] 70) = Go.Sort.grow (w.drewN q') os) := Lib.hid ⟨0, _, by
  rw [Go.Sort.alloc_eq_grow, Go.Sort.alloc_eq_grow, Go.Sort.grow_grow]
  rfl⟩
 clear hr
 go_enter Tryz.func77, Tryz.ntmps77
 go_wp2_with fail
 refine (H1.out _).mono ?_
 rintro e w1 ⟨rfl, rfl⟩
 go_wp2_with fail
 go_ret
 exact ⟨rfl, HB.out⟩

theorem swoK : Go.Sort.SWO (ltOf cmpK) where
 irrefl x := by
  unfold ltOf
  rw [decide_eq_false_iff_not, cmpK_lt, nlt_irrefl]
  simp
 trans x y z h1 h2 := by
  unfold ltOf at *
  rw [decide_eq_true_eq, cmpK_lt] at *
  exact nlt_trans h1 h2
 ntrans x y z h1 h2 := by
  unfold ltOf at *
  rw [decide_eq_false_iff_not, cmpK_lt, Bool.not_eq_true] at *
  by_cases e : x.1.1 = y.1.1
  ·rw [e]; exact h2
  by_cases e2 : y.1.1 = z.1.1
  ·rw [← e2]; exact h1
  have a1 := nlt_tri h1 e
  have a2 := nlt_tri h2 e2
  exact nlt_asymm (nlt_trans a2 a1)

def Prs (w : World) (g : Nat) (l : List Pr) : Prop := ∀ j, j < l.length → w.cell? ⟨g, j * 2, none⟩ = some (.string (l.getD j (r0, none, 0)).1.1) ∧ w.cell? ⟨g, j * 2 + 1, none⟩ = some (.slice (l.getD j (r0, none, 0)).2.1 (l.getD j (r0, none, 0)).1.2.length (l.getD j (r0, none, 0)).2.2)

theorem holds_own {w : World} {base g cap n : Nat} {l : List Pr} (hn : l.length = n) (ho : w.ownsRow base 70 2 (.slice (some ⟨g, 0, none⟩) n cap) n (rcs l)) : Go.Sort.HoldsK rcc 2 w g 0 l.toArray := fun j hj => by
 rw [Go.Sort.size_flatK] at hj
 simp only [List.size_toArray] at hj
 have hq : j / 2 < l.length := by omega
 have hr : j % 2 < 2 := by omega
 have e := rcs_at l (j / 2) hq (j % 2) hr
 rw [show j / 2 * 2 + j % 2 = j by omega] at e
 have hc := World.ownsRow.cellAt ho j (by omega)
 rw [e] at hc
 rw [Go.Sort.get_flatK _ _ _ _ (by simpa using hj), Nat.zero_add]
 have e2 : l.toArray[j / 2]! = l.getD (j / 2) (r0, none, 0) := by
  rw [getElem!_pos _ _ (by simpa using hq)]
  simp [List.getD_eq_getElem?_getD, hq]
 rw [e2]
 refine ⟨?_, ho.frozenAt j⟩
 rw [hc]
 have h2 : j % 2 = 0 ∨ j % 2 = 1 := by omega
 rcases h2 with h2 | h2 <;> rw [h2] <;> rfl

set_option maxRecDepth 100000 in
theorem sort_any (g cap n base : Nat) (l : List Pr) (hn : l.length = n) (w : World) (ho : w.ownsRow base 70 2 (.slice (some ⟨g, 0, none⟩) n cap) n (rcs l)) (hn2 : n < 4611686018427387904) :
  Calls Tryz.prog 67 #[.slice (some ⟨g, 0, none⟩) n cap, .func (.func 77) #[] #[]] w fun e w' => e = .returned (.tuple #[]) ∧ ∃ l', Hid (l'.Perm l ∧ l'.Pairwise (fun p q => nlt q.1.1 p.1.1 = false) ∧ Prs w' g l' ∧ w.grownBy w' (some g) ∧ ∃ cur, w'.heap[g]? = some (.cells cur 70 (0, 0))) := by
 have eg : ∀ args w, (callFunc 77 args).run Tryz.prog w = .ok (.enter 77 args) w := enters_of Tryz.func77 (by kernel_rfl) rfl
 have hH := holds_own hn ho
 have hlt := ho.lt g rfl
 have hcon := AnyQ.slices_SortFunc Tryz.sortRec 2 Tryz.isAgg70 Tryz.sizeOf70 rcc (fun _ => rfl) (fun x v hv => by simp [rcc] at hv; rcases hv with rfl | rfl <;> rfl) cmpK swoK 77 #[] g 0 cap l.toArray w eg (fun m os dk _ x y => less_any x.1.1 y.1.1 x.2.1 y.2.1 _ _ _ _ _) hH hlt.2 (by simpa [hn] using hn2)
 simp only [List.size_toArray, hn] at hcon
 refine Calls.mono hcon ?_
 rintro e w' ⟨he, d', m, os, hp, hs, hw⟩
 have hsz : d'.size = n := by have := hp.1; simpa [hn] using this
 have hH' := holdsK_sortWorldK_c rcc 2 w g 0 l.toArray d' m os hH hlt.2 (by rw [hsz]; simp [hn])
 rw [← hw] at hH'
 have hget : ∀ i, i < n → d'[i]! = d'.toList.getD i (r0, none, 0) := fun i hi => by
  rw [getElem!_pos _ _ (by omega)]
  simp [List.getD_eq_getElem?_getD, show i < d'.size by omega]
 obtain ⟨cur, hcur⟩ := own_block ho (g := g) rfl
 refine ⟨he, d'.toList, Lib.hid ⟨?_, ?_, fun j hj => ?_, ?_, ?_⟩⟩
 ·have h3 := hp.2.2
  have e1 : d'.extract 0 n = d' := by rw [← hsz]; exact Array.extract_size
  have e2 : l.toArray.extract 0 n = l.toArray := by have h := Array.extract_size (xs := l.toArray); simpa [hn] using h
  rw [e1, e2] at h3
  simpa using h3
 ·rw [List.pairwise_iff_getElem]
  intro i j hi hj hij
  have hi' : i < d'.size := by simpa using hi
  have hj' : j < d'.size := by simpa using hj
  have h3 := hs i j (Nat.zero_le _) hij (by omega)
  unfold ltOf at h3
  rw [decide_eq_false_iff_not, cmpK_lt, Bool.not_eq_true] at h3
  rw [getElem!_pos d' i hi', getElem!_pos d' j hj'] at h3
  simpa only [Array.getElem_toList] using h3
 ·have hj' : j < d'.size := by simpa using hj
  have c0 := (hH'.cell hj' (c := 0) (by omega)).1
  have c1 := (hH'.cell hj' (c := 1) (by omega)).1
  rw [hget j (by omega), Nat.zero_add] at c0 c1
  exact ⟨c0, c1⟩
 ·rw [hw]
  refine ⟨rfl, rfl, rfl, size_sortWorldK_c _ _ _ _ _ _ _ _, fun k hk hne => ?_⟩
  have hkg : k ≠ g := fun e => hne (by rw [e])
  unfold sortWorldK
  rw [Go.Sort.heap_grow_old _ _ (by rw [Go.Sort.size_putRowK]; show k < w.heap.size; omega)]
  unfold Go.Sort.putRowK Go.Sort.putRow Go.Sort.mapBlock
  simp only [Go.Sort.heap_ahead, Array.getElem?_modify]
  rw [if_neg (fun e => hkg e.symm)]
 ·rw [hw]
  unfold sortWorldK
  rw [Go.Sort.heap_grow_old _ _ (by rw [Go.Sort.size_putRowK]; show g < w.heap.size; omega)]
  unfold Go.Sort.putRowK Go.Sort.putRow Go.Sort.mapBlock
  simp only [Go.Sort.heap_ahead, Array.getElem?_modify, hcur, if_true, Option.map_some]
  exact ⟨_, rfl⟩

theorem ins_none (p : Option Addr) (cap : Nat) (fv : Value) (w : World) :
  Calls Tryz.prog 105 #[.slice p 0 cap, .int .i64 0, .int .i64 0, fv] w fun e w' => e = .returned (.tuple #[]) ∧ w' = w := by
 go_enter Tryz.func105, Tryz.ntmps105
 go_wp2
 refine wp_loop_rounds 1 ?_
 rw [rounds_succ]
 go_wp2
 go_end0
 exact ⟨rfl, rfl⟩
theorem pdq_none (p : Option Addr) (cap : Nat) (lim : Int) (fv : Value) (w : World) :
  Calls Tryz.prog 88 #[.slice p 0 cap, .int .i64 0, .int .i64 0, .int .i64 lim, fv] w fun e w' => e = .returned (.tuple #[]) ∧ w' = w := by
 go_enter Tryz.func88, Tryz.ntmps88
 go_wp2
 refine wp_loop_rounds 1 ?_
 rw [rounds_succ]
 go_wp2_with (refine (ins_none _ _ _ _).mono ?_; rintro e w' ⟨rfl, rfl⟩)
 (try simp only [Exit.inBlock, Exit.then]); refine bodyPost_ret (results_none rfl _ _ _) rfl ?_
 exact ⟨rfl, rfl⟩
theorem sort_none (p : Option Addr) (cap : Nat) (fv : Value) (w : World) :
  Calls Tryz.prog 67 #[.slice p 0 cap, fv] w fun e w' => e = .returned (.tuple #[]) ∧ w' = w := by
 have hl : ∀ W, Calls Tryz.prog 89 #[.int .u64 0] W fun e w' => e = .returned (.int .i64 (Lib.bitLen 0 : Nat)) ∧ w' = W := fun W => Any.bits_Len (SlLaysF0.n15.bits (P := Tryz.prog) (ρ := Tryz.sortRec_ren) { Tryz.sortRec with }) 0 W (by omega) (by omega)
 go_enter Tryz.func67, Tryz.ntmps67
 go_wp2_with (first
  | (go_at_call 89; refine (hl _).mono ?_; rintro e w' ⟨rfl, rfl⟩)
  | (go_at_call 88; refine (pdq_none _ _ _ _ _).mono ?_; rintro e w' ⟨rfl, rfl⟩))
 go_end0
 exact ⟨rfl, rfl⟩
end Tree
end Go.Proofs.YtkfdplfgaddkmaaGreat

/-
 The records that one takes are sorted by their keys (layer 14).
-/
namespace Go.Proofs.YtkfdplfgaddkmaaGreat
namespace Mend
open Go.RowKit Vers Num Ring Disk Blk Tree
open Go.Proofs.YtkfdplfgaddkmaaGreat.Code hiding Bn
attribute [local go_sem ↓] Go.wp_at_zero Go.wp_at_succ

end Mend
end Go.Proofs.YtkfdplfgaddkmaaGreat

/-
 The records that are staged are sorted by their keys (layer 19).
-/
namespace Go.Proofs.YtkfdplfgaddkmaaGreat
namespace Pull
open Go.RowKit Vers Num Ring Disk Blk Tree
open Go.Proofs.YtkfdplfgaddkmaaGreat.Code hiding Bn
attribute [local go_sem ↓] Go.wp_at_zero Go.wp_at_succ

set_option maxRecDepth 100000 in
theorem less_any (k k' : Nm) (A A' : Option Addr) (n c n' c' : Nat) (w : World) :
  Calls Tryz.prog 68 #[.agg #[.string k, .slice A n c], .agg #[.string k', .slice A' n' c']] w fun e w' => e = .returned (.int .i64 (Lib.compareBytes k.data.toList k'.data.toList)) ∧ ∃ q os, w' = Go.Sort.grow (w.drewN q) os := by
 have H1 := Lib.hid (fun W => Tryz.strings_Compare k k' W)
 obtain ⟨r, hr⟩ : ∃ r, Lib.compareBytes k.data.toList k'.data.toList = r := ⟨_, rfl⟩
 rw [hr] at H1 ⊢
 have HB : Hid (∃ q' os, (w.alloc (.cells #[.string k, .slice A n c] 70)).alloc (.cells #[.string k', .slice A' n' c'] 70) = Go.Sort.grow (w.drewN q') os) := Lib.hid ⟨0, _, by
  rw [Go.Sort.alloc_eq_grow, Go.Sort.alloc_eq_grow, Go.Sort.grow_grow]
  rfl⟩
 clear hr
 go_enter Tryz.func68, Tryz.ntmps68
 go_wp2_with fail
 refine (H1.out _).mono ?_
 rintro e w1 ⟨rfl, rfl⟩
 go_wp2_with fail
 go_ret
 exact ⟨rfl, HB.out⟩

set_option maxRecDepth 100000 in
theorem sort_any (g cap n base : Nat) (l : List Pr) (hn : l.length = n) (w : World) (ho : w.ownsRow base 70 2 (.slice (some ⟨g, 0, none⟩) n cap) n (rcs l)) (hn2 : n < 4611686018427387904) :
  Calls Tryz.prog 67 #[.slice (some ⟨g, 0, none⟩) n cap, .func (.func 68) #[] #[]] w fun e w' => e = .returned (.tuple #[]) ∧ ∃ l', Hid (l'.Perm l ∧ l'.Pairwise (fun p q => nlt q.1.1 p.1.1 = false) ∧ Prs w' g l' ∧ w.grownBy w' (some g) ∧ ∃ cur, w'.heap[g]? = some (.cells cur 70 (0, 0))) := by
 have eg : ∀ args w, (callFunc 68 args).run Tryz.prog w = .ok (.enter 68 args) w := enters_of Tryz.func68 (by kernel_rfl) rfl
 have hH := holds_own hn ho
 have hlt := ho.lt g rfl
 have hcon := AnyQ.slices_SortFunc Tryz.sortRec 2 Tryz.isAgg70 Tryz.sizeOf70 rcc (fun _ => rfl) (fun x v hv => by simp [rcc] at hv; rcases hv with rfl | rfl <;> rfl) cmpK swoK 68 #[] g 0 cap l.toArray w eg (fun m os dk _ x y => less_any x.1.1 y.1.1 x.2.1 y.2.1 _ _ _ _ _) hH hlt.2 (by simpa [hn] using hn2)
 simp only [List.size_toArray, hn] at hcon
 refine Calls.mono hcon ?_
 rintro e w' ⟨he, d', m, os, hp, hs, hw⟩
 have hsz : d'.size = n := by have := hp.1; simpa [hn] using this
 have hH' := holdsK_sortWorldK_c rcc 2 w g 0 l.toArray d' m os hH hlt.2 (by rw [hsz]; simp [hn])
 rw [← hw] at hH'
 have hget : ∀ i, i < n → d'[i]! = d'.toList.getD i (r0, none, 0) := fun i hi => by
  rw [getElem!_pos _ _ (by omega)]
  simp [List.getD_eq_getElem?_getD, show i < d'.size by omega]
 obtain ⟨cur, hcur⟩ := own_block ho (g := g) rfl
 refine ⟨he, d'.toList, Lib.hid ⟨?_, ?_, fun j hj => ?_, ?_, ?_⟩⟩
 ·have h3 := hp.2.2
  have e1 : d'.extract 0 n = d' := by rw [← hsz]; exact Array.extract_size
  have e2 : l.toArray.extract 0 n = l.toArray := by have h := Array.extract_size (xs := l.toArray); simpa [hn] using h
  rw [e1, e2] at h3
  simpa using h3
 ·rw [List.pairwise_iff_getElem]
  intro i j hi hj hij
  have hi' : i < d'.size := by simpa using hi
  have hj' : j < d'.size := by simpa using hj
  have h3 := hs i j (Nat.zero_le _) hij (by omega)
  unfold ltOf at h3
  rw [decide_eq_false_iff_not, cmpK_lt, Bool.not_eq_true] at h3
  rw [getElem!_pos d' i hi', getElem!_pos d' j hj'] at h3
  simpa only [Array.getElem_toList] using h3
 ·have hj' : j < d'.size := by simpa using hj
  have c0 := (hH'.cell hj' (c := 0) (by omega)).1
  have c1 := (hH'.cell hj' (c := 1) (by omega)).1
  rw [hget j (by omega), Nat.zero_add] at c0 c1
  exact ⟨c0, c1⟩
 ·rw [hw]
  refine ⟨rfl, rfl, rfl, size_sortWorldK_c _ _ _ _ _ _ _ _, fun k hk hne => ?_⟩
  have hkg : k ≠ g := fun e => hne (by rw [e])
  unfold sortWorldK
  rw [Go.Sort.heap_grow_old _ _ (by rw [Go.Sort.size_putRowK]; show k < w.heap.size; omega)]
  unfold Go.Sort.putRowK Go.Sort.putRow Go.Sort.mapBlock
  simp only [Go.Sort.heap_ahead, Array.getElem?_modify]
  rw [if_neg (fun e => hkg e.symm)]
 ·rw [hw]
  unfold sortWorldK
  rw [Go.Sort.heap_grow_old _ _ (by rw [Go.Sort.size_putRowK]; show g < w.heap.size; omega)]
  unfold Go.Sort.putRowK Go.Sort.putRow Go.Sort.mapBlock
  simp only [Go.Sort.heap_ahead, Array.getElem?_modify, hcur, if_true, Option.map_some]
  exact ⟨_, rfl⟩

end Pull
end Go.Proofs.YtkfdplfgaddkmaaGreat
