/-
  How gather.Spans compares and sorts spans (the sort of Go's library by its contract).
-/
import Derived.Test.YthiiganfoecmnaaVersCmp
import Derived.Test.YthiiganfoecmnaaSpanOwn
import Derived.Test.YthiiganfoecmnaaShelf
import Derived.Shelf.SlSortCmp.WholeK
import Derived.Deep.RegionHeld3
import Derived.Deep.DrawnRows
import Derived.IntWalk
namespace Go.Proofs.Ythiiganfoecmnaa
namespace Vers
open Go.RowKit Span
attribute [local go_sem ↓] Go.wp_at_zero Go.wp_at_succ

def cmpS (p q : Sp) : Int := if cmpI p.1 q.1 = 0 then cmpI p.2.1 q.2.1 else cmpI p.1 q.1
theorem cmpS_lt (p q : Sp) : cmpS p q < 0 ↔ p.1 < q.1 ∨ (p.1 = q.1 ∧ p.2.1 < q.2.1) := by
  unfold cmpS cmpI
  repeat' split
  all_goals omega
def leS (p q : Sp) : Prop := p.1 < q.1 ∨ (p.1 = q.1 ∧ p.2.1 ≤ q.2.1)

set_option maxHeartbeats 1000000 in
theorem gcompare_any (s n t s' n' t' : Int) (w : World) : Calls Try.prog 60 #[.agg #[.int .i64 s, .int .i64 n, .int .i64 t], .agg #[.int .i64 s', .int .i64 n', .int .i64 t']] w fun e w' => e = .returned (.int .i64 (cmpS (s, n, t) (s', n', t'))) ∧ ∃ q os, w' = Go.Sort.grow (w.drewN q) os := by
  have H1 := Lib.hid (fun W => cmp_int s s' W)
  have H2 := Lib.hid (fun W => cmp_int64 n n' W)
  have hr : (if cmpI s s' = 0 then cmpI n n' else cmpI s s') = cmpS (s, n, t) (s', n', t') := rfl
  obtain ⟨p, hp⟩ : ∃ p, cmpI s s' = p := ⟨_, rfl⟩
  obtain ⟨q, hq⟩ : ∃ q, cmpI n n' = q := ⟨_, rfl⟩
  rw [hp, hq] at hr
  have H1' : Hid (∀ W, Calls Try.prog 49 #[.int .i64 s, .int .i64 s'] W fun e w' => e = .returned (.int .i64 p) ∧ W = w') := by rw [← hp]; exact H1
  have H2' : Hid (∀ W, Calls Try.prog 50 #[.int .i64 n, .int .i64 n'] W fun e w' => e = .returned (.int .i64 q) ∧ W = w') := by rw [← hq]; exact H2
  obtain ⟨r, hr'⟩ : ∃ r, (if p = 0 then q else p) = r := ⟨_, rfl⟩
  have H3 := Lib.hid (fun b W h0 h1 => hr' ▸ or_two p q b W h0 h1)
  have HR := Lib.hid (hr'.symm.trans hr)
  clear H1 H2 hp hq hr hr'
  go_enter Try.func60, Try.ntmps60
  go_wp2
  obtain ⟨W, hW⟩ : ∃ W, (w.alloc (.cells #[.int .i64 s, .int .i64 n, .int .i64 t] 46)).alloc (.cells #[.int .i64 s', .int .i64 n', .int .i64 t'] 46) = W := ⟨_, rfl⟩
  have a0 : W.cell? ⟨w.heap.size, 0, none⟩ = some (.int .i64 s) := by rw [← hW]; simp
  have a1 : W.cell? ⟨w.heap.size, 1, none⟩ = some (.int .i64 n) := by rw [← hW]; simp
  have a2 : W.cell? ⟨w.heap.size + 1, 0, none⟩ = some (.int .i64 s') := by rw [← hW]; simp
  have a3 : W.cell? ⟨w.heap.size + 1, 1, none⟩ = some (.int .i64 n') := by rw [← hW]; simp
  have hs : W.heap.size = w.heap.size + 2 := by rw [← hW]; simp
  have HB : Hid (∃ q' os, (W.alloc (.cells #[.int .i64 p, .int .i64 q] 3)).drew = Go.Sort.grow (w.drewN q') os) := Lib.hid ⟨1, _, by
    rw [← hW, Go.Sort.alloc_eq_grow, Go.Sort.alloc_eq_grow, Go.Sort.alloc_eq_grow, Go.Sort.grow_grow, Go.Sort.grow_grow, Go.Sort.drew_grow]
    rfl⟩
  rw [hW]
  clear hW
  obtain ⟨m, hm⟩ : ∃ m, w.heap.size = m := ⟨_, rfl⟩
  rw [hm] at a0 a1 a2 a3 hs ⊢
  clear hm
  have l0 : m < W.heap.size := by omega
  have l1 : m + 1 < W.heap.size := by omega
  clear hs
  go_region_held3 (fun V => V.cell? ⟨m, 0, none⟩ = some (.int .i64 s) ∧ V.cell? ⟨m, 1, none⟩ = some (.int .i64 n) ∧ V.cell? ⟨m + 1, 0, none⟩ = some (.int .i64 s') ∧ V.cell? ⟨m + 1, 1, none⟩ = some (.int .i64 n'))
    (first | exact ⟨a0, a1, a2, a3⟩ | exact ⟨(World.cell?_alloc_lt _ _ _ l0).trans a0, (World.cell?_alloc_lt _ _ _ l0).trans a1, (World.cell?_alloc_lt _ _ _ l1).trans a2, (World.cell?_alloc_lt _ _ _ l1).trans a3⟩)
    (first
      | (go_at_call 49; refine (H1'.out _).mono ?_; rintro e w1 ⟨rfl, rfl⟩)
      | (go_at_call 50; refine (H2'.out _).mono ?_; rintro e w1 ⟨rfl, rfl⟩)
      | (go_at_call 48; refine (H3.out _ _ (by simp) (by simp)).mono ?_; rintro e w1 ⟨rfl, rfl⟩))
  all_goals
    go_wp2
    go_ret
    exact ⟨by rw [HR.out]; rfl, HB.out⟩


/-- From the head of block g on stand these spans. -/
def Sps (w : World) (g : Nat) (l : List Sp) : Prop := ∀ j, j < l.length → w.cell? ⟨g, j * 3, none⟩ = some (.int .i64 (l.getD j (0, 0, 0)).1) ∧ w.cell? ⟨g, j * 3 + 1, none⟩ = some (.int .i64 (l.getD j (0, 0, 0)).2.1) ∧ w.cell? ⟨g, j * 3 + 2, none⟩ = some (.int .i64 (l.getD j (0, 0, 0)).2.2)
theorem Sps.below {w w' : World} {g B : Nat} {l : List Sp} (h : Sps w g l) (hb : Below B w w') (hg : g < B) : Sps w' g l := fun j hj => ⟨(hb.cell (p := ⟨g, _, none⟩) hg).trans (h j hj).1, (hb.cell (p := ⟨g, _, none⟩) hg).trans (h j hj).2.1, (hb.cell (p := ⟨g, _, none⟩) hg).trans (h j hj).2.2⟩
theorem sps_atr (l : List Sp) : ∀ j, j < l.length → ∀ r, r < 3 → (sps l)[j * 3 + r]? = (spc (l.getD j (0, 0, 0)))[r]? := by
  intro j hj r hr
  obtain ⟨h0, h1, h2⟩ := sps_at l j hj
  obtain rfl | rfl | rfl : r = 0 ∨ r = 1 ∨ r = 2 := by omega
  · exact h0.trans rfl
  · exact h1.trans rfl
  · exact h2.trans rfl

theorem swoS : Go.Sort.SWO (ltOf cmpS) where
  irrefl x := by unfold ltOf; simp only [decide_eq_false_iff_not, cmpS_lt]; omega
  trans x y z h1 h2 := by unfold ltOf at *; simp only [decide_eq_true_eq, cmpS_lt] at *; omega
  ntrans x y z h1 h2 := by unfold ltOf at *; simp only [decide_eq_false_iff_not, cmpS_lt] at *; omega

theorem holds_sp {w : World} {base g cap n : Nat} {l : List Sp} (hn : l.length = n) (ho : w.ownsRow base 46 3 (.slice (some ⟨g, 0, none⟩) n cap) n (sps l)) : Go.Sort.HoldsK spc 3 w g 0 l.toArray := fun j hj => by
  rw [Go.Sort.size_flatK] at hj
  simp only [List.size_toArray] at hj
  have hq : j / 3 < l.length := by omega
  have hr : j % 3 < 3 := by omega
  have e := sps_atr l (j / 3) hq (j % 3) hr
  rw [show j / 3 * 3 + j % 3 = j by omega] at e
  have hc := World.ownsRow.cellAt ho j (by omega)
  rw [e] at hc
  rw [Go.Sort.get_flatK _ _ _ _ (by simpa using hj), Nat.zero_add]
  have e2 : l.toArray[j / 3]! = l.getD (j / 3) (0, 0, 0) := by
    rw [getElem!_pos _ _ (by simpa using hq)]
    simp [List.getD_eq_getElem?_getD, hq]
  rw [e2]
  refine ⟨?_, ho.frozenAt j⟩
  rw [hc]
  have h2 : j % 3 = 0 ∨ j % 3 = 1 ∨ j % 3 = 2 := by omega
  rcases h2 with h2 | h2 | h2 <;> rw [h2] <;> rfl

set_option maxRecDepth 100000 in
/-- The sort: the spans are there still, and rise. -/
theorem gsort_any (g cap n base : Nat) (l : List Sp) (hn : l.length = n) (w : World) (ho : w.ownsRow base 46 3 (.slice (some ⟨g, 0, none⟩) n cap) n (sps l)) (hn2 : n < 4611686018427387904) :
    Calls Try.prog 59 #[.slice (some ⟨g, 0, none⟩) n cap, .func (.func 60) #[] #[]] w fun e w' => e = .returned (.tuple #[]) ∧ ∃ l', Hid (l'.Perm l ∧ l'.Pairwise leS) ∧ Sps w' g l' ∧ Below base w w' := by
  have eg : ∀ args w, (callFunc 60 args).run Try.prog w = .ok (.enter 60 args) w := enters_of Try.func60 (by kernel_rfl) rfl
  have hH := holds_sp hn ho
  have hlt := ho.lt g rfl
  have hcon := AnyQ.slices_SortFunc Try.sortSpan 3 Try.isAgg46 Try.sizeOf46 spc (fun _ => rfl) (fun x v hv => by simp [spc] at hv; rcases hv with rfl | rfl | rfl <;> rfl) cmpS swoS 60 #[] g 0 cap l.toArray w eg (fun m os dk _ x y => gcompare_any x.1 x.2.1 x.2.2 y.1 y.2.1 y.2.2 _) hH hlt.2 (by simpa [hn] using hn2)
  simp only [List.size_toArray, hn] at hcon
  refine Calls.mono hcon ?_
  rintro e w' ⟨he, d', m, os, hp, hs, hw⟩
  have hsz : d'.size = n := by have := hp.1; simpa [hn] using this
  have hH' := holdsK_sortWorldK_c spc 3 w g 0 l.toArray d' m os hH hlt.2 (by rw [hsz]; simp [hn])
  rw [← hw] at hH'
  have hget : ∀ i, i < n → d'[i]! = d'.toList.getD i (0, 0, 0) := fun i hi => by
    rw [getElem!_pos _ _ (by omega)]
    simp [List.getD_eq_getElem?_getD, show i < d'.size by omega]
  refine ⟨he, d'.toList, Lib.hid ⟨?_, ?_⟩, fun j hj => ?_, ?_⟩
  · have h3 := hp.2.2
    have e1 : d'.extract 0 n = d' := by rw [← hsz]; exact Array.extract_size
    have e2 : l.toArray.extract 0 n = l.toArray := by have h := Array.extract_size (xs := l.toArray); simpa [hn] using h
    rw [e1, e2] at h3
    simpa using h3
  · rw [List.pairwise_iff_getElem]
    intro i j hi hj hij
    have hi' : i < d'.size := by simpa using hi
    have hj' : j < d'.size := by simpa using hj
    have h3 := hs i j (Nat.zero_le _) hij (by omega)
    unfold ltOf at h3
    simp only [decide_eq_false_iff_not, cmpS_lt] at h3
    rw [getElem!_pos d' i hi', getElem!_pos d' j hj'] at h3
    unfold leS
    simp only [Array.getElem_toList]
    omega
  · have hj' : j < d'.size := by simpa using hj
    have c0 := (hH'.cell hj' (c := 0) (by omega)).1
    have c1 := (hH'.cell hj' (c := 1) (by omega)).1
    rw [hget j (by omega), Nat.zero_add] at c0 c1
    have c2 := (hH'.cell hj' (c := 2) (by omega)).1
    rw [hget j (by omega), Nat.zero_add] at c2
    exact ⟨c0, c1, c2⟩
  · rw [hw]
    refine ⟨rfl, rfl, rfl, size_sortWorldK_c _ _ _ _ _ _ _ _, fun k hk => ?_⟩
    have hkg : k ≠ g := by omega
    unfold sortWorldK
    rw [Go.Sort.heap_grow_old _ _ (by rw [Go.Sort.size_putRowK]; show k < w.heap.size; omega)]
    unfold Go.Sort.putRowK Go.Sort.putRow Go.Sort.mapBlock
    simp only [Go.Sort.heap_ahead, Array.getElem?_modify]
    rw [if_neg (fun e => hkg e.symm)]
end Vers
end Go.Proofs.Ythiiganfoecmnaa
