/-
 Several texts of this family in one: TreeSort, TreeOwn, TreeAny, TreeRows, TreeRecs, TreeKids.
-/
import Derived.Test.YtekhaejhmlebbaaGreatRHTreeA
import Derived.Test.YtekhaejhmlebbaaGreatRGFill
import Derived.Test.YtekhaejhmlebbaaGreatRShelf
import Derived.Shelf.SlSortCmp.WholeK
import Derived.Test.YtekhaejhmlebbaaGreatRGPut
import Derived.Test.YtekhaejhmlebbaaGreatRGVect
import Derived.Laws.Rows
import Derived.Laws.IdiomRangeMap
import Derived.Sort.OwnSorted
import Derived.OwnWalk
/-
 Records are sorted by their keys (the sort of Go's library by its contract).
-/
namespace Go.Proofs.YtekhaejhmlebbaaGreat
namespace Tree
open Go.RowKit Vers Num Ring Disk Blk
open Go.Proofs.YtekhaejhmlebbaaGreat.Code hiding Bn
attribute [local go_sem ↓] Go.wp_at_zero Go.wp_at_succ

theorem cmpB_lt : ∀ a b : List UInt8, Lib.compareBytes a b < 0 ↔ a < b
 | [], [] => by simp [Lib.compareBytes]
 | [], _ :: _ => by simp [Lib.compareBytes]
 | _ :: _, [] => by simp [Lib.compareBytes]
 | a :: al, b :: bl => by
  unfold Lib.compareBytes
  rw [List.cons_lt_cons_iff]
  by_cases h : a < b
  ·simp [h]
  ·by_cases h2 : b < a
   ·have : a ≠ b := fun e => by subst e; exact h h2
    simp [h, h2, this]
   ·have e : a = b := UInt8.le_antisymm (UInt8.not_lt.1 h2) (UInt8.not_lt.1 h)
    simp [e]
    subst e
    exact cmpB_lt al bl
def cmpK (p q : Pr) : Int := Lib.compareBytes p.1.1.data.toList q.1.1.data.toList
theorem cmpK_lt (p q : Pr) : cmpK p q < 0 ↔ nlt p.1.1 q.1.1 = true := by
 unfold cmpK
 rw [cmpB_lt, nlt_iff, Lib.toList_data, Lib.toList_data]

set_option maxRecDepth 100000 in
theorem less_any (k k' : Nm) (A A' : Option Addr) (n c n' c' : Nat) (w : World) :
  Calls Tryz.prog 68 #[.agg #[.string k, .slice A n c], .agg #[.string k', .slice A' n' c']] w fun e w' => e = .returned (.int .i64 (Lib.compareBytes k.data.toList k'.data.toList)) ∧ ∃ q os, w' = Go.Sort.grow (w.drewN q) os := by
 have H1 := Lib.hid (fun W => Tryz.strings_Compare k k' W)
 obtain ⟨r, hr⟩ : ∃ r, Lib.compareBytes k.data.toList k'.data.toList = r := ⟨_, rfl⟩
 rw [hr] at H1 ⊢
 have HB : Hid (∃ q' os, (w.alloc (.cells #[.string k, .slice A n c] 53)).alloc (.cells #[.string k', .slice A' n' c'] 53) = Go.Sort.grow (w.drewN q') os) := Lib.hid ⟨0, _, by
  rw [Go.Sort.alloc_eq_grow, Go.Sort.alloc_eq_grow, Go.Sort.grow_grow]
  rfl⟩
 clear hr
 go_enter Tryz.func68, Tryz.ntmps68
 go_wp2_with fail
 refine (H1.out _).mono ?_
 rintro e w1 ⟨rfl, rfl⟩
 go_wp2_with fail
 go_ret
 exact ⟨rfl, HB.out⟩

theorem swoK : Go.Sort.SWO (ltOf cmpK) where
 irrefl x := by
  unfold ltOf
  rw [decide_eq_false_iff_not, cmpK_lt, nlt_irrefl]
  simp
 trans x y z h1 h2 := by
  unfold ltOf at *
  rw [decide_eq_true_eq, cmpK_lt] at *
  exact nlt_trans h1 h2
 ntrans x y z h1 h2 := by
  unfold ltOf at *
  rw [decide_eq_false_iff_not, cmpK_lt, Bool.not_eq_true] at *
  by_cases e : x.1.1 = y.1.1
  ·rw [e]; exact h2
  by_cases e2 : y.1.1 = z.1.1
  ·rw [← e2]; exact h1
  have a1 := nlt_tri h1 e
  have a2 := nlt_tri h2 e2
  exact nlt_asymm (nlt_trans a2 a1)

def Prs (w : World) (g : Nat) (l : List Pr) : Prop := ∀ j, j < l.length → w.cell? ⟨g, j * 2, none⟩ = some (.string (l.getD j (r0, none, 0)).1.1) ∧ w.cell? ⟨g, j * 2 + 1, none⟩ = some (.slice (l.getD j (r0, none, 0)).2.1 (l.getD j (r0, none, 0)).1.2.length (l.getD j (r0, none, 0)).2.2)

theorem holds_own {w : World} {base g cap n : Nat} {l : List Pr} (hn : l.length = n) (ho : w.ownsRow base 53 2 (.slice (some ⟨g, 0, none⟩) n cap) n (rcs l)) : Go.Sort.HoldsK rcc 2 w g 0 l.toArray := fun j hj => by
 rw [Go.Sort.size_flatK] at hj
 simp only [List.size_toArray] at hj
 have hq : j / 2 < l.length := by omega
 have hr : j % 2 < 2 := by omega
 have e := rcs_at l (j / 2) hq (j % 2) hr
 rw [show j / 2 * 2 + j % 2 = j by omega] at e
 have hc := World.ownsRow.cellAt ho j (by omega)
 rw [e] at hc
 rw [Go.Sort.get_flatK _ _ _ _ (by simpa using hj), Nat.zero_add]
 have e2 : l.toArray[j / 2]! = l.getD (j / 2) (r0, none, 0) := by
  rw [getElem!_pos _ _ (by simpa using hq)]
  simp [List.getD_eq_getElem?_getD, hq]
 rw [e2]
 refine ⟨?_, ho.frozenAt j⟩
 rw [hc]
 have h2 : j % 2 = 0 ∨ j % 2 = 1 := by omega
 rcases h2 with h2 | h2 <;> rw [h2] <;> rfl

set_option maxRecDepth 100000 in
theorem sort_any (g cap n base : Nat) (l : List Pr) (hn : l.length = n) (w : World) (ho : w.ownsRow base 53 2 (.slice (some ⟨g, 0, none⟩) n cap) n (rcs l)) (hn2 : n < 4611686018427387904) :
  Calls Tryz.prog 51 #[.slice (some ⟨g, 0, none⟩) n cap, .func (.func 68) #[] #[]] w fun e w' => e = .returned (.tuple #[]) ∧ ∃ l', Hid (l'.Perm l ∧ l'.Pairwise (fun p q => nlt q.1.1 p.1.1 = false) ∧ Prs w' g l' ∧ w.grownBy w' (some g) ∧ ∃ cur, w'.heap[g]? = some (.cells cur 53 (0, 0))) := by
 have eg : ∀ args w, (callFunc 68 args).run Tryz.prog w = .ok (.enter 68 args) w := enters_of Tryz.func68 (by kernel_rfl) rfl
 have hH := holds_own hn ho
 have hlt := ho.lt g rfl
 have hcon := AnyQ.slices_SortFunc Tryz.sortRec 2 Tryz.isAgg53 Tryz.sizeOf53 rcc (fun _ => rfl) (fun x v hv => by simp [rcc] at hv; rcases hv with rfl | rfl <;> rfl) cmpK swoK 68 #[] g 0 cap l.toArray w eg (fun m os dk _ x y => less_any x.1.1 y.1.1 x.2.1 y.2.1 _ _ _ _ _) hH hlt.2 (by simpa [hn] using hn2)
 simp only [List.size_toArray, hn] at hcon
 refine Calls.mono hcon ?_
 rintro e w' ⟨he, d', m, os, hp, hs, hw⟩
 have hsz : d'.size = n := by have := hp.1; simpa [hn] using this
 have hH' := holdsK_sortWorldK_c rcc 2 w g 0 l.toArray d' m os hH hlt.2 (by rw [hsz]; simp [hn])
 rw [← hw] at hH'
 have hget : ∀ i, i < n → d'[i]! = d'.toList.getD i (r0, none, 0) := fun i hi => by
  rw [getElem!_pos _ _ (by omega)]
  simp [List.getD_eq_getElem?_getD, show i < d'.size by omega]
 obtain ⟨cur, hcur⟩ := own_block ho (g := g) rfl
 refine ⟨he, d'.toList, Lib.hid ⟨?_, ?_, fun j hj => ?_, ?_, ?_⟩⟩
 ·have h3 := hp.2.2
  have e1 : d'.extract 0 n = d' := by rw [← hsz]; exact Array.extract_size
  have e2 : l.toArray.extract 0 n = l.toArray := by have h := Array.extract_size (xs := l.toArray); simpa [hn] using h
  rw [e1, e2] at h3
  simpa using h3
 ·rw [List.pairwise_iff_getElem]
  intro i j hi hj hij
  have hi' : i < d'.size := by simpa using hi
  have hj' : j < d'.size := by simpa using hj
  have h3 := hs i j (Nat.zero_le _) hij (by omega)
  unfold ltOf at h3
  rw [decide_eq_false_iff_not, cmpK_lt, Bool.not_eq_true] at h3
  rw [getElem!_pos d' i hi', getElem!_pos d' j hj'] at h3
  simpa only [Array.getElem_toList] using h3
 ·have hj' : j < d'.size := by simpa using hj
  have c0 := (hH'.cell hj' (c := 0) (by omega)).1
  have c1 := (hH'.cell hj' (c := 1) (by omega)).1
  rw [hget j (by omega), Nat.zero_add] at c0 c1
  exact ⟨c0, c1⟩
 ·rw [hw]
  refine ⟨rfl, rfl, rfl, size_sortWorldK_c _ _ _ _ _ _ _ _, fun k hk hne => ?_⟩
  have hkg : k ≠ g := fun e => hne (by rw [e])
  unfold sortWorldK
  rw [Go.Sort.heap_grow_old _ _ (by rw [Go.Sort.size_putRowK]; show k < w.heap.size; omega)]
  unfold Go.Sort.putRowK Go.Sort.putRow Go.Sort.mapBlock
  simp only [Go.Sort.heap_ahead, Array.getElem?_modify]
  rw [if_neg (fun e => hkg e.symm)]
 ·rw [hw]
  unfold sortWorldK
  rw [Go.Sort.heap_grow_old _ _ (by rw [Go.Sort.size_putRowK]; show g < w.heap.size; omega)]
  unfold Go.Sort.putRowK Go.Sort.putRow Go.Sort.mapBlock
  simp only [Go.Sort.heap_ahead, Array.getElem?_modify, hcur, if_true, Option.map_some]
  exact ⟨_, rfl⟩

theorem ins_none (p : Option Addr) (cap : Nat) (fv : Value) (w : World) :
  Calls Tryz.prog 101 #[.slice p 0 cap, .int .i64 0, .int .i64 0, fv] w fun e w' => e = .returned (.tuple #[]) ∧ w' = w := by
 go_enter Tryz.func101, Tryz.ntmps101
 go_wp2
 refine wp_loop_rounds 1 ?_
 rw [rounds_succ]
 go_wp2
 go_end0
 exact ⟨rfl, rfl⟩
theorem pdq_none (p : Option Addr) (cap : Nat) (lim : Int) (fv : Value) (w : World) :
  Calls Tryz.prog 79 #[.slice p 0 cap, .int .i64 0, .int .i64 0, .int .i64 lim, fv] w fun e w' => e = .returned (.tuple #[]) ∧ w' = w := by
 go_enter Tryz.func79, Tryz.ntmps79
 go_wp2
 refine wp_loop_rounds 1 ?_
 rw [rounds_succ]
 go_wp2_with (refine (ins_none _ _ _ _).mono ?_; rintro e w' ⟨rfl, rfl⟩)
 (try simp only [Exit.inBlock, Exit.then]); refine bodyPost_ret (results_none rfl _ _ _) rfl ?_
 exact ⟨rfl, rfl⟩
theorem sort_none (p : Option Addr) (cap : Nat) (fv : Value) (w : World) :
  Calls Tryz.prog 51 #[.slice p 0 cap, fv] w fun e w' => e = .returned (.tuple #[]) ∧ w' = w := by
 have hl : ∀ W, Calls Tryz.prog 80 #[.int .u64 0] W fun e w' => e = .returned (.int .i64 (Lib.bitLen 0 : Nat)) ∧ w' = W := fun W => Any.bits_Len (SlLaysF0.n15.bits (P := Tryz.prog) (ρ := Tryz.sortRec_ren) { Tryz.sortRec with }) 0 W (by omega) (by omega)
 go_enter Tryz.func51, Tryz.ntmps51
 go_wp2_with (first
  | (go_at_call 80; refine (hl _).mono ?_; rintro e w' ⟨rfl, rfl⟩)
  | (go_at_call 79; refine (pdq_none _ _ _ _ _).mono ?_; rintro e w' ⟨rfl, rfl⟩))
 go_end0
 exact ⟨rfl, rfl⟩
end Tree
end Go.Proofs.YtekhaejhmlebbaaGreat

/-
 Trees in memory: a block of maps and of spots; each map's block; each key's versions.
-/
namespace Go.Proofs.YtekhaejhmlebbaaGreat
namespace Tree
open Go.RowKit Vers Num Ring Disk Blk
open Go.Proofs.YtekhaejhmlebbaaGreat.Code hiding Bn

abbrev Fp := Nm → Option Addr × Nat
def vOf (f : Fp) (r : Rc) : Nm × Value := (r.1, .slice (f r.1).1 r.2.length (f r.1).2)
def Spot (L : List Value) (s : Nat) (h : Int) (bz : Prop) : Prop :=
 ∃ (d k x : Int), L[256 + 4 * s]? = some (.int .u32 d) ∧ L[256 + 4 * s + 1]? = some (.int .i32 k) ∧ L[256 + 4 * s + 2]? = some (.int .u32 0) ∧ L[256 + 4 * s + 3]? = some (.int .u64 x) ∧
  (bz → d = 0 ∧ k = 1) ∧ (¬ bz → k = 0 ∧ (d = 0 ∨ (d = 1 ∧ x = h)))
def Cells (L : List Value) (mv : Nat → Option Nat) (all : List Rc) (Bz : List Int → Prop) : Prop :=
 L.length = 1348 ∧ (∀ i, i < 256 → L[i]? = some (.map (mv i))) ∧ ∀ p, okP p → Spot L (spotN p) (hashF all p) (Bz p)
def Mu (tb : Nat) (mv : Nat → Option Nat) (k : Nat) : Prop := k = tb ∨ ∃ i, i < 256 ∧ mv i = some k
def Row (F M : Nat → Prop) (w : World) (f : Fp) (r : Rc) : Prop :=
 ∃ L B, Vs w L B (f r.1).1 r.2 ∧ r.2.length ≤ (f r.1).2 ∧ B ≤ w.heap.size ∧ ∀ k, L ≤ k → k < B → F k ∧ ¬ M k
def Leaf (F : Nat → Prop) (w : World) (f : Fp) (all : List Rc) (i : Nat) (m : Option Nat) : Prop :=
 (m = none → leafR all i = []) ∧ ∀ mb, m = some mb → F mb ∧ MI w mb ((leafR all i).map (vOf f))
def okAll (all : List Rc) : Prop := Srt all ∧ ∀ r ∈ all, okR r ∧ r.2 ≠ []
structure TR (F : Nat → Prop) (w : World) (tb : Nat) (mv : Nat → Option Nat) (f : Fp) (all : List Rc) (Bz : List Int → Prop) : Prop where
 blk : ∃ L, Bn tb 118 L w ∧ Cells L mv all Bz
 leaf : ∀ i, i < 256 → Leaf F w f all i (mv i)
 inj : ∀ i j k, i < 256 → j < 256 → mv i = some k → mv j = some k → i = j
 rows : ∀ r ∈ all, Row F (Mu tb mv) w f r
 ok : okAll all
 own : F tb
 lt : ∀ k, F k → k < w.heap.size
def hd (tb : Nat) : Value := .pointer (some ⟨tb, 0, none⟩)
section
variable {F F' M : Nat → Prop} {w w' : World} {tb : Nat} {mv : Nat → Option Nat} {f : Fp} {all : List Rc} {Bz Bz' : List Int → Prop} {r : Rc} {p : List Int}
theorem Row.keep (h : Row F M w f r) (hs : w.heap.size ≤ w'.heap.size) (hk : ∀ k, F k → ¬ M k → w'.heap[k]? = w.heap[k]?) : Row F M w' f r := by
 obtain ⟨L, B, h1, h2, h3, h4⟩ := h
 exact ⟨L, B, h1.keep fun a ha hb => World.cell?_of_block (hk _ (h4 _ ha hb).1 (h4 _ ha hb).2), h2, Nat.le_trans h3 hs, h4⟩
theorem Row.vs (h : Row F M w f r) : Vs w 0 w.heap.size (f r.1).1 r.2 := by
 obtain ⟨L, B, h1, h2, h3, h4⟩ := h
 exact (h1.more h3).less (Nat.zero_le _)
theorem Row.cap (h : Row F M w f r) : r.2.length ≤ (f r.1).2 := by
 obtain ⟨L, B, h1, h2, h3, h4⟩ := h
 exact h2
theorem TR.keep (h : TR F w tb mv f all Bz) (hs : w.heap.size ≤ w'.heap.size) (hk : ∀ k, F k → w'.heap[k]? = w.heap[k]?) : TR F w' tb mv f all Bz := by
 obtain ⟨⟨L, h1, h2⟩, h3, h4, h5, h6, h7, h8⟩ := h
 exact ⟨⟨L, h1.same (hk _ h7), h2⟩, fun i hi => ⟨(h3 i hi).1, fun mb hm => ⟨((h3 i hi).2 mb hm).1, ((h3 i hi).2 mb hm).2.same (hk _ ((h3 i hi).2 mb hm).1)⟩⟩, h4, fun r hr => (h5 r hr).keep hs fun k hk1 _ => hk k hk1, h6, h7, fun k hk1 => Nat.lt_of_lt_of_le (h8 k hk1) hs⟩
theorem TR.below (h : TR F w tb mv f all Bz) (hb : Below w.heap.size w w') : TR F w' tb mv f all Bz := h.keep hb.size fun k hk => hb.block k (h.lt k hk)
theorem TR.chg {G : Nat → Prop} (h : TR F w tb mv f all Bz) (hb : Chg G w w') (hG : ∀ k, F k → ¬ G k) : TR F w' tb mv f all Bz := h.keep hb.size fun k hk => hb.block k (h.lt k hk) (hG k hk)
theorem TR.ne (h : TR F w tb mv f all Bz) {i k : Nat} (hi : i < 256) (hm : mv i = some k) : k ≠ tb := fun e => by
 obtain ⟨⟨L, h1, h2⟩, h3, _⟩ := h
 have h4 := ((h3 i hi).2 k hm).2
 exact h4.ne (g := tb) h1 e.symm
theorem TR.turn (h : TR F w tb mv f all Bz) (hg : w.grownBy w' (some tb)) {L : List Value} (hB : Bn tb 118 L w') (hC : Cells L mv all Bz') : TR F w' tb mv f all Bz' := by
 have hne := @TR.ne F w tb mv f all Bz h
 obtain ⟨_, h3, h4, h5, h6, h7, h8⟩ := h
 refine ⟨⟨L, hB, hC⟩, fun i hi => ⟨(h3 i hi).1, fun mb hm => ⟨((h3 i hi).2 mb hm).1, ((h3 i hi).2 mb hm).2.same (hg.block _ (h8 _ ((h3 i hi).2 mb hm).1) (fun e => hne hi hm (by injection e)))⟩⟩, h4, fun r hr => (h5 r hr).keep hg.size fun k hk hM => hg.block k (h8 k hk) (fun e => hM (.inl (by injection e))), h6, h7, fun k hk1 => Nat.lt_of_lt_of_le (h8 k hk1) hg.size⟩
theorem TR.nokept (h : TR F w tb mv f all Bz) {row : Option Nat} (hg : w.grownBy w' row) (hr : ∀ k, row = some k → ¬ F k) : TR F w' tb mv f all Bz := h.keep hg.size fun k hk => hg.block k (h.lt k hk) fun e => hr k e.symm hk
theorem TR.cell (h : TR F w tb mv f all Bz) {i : Nat} (hi : i < 256) : w.cell? ⟨tb, i, none⟩ = some (.map (mv i)) := by
 obtain ⟨⟨L, h1, h2⟩, _⟩ := h
 exact (h1.cell i).trans (h2.2.1 i hi)
theorem TR.small (h : TR F w tb mv f all Bz) {i : Nat} (hi : i < 256) (m : Option Nat) (hm : mv i = m) : (Builtin.len_ #[81] 3 #[.map m]).run Tryz.prog w = .ok (.int .i64 (leafR all i).length) w := by
 have hl := h.leaf i hi
 rw [hm] at hl
 rcases m with _ | mb
 ·rw [hl.1 rfl]
  exact Go.Maps.len_nil Tryz.underlying81 _
 ·obtain ⟨D, n, hown, _, _, _, hsz⟩ := (hl.2 mb rfl).2
  have := hown.len Tryz.underlying81 3
  rw [hsz, List.length_map] at this
  exact this
theorem TR.spot (h : TR F w tb mv f all Bz) (hp : okP p) : ∃ L, Bn tb 118 L w ∧ Cells L mv all Bz ∧ Spot L (spotN p) (hashF all p) (Bz p) := by
 obtain ⟨⟨L, h1, h2⟩, _⟩ := h
 exact ⟨L, h1, h2, h2.2.2 p hp⟩
theorem Cells.set {L L' : List Value} (h : Cells L mv all Bz) (hp : okP p) (hl : L'.length = L.length) (hk : ∀ j, j < 256 + 4 * spotN p ∨ 256 + 4 * spotN p + 4 ≤ j → L'[j]? = L[j]?) (hs : Spot L' (spotN p) (hashF all p) (Bz' p)) (hb : ∀ q, q ≠ p → (Bz' q ↔ Bz q)) : Cells L' mv all Bz' := by
 obtain ⟨h1, h2, h3⟩ := h
 refine ⟨hl.trans h1, fun i hi => (hk i (by omega)).trans (h2 i hi), fun q hq => ?_⟩
 by_cases e : q = p
 ·subst e; exact hs
 ·have hne : spotN q ≠ spotN p := fun e2 => e (spot_inj hq hp e2)
  obtain ⟨d, k, x, s0, s1, s2, s3, s4, s5⟩ := h3 q hq
  exact ⟨d, k, x, (hk _ (by omega)).trans s0, (hk _ (by omega)).trans s1, (hk _ (by omega)).trans s2, (hk _ (by omega)).trans s3, fun hb' => s4 ((hb q e).1 hb'), fun hb' => s5 fun e2 => hb' ((hb q e).2 e2)⟩
end
end Tree
end Go.Proofs.YtekhaejhmlebbaaGreat

/-
 Is a record beneath a path?
-/
namespace Go.Proofs.YtekhaejhmlebbaaGreat
namespace Tree
open Go.RowKit Vers Num Ring Disk Blk
open Go.Proofs.YtekhaejhmlebbaaGreat.Code hiding Bn
attribute [local go_sem ↓] Go.wp_at_zero Go.wp_at_succ

theorem info_map : (Tryz.prog.info? 81).map (fun i => (i.zero, i.size, i.bytes)) = some (some (.map none), 1, 8) := by kernel_rfl
theorem cut_maps (w : World) (tb a b : Nat) (h1 : a < b) (h2 : b ≤ 256) : (Instr.sliceAt 101 (.pointer (some ⟨tb, 0, none⟩)) (some (.int .i64 (a : Int))) (some (.int .i64 (b : Int))) none).run Tryz.prog w = .ok (.slice (some ⟨tb, a, none⟩) (b - a) (256 - a)) w := by
 obtain ⟨i0, hi0, hz0, hz1, hz2⟩ := info_parts info_map
 rw [run_sliceAt_array_lh w 101 ⟨tb, 0, none⟩ (by kernel_rfl) .i64 .i64 (a : Int) (b : Int) (by omega) (by omega) (by rw [show Tryz.prog.arrayLen 101 = 256 by kernel_rfl]; omega)]
 rw [show Tryz.prog.elem 101 = 81 by kernel_rfl, show Tryz.prog.arrayLen 101 = 256 by kernel_rfl]
 have h3 : ¬ 256 = a := by omega
 simp [sizeOf, typeInfo, hi0, hz1, slicedAt, Addr.add]
 rw [if_neg h3]
 by_cases h0 : a = 0
 ·rw [if_pos h0, h0]
 ·rw [if_neg h0]
theorem beneath_leaf {all : List Rc} {p : List Int} (hp : okP p) : beneath all p = [] ↔ ∀ j, j < toN p - fromN p → leafR all (fromN p + j) = [] := by
 constructor
 ·intro h j hj
  refine List.filter_eq_nil_iff.2 fun r hr => ?_
  intro e
  have e2 : leafN r.1 = fromN p + j := by simpa using e
  have : r ∈ beneath all p := beneath_mem.2 ⟨hr, (in_leaf hp r.1).2 ⟨by omega, by omega⟩⟩
  rw [h] at this
  cases this
 ·intro h
  refine List.filter_eq_nil_iff.2 fun r hr => ?_
  intro e
  have e2 := (in_leaf hp r.1).1 e
  have h3 := h (leafN r.1 - fromN p) (by omega)
  rw [show fromN p + (leafN r.1 - fromN p) = leafN r.1 by omega] at h3
  have : r ∈ leafR all (leafN r.1) := leaf_mem.2 ⟨hr, rfl⟩
  rw [h3] at this
  cases this
section
variable {F : Nat → Prop} {w : World} {tb : Nat} {mv : Nat → Option Nat} {f : Fp} {all : List Rc} {Bz : List Int → Prop}
set_option maxRecDepth 100000 in
theorem any_any (h : TR F w tb mv f all Bz) (A : Option Addr) (c n : Nat) (p : List Int) (hn : p.length = n) (hp : okP p) (hr : Ns .i64 w w.heap.size A p) :
  Calls Tryz.prog 121 #[hd tb, .slice A n c] w (fun e w' => e = .returned (.bool (decide (beneath all p ≠ []))) ∧ ∃ q, w' = w.drewN q) := by
 have H1 := Lib.hid (beneath_any A c n p hn hp w hr)
 obtain ⟨f1, f2⟩ := from_lt hp
 have HE := Lib.hid (beneath_leaf (all := all) hp)
 obtain ⟨a, ha⟩ : ∃ a, fromN p = a := ⟨_, rfl⟩
 obtain ⟨b, hb⟩ : ∃ b, toN p = b := ⟨_, rfl⟩
 obtain ⟨D, hD⟩ : ∃ D, decide (beneath all p ≠ []) = D := ⟨_, rfl⟩
 rw [ha, hb] at H1 HE f1
 rw [hb] at f2
 rw [hD]
 have HD : Hid (D = true ↔ ¬ ∀ j, j < b - a → leafR all (a + j) = []) := Lib.hid (by rw [← hD, decide_eq_true_eq, ← HE.out])
 have HT := Lib.hid h
 have hcut := fun W => cut_maps W tb a b f1 f2
 have hz : (Value.pointer (some ⟨tb, 0, none⟩)) = hd tb := rfl
 clear hr hn hp ha hb hD h
 unfold hd at hz ⊢
 clear hz
 go_enter Tryz.func121, Tryz.ntmps121
 go_wp2_with fail
 refine H1.out.mono ?_
 rintro e w1 ⟨rfl, q, rfl⟩
 have HT1 : Hid (TR F (w.drewN q) tb mv f all Bz) := Lib.hid (HT.out.keep (Nat.le_refl _) fun _ _ => rfl)
 obtain ⟨W, hW⟩ : ∃ W, w.drewN q = W := ⟨_, rfl⟩
 rw [hW] at HT1
 have HW : Hid (∃ q, W = w.drewN q) := Lib.hid ⟨q, hW.symm⟩
 rw [hW]
 clear hW H1 HE HT
 go_wp2_with fail
 obtain ⟨m, hm⟩ : ∃ m, b - a = m := ⟨_, rfl⟩
 have hm2 : m ≤ 256 := by omega
 have HM := Lib.hid hm
 rw [hm]
 clear hm
 go_loop [21] (fun v => ∃ k : Nat, v = .int .i64 k ∧ k ≤ m ∧ Hid (∀ j, j < k → leafR all (a + j) = [])) (fun v => m - (intOf v).toNat)
 case atStart => exact ⟨0, rfl, by omega, Lib.hid (fun j hj => by omega)⟩
 case round =>
  obtain ⟨k, rfl, hk, hst⟩ := hrel
  by_cases hlt : k < m
  ·have d1 : (0 : Int) ≤ (k : Int) := by omega
   have d2 : (k : Int) < (m : Int) := by omega
   have hi : a + k < 256 := by have := HM.out; omega
   have hc := HT1.out.cell hi
   obtain ⟨mm, hmm⟩ : ∃ mm, mv (a + k) = mm := ⟨_, rfl⟩
   have hl := HT1.out.small hi mm hmm
   rw [hmm] at hc
   obtain ⟨y, hy⟩ : ∃ y, (leafR all (a + k)).length = y := ⟨_, rfl⟩
   rw [hy] at hl
   clear hmm
   by_cases hy0 : y = 0
   ·have HN : Hid (∀ j, j < k + 1 → leafR all (a + j) = []) := Lib.hid fun j hj => by
     by_cases e : j = k
     ·subst e
      exact List.eq_nil_of_length_eq_zero (by omega)
     ·exact hst.out j (by omega)
    subst hy0
    clear hst hy hi
    go_wp2_with fail
    go_round
    case rel => exact ⟨k + 1, rfl, by omega, HN⟩
    case measure => simp only [intOf]; omega
   ·have hpos : (0 : Int) < (y : Int) := by omega
    have HN : Hid (D = true) := Lib.hid (HD.out.2 fun hall => by
     have := hall k (by have := HM.out; omega)
     rw [this] at hy
     simp at hy
     omega)
    clear hst hy hi
    go_wp2_with fail
    go_ret
    exact ⟨by rw [HN.out]; rfl, HW.out⟩
  ·have hkm : k = m := by omega
   subst hkm
   have HN : Hid (D = false) := Lib.hid (by
    rw [Bool.eq_false_iff]
    intro e
    refine HD.out.1 e fun j hj => hst.out j ?_
    have := HM.out
    omega)
   clear hst
   go_wp2_with fail
   go_ret
   exact ⟨by rw [HN.out]; rfl, HW.out⟩
end
end Tree
end Go.Proofs.YtekhaejhmlebbaaGreat

/-
 Records that a call makes: a row of the call's own, each with versions of its own; where the rows stand is told, so that they can be written.
-/
namespace Go.Proofs.YtekhaejhmlebbaaGreat
namespace Tree
open Go.RowKit Vers Num Ring Disk Blk
open Go.Proofs.YtekhaejhmlebbaaGreat.Code hiding Bn

def RecN (w : World) (L B : Nat) (p : Pr) : Prop :=
 p.1.2.length ≤ p.2.2 ∧ p.1.1.size ≤ 140737488355328 ∧ p.1.2.length ≤ 512 ∧ ∃ ps : List Pv, ps.map Prod.fst = p.1.2 ∧ OwnVs L L B w (.slice p.2.1 p.1.2.length p.2.2) ps ∧ (∀ g, (Value.slice p.2.1 p.1.2.length p.2.2).ownBlock = some g → g < B) ∧ ∀ q ∈ ps, Tg w q.1.past.length q.2.1
theorem RecN.keep {w w' : World} {L B : Nat} {p : Pr} (h : RecN w L B p) (hk : ∀ k, L ≤ k → k < B → w'.heap[k]? = w.heap[k]?) : RecN w' L B p := by
 obtain ⟨h0, hz1, hz2, ps, h1, ⟨h2, h3⟩, h4, h5⟩ := h
 refine ⟨h0, hz1, hz2, ps, h1, ⟨own_same h2 fun g hg => hk g (h2.lt g hg).1 (h4 g hg), fun q hq => (h3 q hq).keep fun a ha hb => World.cell?_of_block (hk _ ha hb)⟩, h4, fun q hq => ?_⟩
 refine (h5 q hq).keep fun hn a ha hl => hk _ ((h3 q hq).2.2.2.2 hn a ha) ?_
 obtain ⟨b, off, e, hb, _⟩ := (h3 q hq).1 hn
 rw [e] at ha
 injection ha with ha
 rw [← ha]
 exact hb
theorem RecN.vs {w : World} {L B : Nat} {p : Pr} (h : RecN w L B p) : Vs w L B p.2.1 p.1.2 := by
 obtain ⟨h0, hz1, hz2, ps, h1, ⟨h2, h3⟩, h4, h5⟩ := h
 intro hp
 rw [← h1] at hp ⊢
 rw [List.length_map] at hp
 rcases h2.2 with ⟨_, h6⟩ | ⟨g, cap, cur, hv, hbg, hg, rest⟩
 ·omega
 ·injection hv with e1 e2 e3
  rw [e1] at h2 h4 ⊢
  refine ⟨g, 0, rfl, hbg, h4 g rfl, fun j hj => ?_⟩
  rw [List.length_map] at hj
  have e : (ps.map Prod.fst).getD j v0 = (ps.getD j z0).1 := by simp [List.getD_eq_getElem?_getD, hj]
  have hm : ps.getD j z0 ∈ ps := by
   rw [List.getD_eq_getElem?_getD, List.getElem?_eq_getElem hj]
   exact List.getElem_mem _
  rw [e]
  have hat : ∀ r, r < 5 → ∀ u, (vcc (ps.getD j z0))[r]? = some u → w.cell? ⟨g, 0 + j * 5 + r, none⟩ = some u := fun r hr u hu => by
   have hc := h2.cells (g := g) rfl (j * 5 + r) u (by rw [vcs_at ps j hj r hr]; exact hu)
   rw [Vers.add_plain] at hc
   rw [show 0 + j * 5 + r = 0 + (j * 5 + r) by omega]
   exact hc
  exact ⟨_, _, hat 0 (by omega) _ (by simp [vcc]), hat 1 (by omega) _ (by simp [vcc]), hat 2 (by omega) _ (by simp [vcc]), hat 3 (by omega) _ (by simp [vcc]), hat 4 (by omega) _ (by simp [vcc]), h3 _ hm⟩

set_option maxRecDepth 100000 in
theorem vers_new (key : Nm) (hkey : key.size ≤ 140737488355328) (A : Option Addr) (c m : Nat) (l : List Vr) (hm : l.length = m) (hl : RightV l) (w : World) (hv : Vs w 0 w.heap.size A l) :
  Calls Tryz.prog 50 #[.slice A m c] w (fun e w' => ∃ A1 c1, e = .returned (.slice A1 m c1) ∧ Hid (RecN w' w.heap.size w'.heap.size ((key, l), A1, c1)) ∧ Below w.heap.size w w') := by
 have h512 : l.length ≤ 512 := hl.1
 have hp : ∀ v ∈ l, v.past.length ≤ 4294967296 := fun v hv => by
  have h1 := (hl.2.1.1 v hv).2.1
  unfold Span.Right at h1
  have := h1.1
  omega
 have h := Lib.hid (list_own A c m l hm 0 w.heap.size w (Nat.le_refl _) hv (by omega) hp)
 have HM := Lib.hid (And.intro hm h512)
 clear hm hv hl hp h512
 go_enter Tryz.func50, Tryz.ntmps50
 go_wp2_with fail
 refine h.out.mono ?_
 rintro e w2 ⟨A1, c1, ps, rfl, h2, b2⟩
 rw [HM.out.1] at h2 ⊢
 go_wp2_with fail
 go_ret
 have h4 := h2.out.1.1
 have hl : ps.length = m := by rw [← HM.out.1, ← h2.out.2.1, List.length_map]
 rw [hl] at h4
 refine ⟨A1, c1, rfl, Lib.hid ⟨?_, hkey, HM.out.2, ps, h2.out.2.1, ?_, ?_, h2.out.2.2⟩, b2⟩
 ·show l.length ≤ c1
  rw [HM.out.1]
  exact (own_low h4).1
 ·show OwnVs _ _ _ _ (.slice A1 l.length c1) ps
  rw [HM.out.1]
  exact h2.out.1
 ·intro g hg
  have hg' : (Value.slice A1 l.length c1).ownBlock = some g := hg
  rw [HM.out.1] at hg'
  exact (h4.lt g hg').2

def RowT (base it : Nat) (w : World) (v : Value) (ps : List Pr) : Prop :=
 w.ownsRow base 53 2 v ps.length (rcs ps) ∧ ∀ p ∈ ps, ∃ L B, base ≤ L ∧ B ≤ w.heap.size ∧ (∀ g, v.ownBlock = some g → g < L ∨ B ≤ g) ∧ (it < L ∨ B ≤ it) ∧ RecN w L B p
theorem rowT_nil (base it : Nat) (w : World) : RowT base it w (.slice none 0 0) [] := ⟨World.ownsRow_nil _ _ _ _, fun p hp => by cases hp⟩
section
variable {base it : Nat} {w w' : World} {v : Value} {ps : List Pr}
theorem RowT.below (h : RowT base it w v ps) (hb : Below w.heap.size w w') : RowT base it w' v ps := by
 refine ⟨own_below h.1 hb (Nat.le_refl _), fun p hp => ?_⟩
 obtain ⟨L, B, h1, h2, h3, h4, h5⟩ := h.2 p hp
 exact ⟨L, B, h1, Nat.le_trans h2 hb.size, h3, h4, h5.keep fun k _ hk => hb.block k (by omega)⟩
theorem RowT.step (h : RowT base it w v ps) (hg : w.grownBy w' (some it)) (hne : some it ≠ v.ownBlock) : RowT base it w' v ps := by
 refine ⟨h.1.kept hg (Or.inr hne.symm), fun p hp => ?_⟩
 obtain ⟨L, B, h1, h2, h3, h4, h5⟩ := h.2 p hp
 exact ⟨L, B, h1, Nat.le_trans h2 hg.size, h3, h4, h5.keep fun k a b => hg.block k (by omega) fun e => by injection e with e; omega⟩
theorem RowT.other (h : RowT base it w v ps) {j : Nat} (hj : w.heap.size ≤ j) : RowT base j w v ps := by
 refine ⟨h.1, fun p hp => ?_⟩
 obtain ⟨L, B, h1, h2, h3, h4, h5⟩ := h.2 p hp
 exact ⟨L, B, h1, h2, h3, .inr (by omega), h5⟩
theorem RowT.add {w1 w2 : World} {v' : Value} {p : Pr} (h : RowT base it w v ps) (hit : it < w.heap.size) (hb1 : Below w.heap.size w w1) (hp : RecN w1 w.heap.size w1.heap.size p) (hb : base ≤ w.heap.size)
  (ho : w2.ownsRow base 53 2 v' (ps.length + 1) (rcs (ps ++ [p]))) (h2 : w1.grownBy w2 v.ownBlock) (hat : v'.ownBlock = v.ownBlock ∨ ∃ g, v'.ownBlock = some g ∧ w1.heap.size ≤ g) : RowT base it w2 v' (ps ++ [p]) := by
 have hs2 := h2.size
 have hs1 := hb1.size
 refine ⟨by simpa using ho, fun q hq => ?_⟩
 rcases List.mem_append.1 hq with hq | hq
 ·obtain ⟨L, B', h1, h3, h4, h5, h6⟩ := h.2 q hq
  refine ⟨L, B', h1, by omega, fun g hg' => ?_, h5, (h6.keep fun k a b => hb1.block k (by omega)).keep fun k a b => h2.block k (by omega) (fun e => ?_)⟩
  ·rcases hat with e | ⟨g', e, hge⟩
   ·exact h4 g (e ▸ hg')
   ·rw [hg'] at e
    injection e with e
    subst e
    exact .inr (by omega)
  ·have := h4 k e.symm
   omega
 ·obtain rfl := List.mem_singleton.1 hq
  refine ⟨w.heap.size, w1.heap.size, hb, hs2, fun g hg' => ?_, .inl hit, hp.keep fun k a b => h2.block k b (fun e => by have := (h.1.lt k e.symm).2; omega)⟩
  rcases hat with e | ⟨g', e, hge⟩
  ·exact .inl (h.1.lt g (e ▸ hg')).2
  ·rw [hg'] at e
   injection e with e
   subst e
   exact .inr hge
end

def Got (base : Nat) (w : World) (A : Option Addr) (ps : List Pr) : Prop :=
 0 < ps.length → ∃ g, A = some ⟨g, 0, none⟩ ∧ base ≤ g ∧ Prs w g ps ∧ (∃ cur, w.heap[g]? = some (.cells cur 53 (0, 0))) ∧ ∀ p ∈ ps, ∃ L B, base ≤ L ∧ B ≤ w.heap.size ∧ (g < L ∨ B ≤ g) ∧ RecN w L B p
theorem Got.keep {base : Nat} {w w' : World} {A : Option Addr} {ps : List Pr} (h : Got base w A ps) (hs : w.heap.size ≤ w'.heap.size) (hk : ∀ k, base ≤ k → k < w.heap.size → w'.heap[k]? = w.heap[k]?) : Got base w' A ps := fun hp => by
 obtain ⟨g, h1, h2, h3, ⟨cur, h4⟩, h5⟩ := h hp
 have hl := (Array.getElem?_eq_some_iff.1 h4).1
 refine ⟨g, h1, h2, fun j hj => ⟨(World.cell?_of_block (hk g h2 hl)).trans (h3 j hj).1, (World.cell?_of_block (hk g h2 hl)).trans (h3 j hj).2⟩, ⟨cur, (hk g h2 hl).trans h4⟩, fun p hp => ?_⟩
 obtain ⟨L, B, q1, q2, q3, q4⟩ := h5 p hp
 exact ⟨L, B, q1, Nat.le_trans q2 hs, q3, q4.keep fun k a b => hk k (by omega) (by omega)⟩
theorem Got.rs {base : Nat} {w : World} {A : Option Addr} {ps : List Pr} (h : Got base w A ps) : Rs w base w.heap.size A (ps.map Prod.fst) := fun hp => by
 rw [List.length_map] at hp
 obtain ⟨g, h1, h2, h3, ⟨cur, h4⟩, h5⟩ := h hp
 have hl := (Array.getElem?_eq_some_iff.1 h4).1
 refine ⟨g, 0, h1, h2, hl, fun j hj => ?_⟩
 rw [List.length_map] at hj
 have e : (ps.map Prod.fst).getD j r0 = (ps.getD j (r0, none, 0)).1 := by simp [List.getD_eq_getElem?_getD, hj]
 have hm : ps.getD j (r0, none, 0) ∈ ps := by
  rw [List.getD_eq_getElem?_getD, List.getElem?_eq_getElem hj]
  exact List.getElem_mem _
 obtain ⟨L, B, q1, q2, q3, q4⟩ := h5 _ hm
 rw [e]
 obtain ⟨c0, c1⟩ := h3 j hj
 rw [Nat.zero_add]
 have h512 := q4.2.2.1
 exact ⟨_, _, c0, c1, (q4.vs.more q2).less q1, q4.1, by omega, q4.2.1⟩
end Tree
end Go.Proofs.YtekhaejhmlebbaaGreat

/-
 The records beneath a path, rising by keys.
-/
namespace Go.Proofs.YtekhaejhmlebbaaGreat
namespace Tree
open Go.RowKit Vers Num Ring Disk Blk Go.Maps
open Go.Proofs.YtekhaejhmlebbaaGreat.Code hiding Bn
attribute [local go_sem ↓] Go.wp_at_zero Go.wp_at_succ

theorem info_rec : (Tryz.prog.info? 53).map (fun i => (i.zero, i.size, i.bytes)) = some (some (.agg #[.string ⟨#[]⟩, .slice none 0 0]), 2, 40) := by kernel_rfl
theorem nodup_len {α : Type} [DecidableEq α] : ∀ {l m : List α}, l.Nodup → (∀ x ∈ l, x ∈ m) → l.length ≤ m.length
 | [], _, _, _ => Nat.zero_le _
 | x :: l, m, h, hs => by
  have hx := hs x (by simp)
  obtain ⟨h1, h2⟩ := List.nodup_cons.1 h
  have ih := nodup_len (l := l) (m := m.erase x) h2 fun y hy => (List.mem_erase_of_ne (fun (e : y = x) => h1 (by rw [← e]; exact hy))).2 (hs y (by simp [hy]))
  rw [List.length_erase_of_mem hx] at ih
  have := List.length_pos_of_mem hx
  simp only [List.length_cons]
  omega
def Coll (all : List Rc) (a k : Nat) (more : Rc → Prop) (ps : List Pr) : Prop :=
 (ps.map Prod.fst).Nodup ∧ ∀ r, r ∈ ps.map Prod.fst ↔ r ∈ all ∧ ((a ≤ leafN r.1 ∧ leafN r.1 < a + k) ∨ (leafN r.1 = a + k ∧ more r))
theorem coll_start (all : List Rc) (a : Nat) : Coll all a 0 (fun _ => False) [] := ⟨by simp, fun r => by simp; try (intro _ _; omega)⟩
theorem Coll.next {all : List Rc} {a k : Nat} {more : Rc → Prop} {ps : List Pr} (h : Coll all a k more ps) (hm : ∀ r, r ∈ all → leafN r.1 = a + k → more r) : Coll all a (k + 1) (fun _ => False) ps := by
 refine ⟨h.1, fun r => (h.2 r).trans ?_⟩
 constructor
 ·rintro ⟨h1, h2 | ⟨h2, _⟩⟩
  ·exact ⟨h1, .inl (by omega)⟩
  ·exact ⟨h1, .inl (by omega)⟩
 ·rintro ⟨h1, h2 | ⟨_, h2⟩⟩
  ·by_cases e : leafN r.1 = a + k
   ·exact ⟨h1, .inr ⟨e, hm r h1 e⟩⟩
   ·exact ⟨h1, .inl (by omega)⟩
  ·cases h2
theorem Coll.same {all : List Rc} {a k : Nat} {more more' : Rc → Prop} {ps : List Pr} (h : Coll all a k more ps) (hm : ∀ r, r ∈ all → leafN r.1 = a + k → (more r ↔ more' r)) : Coll all a k more' ps := by
 refine ⟨h.1, fun r => (h.2 r).trans ?_⟩
 constructor
 ·rintro ⟨h1, h2 | ⟨h2, h3⟩⟩
  ·exact ⟨h1, .inl h2⟩
  ·exact ⟨h1, .inr ⟨h2, (hm r h1 h2).1 h3⟩⟩
 ·rintro ⟨h1, h2 | ⟨h2, h3⟩⟩
  ·exact ⟨h1, .inl h2⟩
  ·exact ⟨h1, .inr ⟨h2, (hm r h1 h2).2 h3⟩⟩
theorem Coll.add {all : List Rc} {a k : Nat} {more more' : Rc → Prop} {ps : List Pr} (h : Coll all a k more ps) (p : Pr) (hp : p.1 ∈ all) (hl : leafN p.1.1 = a + k) (hno : ¬ more p.1) (hm : ∀ r, r ∈ all → leafN r.1 = a + k → (more' r ↔ more r ∨ r = p.1)) : Coll all a k more' (ps ++ [p]) := by
 refine ⟨?_, fun r => ?_⟩
 ·rw [List.map_append, List.nodup_append]
  refine ⟨h.1, by simp, fun x hx y hy e => ?_⟩
  simp at hy
  subst hy
  subst e
  rcases (h.2 _).1 hx with ⟨_, h2 | ⟨_, h3⟩⟩
  ·omega
  ·exact hno h3
 ·rw [List.map_append, List.mem_append, h.2 r]
  simp only [List.map_cons, List.map_nil, List.mem_singleton]
  constructor
  ·rintro (⟨h1, h2 | ⟨h2, h3⟩⟩ | rfl)
   ·exact ⟨h1, .inl h2⟩
   ·exact ⟨h1, .inr ⟨h2, (hm r h1 h2).2 (.inl h3)⟩⟩
   ·exact ⟨hp, .inr ⟨hl, (hm _ hp hl).2 (.inr rfl)⟩⟩
  ·rintro ⟨h1, h2 | ⟨h2, h3⟩⟩
   ·exact .inl ⟨h1, .inl h2⟩
   ·rcases (hm r h1 h2).1 h3 with h4 | rfl
    ·exact .inl ⟨h1, .inr ⟨h2, h4⟩⟩
    ·exact .inr rfl
theorem Coll.len {all : List Rc} {a k : Nat} {more : Rc → Prop} {ps : List Pr} (h : Coll all a k more ps) : ps.length ≤ all.length := by
 have := nodup_len h.1 fun x hx => ((h.2 x).1 hx).1
 simpa using this
theorem coll_end {all : List Rc} {p : List Int} (hp : okP p) (hs : Srt all) {m : Nat} (hm : toN p - fromN p = m) {ps ps' : List Pr} (h : Coll all (fromN p) m (fun _ => False) ps) (h1 : ps'.Perm ps) (h2 : ps'.Pairwise fun x y => nlt y.1.1 x.1.1 = false) : ps'.map Prod.fst = beneath all p := by
 have hf := from_lt hp
 have hmem : ∀ r, r ∈ ps'.map Prod.fst ↔ r ∈ beneath all p := fun r => by
  rw [(h1.map Prod.fst).mem_iff, h.2 r, beneath_mem, in_leaf hp]
  constructor
  ·rintro ⟨q1, q2 | ⟨_, q2⟩⟩
   ·exact ⟨q1, by omega⟩
   ·cases q2
  ·rintro ⟨q1, q2⟩
   exact ⟨q1, .inl (by omega)⟩
 have hnd : (ps'.map Prod.fst).Nodup := (h1.map Prod.fst).nodup_iff.2 h.1
 have hsrt : Srt (ps'.map Prod.fst) := by
  unfold Srt
  rw [List.pairwise_map]
  have hk : ps'.Pairwise fun x y => x.1 ≠ y.1 := by
   unfold List.Nodup at hnd
   rwa [List.pairwise_map] at hnd
  refine List.Pairwise.imp_of_mem ?_ (List.Pairwise.and hk h2)
  rintro x y hx hy ⟨e1, e2⟩
  have m1 := (beneath_mem.1 ((hmem _).1 (List.mem_map.2 ⟨x, hx, rfl⟩))).1
  have m2 := (beneath_mem.1 ((hmem _).1 (List.mem_map.2 ⟨y, hy, rfl⟩))).1
  refine nlt_tri e2 fun e => e1 ?_
  have f1 := find_mem hs m1
  have f2 := find_mem hs m2
  rw [← e, f2] at f1
  exact Prod.ext e.symm (by injection f1 with f1; exact f1.symm)
 exact srt_mem hsrt (beneath_srt hs p) hmem

theorem map_entry {D : DataW Value} {l : Vl} (hm : MapV D l) {s : Nm} {kl : Lit} (hk : keyOf Tryz.prog 9 (.string s) = some kl) {cv : Value} {yd : DataW Value} {yp : List MemPlace} (hv : heldE cv = some (yd, yp)) (hat : ∀ zd, D.atKey kl zd = yd) : (s, cv) ∈ l := by
 have e0 : DataW.held cv = yd := congrArg Prod.fst (Option.some.inj hv)
 subst e0
 cases hf : find l s with
 | none =>
  have h1 := hm s kl hk (.held (.bool true))
  have h2 := hm s kl hk (.held (.bool false))
  rw [hat, hf] at h1 h2
  have h3 := h1.symm.trans h2
  simp at h3
 | some v =>
  have h1 := hm s kl hk (.held (.bool true))
  rw [hat, hf] at h1
  have h2 : cv = v := DataW.held.inj h1
  subst h2
  exact find_some hf
def NewRs (l : List Rc) (w : World) (e : Ending) (w' : World) : Prop :=
 ∃ A n c ps, e = .returned (.slice A n c) ∧ Hid (ps.map Prod.fst = l ∧ n = l.length ∧ n ≤ c ∧ Got w.heap.size w' A ps) ∧ Below w.heap.size w w'
section
variable {F : Nat → Prop} {w : World} {tb : Nat} {mv : Nat → Option Nat} {f : Fp} {all : List Rc} {Bz : List Int → Prop}
def Going (all : List Rc) (a m : Nat) (w : World) (v q : Value) (wr : World) : Prop :=
 ∃ (k : Nat) (ps : List Pr), q = .int .i64 k ∧ k ≤ m ∧ Hid (RowT w.heap.size wr.heap.size wr v ps ∧ Coll all a k (fun _ => False) ps) ∧ Below w.heap.size w wr
set_option maxRecDepth 100000 in
set_option maxHeartbeats 2000000 in
theorem recs_any (h : TR F w tb mv f all Bz) (hN : all.length ≤ 3518437208882) (A : Option Addr) (c n : Nat) (p : List Int) (hn : p.length = n) (hp : okP p) (hbig : n ≤ 140737488355328) (hr : Ns .i64 w w.heap.size A p) :
  Calls Tryz.prog 43 #[hd tb, .slice A n c] w (NewRs (beneath all p) w) := by
 obtain ⟨i0, hi, hz0, hz1, hz2⟩ := info_parts info_rec
 have H0 := Lib.hid (isPath_any A c n p hn hbig w hr)
 rw [decide_eq_true hp] at H0
 have H1 := Lib.hid (beneath_any A c n p hn hp w hr)
 obtain ⟨f1, f2⟩ := from_lt hp
 have HE : Hid (∀ {m : Nat}, toN p - fromN p = m → ∀ {ps ps' : List Pr}, Coll all (fromN p) m (fun _ => False) ps → ps'.Perm ps → (ps'.Pairwise fun x y => nlt y.1.1 x.1.1 = false) → ps'.map Prod.fst = beneath all p) := Lib.hid (fun hm _ _ q1 q2 q3 => coll_end hp h.ok.1 hm q1 q2 q3)
 obtain ⟨a, ha⟩ : ∃ a, fromN p = a := ⟨_, rfl⟩
 obtain ⟨b, hb⟩ : ∃ b, toN p = b := ⟨_, rfl⟩
 rw [ha, hb] at H1 HE f1
 rw [hb] at f2
 obtain ⟨R, hR⟩ : ∃ R, beneath all p = R := ⟨_, rfl⟩
 rw [hR] at HE ⊢
 have HT := Lib.hid h
 have hcut := fun W => cut_maps W tb a b f1 f2
 have HN := Lib.hid hN
 clear hr hn hp ha hb hR h hN
 unfold hd
 go_enter Tryz.func43, Tryz.ntmps43
 go_wp2_with fail
 refine H0.out.mono ?_
 rintro e w1 ⟨rfl, rfl⟩
 go_wp2_with fail
 refine H1.out.mono ?_
 rintro e w1 ⟨rfl, q, rfl⟩
 have HB1 : Hid (Below w.heap.size w (w.drewN q) ∧ (w.drewN q).heap.size = w.heap.size) := Lib.hid ⟨⟨rfl, rfl, rfl, Nat.le_refl _, fun _ _ => rfl⟩, rfl⟩
 obtain ⟨W, hW⟩ : ∃ W, w.drewN q = W := ⟨_, rfl⟩
 rw [hW] at HB1 ⊢
 clear hW H1 H0
 go_wp2_with fail
 obtain ⟨m, hm⟩ : ∃ m, b - a = m := ⟨_, rfl⟩
 have hm2 : m ≤ 256 := by omega
 have HM := Lib.hid hm
 rw [hm]
 clear hm
 go_loopw [5, 27] (fun v q wr => Going all a m w v q wr) (fun _ q _ => m - (intOf q).toNat)
 case atStart => exact ⟨0, [], rfl, by omega, Lib.hid ⟨rowT_nil _ _ _, coll_start _ _⟩, HB1.out.1⟩
 case round =>
  obtain ⟨k, ps, rfl, hk, hst, hb⟩ := hrel
  by_cases hlt : k < m
  ·have d1 : (0 : Int) ≤ (k : Int) := by omega
   have d2 : (k : Int) < (m : Int) := by omega
   have hi256 : a + k < 256 := by have := HM.out; omega
   have HTr := Lib.hid (HT.out.below hb)
   have hc := HTr.out.cell hi256
   have HB := Lib.hid hb
   obtain ⟨mm, hmm⟩ : ∃ mm, mv (a + k) = mm := ⟨_, rfl⟩
   have HL := Lib.hid (HTr.out.leaf (a + k) hi256)
   rw [hmm] at hc HL
   clear hmm hb
   rcases mm with _ | mb
   ·-- no map there
    have HN' : Hid (∀ v w', RowT w.heap.size wr.heap.size wr v ps → Below wr.heap.size wr w' → Going all a m w v (.int .i64 ((k : Int) + 1)) w') := Lib.hid fun v w' h1 h2 => ⟨k + 1, ps, by go_num, by omega, Lib.hid ⟨(h1.below h2).other (Nat.le_refl _), hst.out.2.next fun r hr e => by
      have h3 := HL.out.1 rfl
      have : r ∈ leafR all (a + k) := leaf_mem.2 ⟨hr, e⟩
      rw [h3] at this
      cases this⟩, HB.out.trans (h2.mono HB.out.size)⟩
    have hrg := run_range_nilMap (P := Tryz.prog) wr 81 9 50 Tryz.underlying81
    have hnx := fun ty => run_next_nilMap (P := Tryz.prog) wr ty 0 0 #[]
    have HV := Lib.hid hst.out.1
    clear hst
    go_wp2_with fail
    refine wp_loop_rounds 1 ?_
    rw [rounds_succ]
    go_wp2_with fail
    go_roundw
    case rel => exact HN'.out _ _ HV.out ((Below.refl _ _).alloc (Nat.le_refl _) _)
    case measure => simp only [intOf]; omega
   ·obtain ⟨wo, hwo⟩ : ∃ W, W = wr := ⟨_, rfl⟩
    subst hwo
    obtain ⟨D0, n0, hown, hm, hsr, hok, hsz⟩ := (HL.out.2 mb rfl).2
    have hmb : mb < w.heap.size := HT.out.lt _ (HL.out.2 mb rfl).1
    have HMM := Lib.hid (And.intro hm (And.intro hsr hok))
    have HST := Lib.hid hst.out
    clear hm hsr hok hsz hst
    go_wp2_with (first
     | (at_range; refine wpList_range_own _ rfl _ 81 rfl 9 50 keyed Tryz.underlying81 _ mb n0 _ rfl hown ?_; intro w0 hrg0 hg0 hs0)
     | fail)
    go_frame
    have hb0 : Below wo.heap.size wo w0 := (Below.refl _ _).grown hg0 (Nat.le_refl _) (fun j hj => by cases hj)
    have HI := Lib.hid (And.intro hrg0 (And.intro hb0 hs0))
    clear hrg0 hg0 hb0 hs0 hown
    go_loopw [5] (fun v wq => ∃ (left : Lit → Bool) (cnt : Nat) (qs : List Pr), wq.ranges Tryz.prog 9 heldE mb wo.heap.size n0 D0 left cnt ∧ Hid (RowT w.heap.size wo.heap.size wq v qs ∧ Coll all a k (fun r => ∃ kl, keyOf Tryz.prog 9 (.string r.1) = some kl ∧ left kl = false) qs ∧ Below w.heap.size w wq ∧ wo.heap.size < wq.heap.size))
     (fun _ wq => wq.rangeLeft mb wo.heap.size)
    case atStart =>
     refine ⟨_, _, ps, HI.out.1, Lib.hid ⟨HST.out.1.below HI.out.2.1, HST.out.2.same fun r hr e => ⟨fun q => q.elim, ?_⟩, HB.out.trans (HI.out.2.1.mono HB.out.size), by rw [HI.out.2.2]; omega⟩⟩
     rintro ⟨kl, h1, h2⟩
     rw [HMM.out.1.has h1] at h2
     have h3 : r ∈ leafR all (a + k) := leaf_mem.2 ⟨hr, e⟩
     have h4 := find_mem (x := vOf f r) HMM.out.2.1 (List.mem_map.2 ⟨r, h3, rfl⟩)
     rw [show (vOf f r).1 = r.1 from rfl] at h4
     rw [h4] at h2
     cases h2
    case round =>
     obtain ⟨left, cnt, qs, hrg, hst⟩ := hrel
     go_wp2_with (first
      | (at_next; refine wpList_next_ranges _ rfl _ rfl 9 keyed heldE Value.string (fun v : Value => v) (fun key kl hk => by obtain ⟨x, hx, _⟩ := key_inv hk; exact ⟨x, hx⟩) (fun v y hv => ⟨v, rfl⟩) mb wo.heap.size n0 _ _ _ rfl hrg ?_ ?_)
      | fail)
     ·intro hc0 hl0
      have HN' : Hid (Going all a m w u5 (.int .i64 ((k : Int) + 1)) wr) := Lib.hid ⟨k + 1, qs, by go_num, by omega, Lib.hid ⟨hst.out.1.other (Nat.le_refl _), hst.out.2.1.next fun r hr e => by
       obtain ⟨kl, hkl⟩ := key_of (s := r.1) (by have := (HT.out.ok.2 r hr).1.2.1; unfold okN maxLen; omega)
       exact ⟨kl, hkl, hl0 kl⟩⟩, hst.out.2.2.1⟩
      clear hst hrg hl0
      go_wp2_with fail
      go_roundw
      case rel => exact HN'.out
      case measure => simp only [intOf]; omega
     ·intro x cv kl yd yp w2 cnt2 hkey hlk hv hat hrg2 hlt2 hg2 hs2 hen
      obtain ⟨r, hr, hre⟩ := List.mem_map.1 (map_entry HMM.out.1 hkey hv hat)
      have hx : r.1 = x := congrArg Prod.fst hre
      have hcv : cv = .slice (f r.1).1 r.2.length (f r.1).2 := (congrArg Prod.snd hre).symm
      have hrall := (leaf_mem.1 hr).1
      obtain ⟨hok1, hok2⟩ := HT.out.ok.2 r hrall
      have hno : ¬ ∃ kl', keyOf Tryz.prog 9 (.string r.1) = some kl' ∧ left kl' = false := by
       rintro ⟨kl', h1, h2⟩
       rw [hx, hkey] at h1
       injection h1 with h1
       subst h1
       rw [hlk] at h2
       cases h2
      have hrow2 := hst.out.1.step hg2 (row_ne_iter hst.out.1.1 hrg)
      have b2 : Below w.heap.size w w2 := hst.out.2.2.1.grown hg2 hst.out.2.2.1.size (fun j hj => by cases hj; exact HB.out.size)
      have hvs := (HT.out.below b2).rows r hrall
      have hlen : qs.length + 1 ≤ all.length := by
       have h := (hst.out.2.1.add (more' := fun q => (∃ kl, keyOf Tryz.prog 9 (.string q.1) = some kl ∧ left kl = false) ∨ q = r) (r, none, 0) hrall (leaf_mem.1 hr).2 hno (fun q _ _ => Iff.rfl)).len
       simpa using h
      have HC : Hid (∀ A1 c1, Coll all a k (fun r => ∃ kl', keyOf Tryz.prog 9 (.string r.1) = some kl' ∧ (left kl' && !kl'.sameKey kl) = false) (qs ++ [(r, A1, c1)])) := Lib.hid fun A1 c1 => hst.out.2.1.add (r, A1, c1) hrall (leaf_mem.1 hr).2 hno fun q hq he => by
       constructor
       ·rintro ⟨kl', h1, h2⟩
        by_cases e : q.1 = r.1
        ·refine .inr ?_
         have g1 := find_mem HT.out.ok.1 hq
         have g2 := find_mem HT.out.ok.1 hrall
         rw [e, g2] at g1
         exact Prod.ext e (by injection g1 with g1; exact g1.symm)
        ·refine .inl ⟨kl', h1, ?_⟩
         have hs : kl'.sameKey kl = false := by
          rw [Bool.eq_false_iff]
          intro h3
          refine e ?_
          rw [hx]
          have h4 := WideAt.sameKey_eq h3
          rw [h4] at h1
          have h5 := keyed.inj h1 hkey
          injection h5
         rw [hs] at h2
         simpa using h2
       ·rintro (⟨kl', h1, h2⟩ | rfl)
        ·exact ⟨kl', h1, by rw [h2]; rfl⟩
        ·refine ⟨kl, by rw [hx]; exact hkey, ?_⟩
         rw [WideAt.sameKey_self (keyed.key hkey)]
         simp
      have hms := hlt2
      obtain ⟨key, lv⟩ := r
      simp only at hx hcv
      subst hx
      obtain ⟨mv', hmv'⟩ : ∃ mv', lv.length = mv' := ⟨_, rfl⟩
      obtain ⟨Av, hAv⟩ : ∃ Av, (f key).1 = Av := ⟨_, rfl⟩
      obtain ⟨cvv, hcvv⟩ : ∃ cvv, (f key).2 = cvv := ⟨_, rfl⟩
      have hvs' := hvs.vs
      simp only at hvs' hok1
      rw [hAv] at hvs'
      rw [hmv', hAv, hcvv] at hcv
      subst hcv
      have hK := Lib.hid (vers_new key (by have h : key.size ≤ 32 := hok1.2.1; omega) Av cvv mv' lv hmv' hok1.2.2 w2 hvs')
      have HR2 := Lib.hid (And.intro hrow2 (And.intro b2 (And.intro hg2.size hst.out.2.2.2)))
      have HH := Lib.hid (And.intro hrg2 (And.intro hlt2 hmv'))
      have HRG := Lib.hid hrg
      have hN2 := HN.out
      clear hr hre hrall hok1 hok2 hno hrow2 b2 hvs hvs' hms hAv hcvv hst hkey hlk hv hat hrg2 hlt2 hg2 hs2 hmv' hrg
      go_wp2_with fail
      refine hK.out.mono ?_
      rintro e w3 ⟨A1, c1, rfl, hrec, b3⟩
      have hs3 := b3.size
      have hown3 := own_below HR2.out.1.1 b3 (Nat.le_refl _)
      have hb23 := HR2.out.2.1.size
      have hl2 : qs.length + 1 ≤ 3518437208882 := by omega
      have hl3 : (qs.length + 1) * 40 ≤ 140737488355328 := by omega
      have hl4 : w.heap.size ≤ w3.heap.size := by omega
      have HLL := Lib.hid hlen
      clear hlen
      go_wp2_with (at_builtin; refine wpList_append_r _ rfl (.tmp 38) (.tmp 43) 22 rfl w.heap.size 53 i0 _ 40 Tryz.underlying22 hi hz0 hz1 hz2 rfl _ qs.length qs rfl hown3 ((key, lv), A1, c1) mv' HH.out.2.2 1 rfl hl3 (by omega) hl4 ?_; intro v4 w4 o4 g4 at4)
      have hg3 : w2.grownBy w3 none := ⟨b3.os, b3.tape, b3.output, b3.size, fun j hj _ => b3.block j hj⟩
      have hrg3 := HH.out.1.kept hg3 (by simp) (by simp)
      have hrg4 := hrg3.kept g4 (row_ne_low hown3 hmb) (row_ne_iter hown3 hrg3)
      have b4 : Below w.heap.size w w4 := (HR2.out.2.1.trans (b3.mono hb23)).grown g4 hl4 (fun j hj => (hown3.lt j hj).1)
      have s4 := g4.size
      have hit2 := HR2.out.2.2.1
      have hit3 := HR2.out.2.2.2
      refine ⟨⟨_, cnt2, qs ++ [((key, lv), A1, c1)], hrg4, Lib.hid ⟨HR2.out.1.add (by omega) b3 hrec.out hb23 o4 g4 at4, HC.out A1 c1, b4, by omega⟩⟩, ?_⟩
      rw [hrg4.left_eq, HRG.out.left_eq]
      exact HH.out.2.1
  ·have hkm : k = m := by omega
   subst hkm
   obtain ⟨hrow, hcol⟩ := hst.out
   have hps := hcol.len
   have hN2 := HN.out
   have hbs := hb.size
   rcases hrow.1.2 with ⟨hv, h0⟩ | ⟨g, cap, cur, hv, hbg, hg, hnc, _⟩
   ·have hnil : ps = [] := List.eq_nil_of_length_eq_zero h0
    subst hnil
    have hR := HE.out HM.out hcol (List.Perm.refl _) List.Pairwise.nil
    have HF : Hid (NewRs R w (.returned (.slice none 0 0)) wr) := Lib.hid ⟨none, 0, 0, [], rfl, Lib.hid ⟨hR, by rw [← hR]; rfl, Nat.le_refl _, fun h => absurd h (by simp)⟩, hb⟩
    subst hv
    clear hst hrow hcol hps hR hb
    go_wp2_with fail
    refine (sort_none none 0 _ wr).mono ?_
    rintro e w2 ⟨rfl, rfl⟩
    go_wp2_with fail
    go_ret
    exact HF.out
   ·obtain ⟨nn, hnn⟩ : ∃ nn, ps.length = nn := ⟨_, rfl⟩
    have ho := hrow.1
    rw [hv, hnn] at ho
    rw [hnn] at hv hnc hps
    have hgl := (ho.lt g rfl).2
    have hS := Lib.hid (sort_any g cap nn w.heap.size ps hnn wr ho (by omega))
    have HF : Hid (∀ w', (∃ l', Hid (l'.Perm ps ∧ l'.Pairwise (fun p q => nlt q.1.1 p.1.1 = false) ∧ Prs w' g l' ∧ wr.grownBy w' (some g) ∧ ∃ cur, w'.heap[g]? = some (.cells cur 53 (0, 0)))) → NewRs R w (.returned (.slice (some ⟨g, 0, none⟩) nn cap)) w') := Lib.hid fun w' ⟨l', hh⟩ => by
     obtain ⟨h1, h2, h3, h4, h5⟩ := hh.out
     have hR := HE.out HM.out hcol h1 h2
     refine ⟨some ⟨g, 0, none⟩, nn, cap, l', rfl, Lib.hid ⟨hR, by rw [← hR, List.length_map, h1.length_eq, hnn], hnc, fun hp => ⟨g, rfl, hbg, h3, h5, fun p hp => ?_⟩⟩, hb.grown h4 hbs (fun j hj => by injection hj with hj; omega)⟩
     obtain ⟨L, B, q1, q2, q3, q4, q5⟩ := hrow.2 p (h1.mem_iff.1 hp)
     have q3' := q3 g (by rw [hv]; rfl)
     exact ⟨L, B, q1, Nat.le_trans q2 h4.size, q3', q5.keep fun j a1 a2 => h4.block j (by omega) fun e => by injection e with e; omega⟩
    subst hv
    clear hst hrow hcol hps hb ho hg hnn hnc
    go_wp2_with fail
    refine hS.out.mono ?_
    rintro e w2 ⟨rfl, hw2⟩
    have HG := Lib.hid (HF.out w2 hw2)
    clear hw2
    go_wp2_with fail
    go_ret
    exact HG.out
end
end Tree
end Go.Proofs.YtekhaejhmlebbaaGreat

/-
 The hashes of the places one digit longer, where the hash of each can be told.
-/
namespace Go.Proofs.YtekhaejhmlebbaaGreat
namespace Tree
open Go.RowKit Vers Num Ring Disk Blk
open Go.Proofs.YtekhaejhmlebbaaGreat.Code hiding Bn
attribute [local go_sem ↓] Go.wp_at_zero Go.wp_at_succ

theorem info_u64 : (Tryz.prog.info? 67).map (fun i => (i.zero, i.size, i.bytes)) = some (some (.int .u64 0), 1, 8) := by kernel_rfl
def Told (F : Nat → Prop) (tb : Nat) (mv : Nat → Option Nat) (f : Fp) (all : List Rc) (Bz : List Int → Prop) (x : Int) (w : World) (e : Ending) (w' : World) : Prop :=
 e = .returned (.int .u64 x) ∧ Hid (TR F w' tb mv f all Bz ∧ Chg (fun k => k = tb) w w')
def HashC (k : Nat) : Prop := ∀ (F : Nat → Prop) (w : World) (tb : Nat) (mv : Nat → Option Nat) (f : Fp) (all : List Rc) (Bz : List Int → Prop), TR F w tb mv f all Bz → all.length ≤ 3518437208882 →
 ∀ (A : Option Addr) (c n : Nat) (p : List Int), p.length = n → okP p → p.length + k = 2 → Ns .i64 w w.heap.size A p → (∀ q, okP q → p <+: q → ¬ Bz q) → Calls Tryz.prog 65 #[hd tb, .slice A n c] w (Told F tb mv f all Bz (hF k all p) w)
def KidsP (F : Nat → Prop) (tb : Nat) (mv : Nat → Option Nat) (f : Fp) (all : List Rc) (Bz : List Int → Prop) (zs : List Int) (w : World) (e : Ending) (w' : World) : Prop :=
 ∃ g, e = .returned (.slice (some ⟨g, 0, none⟩) 16 16) ∧ Hid (w.heap.size ≤ g ∧ Bn g 67 (nums .u64 zs) w' ∧ TR F w' tb mv f all Bz ∧ Chg (fun k => k = tb) w w')
def kr (h : Nat → Int) (k : Nat) : List Int := (List.range 16).map fun d => if d < k then h d else 0
theorem kr_set (h : Nat → Int) {k : Nat} (hk : k < 16) : (nums .u64 (kr h k)).set k (.int .u64 (h k)) = nums .u64 (kr h (k + 1)) := by
 refine List.ext_getElem? fun i => ?_
 unfold nums kr
 by_cases e : i = k
 ·subst e
  rw [List.getElem?_set_self (by simpa using hk)]
  simp [hk]
 ·rw [List.getElem?_set_ne (fun q => e q.symm)]
  by_cases hi : i < 16
  ·simp only [List.map_map, List.getElem?_map, List.getElem?_range hi, Option.map_some, Function.comp_apply]
   by_cases h1 : i < k
   ·rw [if_pos h1, if_pos (by omega)]
   ·rw [if_neg h1, if_neg (by omega)]
  ·rw [List.getElem?_eq_none (by simp; omega), List.getElem?_eq_none (by simp; omega)]
theorem kr_full (h : Nat → Int) : kr h 16 = (List.range 16).map h := by
 unfold kr
 refine List.map_congr_left fun d hd => ?_
 rw [if_pos (List.mem_range.1 hd)]
theorem own_full {w : World} {base : Nat} {e : TypeId} {g n : Nat} {xs : List Value} (h : w.ownsRow base e 1 (.slice (some ⟨g, 0, none⟩) n n) n xs) : Bn g e xs w := by
 rcases h.2 with ⟨hv, h0⟩ | ⟨g', cap, cur, hv, hbg, hg, hn, hcm, hcs, htake⟩
 ·cases hv
 ·injection hv with h1 h2 h3
  injection h1 with h1
  injection h1 with h1
  subst h1 h3
  have e1 : cur.toList.take (n * 1) = cur.toList := List.take_of_length_le (by rw [Array.length_toList]; omega)
  rw [e1] at htake
  show w.heap[g]? = _
  rw [hg, ← htake]
theorem bn_ns {w : World} {g : Nat} {e : TypeId} {k : IntKind} {zs : List Int} (h : Bn g e (nums k zs) w) : Ns k w w.heap.size (some ⟨g, 0, none⟩) zs := fun _ => ⟨g, 0, rfl, h.lt, fun j hj => by
 rw [Nat.zero_add, h.cell j]
 simp [nums, List.getD_eq_getElem?_getD, hj]⟩
theorem spot_onto {s : Nat} (h : s < 273) : ∃ p, okP p ∧ spotN p = s := by
 by_cases h0 : s = 0
 ·exact ⟨[], ok_zero, h0.symm⟩
 by_cases h1 : s < 17
 ·exact ⟨[(s : Int) - 1], ok_one.2 (by omega), by simp only [spotN]; omega⟩
 ·exact ⟨[((s : Int) - 17) / 16, ((s : Int) - 17) % 16], ok_two.2 (by omega), by simp only [spotN]; omega⟩
theorem Cells.noint {L : List Value} {mv : Nat → Option Nat} {all : List Rc} {Bz : List Int → Prop} (h : Cells L mv all Bz) {j : Nat} {x : Int} (e : L[j]? = some (.int .i64 x)) : False := by
 obtain ⟨h1, h2, h3⟩ := h
 have hj : j < 1348 := by
  rcases Nat.lt_or_ge j L.length with q | q
  ·omega
  ·rw [List.getElem?_eq_none q] at e; cases e
 by_cases hs : j < 256
 ·rw [h2 j hs] at e; injection e with e; cases e
 ·obtain ⟨p, hp, hsp⟩ := spot_onto (s := (j - 256) / 4) (by omega)
  obtain ⟨d, k, y, s0, s1, s2, s3, _, _⟩ := h3 p hp
  rw [hsp] at s0 s1 s2 s3
  have hm : j = 256 + 4 * ((j - 256) / 4) ∨ j = 256 + 4 * ((j - 256) / 4) + 1 ∨ j = 256 + 4 * ((j - 256) / 4) + 2 ∨ j = 256 + 4 * ((j - 256) / 4) + 3 := by omega
  rcases hm with q | q | q | q <;> rw [q] at e
  ·rw [s0] at e; injection e with e; injection e with e; cases e
  ·rw [s1] at e; injection e with e; injection e with e; cases e
  ·rw [s2] at e; injection e with e; injection e with e; cases e
  ·rw [s3] at e; injection e with e; injection e with e; cases e
section
variable {F : Nat → Prop} {w : World} {tb : Nat} {mv : Nat → Option Nat} {f : Fp} {all : List Rc} {Bz : List Int → Prop}
theorem TR.ns {w' : World} (h : TR F w tb mv f all Bz) (hc : Chg (fun k => k = tb) w w') {A : Option Addr} {p : List Int} (hr : Ns .i64 w w.heap.size A p) : Ns .i64 w' w'.heap.size A p := fun hp => by
 obtain ⟨b, off, e, hb, hx⟩ := hr hp
 have hne : b ≠ tb := fun q => by
  subst q
  obtain ⟨⟨L, h1, h2⟩, _⟩ := h
  have h3 := hx 0 hp
  rw [h1.cell] at h3
  exact h2.noint h3
 exact ⟨b, off, e, Nat.lt_of_lt_of_le hb hc.size, fun j hj => (World.cell?_of_block (hc.block b hb hne)).trans (hx j hj)⟩
theorem vs_kept {w' : World} (hs : w.heap.size ≤ w'.heap.size) (hk : ∀ b off x, b < w.heap.size → w.cell? ⟨b, off, none⟩ = some (.int .i64 x) → w'.heap[b]? = w.heap[b]?) {A : Option Addr} {l : List Vr} (h : Vs w 0 w.heap.size A l) : Vs w' 0 w'.heap.size A l := fun hp => by
 obtain ⟨b, off, e, h1, h2, hc⟩ := h hp
 have hb : w'.heap[b]? = w.heap[b]? := by
  obtain ⟨A', c', h3⟩ := hc 0 hp
  exact hk b _ _ h2 h3.1
 refine ⟨b, off, e, h1, Nat.lt_of_lt_of_le h2 hs, fun j hj => ?_⟩
 obtain ⟨A', c', v0, v1, v2, v3, v4, hpa, q⟩ := hc j hj
 refine ⟨A', c', (World.cell?_of_block hb).trans v0, (World.cell?_of_block hb).trans v1, (World.cell?_of_block hb).trans v2, (World.cell?_of_block hb).trans v3, (World.cell?_of_block hb).trans v4, fun hp2 => ?_, q⟩
 obtain ⟨b2, off2, e2, h4, hc2⟩ := hpa hp2
 have hb2 : w'.heap[b2]? = w.heap[b2]? := hk b2 _ _ h4 (hc2 0 hp2).1
 exact ⟨b2, off2, e2, Nat.lt_of_lt_of_le h4 hs, fun j hj => ⟨(World.cell?_of_block hb2).trans (hc2 j hj).1, (World.cell?_of_block hb2).trans (hc2 j hj).2.1, (World.cell?_of_block hb2).trans (hc2 j hj).2.2⟩⟩
theorem TR.vs {w' : World} (h : TR F w tb mv f all Bz) (hc : Chg (fun k => k = tb) w w') {A : Option Addr} {l : List Vr} (hv : Vs w 0 w.heap.size A l) : Vs w' 0 w'.heap.size A l :=
 vs_kept hc.size (fun b off x hb hx => hc.block b hb fun q => by
  have q : b = tb := q
  subst q
  obtain ⟨⟨L, h1, h2⟩, _⟩ := h
  rw [h1.cell] at hx
  exact h2.noint hx) hv
set_option maxRecDepth 100000 in
set_option maxHeartbeats 2000000 in
theorem kids_some {k : Nat} (HK : HashC k) (h : TR F w tb mv f all Bz) (hN : all.length ≤ 3518437208882) (A : Option Addr) (c n : Nat) (p : List Int) (hn : p.length = n) (hp : okP p) (hk : p.length + (k + 1) = 2) (hr : Ns .i64 w w.heap.size A p) (hb : ∀ q, okP q → p <+: q → q ≠ p → ¬ Bz q) :
  Calls Tryz.prog 39 #[hd tb, .slice A n c] w (KidsP F tb mv f all Bz ((List.range 16).map fun (d : Nat) => hF k all (p ++ [(d : Int)])) w) := by
 obtain ⟨i0, hi, hz0, hz1, hz2⟩ := info_parts info_u64
 have hn2 : n ≤ 1 := by omega
 have hp2 : p.length < 2 := by omega
 have H0 := Lib.hid (isPath_any A c n p hn (by omega) w hr)
 rw [decide_eq_true hp] at H0
 have e1 : decide ((2 : Int) ≤ (n : Int)) = false := decide_eq_false (by omega)
 have HL : Hid (∀ (W : World) (d : Nat), Ns .i64 W W.heap.size A p → Calls Tryz.prog 66 #[.slice A n c, .int .i64 (d : Int)] W (OwnI (p ++ [(d : Int)]) (n + 1) W)) := Lib.hid fun W d hW => longer_any A c n p hn (by omega) d W hW
 have HH : Hid (∀ (W : World) (d : Nat) (A1 : Option Addr) (c1 : Nat), d < 16 → TR F W tb mv f all Bz → Ns .i64 W W.heap.size A1 (p ++ [(d : Int)]) → Calls Tryz.prog 65 #[hd tb, .slice A1 (n + 1) c1] W (Told F tb mv f all Bz (hF k all (p ++ [(d : Int)])) W)) := Lib.hid fun W d A1 c1 hd hT hW =>
  HK F W tb mv f all Bz hT hN A1 c1 (n + 1) (p ++ [(d : Int)]) (by simp [hn]) (ok_longer hp hp2 hd) (by simp; omega) hW fun q hq hpq => hb q hq ((List.prefix_append p _).trans hpq) fun e => by
   rw [e] at hpq
   have h9 := hpq.length_le
   simp only [List.length_append, List.length_cons, List.length_nil] at h9
   omega
 obtain ⟨h', hh'⟩ : ∃ h' : Nat → Int, (fun (d : Nat) => hF k all (p ++ [(d : Int)])) = h' := ⟨_, rfl⟩
 have HV : Hid (∀ d : Nat, hF k all (p ++ [(d : Int)]) = h' d) := Lib.hid fun d => congrFun hh' d
 rw [hh']
 have HP := Lib.hid (And.intro hn hr)
 have HT := Lib.hid h
 clear hh' hn hr hb HK hp h
 unfold hd
 go_enter Tryz.func39, Tryz.ntmps39
 go_wp2_with fail
 refine H0.out.mono ?_
 rintro e w1 ⟨rfl, rfl⟩
 go_wp2_with (at_make; refine wpList_make_full _ rfl _ _ 24 rfl w.heap.size 67 i0 _ 1 Tryz.underlying24 hi hz0 hz1 _ _ _ _ 16 rfl rfl rfl rfl (by rw [hz2]; omega) (by unfold maxLen; omega) (Nat.le_refl _) ?_; intro w1 o1 g1)
 have hlt := HT.out.lt _ HT.out.own
 have hb1 : Below w.heap.size w w1 := (Below.refl _ _).grown g1 (Nat.le_refl _) (fun j hj => by cases hj)
 obtain ⟨g, hg⟩ : ∃ g, w.heap.size = g := ⟨_, rfl⟩
 have hne : g ≠ tb := by omega
 have HI : Hid (Bn g 67 (nums .u64 (kr h' 0)) w1 ∧ TR F w1 tb mv f all Bz ∧ Chg (fun k => k = tb) w w1) := Lib.hid ⟨by
  rw [← hg]
  have := own_full o1
  rwa [show (madeCells (Value.int IntKind.u64 0).cells (16 * 1)).toList = nums .u64 (kr h' 0) by
   rw [show (Value.int .u64 0).cells = #[Value.int .u64 0] from rfl, Nat.mul_one, toList_madeCells_one]
   rfl] at this, HT.out.below hb1, Chg.of_below hb1⟩
 rw [hg]
 have HG := Lib.hid hg
 clear hg o1 g1 hb1
 go_loopw [18] (fun q wr => ∃ d : Nat, q = .int .i64 d ∧ d ≤ 16 ∧ Hid (Bn g 67 (nums .u64 (kr h' d)) wr ∧ TR F wr tb mv f all Bz ∧ Chg (fun k => k = tb) w wr)) (fun q _ => 16 - (intOf q).toNat)
 case atStart => exact ⟨0, rfl, by omega, HI.out⟩
 case round =>
  clear HI
  obtain ⟨d, rfl, hd16, hst⟩ := hrel
  by_cases hlt16 : d < 16
  ·have d1 : (0 : Int) ≤ (d : Int) := by omega
   have d2 : (d : Int) < 16 := by omega
   have hns := HT.out.ns hst.out.2.2 HP.out.2
   have hK := Lib.hid (HL.out wr d hns)
   clear hns
   go_wp2_with fail
   refine hK.out.mono ?_
   rintro e w2 ⟨A1, c1, rfl, o1, b2⟩
   have hT2 := hst.out.2.1.below b2
   have hn1 : (p ++ [(d : Int)]).length = n + 1 := by simp [HP.out.1]
   have hns2 : Ns .i64 w2 w2.heap.size A1 (p ++ [(d : Int)]) := by
    have h := o1.out
    rw [← hn1] at h
    exact own_ns h
   have hH := Lib.hid (HH.out w2 d A1 c1 hlt16 hT2 hns2)
   have HB2 := Lib.hid (And.intro b2 hst.out)
   clear hns2 hn1 hT2 o1 b2 hst hK
   go_wp2_with fail
   refine hH.out.mono ?_
   rintro e w3 ⟨rfl, h3⟩
   rw [HV.out d]
   have hB3 : Bn g 67 (nums .u64 (kr h' d)) w3 := by
    have h1 := HB2.out.2.1
    have h2 := h1.same (HB2.out.1.block g h1.lt)
    exact h2.same (h3.out.2.block g h2.lt hne)
   have c0 : w3.cell? ⟨g, d, none⟩ = some (.int .u64 0) := by
    rw [hB3.cell d]
    simp [nums, kr, hlt16]
   have z0 := hB3.frozen d
   have HF : Hid (Bn g 67 (nums .u64 (kr h' (d + 1))) (w3.setCell ⟨g, d, none⟩ (.int .u64 (h' d))) ∧ TR F (w3.setCell ⟨g, d, none⟩ (.int .u64 (h' d))) tb mv f all Bz ∧ Chg (fun k => k = tb) w (w3.setCell ⟨g, d, none⟩ (.int .u64 (h' d)))) := Lib.hid ⟨by
     rw [← kr_set h' hlt16]
     exact hB3.set d _, h3.out.1.nokept (gset _ _ _ _) (fun j hj hF => by
     injection hj with hj
     have := HT.out.lt _ hF
     have := HG.out
     omega), ((HB2.out.2.2.2.trans (Chg.of_below (F := fun k => k = tb) HB2.out.1) (fun j hj => .inl hj)).trans h3.out.2 (fun j hj => .inl hj)).trans (Chg.of_grown (F := fun j => j = g) (gset _ _ _ _) (fun j hj => by injection hj with hj; exact hj.symm)) (fun j hj => .inr (by rw [hj, HG.out]; exact Nat.le_refl _))⟩
   clear hB3 hH HB2 h3
   go_wp2_with fail
   go_roundw
   case rel => exact ⟨d + 1, by go_num, by omega, HF⟩
   case measure => simp only [intOf]; omega
  ·have hd' : d = 16 := by omega
   subst hd'
   rw [kr_full] at hst
   go_wp2_with fail
   go_ret
   exact ⟨g, rfl, Lib.hid ⟨by rw [HG.out]; exact Nat.le_refl _, hst.out⟩⟩
end
end Tree
end Go.Proofs.YtekhaejhmlebbaaGreat
