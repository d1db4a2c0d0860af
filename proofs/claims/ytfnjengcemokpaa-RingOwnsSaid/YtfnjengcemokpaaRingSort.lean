/-
  How a ring's points are compared and sorted (the sort of Go's library by its contract).
-/
import Derived.Test.YtfnjengcemokpaaRingHash
import Derived.Test.YtfnjengcemokpaaRingPlain
import Derived.Test.YtfnjengcemokpaaShelf
import Derived.Shelf.SlSortCmp.WholeK
import Derived.Deep.RegionHeld3
import Derived.Deep.DrawnRows
import Derived.IntWalk
namespace Go.Proofs.Ytfnjengcemokpaa
namespace Ring
open Go.RowKit
attribute [local go_sem ↓] Go.wp_at_zero Go.wp_at_succ

def cmpI (x y : Int) : Int := if x < y then -1 else if y < x then 1 else 0
theorem cmp_int (x y : Int) (w : World) : Calls Try.prog 40 #[.int .i64 x, .int .i64 y] w fun e w' => e = .returned (.int .i64 (cmpI x y)) ∧ w = w' := by
  have hN : ∀ (z : Int) (W : World), Calls Try.prog 52 #[.int .i64 z] W fun e w' => e = .returned (.bool false) ∧ W = w' := by
    intro z W
    go_enter Try.func52, Try.ntmps52
    go_wp2
    go_ret
    exact ⟨by simp, rfl⟩
  have H := Lib.hid hN
  clear hN
  rcases Int.lt_trichotomy x y with h | rfl | h
  · have h1 : decide (x < y) = true := decide_eq_true h
    have hr : cmpI x y = -1 := by unfold cmpI; rw [if_pos h]
    have HR := Lib.hid hr
    clear hr h
    go_enter Try.func40, Try.ntmps40
    go_wp2_with (go_at_call 52; refine (H.out _ _).mono ?_; rintro e w' ⟨rfl, rfl⟩)
    go_ret
    exact ⟨by rw [HR.out]; rfl, rfl⟩
  · have h1 : decide (x < x) = false := decide_eq_false (by omega)
    have hr : cmpI x x = 0 := by unfold cmpI; rw [if_neg (by omega), if_neg (by omega)]
    have HR := Lib.hid hr
    clear hr
    go_enter Try.func40, Try.ntmps40
    go_wp2_with (go_at_call 52; refine (H.out _ _).mono ?_; rintro e w' ⟨rfl, rfl⟩)
    go_ret
    exact ⟨by rw [HR.out]; rfl, rfl⟩
  · have h1 : decide (x < y) = false := decide_eq_false (by omega)
    have h2 : decide (y < x) = true := decide_eq_true h
    have hr : cmpI x y = 1 := by unfold cmpI; rw [if_neg (by omega), if_pos h]
    have HR := Lib.hid hr
    clear hr h
    go_enter Try.func40, Try.ntmps40
    go_wp2_with (go_at_call 52; refine (H.out _ _).mono ?_; rintro e w' ⟨rfl, rfl⟩)
    go_ret
    exact ⟨by rw [HR.out]; rfl, rfl⟩

theorem cmp_u64 (x y : Int) (w : World) : Calls Try.prog 39 #[.int .u64 x, .int .u64 y] w fun e w' => e = .returned (.int .i64 (cmpI x y)) ∧ w = w' := by
  have hN : ∀ (z : Int) (W : World), Calls Try.prog 51 #[.int .u64 z] W fun e w' => e = .returned (.bool false) ∧ W = w' := by
    intro z W
    go_enter Try.func51, Try.ntmps51
    go_wp2
    go_ret
    exact ⟨by simp, rfl⟩
  have H := Lib.hid hN
  clear hN
  rcases Int.lt_trichotomy x y with h | rfl | h
  · have h1 : decide (x < y) = true := decide_eq_true h
    have hr : cmpI x y = -1 := by unfold cmpI; rw [if_pos h]
    have HR := Lib.hid hr
    clear hr h
    go_enter Try.func39, Try.ntmps39
    go_wp2_with (go_at_call 51; refine (H.out _ _).mono ?_; rintro e w' ⟨rfl, rfl⟩)
    go_ret
    exact ⟨by rw [HR.out]; rfl, rfl⟩
  · have h1 : decide (x < x) = false := decide_eq_false (by omega)
    have hr : cmpI x x = 0 := by unfold cmpI; rw [if_neg (by omega), if_neg (by omega)]
    have HR := Lib.hid hr
    clear hr
    go_enter Try.func39, Try.ntmps39
    go_wp2_with (go_at_call 51; refine (H.out _ _).mono ?_; rintro e w' ⟨rfl, rfl⟩)
    go_ret
    exact ⟨by rw [HR.out]; rfl, rfl⟩
  · have h1 : decide (x < y) = false := decide_eq_false (by omega)
    have h2 : decide (y < x) = true := decide_eq_true h
    have hr : cmpI x y = 1 := by unfold cmpI; rw [if_neg (by omega), if_pos h]
    have HR := Lib.hid hr
    clear hr h
    go_enter Try.func39, Try.ntmps39
    go_wp2_with (go_at_call 51; refine (H.out _ _).mono ?_; rintro e w' ⟨rfl, rfl⟩)
    go_ret
    exact ⟨by rw [HR.out]; rfl, rfl⟩

/-- cmp.Or of two numbers that lie in a block. -/
theorem or_two (p q : Int) (b : Nat) (w : World) (h0 : w.cell? ⟨b, 0, none⟩ = some (.int .i64 p)) (h1 : w.cell? ⟨b, 1, none⟩ = some (.int .i64 q)) :
    Calls Try.prog 38 #[.slice (some ⟨b, 0, none⟩) 2 2] w fun e w' => e = .returned (.int .i64 (if p = 0 then q else p)) ∧ w = w' := by
  by_cases hp : p = 0
  · subst hp
    rw [if_pos rfl]
    by_cases hq : q = 0
    · subst hq
      go_enter Try.func38, Try.ntmps38
      go_wp2
      go_loopw [5, 8] (fun _ q wr => ∃ k : Nat, q = .int .i64 k ∧ k ≤ 2 ∧ w = wr) (fun _ q _ => 2 - (intOf q).toNat)
      case atStart => exact ⟨0, rfl, by omega, rfl⟩
      case round =>
        obtain ⟨k, rfl, hk, rfl⟩ := hrel
        match k, hk with
        | 0, _ =>
          go_wp2
          exact ⟨⟨1, rfl, by omega, trivial⟩, by simp only [intOf]; omega⟩
        | 1, _ =>
          go_wp2
          exact ⟨⟨2, rfl, by omega, trivial⟩, by simp only [intOf]; omega⟩
        | 2, _ =>
          go_wp2
          go_ret
          exact ⟨rfl, rfl⟩
    · have g1 : (q == 0) = false := by simpa using hq
      have g2 : ¬ (q = 0) := hq
      go_enter Try.func38, Try.ntmps38
      go_wp2
      go_loopw [5, 8] (fun _ q wr => ∃ k : Nat, q = .int .i64 k ∧ k ≤ 1 ∧ w = wr) (fun _ q _ => 2 - (intOf q).toNat)
      case atStart => exact ⟨0, rfl, by omega, rfl⟩
      case round =>
        obtain ⟨k, rfl, hk, rfl⟩ := hrel
        match k, hk with
        | 0, _ =>
          go_wp2
          exact ⟨⟨1, rfl, by omega, trivial⟩, by simp only [intOf]; omega⟩
        | 1, _ =>
          go_wp2
          go_ret
          exact ⟨rfl, rfl⟩
  · rw [if_neg hp]
    have g1 : (p == 0) = false := by simpa using hp
    go_enter Try.func38, Try.ntmps38
    go_wp2
    go_loopw [5, 8] (fun _ q wr => q = .int .i64 0 ∧ w = wr) (fun _ q _ => 2 - (intOf q).toNat)
    case atStart => exact ⟨rfl, rfl⟩
    case round =>
      obtain ⟨rfl, rfl⟩ := hrel
      go_wp2
      go_ret
      exact ⟨rfl, rfl⟩


def cmpP (p q : Pt) : Int := if cmpI p.1 q.1 = 0 then cmpI p.2 q.2 else cmpI p.1 q.1
theorem cmpP_lt (p q : Pt) : cmpP p q < 0 ↔ p.1 < q.1 ∨ (p.1 = q.1 ∧ p.2 < q.2) := by
  unfold cmpP cmpI
  repeat' split
  all_goals omega

set_option maxHeartbeats 1000000 in
theorem compare_any (s n s' n' : Int) (w : World) : Calls Try.prog 35 #[.agg #[.int .u64 s, .int .i64 n], .agg #[.int .u64 s', .int .i64 n']] w fun e w' => e = .returned (.int .i64 (cmpP (s, n) (s', n'))) ∧ ∃ q os, w' = Go.Sort.grow (w.drewN q) os := by
  have H1 := Lib.hid (fun W => cmp_u64 s s' W)
  have H2 := Lib.hid (fun W => cmp_int n n' W)
  have hr : (if cmpI s s' = 0 then cmpI n n' else cmpI s s') = cmpP (s, n) (s', n') := rfl
  obtain ⟨p, hp⟩ : ∃ p, cmpI s s' = p := ⟨_, rfl⟩
  obtain ⟨q, hq⟩ : ∃ q, cmpI n n' = q := ⟨_, rfl⟩
  rw [hp, hq] at hr
  have H1' : Hid (∀ W, Calls Try.prog 39 #[.int .u64 s, .int .u64 s'] W fun e w' => e = .returned (.int .i64 p) ∧ W = w') := by rw [← hp]; exact H1
  have H2' : Hid (∀ W, Calls Try.prog 40 #[.int .i64 n, .int .i64 n'] W fun e w' => e = .returned (.int .i64 q) ∧ W = w') := by rw [← hq]; exact H2
  obtain ⟨r, hr'⟩ : ∃ r, (if p = 0 then q else p) = r := ⟨_, rfl⟩
  have H3 := Lib.hid (fun b W h0 h1 => hr' ▸ or_two p q b W h0 h1)
  have HR := Lib.hid (hr'.symm.trans hr)
  clear H1 H2 hp hq hr hr'
  go_enter Try.func35, Try.ntmps35
  go_wp2
  obtain ⟨W, hW⟩ : ∃ W, (w.alloc (.cells #[.int .u64 s, .int .i64 n] 50)).alloc (.cells #[.int .u64 s', .int .i64 n'] 50) = W := ⟨_, rfl⟩
  have a0 : W.cell? ⟨w.heap.size, 0, none⟩ = some (.int .u64 s) := by rw [← hW]; simp
  have a1 : W.cell? ⟨w.heap.size, 1, none⟩ = some (.int .i64 n) := by rw [← hW]; simp
  have a2 : W.cell? ⟨w.heap.size + 1, 0, none⟩ = some (.int .u64 s') := by rw [← hW]; simp
  have a3 : W.cell? ⟨w.heap.size + 1, 1, none⟩ = some (.int .i64 n') := by rw [← hW]; simp
  have hs : W.heap.size = w.heap.size + 2 := by rw [← hW]; simp
  have HB : Hid (∃ q' os, (W.alloc (.cells #[.int .i64 p, .int .i64 q] 3)).drew = Go.Sort.grow (w.drewN q') os) := Lib.hid ⟨1, _, by
    rw [← hW, Go.Sort.alloc_eq_grow, Go.Sort.alloc_eq_grow, Go.Sort.alloc_eq_grow, Go.Sort.grow_grow, Go.Sort.grow_grow, Go.Sort.drew_grow]
    rfl⟩
  rw [hW]
  clear hW
  obtain ⟨m, hm⟩ : ∃ m, w.heap.size = m := ⟨_, rfl⟩
  rw [hm] at a0 a1 a2 a3 hs ⊢
  clear hm
  have l0 : m < W.heap.size := by omega
  have l1 : m + 1 < W.heap.size := by omega
  clear hs
  go_region_held3 (fun V => V.cell? ⟨m, 0, none⟩ = some (.int .u64 s) ∧ V.cell? ⟨m, 1, none⟩ = some (.int .i64 n) ∧ V.cell? ⟨m + 1, 0, none⟩ = some (.int .u64 s') ∧ V.cell? ⟨m + 1, 1, none⟩ = some (.int .i64 n'))
    (first | exact ⟨a0, a1, a2, a3⟩ | exact ⟨(World.cell?_alloc_lt _ _ _ l0).trans a0, (World.cell?_alloc_lt _ _ _ l0).trans a1, (World.cell?_alloc_lt _ _ _ l1).trans a2, (World.cell?_alloc_lt _ _ _ l1).trans a3⟩)
    (first
      | (go_at_call 39; refine (H1'.out _).mono ?_; rintro e w1 ⟨rfl, rfl⟩)
      | (go_at_call 40; refine (H2'.out _).mono ?_; rintro e w1 ⟨rfl, rfl⟩)
      | (go_at_call 38; refine (H3.out _ _ (by simp) (by simp)).mono ?_; rintro e w1 ⟨rfl, rfl⟩))
  all_goals
    go_wp2
    go_ret
    exact ⟨by rw [HR.out]; rfl, HB.out⟩

/-! ### Points in a row of the call's own -/
def encP (p : Pt) : List Value := [.int .u64 p.1, .int .i64 p.2]
def pcs (l : List Pt) : List Value := l.flatMap encP
theorem pcs_append (l m : List Pt) : pcs (l ++ m) = pcs l ++ pcs m := by simp [pcs]
theorem pcs_one (x : Pt) : pcs [x] = encP x := by simp [pcs]
theorem pcs_length (l : List Pt) : (pcs l).length = l.length * 2 := by
  induction l with
  | nil => rfl
  | cons x l ih =>
    have : pcs (x :: l) = encP x ++ pcs l := by simp [pcs]
    rw [this, List.length_append, ih]
    simp [encP]
    omega
theorem pcs_at (l : List Pt) : ∀ j, j < l.length → ∀ r, r < 2 → (pcs l)[j * 2 + r]? = (encP (l.getD j (0, 0)))[r]? := by
  induction l with
  | nil => intro j h; simp at h
  | cons x l ih =>
    intro j hj r hr
    have h0 : pcs (x :: l) = encP x ++ pcs l := by simp [pcs]
    rw [h0]
    rcases j with _ | j
    · rw [List.getElem?_append_left (by simp [encP]; omega)]
      simp
    · have hh := ih j (by simpa using hj) r hr
      rw [List.getElem?_append_right (by simp [encP]; omega)]
      rw [show (j + 1) * 2 + r - (encP x).length = j * 2 + r by simp [encP]; omega, hh]
      simp
theorem info_point : (Try.prog.info? 50).map (fun i => (i.zero, i.size, i.bytes)) = some (some (.agg #[.int .u64 0, .int .i64 0]), 2, 16) := by kernel_rfl

section
variable {P : Program} (w : World)
/-- append of one point that was just laid in a block of its own, onto a row of the call's own. -/
theorem wpList_append_p {ops : Array Oper} {rest : List Oper} {o : Oper} {a : Act} {Q : Exit → Act → World → Prop} (hgd : o.guard = none) (s x : Operand) (t : TypeId)
    (ho : o.op = .call { callee := .builtin .append, args := #[s, x], argTypes := #[t, t] })
    (base : Nat) (e : TypeId) (i : TypeInfo) (z : Value) (bytes : Nat) (ht : P.underlying t = some (.slice e)) (hi : P.info? e = some i) (hz : i.zero = some z)
    (hsize : i.size = 2) (hby : i.bytes = bytes) (hzs : z.cells.size = 2)
    (v : Value) (n : Nat) (l : List Pt) (hs : a.eval s = v) (hown : w.ownsRow base e 2 v n (pcs l)) (y : Pt) (c : Nat)
    (hx : a.eval x = .slice (some ⟨w.heap.size, 0, none⟩) 1 c)
    (hbytes : (n + 1) * bytes ≤ 140737488355328) (hn : n + 1 ≤ 140737488355328) (hbase : base ≤ w.heap.size)
    (h : ∀ v' w', w'.ownsRow base e 2 v' (n + 1) (pcs (l ++ [y])) → w.grownBy w' v.ownBlock → wpList P ops Q rest (a.put o.dst v') w') :
    wpList P ops Q (o :: rest) a (w.alloc (.cells #[.int .u64 y.1, .int .i64 y.2] e)) := by
  refine wpList_append_own_at _ hgd s x t ho base e i z 2 bytes ht hi hz hsize hby hzs (by omega) v n (pcs l) hs (hown.alloc _) ⟨w.heap.size, 0, none⟩ 1 c (encP y) hx rfl ?_ ?_ (by unfold maxLen; omega) hbytes (by simp; omega) ?_
  · intro j u' hj
    match j, hj with
    | 0, hj => simp [encP] at hj; subst hj; simp [Addr.add]
    | 1, hj => simp [encP] at hj; subst hj; simp [Addr.add]
  · intro u' hu
    simp [encP] at hu
    rcases hu with rfl | rfl <;> rfl
  · intro v' w' hown' hg _ _
    refine h v' w' ?_ ?_
    · rw [pcs_append, pcs_one]; exact hown'
    · exact ⟨hg.os, hg.tape, hg.output, Nat.le_trans (by simp) hg.size, fun k hk hne => (hg.block k (by simp; omega) hne).trans (Below.heap_alloc w _ k hk)⟩
end

/-- From the head of block g on stand these points. -/
def Pts (w : World) (g : Nat) (l : List Pt) : Prop := ∀ j, j < l.length → w.cell? ⟨g, j * 2, none⟩ = some (.int .u64 (l.getD j (0, 0)).1) ∧ w.cell? ⟨g, j * 2 + 1, none⟩ = some (.int .i64 (l.getD j (0, 0)).2)
theorem Pts.below {w w' : World} {g B : Nat} {l : List Pt} (h : Pts w g l) (hb : Below B w w') (hg : g < B) : Pts w' g l := fun j hj => ⟨(hb.cell (p := ⟨g, _, none⟩) hg).trans (h j hj).1, (hb.cell (p := ⟨g, _, none⟩) hg).trans (h j hj).2⟩

theorem swoP : Go.Sort.SWO (ltOf cmpP) where
  irrefl x := by unfold ltOf; simp only [decide_eq_false_iff_not, cmpP_lt]; omega
  trans x y z h1 h2 := by unfold ltOf at *; simp only [decide_eq_true_eq, cmpP_lt] at *; omega
  ntrans x y z h1 h2 := by unfold ltOf at *; simp only [decide_eq_false_iff_not, cmpP_lt] at *; omega

theorem holds_own {w : World} {base g cap n : Nat} {l : List Pt} (hn : l.length = n) (ho : w.ownsRow base 50 2 (.slice (some ⟨g, 0, none⟩) n cap) n (pcs l)) : Go.Sort.HoldsK encP 2 w g 0 l.toArray := fun j hj => by
  rw [Go.Sort.size_flatK] at hj
  simp only [List.size_toArray] at hj
  have hq : j / 2 < l.length := by omega
  have hr : j % 2 < 2 := by omega
  have e := pcs_at l (j / 2) hq (j % 2) hr
  rw [show j / 2 * 2 + j % 2 = j by omega] at e
  have hc := World.ownsRow.cellAt ho j (by omega)
  rw [e] at hc
  rw [Go.Sort.get_flatK _ _ _ _ (by simpa using hj), Nat.zero_add]
  have e2 : l.toArray[j / 2]! = l.getD (j / 2) (0, 0) := by
    rw [getElem!_pos _ _ (by simpa using hq)]
    simp [List.getD_eq_getElem?_getD, hq]
  rw [e2]
  refine ⟨?_, ho.frozenAt j⟩
  rw [hc]
  have h2 : j % 2 = 0 ∨ j % 2 = 1 := by omega
  rcases h2 with h2 | h2 <;> rw [h2] <;> rfl

set_option maxRecDepth 100000 in
/-- The sort: the points are there still, and rise. -/
theorem sort_any (g cap n base : Nat) (l : List Pt) (hn : l.length = n) (w : World) (ho : w.ownsRow base 50 2 (.slice (some ⟨g, 0, none⟩) n cap) n (pcs l)) (hn2 : n < 4611686018427387904) :
    Calls Try.prog 34 #[.slice (some ⟨g, 0, none⟩) n cap, .func (.func 35) #[] #[]] w fun e w' => e = .returned (.tuple #[]) ∧ ∃ l', Hid (l'.Perm l ∧ l'.Pairwise le0) ∧ Pts w' g l' ∧ Below base w w' := by
  have eg : ∀ args w, (callFunc 35 args).run Try.prog w = .ok (.enter 35 args) w := enters_of Try.func35 (by kernel_rfl) rfl
  have hH := holds_own hn ho
  have hlt := ho.lt g rfl
  have hcon := AnyQ.slices_SortFunc Try.sortPoint 2 Try.isAgg50 Try.sizeOf50 encP (fun _ => rfl) (fun x v hv => by simp [encP] at hv; rcases hv with rfl | rfl <;> rfl) cmpP swoP 35 #[] g 0 cap l.toArray w eg (fun m os dk _ x y => compare_any x.1 x.2 y.1 y.2 _) hH hlt.2 (by simpa [hn] using hn2)
  simp only [List.size_toArray, hn] at hcon
  refine Calls.mono hcon ?_
  rintro e w' ⟨he, d', m, os, hp, hs, hw⟩
  have hsz : d'.size = n := by have := hp.1; simpa [hn] using this
  have hH' := holdsK_sortWorldK_c encP 2 w g 0 l.toArray d' m os hH hlt.2 (by rw [hsz]; simp [hn])
  rw [← hw] at hH'
  have hget : ∀ i, i < n → d'[i]! = d'.toList.getD i (0, 0) := fun i hi => by
    rw [getElem!_pos _ _ (by omega)]
    simp [List.getD_eq_getElem?_getD, show i < d'.size by omega]
  refine ⟨he, d'.toList, Lib.hid ⟨?_, ?_⟩, fun j hj => ?_, ?_⟩
  · have h3 := hp.2.2
    have e1 : d'.extract 0 n = d' := by rw [← hsz]; exact Array.extract_size
    have e2 : l.toArray.extract 0 n = l.toArray := by have h := Array.extract_size (xs := l.toArray); simpa [hn] using h
    rw [e1, e2] at h3
    simpa using h3
  · rw [List.pairwise_iff_getElem]
    intro i j hi hj hij
    have hi' : i < d'.size := by simpa using hi
    have hj' : j < d'.size := by simpa using hj
    have h3 := hs i j (Nat.zero_le _) hij (by omega)
    unfold ltOf at h3
    simp only [decide_eq_false_iff_not, cmpP_lt] at h3
    rw [getElem!_pos d' i hi', getElem!_pos d' j hj'] at h3
    unfold le0
    simp only [Array.getElem_toList]
    omega
  · have hj' : j < d'.size := by simpa using hj
    have c0 := (hH'.cell hj' (c := 0) (by omega)).1
    have c1 := (hH'.cell hj' (c := 1) (by omega)).1
    rw [hget j (by omega), Nat.zero_add] at c0 c1
    exact ⟨c0, c1⟩
  · rw [hw]
    refine ⟨rfl, rfl, rfl, size_sortWorldK_c _ _ _ _ _ _ _ _, fun k hk => ?_⟩
    have hkg : k ≠ g := by omega
    unfold sortWorldK
    rw [Go.Sort.heap_grow_old _ _ (by rw [Go.Sort.size_putRowK]; show k < w.heap.size; omega)]
    unfold Go.Sort.putRowK Go.Sort.putRow Go.Sort.mapBlock
    simp only [Go.Sort.heap_ahead, Array.getElem?_modify]
    rw [if_neg (fun e => hkg e.symm)]
end Ring
end Go.Proofs.Ytfnjengcemokpaa
