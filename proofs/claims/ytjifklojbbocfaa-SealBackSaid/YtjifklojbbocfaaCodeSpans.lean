/-
  The reader of layer 6: spans and sets.
-/
import Derived.Test.YtjifklojbbocfaaCodeRd
import Derived.Test.YtjifklojbbocfaaSpanLay
namespace Go.Proofs.Ytjifklojbbocfaa
namespace Code
open Go.RowKit Num Span
attribute [local go_sem ↓] Go.wp_at_zero Go.wp_at_succ

theorem results_cell1 {fn : Func} {p : Tmp} {ty : TypeId} (h : fn.results = #[.cell p ty]) (tmps : Array Value) (P : Program) (w : World) :
    (results fn tmps).run P w = ((asAddr (tmps.getD p undef)).run P w).andThen fun a w₁ => (loadVar ty a).run P w₁ := by
  simp only [results, h]
  simp [Sem.run_bind, Result.andThen]

def spV (x : Sp) (v : Value) (_ : World) : Prop := v = .agg #[.int .i64 x.1, .int .i64 x.2.1, .int .i64 x.2.2]

/-- A new block is none of the older ones. -/
theorem grown_alloc {w w' : World} {o : Obj} {g : Nat} (h : (w.alloc o).grownBy w' (some g)) : w.grownBy w' (some g) :=
  grown_trans (World.grownBy_alloc w o _) h

/-- What is written in a new block turns no older one. -/
theorem grown_fresh {w w' w'' : World} {g B : Nat} (h : w.grownBy w' (some g)) (k : w'.grownBy w'' (some B)) (hB : w.heap.size ≤ B) : w.grownBy w'' (some g) :=
  ⟨k.os.trans h.os, k.tape.trans h.tape, k.output.trans h.output, Nat.le_trans h.size k.size, fun j hj hne => (k.block j (Nat.lt_of_lt_of_le hj h.size) (by intro e; injection e with e; omega)).trans (h.block j hj hne)⟩
/-- A block of three cells. -/
def Box3 (B : Nat) (t : TypeId) (x y z : Value) (w : World) : Prop := w.heap[B]? = some (.cells #[x, y, z] t (0, 0))
section
variable {w w' : World} {B : Nat} {t : TypeId} {x y z x' y' z' : Value}
theorem Box3.lt (h : Box3 B t x y z w) : B < w.heap.size := (Array.getElem?_eq_some_iff.1 h).1
theorem Box3.kept {row : Option Nat} (h : Box3 B t x y z w) (hg : w.grownBy w' row) (hne : some B ≠ row) : Box3 B t x y z w' := (hg.block B h.lt hne).trans h
theorem Box3.cell (h : Box3 B t x y z w) : w.cell? ⟨B, 0, none⟩ = some x ∧ w.cell? ⟨B, 1, none⟩ = some y ∧ w.cell? ⟨B, 2, none⟩ = some z := by
  have h' : w.heap[B]? = _ := h
  refine ⟨?_, ?_, ?_⟩ <;> simp [World.cell?, h']
theorem Box3.frozen (h : Box3 B t x y z w) (j : Nat) : w.frozen? ⟨B, j, none⟩ = false := by simp [World.frozen?, show w.heap[B]? = _ from h]
def set3 (w : World) (B : Nat) (x y z : Value) : World := ((w.setCell ⟨B, 0, none⟩ x).setCell ⟨B, 1, none⟩ y).setCell ⟨B, 2, none⟩ z
theorem set3_lit : ((w.setCell ⟨B, 0, none⟩ x).setCell ⟨B, 1, none⟩ y).setCell ⟨B, 2, none⟩ z = set3 w B x y z := rfl
theorem Box3.set (h : Box3 B t x y z w) : Box3 B t x' y' z' (set3 w B x' y' z') := by
  have h' : w.heap[B]? = some (.cells #[x, y, z] t (0, 0)) := h
  show (set3 w B x' y' z').heap[B]? = _
  simp [set3, World.setCell, Array.getElem?_modify, h']
theorem set3_grown : w.grownBy (set3 w B x y z) (some B) := grown_trans (grown_trans (grown_set1 _ _ _ _) (grown_set1 _ _ _ _)) (grown_set1 _ _ _ _)
end

set_option maxRecDepth 100000 in
theorem rspan_any (g : Nat) (A : Option Addr) (c n p : Nat) (zs : List Int) (w : World) (hs : Src g A c n zs w) (hr : Rd g A c n p w) (hp : p ≤ n) :
    Calls Try.prog 54 #[.pointer (some ⟨g, 0, none⟩)] w (Took g A c n w (spanP zs p) spV) := by
  have hlt := hr.lt
  obtain ⟨W, hW⟩ : ∃ W, w.alloc (.cells #[.int .i64 0, .int .i64 0, .int .i64 0] 45) = W := ⟨_, rfl⟩
  have hgW : w.grownBy W (some g) := by rw [← hW]; exact World.grownBy_alloc _ _ _
  have hsW := hs.kept hgW hlt
  have hrW : Rd g A c n p W := by rw [← hW]; exact hr.alloc _
  have hB : Box3 w.heap.size 45 (.int .i64 0) (.int .i64 0) (.int .i64 0) W := by rw [← hW]; exact heap_alloc_new _ _
  have hBg : w.heap.size ≠ g := by omega
  have hby := hs.2.1
  have hn := hs.2.2.1
  obtain ⟨B, hBe⟩ : ∃ B, w.heap.size = B := ⟨_, rfl⟩
  rw [hBe] at hB hBg
  have hne : some B ≠ some g := by simpa using hBg
  have hltW := hrW.lt
  have h1 := whole_any g A c n p zs W hsW hrW hp
  rcases hP1 : upP 2147483647 zs p with _ | ⟨s, q⟩
  · have hU : spanP zs p = none := by unfold spanP; rw [hP1]
    rw [hU]
    rw [hP1] at h1
    have H1 := Lib.hid h1
    have HG := Lib.hid hgW
    clear h1 hP1 hU hs hr hsW hrW hby hgW
    go_enter Try.func54, Try.ntmps54
    go_wp2_with fail
    refine H1.out.mono ?_
    intro e w1 hT
    obtain ⟨hg, rfl⟩ := hT.none
    exact ⟨rfl, took_none (grown_trans HG.out hg)⟩
  · rw [hP1] at h1
    obtain ⟨a1, a2, a3, a4, a5⟩ := upP_ok hby (by omega) hP1
    have hq := std_le a1
    have H1 := Lib.hid h1
    have HS := Lib.hid (And.intro hsW (And.intro hB (And.intro hP1 (And.intro hby (And.intro hgW hn)))))
    clear h1 hP1 hs hr hsW hrW hby hgW hB a1
    go_enter Try.func54, Try.ntmps54
    go_wp2_with fail
    refine H1.out.mono ?_
    intro e w1 hT
    obtain ⟨v, rfl, hr1, rfl, hg1⟩ := hT.some
    obtain ⟨hsW, hB, hP1, hby, hgW, hn⟩ := HS.out
    have hs1 := hsW.kept hg1 hltW
    have hB1 := hB.kept hg1 hne
    have hgW1 := grown_trans hgW hg1
    have h2 := upTo_any g A c n q zs 4611686018427387904 w1 hs1 hr1 (by omega)
    rcases hP2 : upP 4611686018427387904 zs q with _ | ⟨f, r⟩
    · have hU : spanP zs p = none := by unfold spanP; simp only [hP1, hP2]
      rw [hP2] at h2
      have H2 := Lib.hid h2
      have HU := Lib.hid (And.intro hU hgW1)
      clear h2 hP2 hP1 hU hr1 hs1 hB1 hgW1 hB hsW hby hgW hT hg1 HS H1
      go_wp2_with fail
      refine H2.out.mono ?_
      intro e w2 hT
      obtain ⟨hg, rfl⟩ := hT.none
      refine ⟨rfl, ?_⟩
      rw [HU.out.1]
      exact took_none (grown_trans HU.out.2 hg)
    · rw [hP2] at h2
      obtain ⟨b1, b2, b3, b4, b5⟩ := upP_ok hby (by omega) hP2
      have hrq := std_le b1
      have hlt1 := hr1.lt
      have H2 := Lib.hid h2
      have HS := Lib.hid (And.intro hs1 (And.intro hB1 (And.intro hP1 (And.intro hP2 (And.intro hby (And.intro hgW1 hn))))))
      clear h2 hP2 hP1 hr1 hs1 hB1 hgW1 hB hsW hby hgW hT hg1 H1 b1
      go_wp2_with fail
      refine H2.out.mono ?_
      intro e w2 hT
      obtain ⟨v, rfl, hr2, rfl, hg2⟩ := hT.some
      obtain ⟨hs1, hB1, hP1, hP2, hby, hgW1, hn⟩ := HS.out
      have hs2 := hs1.kept hg2 hlt1
      have hB2 := hB1.kept hg2 hne
      have hgW2 := grown_trans hgW1 hg2
      have h3 := upTo_any g A c n r zs (4611686018427387904 - f) w2 hs2 hr2 (by omega)
      rcases hP3 : upP (4611686018427387904 - f) zs r with _ | ⟨t, u⟩
      · have hU : spanP zs p = none := by unfold spanP; simp only [hP1, hP2, hP3]
        rw [hP3] at h3
        have H3 := Lib.hid h3
        have HU := Lib.hid (And.intro hU hgW2)
        clear h3 hP3 hP2 hP1 hU hr2 hs2 hB2 hgW2 hB1 hs1 hby hgW1 hT hg2 HS H2
        go_wp2_with fail
        refine H3.out.mono ?_
        intro e w3 hT
        obtain ⟨hg, rfl⟩ := hT.none
        refine ⟨rfl, ?_⟩
        rw [HU.out.1]
        exact took_none (grown_trans HU.out.2 hg)
      · have hU : spanP zs p = some ((s, f, f + t), u) := by unfold spanP; simp only [hP1, hP2, hP3]
        rw [hP3] at h3
        obtain ⟨c1, c2, c3, c4, c5⟩ := upP_ok hby (by omega) hP3
        have hlt2 := hr2.lt
        have H3 := Lib.hid h3
        have HS := Lib.hid (And.intro hB2 (And.intro hgW2 hU))
        clear h3 hP3 hP2 hP1 hU hr2 hs2 hB2 hgW2 hB1 hs1 hby hgW1 hT hg2 H2 c1
        go_wp2_with fail
        refine H3.out.mono ?_
        intro e w3 hT
        obtain ⟨v, rfl, hr3, rfl, hg3⟩ := hT.some
        obtain ⟨hB2, hgW2, hU⟩ := HS.out
        have hB3 := hB2.kept hg3 hne
        have hgW3 := grown_trans hgW2 hg3
        obtain ⟨k0, k1, k2⟩ := hB3.cell
        have f0 := hB3.frozen 0
        have f1 := hB3.frozen 1
        have f2 := hB3.frozen 2
        have hx : IntKind.i64.wrap (f + t) = f + t := Go.IntWalk.i64_in _ (by omega)
        obtain ⟨j0, j1, j2⟩ := (hB3.set (x' := .int .i64 s) (y' := .int .i64 f) (z' := .int .i64 (f + t))).cell
        have HF := Lib.hid (And.intro hr3 (And.intro hgW3 hU))
        clear hr3 hgW3 hU hB2 hgW2 hT hg3 hB3 HS H3
        go_wp2_with fail
        rw [set3_lit]
        obtain ⟨X, hX⟩ : ∃ X, set3 w3 B (.int .i64 s) (.int .i64 f) (.int .i64 (f + t)) = X := ⟨_, rfl⟩
        rw [hX] at j0 j1 j2 ⊢
        have hG : w.grownBy X (some g) := by rw [← hX]; exact grown_fresh HF.out.2.1 set3_grown (by omega)
        have hR : Rd g A c n u X := by rw [← hX]; exact HF.out.1.kept set3_grown (Ne.symm hne)
        have HX := Lib.hid (And.intro hG hR)
        clear hG hR hX
        refine bodyPost_ret (v := .agg #[.int .i64 s, .int .i64 f, .int .i64 (f + t)]) ?_ rfl ?_
        · rw [results_cell1 rfl]
          go_simp
        · rw [HF.out.2.2]
          exact took_some HX.out.1 HX.out.2 rfl

/-- What is taken takes a byte at least. -/
theorem spanP_goes {zs : List Int} (hby : ∀ z ∈ zs, 0 ≤ z ∧ z ≤ 255) {x : Sp} {p q : Nat} (hp : p ≤ zs.length) (h : spanP zs p = some (x, q)) : p < q ∧ q ≤ zs.length := by
  unfold spanP at h
  split at h
  · cases h
  · rename_i s r h1
    obtain ⟨a1, a2, a3, a4, a5⟩ := upP_ok hby hp h1
    have l1 := std_le a1
    have m1 := putL_len s
    split at h
    · cases h
    · rename_i f u h2
      obtain ⟨b1, b2, b3, b4, b5⟩ := upP_ok hby (by omega) h2
      have l2 := std_le b1
      split at h
      · cases h
      · rename_i t v h3
        obtain ⟨c1, c2, c3, c4, c5⟩ := upP_ok hby (by omega) h3
        have l3 := std_le c1
        simp only [Option.some.injEq, Prod.mk.injEq] at h
        omega

theorem listP_len {α : Type} {P : Nat → Option (α × Nat)} {n : Nat} (hP : ∀ x p q, p ≤ n → P p = some (x, q) → p < q ∧ q ≤ n) : ∀ (k p q : Nat) (l : List α), p ≤ n → listP P k p = some (l, q) → p + l.length ≤ q ∧ q ≤ n
  | 0, p, q, l, hp, h => by
    simp only [listP, Option.some.injEq, Prod.mk.injEq] at h
    obtain ⟨rfl, rfl⟩ := h
    exact ⟨by simp, hp⟩
  | k + 1, p, q, l, hp, h => by
    rw [listP] at h
    split at h
    · cases h
    · rename_i x r hx
      obtain ⟨y, hy, he⟩ := Option.map_eq_some_iff.1 h
      simp only [Prod.mk.injEq] at he
      obtain ⟨rfl, rfl⟩ := he
      obtain ⟨h1, h2⟩ := hP x p r hp hx
      obtain ⟨h3, h4⟩ := listP_len hP k r y.2 y.1 h2 hy
      simp only [List.length_cons]
      omega
theorem seqP_len {α : Type} {P : Nat → Option (α × Nat)} {zs : List Int} (hby : ∀ z ∈ zs, 0 ≤ z ∧ z ≤ 255) (hP : ∀ x p q, p ≤ zs.length → P p = some (x, q) → p < q ∧ q ≤ zs.length) {p q : Nat} {l : List α} (hp : p ≤ zs.length) (h : seqP P zs p = some (l, q)) : p + l.length < q ∧ q ≤ zs.length := by
  unfold seqP at h
  split at h
  · cases h
  · rename_i n r hn
    obtain ⟨g1, g2, g3, g4⟩ := numP_ok hby hp hn
    have gl := std_le g1
    have gp := putL_len n
    have := listP_len hP _ r q l (by omega) h
    omega
theorem setP_len {zs : List Int} (hby : ∀ z ∈ zs, 0 ≤ z ∧ z ≤ 255) {p q : Nat} {l : List Sp} (hp : p ≤ zs.length) (h : setP zs p = some (l, q)) : p + l.length < q ∧ q ≤ zs.length := seqP_len hby (fun _ _ _ hp h => spanP_goes hby hp h) hp h

/-- Where the loop of a list is: k are taken. -/
def Taking {α : Type} (P : Nat → Option (α × Nat)) (N : Nat) (p1 : Nat) (k : Nat) (l : List α) (q : Nat) : Prop :=
  l.length = k ∧ k ≤ N ∧ p1 + k ≤ q ∧ listP P N p1 = (listP P (N - k) q).map fun r => (l ++ r.1, r.2)
theorem taking_start {α : Type} (P : Nat → Option (α × Nat)) (N p1 : Nat) : Taking P N p1 0 [] p1 := ⟨rfl, by omega, by omega, by
  rw [Nat.sub_zero]
  rcases listP P N p1 with _ | ⟨l, q⟩ <;> simp⟩
theorem taking_none {α : Type} {P : Nat → Option (α × Nat)} {N p1 k q : Nat} {l : List α} (h : Taking P N p1 k l q) (hk : k < N) (hx : P q = none) : listP P N p1 = none := by
  obtain ⟨_, _, _, h4⟩ := h
  rw [h4, show N - k = (N - k - 1) + 1 by omega, listP_none hx]
  rfl
theorem taking_more {α : Type} {P : Nat → Option (α × Nat)} {N p1 k q r : Nat} {l : List α} {x : α} (h : Taking P N p1 k l q) (hk : k < N) (hx : P q = some (x, r)) (hq : q < r) : Taking P N p1 (k + 1) (l ++ [x]) r := by
  obtain ⟨h1, h2, h3, h4⟩ := h
  refine ⟨by simp [h1], by omega, by omega, ?_⟩
  rw [h4, show N - k = (N - (k + 1)) + 1 by omega, listP_more hx]
  rcases listP P (N - (k + 1)) r with _ | ⟨m, u⟩ <;> simp
theorem taking_end {α : Type} {P : Nat → Option (α × Nat)} {N p1 q : Nat} {l : List α} (h : Taking P N p1 N l q) : listP P N p1 = some (l, q) := by
  obtain ⟨_, _, _, h4⟩ := h
  rw [h4, Nat.sub_self, listP_zero]
  simp

/-- Spans of the call's own. -/
def ssV (B : Nat) (l : List Sp) (v : Value) (w' : World) : Prop := ∃ A' c', v = .slice A' l.length c' ∧ w'.ownsRow B 45 3 (.slice A' l.length c') l.length (sps l)

/-- A row of one's own is none of older blocks. -/
theorem own_apart {w : World} {base : Nat} {e : TypeId} {size : Nat} {v : Value} {n : Nat} {xs : List Value} (h : w.ownsRow base e size v n xs) {g : Nat} (hg : g < base) : v.ownBlock = none ∨ v.ownBlock ≠ some g := by
  rcases hv : v.ownBlock with _ | j
  · exact .inl rfl
  · refine .inr fun e => ?_
    injection e with e
    have := (h.lt j hv).1
    omega

theorem own_far {w : World} {base : Nat} {e : TypeId} {size : Nat} {v : Value} {n : Nat} {xs : List Value} (h : w.ownsRow base e size v n xs) {g : Nat} (hg : g < base) : some g ≠ v.ownBlock := by
  rcases own_apart h hg with h1 | h1
  · rw [h1]; simp
  · exact fun e => h1 e.symm
/-- An append onto a row of one's own, which is none of the older blocks. -/
theorem grown_own {w w' w0 : World} {g : Nat} {row : Option Nat} (h0 : w0.grownBy w (some g)) (h : w.grownBy w' row) (hr : ∀ k, row = some k → w0.heap.size ≤ k) : w0.grownBy w' (some g) :=
  ⟨h.os.trans h0.os, h.tape.trans h0.tape, h.output.trans h0.output, Nat.le_trans h0.size h.size, fun j hj hne => (h.block j (Nat.lt_of_lt_of_le hj h0.size) (by intro e; have := hr j e.symm; omega)).trans (h0.block j hj hne)⟩

set_option maxRecDepth 100000 in
theorem rspans_any (g : Nat) (A : Option Addr) (c n p : Nat) (zs : List Int) (w : World) (hs : Src g A c n zs w) (hr : Rd g A c n p w) (hp : p ≤ n) :
    Calls Try.prog 53 #[.pointer (some ⟨g, 0, none⟩), .func (.func 54) #[.pointer (some ⟨g, 0, none⟩)] #[]] w (Took g A c n w (setP zs p) (ssV w.heap.size)) := by
  obtain ⟨info, hi, hz, hsize, hbyt⟩ := info_span
  have hlt := hr.lt
  have hby := hs.2.1
  have hn := hs.2.2.1
  have hbig := hs.2.2.2.2
  have h1 := rnum_any g A c n p zs w hs hr hp
  rcases hP1 : numP zs p with _ | ⟨N, p1⟩
  · have hU : setP zs p = none := by unfold setP seqP; rw [hP1]
    rw [hU]
    rw [hP1] at h1
    have H1 := Lib.hid h1
    clear h1 hP1 hU hs hr hby
    go_enter Try.func53, Try.ntmps53
    go_wp2_with fail
    refine H1.out.mono ?_
    intro e w1 hT
    obtain ⟨hg, rfl⟩ := hT.none
    exact ⟨rfl, took_none hg⟩
  · have hU : setP zs p = listP (spanP zs) N.toNat p1 := by unfold setP seqP; rw [hP1]
    rw [hU]
    rw [hP1] at h1
    obtain ⟨a1, a2, a3, a4⟩ := numP_ok hby (by omega) hP1
    have hp1 := std_le a1
    obtain ⟨M, rfl⟩ := Int.eq_ofNat_of_zero_le a3
    rw [Int.toNat_natCast]
    have H1 := Lib.hid h1
    have HS := Lib.hid (And.intro hs hby)
    clear h1 hP1 hU hs hr hby a1
    go_enter Try.func53, Try.ntmps53
    go_wp2_with fail
    refine H1.out.mono ?_
    intro e w1 hT
    obtain ⟨v, rfl, hr1, rfl, hg1⟩ := hT.some
    have hs1 := HS.out.1.kept hg1 hlt
    have hby := HS.out.2
    have hsz1 := hg1.size
    have HX := Lib.hid (And.intro hr1 hg1)
    clear hT hr1 hs1 hby hg1 H1
    go_wp2_with fail
    go_loopw [5, 8] (fun v q wr => ∃ (k : Nat) (l : List Sp) (r : Nat), q = .int .i64 k ∧ Taking (spanP zs) M p1 k l r ∧ r ≤ n ∧ wr.ownsRow w.heap.size 45 3 v l.length (sps l) ∧ Rd g A c n r wr ∧ w.grownBy wr (some g)) (fun _ q _ => M - (intOf q).toNat)
    case atStart => exact ⟨0, [], p1, rfl, taking_start _ _ _, by omega, World.ownsRow_nil _ _ _ _, HX.out.1, HX.out.2⟩
    case round =>
      obtain ⟨k, l, r, rfl, hT, hrn, ho, hrd, hg⟩ := hrel
      obtain ⟨hlk, hkM, hkr, _⟩ := id hT
      have hsz := hg.size
      have hlt2 := hrd.lt
      by_cases hlt3 : k < M
      · have hsw : Src g A c n zs wr := HS.out.1.kept hg hlt
        have h2 := rspan_any g A c n r zs wr hsw hrd hrn
        rcases hPx : spanP zs r with _ | ⟨x, q⟩
        · have hU := taking_none hT hlt3 hPx
          rw [hPx] at h2
          have H2 := Lib.hid h2
          have HU := Lib.hid (And.intro hU hg)
          clear h2 hPx hU hT ho hrd hg hsw
          go_wp2_with fail
          refine H2.out.mono ?_
          intro e w2 hT
          obtain ⟨hg2, rfl⟩ := hT.none
          refine ⟨rfl, ?_⟩
          rw [HU.out.1]
          exact took_none (grown_trans HU.out.2 hg2)
        · rw [hPx] at h2
          obtain ⟨hqr, hqn⟩ := spanP_goes HS.out.2 (by omega) hPx
          have hT2 := taking_more hT hlt3 hPx hqr
          have H2 := Lib.hid h2
          have HU := Lib.hid (And.intro hT2 (And.intro ho hg))
          clear h2 hPx hT2 hT ho hrd hg hsw
          go_wp2_with fail
          refine H2.out.mono ?_
          intro e w2 hT
          obtain ⟨v, rfl, hr2, rfl, hg2⟩ := hT.some
          obtain ⟨hT2, ho, hg⟩ := HU.out
          have ho2 := ho.kept hg2 (own_apart ho hlt)
          have hg3 := grown_trans hg hg2
          have hsz3 := hg3.size
          obtain ⟨x0, x1, x2⟩ := x
          have HF := Lib.hid (And.intro hT2 (And.intro ho2 (And.intro hg3 hr2)))
          clear hT hT2 ho ho2 hg hg2 hg3 hr2 H2 HU
          go_wp2_with (at_builtin; refine wpList_append_sp _ rfl _ _ _ rfl w.heap.size 45 info _ 24 Try.underlying24 hi hz hsize hbyt rfl _ l.length l rfl HF.out.2.1 (x0, x1, x2) 1 rfl (by omega) (by omega) hsz3 ?_; intro v' w' o' g' _)
          have hgw := grown_own HF.out.2.2.1 g' (fun j hj => (HF.out.2.1.lt j hj).1)
          have hrw : Rd g A c n q w' := HF.out.2.2.2.kept g' (own_far HF.out.2.1 hlt)
          have hoo : w'.ownsRow w.heap.size 45 3 v' (l ++ [(x0, x1, x2)]).length (sps (l ++ [(x0, x1, x2)])) := by simpa using o'
          have HE := Lib.hid (And.intro HF.out.1 (And.intro hoo (And.intro hgw hrw)))
          clear HF o' g' hgw hrw hoo
          go_wp2_with fail
          go_roundw
          case rel => exact ⟨k + 1, l ++ [(x0, x1, x2)], q, rfl, HE.out.1, by omega, HE.out.2.1, HE.out.2.2.2, HE.out.2.2.1⟩
          case measure => simp only [intOf]; omega
      · have hk : k = M := by omega
        subst hk
        have hE := taking_end hT
        obtain ⟨A', c', rfl⟩ := own_form ho
        have HE := Lib.hid (And.intro hE (And.intro ho (And.intro hrd hg)))
        clear hE ho hrd hg hT hlt3
        go_wp2_with fail
        go_ret
        rw [HE.out.1]
        exact took_some HE.out.2.2.2 HE.out.2.2.1 ⟨A', c', rfl, HE.out.2.1⟩

theorem rset_any (g : Nat) (A : Option Addr) (c n p : Nat) (zs : List Int) (w : World) (hs : Src g A c n zs w) (hr : Rd g A c n p w) (hp : p ≤ n) :
    Calls Try.prog 48 #[.pointer (some ⟨g, 0, none⟩)] w (Took g A c n w (setP zs p) (ssV w.heap.size)) := by
  have h1 := rspans_any g A c n p zs w hs hr hp
  obtain ⟨P, hP⟩ : ∃ P, setP zs p = P := ⟨_, rfl⟩
  rw [hP] at h1 ⊢
  have hmf : ∀ (fn : Fn) (first cap : Array Value) (w : World), (Instr.makeFunc fn first cap).run Try.prog w = .ok (.func fn first cap) w := fun _ _ _ _ => rfl
  have H1 := Lib.hid h1
  clear h1 hP hs hr
  rcases P with _ | ⟨x, q⟩
  all_goals
    go_enter Try.func48, Try.ntmps48
    go_wp2_with fail
    refine H1.out.mono ?_
    intro e w1 hT
  · obtain ⟨hg, rfl⟩ := hT.none
    exact ⟨rfl, took_none hg⟩
  · obtain ⟨v, rfl, hr1, ⟨A', c', rfl, ho⟩, hg⟩ := hT.some
    clear hT
    have HE := Lib.hid (And.intro hg (And.intro hr1 ho))
    clear hg hr1 ho
    go_wp2_with fail
    go_ret
    exact took_some HE.out.1 HE.out.2.1 ⟨A', c', rfl, HE.out.2.2⟩
end Code
end Go.Proofs.Ytjifklojbbocfaa
