/-
  firthref06: what is read, one thing behind the other; sets.
-/
import Derived.Test.YtjifklojbbocfaaCodeRefPlain
import Derived.Test.YtjifklojbbocfaaNumRef
import Derived.Test.YtjifklojbbocfaaSpanRightRef
namespace Go.Proofs.Ytjifklojbbocfaa
namespace Code
open Go.RowKit Num Span
attribute [local go_sem ↓] Go.wp_at_zero Go.wp_at_succ

section
variable {w : World} {B : Nat} {t : TypeId} {x y z : Value}
theorem Box3.set1 (h : Box3 B t x y z w) (y' : Value) : Box3 B t x y' z (w.setCell ⟨B, 1, none⟩ y') := by
  have h' : w.heap[B]? = some (.cells #[x, y, z] t (0, 0)) := h
  show (w.setCell ⟨B, 1, none⟩ y').heap[B]? = _
  simp [World.setCell, Array.getElem?_modify, h']
theorem Box3.set2 (h : Box3 B t x y z w) (z' : Value) : Box3 B t x y z' (w.setCell ⟨B, 2, none⟩ z') := by
  have h' : w.heap[B]? = some (.cells #[x, y, z] t (0, 0)) := h
  show (w.setCell ⟨B, 2, none⟩ z').heap[B]? = _
  simp [World.setCell, Array.getElem?_modify, h']
theorem Box3.drew (h : Box3 B t x y z w) : Box3 B t x y z w.drew := h
end

/-- Where the document's reader is. -/
abbrev Rq (R : Nat) (A : Option Addr) (c n p : Nat) (bad : Bool) (w : World) : Prop := Box3 R 80 (.slice A n c) (.int .i64 p) (.bool bad) w
/-- What reading comes to: a value, and it goes on; or something was bad. -/
def RTook {α : Type} (R : Nat) (A : Option Addr) (c n : Nat) (w : World) (Q : Option (α × Nat)) (V : α → Value → World → Prop) (Z : Value → World → Prop) (e : Ending) (w' : World) : Prop :=
  w.grownBy w' (some R) ∧ match Q with
    | some (x, q) => ∃ v, e = .returned v ∧ Rq R A c n q false w' ∧ V x v w'
    | none => ∃ (v : Value) (p' : Nat), e = .returned v ∧ Rq R A c n p' true w' ∧ p' ≤ n ∧ Z v w'
def gd {α : Type} (bad : Bool) (Q : Option α) : Option α := if bad then none else Q
theorem RTook.none {α : Type} {R c n : Nat} {A : Option Addr} {w w' : World} {V : α → Value → World → Prop} {Z : Value → World → Prop} {e : Ending} (h : RTook R A c n w none V Z e w') : ∃ (v : Value) (p' : Nat), e = .returned v ∧ Rq R A c n p' true w' ∧ p' ≤ n ∧ Z v w' ∧ w.grownBy w' (some R) := by
  obtain ⟨h0, v, p', h1, h2, h3, h4⟩ := h
  exact ⟨v, p', h1, h2, h3, h4, h0⟩
theorem RTook.some {α : Type} {R c n q : Nat} {A : Option Addr} {w w' : World} {V : α → Value → World → Prop} {Z : Value → World → Prop} {e : Ending} {x : α} (h : RTook R A c n w (some (x, q)) V Z e w') : ∃ v, e = .returned v ∧ Rq R A c n q false w' ∧ V x v w' ∧ w.grownBy w' (some R) := by
  obtain ⟨h0, v, h1, h2, h3⟩ := h
  exact ⟨v, h1, h2, h3, h0⟩
theorem rtook_none {α : Type} {R c n p' : Nat} {A : Option Addr} {w w' : World} {V : α → Value → World → Prop} {Z : Value → World → Prop} {v : Value} (h : w.grownBy w' (some R)) (hr : Rq R A c n p' true w') (hp : p' ≤ n) (hz : Z v w') : RTook R A c n w none V Z (.returned v) w' := ⟨h, v, p', rfl, hr, hp, hz⟩
theorem rtook_some {α : Type} {R c n q : Nat} {A : Option Addr} {w w' : World} {V : α → Value → World → Prop} {Z : Value → World → Prop} {x : α} {v : Value} (h : w.grownBy w' (some R)) (hr : Rq R A c n q false w') (hv : V x v w') : RTook R A c n w (some (x, q)) V Z (.returned v) w' := ⟨h, v, rfl, hr, hv⟩
theorem grown_drewN {w w' : World} {row : Option Nat} (h : w.grownBy w' row) (k : Nat) : w.grownBy (w'.drewN k) row := ⟨h.os, h.tape, h.output, h.size, h.block⟩
def zeroV (v : Value) (_ : World) : Prop := v = .int .i64 0

theorem qnum_any (R : Nat) (A : Option Addr) (c n p : Nat) (bad : Bool) (zs : List Int) (w : World) (hs : Src R A c n zs w) (hr : Rq R A c n p bad w) (hp : p ≤ n) :
    Calls Try.prog 50 #[.pointer (some ⟨R, 0, none⟩)] w (RTook R A c n w (gd bad (numP zs p)) intV zeroV) := by
  obtain ⟨hN, hby, hn, hc, hbig⟩ := hs
  have hlt := hr.lt
  obtain ⟨c0, c1, c2⟩ := hr.cell
  have f1 := hr.frozen 1
  have f2 := hr.frozen 2
  cases bad
  case true =>
    have HR := Lib.hid hr
    clear hr hN hby
    go_enter Try.func50, Try.ntmps50
    go_wp2_with fail
    go_ret
    exact rtook_none (World.grownBy.refl _ _) HR.out hp rfl
  case false =>
    have h1 := fun W (hW : Ns .u8 W R A zs) => ref_num_in A c zs p R W hW hby (by omega) (by omega)
    rw [hn] at h1
    show Calls Try.prog 50 #[.pointer (some ⟨R, 0, none⟩)] w (RTook R A c n w (numP zs p) intV zeroV)
    rcases hP : numP zs p with _ | ⟨x, q⟩
    · have he := numP_none hP
      obtain ⟨⟨x, q, e⟩, hF⟩ : ∃ r, numF zs p = r := ⟨_, rfl⟩
      rw [hF] at h1 he
      simp only at he
      have he1 : (e != 0) = true := by simpa using he
      have H1 := Lib.hid h1
      have HN := Lib.hid hN
      have HR := Lib.hid hr
      clear h1 hN hF hP hby hr he
      go_enter Try.func50, Try.ntmps50
      go_wp2_with fail
      go_region_held3 (fun V => V.cell? ⟨R, 0, none⟩ = some (.slice A n c) ∧ V.cell? ⟨R, 1, none⟩ = some (.int .i64 p) ∧ V = w.drew) (first | exact ⟨c0, c1, rfl⟩ | assumption)
        (first | (go_at_call 31; refine (H1.out _ HN.out.drew).mono ?_; rintro e w3 ⟨rfl, rfl⟩))
      all_goals
        go_wp2_with fail
        go_ret
        exact rtook_none (grown_drew (grown_set1 _ _ _ _)) (HR.out.set2 _).drew hp rfl
    · have hF := numP_some hP
      rw [hF] at h1
      have H1 := Lib.hid h1
      have HN := Lib.hid hN
      have HR := Lib.hid hr
      clear h1 hN hF hP hby hr
      go_enter Try.func50, Try.ntmps50
      go_wp2_with fail
      go_region_held3 (fun V => V.cell? ⟨R, 0, none⟩ = some (.slice A n c) ∧ V.cell? ⟨R, 1, none⟩ = some (.int .i64 p) ∧ V = w.drew) (first | exact ⟨c0, c1, rfl⟩ | assumption)
        (first | (go_at_call 31; refine (H1.out _ HN.out.drew).mono ?_; rintro e w3 ⟨rfl, rfl⟩))
      all_goals
        go_wp2_with fail
        go_ret
        exact rtook_some (grown_drew (grown_set1 _ _ _ _)) (HR.out.set1 _).drew rfl

theorem qcount_any (R : Nat) (A : Option Addr) (c n p : Nat) (bad : Bool) (zs : List Int) (w : World) (hs : Src R A c n zs w) (hr : Rq R A c n p bad w) (hp : p ≤ n) :
    Calls Try.prog 49 #[.pointer (some ⟨R, 0, none⟩)] w (RTook R A c n w (gd bad (cntP zs p)) intV zeroV) := by
  have h1 := qnum_any R A c n p bad zs w hs hr hp
  have hn := hs.2.2.1
  have hbig := hs.2.2.2.2
  have hby := hs.2.1
  rcases hP : gd bad (numP zs p) with _ | ⟨x, q⟩
  · have hU : gd bad (cntP zs p) = none := by
      unfold gd at hP ⊢
      cases bad
      · simp only [Bool.false_eq_true, if_false] at hP ⊢
        unfold cntP
        rw [hP]
      · rfl
    rw [hU]
    rw [hP] at h1
    have H1 := Lib.hid h1
    clear h1 hU hP hs hr hby
    go_enter Try.func49, Try.ntmps49
    go_wp2_with fail
    refine H1.out.mono ?_
    intro e w1 hT
    obtain ⟨v, p', rfl, hr1, hp1, rfl, hg1⟩ := hT.none
    obtain ⟨c0, c1, c2⟩ := hr1.cell
    have hle : ¬ ((n : Int) - p' < 0) := by omega
    have hd : decide ((n : Int) - p' < 0) = false := decide_eq_false hle
    have hsub : IntKind.i64.wrap ((n : Int) - p') = (n : Int) - p' := Go.IntWalk.i64_in _ (by omega)
    have HE := Lib.hid (And.intro hg1 hr1)
    clear hT hg1 hr1 H1
    go_wp2_with fail
    go_quiet (fail)
    go_wp2_with fail
    go_ret
    exact rtook_none (grown_drewN HE.out.1 _) HE.out.2 hp1 rfl
  · obtain ⟨rfl, hP'⟩ : bad = false ∧ numP zs p = some (x, q) := by
      unfold gd at hP
      cases bad
      · exact ⟨rfl, hP⟩
      · cases hP
    obtain ⟨a1, a2, a3, a4⟩ := numP_ok hby (by omega) hP'
    have hq := std_le a1
    rw [hP] at h1
    have hsub : IntKind.i64.wrap ((n : Int) - q) = (n : Int) - q := Go.IntWalk.i64_in _ (by omega)
    have hz : zs.length = n := hn
    have hqn : q ≤ n := by omega
    by_cases hle : x ≤ (n : Int) - q
    · have hU : gd false (cntP zs p) = some (x, q) := by
        unfold gd cntP
        rw [hP']
        simp only [Bool.false_eq_true, if_false]
        rw [if_pos (by omega)]
      rw [hU]
      have H1 := Lib.hid h1
      clear h1 hU hP hP' hs hr hby a1 a2 hq hn hz
      go_enter Try.func49, Try.ntmps49
      go_wp2_with fail
      refine H1.out.mono ?_
      intro e w1 hT
      obtain ⟨v, rfl, hr1, rfl, hg1⟩ := hT.some
      obtain ⟨c0, c1, c2⟩ := hr1.cell
      have hd : decide ((n : Int) - q < x) = false := decide_eq_false (by omega)
      have HE := Lib.hid (And.intro hg1 hr1)
      clear hT hg1 hr1 H1
      go_wp2_with fail
      go_quiet (fail)
      go_wp2_with fail
      go_ret
      exact rtook_some (grown_drewN HE.out.1 _) HE.out.2 rfl
    · have hU : gd false (cntP zs p) = none := by
        unfold gd cntP
        rw [hP']
        simp only [Bool.false_eq_true, if_false]
        rw [if_neg (by omega)]
      rw [hU]
      have H1 := Lib.hid h1
      clear h1 hU hP hP' hs hr hby a1 a2 hq hn hz
      go_enter Try.func49, Try.ntmps49
      go_wp2_with fail
      refine H1.out.mono ?_
      intro e w1 hT
      obtain ⟨v, rfl, hr1, rfl, hg1⟩ := hT.some
      obtain ⟨c0, c1, c2⟩ := hr1.cell
      have f2 := hr1.frozen 2
      have hd : decide ((n : Int) - q < x) = true := decide_eq_true (by omega)
      have HE := Lib.hid (And.intro hg1 hr1)
      clear hT hg1 hr1 H1
      go_wp2_with fail
      go_quiet (fail)
      go_wp2_with fail
      go_ret
      exact rtook_none (grown_trans (grown_drewN HE.out.1 _) (grown_set1 _ _ _ _)) ((show Rq R A c n q false (w1.drewN _) from HE.out.2).set2 _) (by omega) rfl

/-- What a number comes to. -/
def Num1 (zs : List Int) (p : Nat) (bad : Bool) (x : Int) (p' : Nat) (b' : Bool) : Prop := (b' = false ∧ bad = false ∧ numP zs p = some (x, p')) ∨ (b' = true ∧ x = 0 ∧ (bad = true ∨ numP zs p = none))
/-- One number, said in one breath. -/
theorem qnum_one (R : Nat) (A : Option Addr) (c n p : Nat) (bad : Bool) (zs : List Int) (w : World) (hs : Src R A c n zs w) (hr : Rq R A c n p bad w) (hp : p ≤ n) :
    Calls Try.prog 50 #[.pointer (some ⟨R, 0, none⟩)] w (fun e w' => ∃ (x : Int) (p' : Nat) (b' : Bool), e = .returned (.int .i64 x) ∧ Rq R A c n p' b' w' ∧ p' ≤ n ∧ w.grownBy w' (some R) ∧ (0 ≤ x ∧ x ≤ 9223372036854775807) ∧ Num1 zs p bad x p' b') := by
  refine (qnum_any R A c n p bad zs w hs hr hp).mono ?_
  intro e w1 hT
  have hby := hs.2.1
  have hn := hs.2.2.1
  rcases hP : gd bad (numP zs p) with _ | ⟨x, q⟩
  · rw [hP] at hT
    obtain ⟨v, p', rfl, hr1, hp1, rfl, hg1⟩ := hT.none
    refine ⟨0, p', true, rfl, hr1, hp1, hg1, by omega, .inr ⟨rfl, rfl, ?_⟩⟩
    unfold gd at hP
    cases bad
    · exact .inr hP
    · exact .inl rfl
  · rw [hP] at hT
    obtain ⟨v, rfl, hr1, rfl, hg1⟩ := hT.some
    obtain ⟨rfl, hP'⟩ : bad = false ∧ numP zs p = some (x, q) := by
      unfold gd at hP
      cases bad
      · exact ⟨rfl, hP⟩
      · cases hP
    obtain ⟨a1, a2, a3, a4⟩ := numP_ok hby (by omega) hP'
    have := std_le a1
    exact ⟨x, q, false, rfl, hr1, by omega, hg1, ⟨a3, a4⟩, .inl ⟨rfl, rfl, hP'⟩⟩
/-- Spans of the call's own, whichever. -/
def anySs (B : Nat) (v : Value) (w' : World) : Prop := ∃ l, ssV B l v w'

/-- How many, said in one breath. -/
theorem qcount_one (R : Nat) (A : Option Addr) (c n p : Nat) (bad : Bool) (zs : List Int) (w : World) (hs : Src R A c n zs w) (hr : Rq R A c n p bad w) (hp : p ≤ n) :
    Calls Try.prog 49 #[.pointer (some ⟨R, 0, none⟩)] w (fun e w' => ∃ (x p' : Nat) (b' : Bool), e = .returned (.int .i64 x) ∧ Rq R A c n p' b' w' ∧ p' ≤ n ∧ w.grownBy w' (some R) ∧ x ≤ n ∧
      ((b' = false ∧ bad = false ∧ cntP zs p = some ((x : Int), p')) ∨ (b' = true ∧ x = 0 ∧ gd bad (cntP zs p) = none))) := by
  refine (qcount_any R A c n p bad zs w hs hr hp).mono ?_
  intro e w1 hT
  have hby := hs.2.1
  have hn := hs.2.2.1
  rcases hP : gd bad (cntP zs p) with _ | ⟨x, q⟩
  · rw [hP] at hT
    obtain ⟨v, p', rfl, hr1, hp1, rfl, hg1⟩ := hT.none
    exact ⟨0, p', true, rfl, hr1, hp1, hg1, by omega, .inr ⟨rfl, rfl, rfl⟩⟩
  · rw [hP] at hT
    obtain ⟨v, rfl, hr1, rfl, hg1⟩ := hT.some
    obtain ⟨rfl, hP'⟩ : bad = false ∧ cntP zs p = some (x, q) := by
      unfold gd at hP
      cases bad
      · exact ⟨rfl, hP⟩
      · cases hP
    obtain ⟨a1, a2, a3, a4⟩ := cntP_ok hby (by omega) hP'
    obtain ⟨X, rfl⟩ := Int.eq_ofNat_of_zero_le a1
    exact ⟨X, q, false, rfl, hr1, by omega, hg1, by omega, .inl ⟨rfl, rfl, hP'⟩⟩
theorem setR_none {bad : Bool} {zs : List Int} {p : Nat} (h : gd bad (cntP zs p) = none) : gd bad (setR zs p) = none := by
  unfold gd at h ⊢
  cases bad
  · simp only [Bool.false_eq_true, if_false] at h ⊢
    unfold setR cseqP
    rw [h]
  · rfl
theorem setR_some {zs : List Int} {p q M : Nat} (h : cntP zs p = some ((M : Int), q)) : setR zs p = listP (spanQ zs) M q := by
  unfold setR cseqP
  rw [h]
  simp

theorem spanQ_one {zs : List Int} {r r1 r2 r3 : Nat} {b2 b3 b4 : Bool} {x1 x2 x3 : Int} (h1 : Num1 zs r false x1 r1 b2) (h2 : Num1 zs r1 b2 x2 r2 b3) (h3 : Num1 zs r2 b3 x3 r3 b4) :
    (b4 = true → spanQ zs r = none) ∧ (b4 = false → spanQ zs r = if x2 ≤ 4611686018427387904 ∧ x3 ≤ 4611686018427387904 then some ((x1, x2, wrap64 (x2 + x3)), r3) else none) := by
  unfold Num1 at h1 h2 h3
  constructor
  · rintro rfl
    rcases h3 with ⟨h, _⟩ | ⟨_, _, h3⟩
    · cases h
    rcases h2 with ⟨rfl, rfl, h2⟩ | ⟨rfl, _, h2⟩
    · rcases h1 with ⟨_, _, h1⟩ | ⟨h, _⟩
      · rcases h3 with h3 | h3
        · cases h3
        · unfold spanQ upP
          simp only [h1, h2]
          by_cases hx : x2 ≤ 4611686018427387904
          · simp [hx, h3]
          · simp [hx]
      · cases h
    · rcases h1 with ⟨rfl, _, h1⟩ | ⟨rfl, _, h1⟩
      · rcases h2 with h2 | h2
        · cases h2
        · unfold spanQ upP
          simp only [h1, h2]
      · rcases h1 with h1 | h1
        · cases h1
        · unfold spanQ
          simp only [h1]
  · rintro rfl
    rcases h3 with ⟨_, rfl, h3⟩ | ⟨h, _⟩
    · rcases h2 with ⟨_, rfl, h2⟩ | ⟨h, _⟩
      · rcases h1 with ⟨_, _, h1⟩ | ⟨h, _⟩
        · unfold spanQ upP
          simp only [h1, h2]
          by_cases hx : x2 ≤ 4611686018427387904
          · by_cases hy : x3 ≤ 4611686018427387904
            · simp [hx, hy, h3]
            · simp [hx, hy, h3]
          · simp [hx]
        · cases h
      · cases h
    · cases h

set_option maxRecDepth 100000 in
set_option maxHeartbeats 1000000 in
theorem qspans_any (R : Nat) (A : Option Addr) (c n p : Nat) (bad : Bool) (zs : List Int) (w : World) (hs : Src R A c n zs w) (hr : Rq R A c n p bad w) (hp : p ≤ n) :
    Calls Try.prog 42 #[.pointer (some ⟨R, 0, none⟩)] w (RTook R A c n w (gd bad (setR zs p)) (ssV w.heap.size) (anySs w.heap.size)) := by
  obtain ⟨info, hi, hz, hsize, hbyt⟩ := info_span
  have hlt := hr.lt
  have hbig := hs.2.2.2.2
  have h1 := qcount_one R A c n p bad zs w hs hr hp
  obtain ⟨F, hF⟩ : ∃ F, gd bad (setR zs p) = F := ⟨_, rfl⟩
  have H1 := Lib.hid h1
  have HS := Lib.hid (And.intro hs hF)
  rw [hF]
  clear h1 hs hr hF
  go_enter Try.func42, Try.ntmps42
  go_wp2_with fail
  refine H1.out.mono ?_
  rintro e w1 ⟨M, p1, b1, rfl, hr1, hp1, hg1, hMn, hst⟩
  have hF := HS.out.2
  have hby := HS.out.1.2.1
  have hn := HS.out.1.2.2.1
  have hdead : b1 = true → F = none := fun e => by
    rcases hst with ⟨e', _⟩ | ⟨_, _, h⟩
    · rw [e] at e'; cases e'
    · rw [← hF]; exact setR_none h
  have hlive : b1 = false → F = listP (spanQ zs) M p1 := fun e => by
    rcases hst with ⟨_, rfl, h⟩ | ⟨e', _⟩
    · rw [← hF]; exact setR_some h
    · rw [e] at e'; cases e'
  have HX := Lib.hid (And.intro hr1 (And.intro hg1 (And.intro hdead hlive)))
  clear hr1 hg1 hst hF hby hn hdead hlive H1
  go_wp2_with fail
  go_loopw [3, 5] (fun v q wr => ∃ (k : Nat) (l : List Sp) (r : Nat) (b : Bool), q = .int .i64 k ∧ k ≤ M ∧ l.length = k ∧ r ≤ n ∧ wr.ownsRow w.heap.size 45 3 v l.length (sps l) ∧ Rq R A c n r b wr ∧ w.grownBy wr (some R) ∧ (b = false → F = listP (spanQ zs) M p1 ∧ Taking (spanQ zs) M p1 k l r) ∧ (b = true → F = none)) (fun _ q _ => M - (intOf q).toNat)
  case atStart => exact ⟨0, [], p1, b1, rfl, by omega, rfl, hp1, World.ownsRow_nil _ _ _ _, HX.out.1, HX.out.2.1, fun e => ⟨HX.out.2.2.2 e, taking_start _ _ _⟩, HX.out.2.2.1⟩
  case round =>
    obtain ⟨k, l, r, b, rfl, hkM, hlk, hrn, ho, hrq, hg, hal, hde⟩ := hrel
    obtain ⟨c0, c1, c2⟩ := hrq.cell
    have hsz := hg.size
    by_cases hgo : k < M ∧ b = false
    · obtain ⟨hlt3, rfl⟩ := hgo
      have hsw : Src R A c n zs wr := HS.out.1.kept hg hlt
      have h2 := qnum_one R A c n r false zs wr hsw hrq hrn
      have H2 := Lib.hid h2
      have HU := Lib.hid (And.intro ho (And.intro hg (hal rfl)))
      clear h2 ho hg hal hde hsw
      have hltR := hrq.lt
      clear hrq
      go_wp2_with fail
      refine H2.out.mono ?_
      rintro e w2 ⟨x1, r1, b2, rfl, hr2, hrn2, hg2, hx1, hst1⟩
      have hg02 := grown_trans HU.out.2.1 hg2
      have h3 := qnum_one R A c n r1 b2 zs w2 (HS.out.1.kept hg02 hlt) hr2 hrn2
      have H3 := Lib.hid h3
      have HU2 := Lib.hid (And.intro hg02 (And.intro hst1 hg2))
      clear h3 hg02 hst1 hg2 hr2 H2
      go_wp2_with fail
      refine H3.out.mono ?_
      rintro e w3 ⟨x2, r2, b3, rfl, hr3, hrn3, hg3, hx2, hst2⟩
      have hg03 := grown_trans HU2.out.1 hg3
      have h4 := qnum_one R A c n r2 b3 zs w3 (HS.out.1.kept hg03 hlt) hr3 hrn3
      have H4 := Lib.hid h4
      have HU3 := Lib.hid (And.intro hg03 (And.intro hst2 hg3))
      clear h4 hg03 hst2 hg3 hr3 H3
      go_wp2_with fail
      refine H4.out.mono ?_
      rintro e w4 ⟨x3, r3, b4, rfl, hr4, hrn4, hg4, hx3, hst3⟩
      have hg04 := grown_trans HU3.out.1 hg4
      obtain ⟨k0, k1, k2⟩ := hr4.cell
      have f2 := hr4.frozen 2
      have hT := HU.out.2.2.2
      have hFl := HU.out.2.2.1
      have hby := HS.out.1.2.1
      have hn := HS.out.1.2.2.1
      obtain ⟨hq1, hq2⟩ := spanQ_one (zs := zs) HU2.out.2.1 HU3.out.2.1 hst3
      have hfin : F = none → RTook R A c n w F (ssV w.heap.size) (anySs w.heap.size) (.returned (.slice none 0 0)) (w4.setCell ⟨R, 2, none⟩ (.bool true)) := fun e => by
        rw [e]
        exact rtook_none (grown_trans hg04 (grown_set1 _ _ _ _)) (hr4.set2 _) hrn4 ⟨[], none, 0, rfl, World.ownsRow_nil _ _ _ _⟩
      have hQ : ¬ (x2 ≤ 4611686018427387904 ∧ x3 ≤ 4611686018427387904) → F = none := fun h => by
        rw [hFl]
        cases b4
        · exact taking_none hT hlt3 (by rw [hq2 rfl, if_neg h])
        · exact taking_none hT hlt3 (hq1 rfl)
      have o2 := HU.out.1.kept HU2.out.2.2 (own_apart HU.out.1 hlt)
      have o3 := o2.kept HU3.out.2.2 (own_apart o2 hlt)
      have o4 := o3.kept hg4 (own_apart o3 hlt)
      have hs4 := hg04.size
      have hnext : x2 ≤ 4611686018427387904 → x3 ≤ 4611686018427387904 → (b4 = false → F = listP (spanQ zs) M p1 ∧ Taking (spanQ zs) M p1 (k + 1) (l ++ [(x1, x2, wrap64 (x2 + x3))]) r3) ∧ (b4 = true → F = none) := fun hx hy => by
        refine ⟨fun e => ?_, fun e => ?_⟩
        · have h := hq2 e
          rw [if_pos ⟨hx, hy⟩] at h
          obtain ⟨g1, g2⟩ := spanQ_goes hby (by omega) h
          exact ⟨hFl, taking_more hT hlt3 h g1⟩
        · rw [hFl]
          exact taking_none hT hlt3 (hq1 e)
      have HF := Lib.hid (And.intro hfin (And.intro hQ (And.intro hnext (And.intro o4 (And.intro hg04 hr4)))))
      clear hfin hQ hnext o2 o3 o4 hg04 hr4 hT hFl hby hn hq1 hq2 hg4 hst3 H4
      by_cases hx : x2 ≤ 4611686018427387904
      · by_cases hy : x3 ≤ 4611686018427387904
        · go_wp2_with (at_builtin; refine wpList_append_sp _ rfl _ _ _ rfl w.heap.size 45 info _ 24 Try.underlying24 hi hz hsize hbyt rfl _ l.length l rfl HF.out.2.2.2.1 (x1, x2, wrap64 (x2 + x3)) 1 rfl (by omega) (by omega) hs4 ?_; intro v' w' o' g' _)
          have hgw := grown_own HF.out.2.2.2.2.1 g' (fun j hj => (HF.out.2.2.2.1.lt j hj).1)
          have hrw : Rq R A c n r3 b4 w' := HF.out.2.2.2.2.2.kept g' (own_far HF.out.2.2.2.1 hlt)
          have hoo : w'.ownsRow w.heap.size 45 3 v' (l ++ [(x1, x2, wrap64 (x2 + x3))]).length (sps (l ++ [(x1, x2, wrap64 (x2 + x3))])) := by simpa using o'
          obtain ⟨n1, n2⟩ := HF.out.2.2.1 hx hy
          have HE := Lib.hid (And.intro hoo (And.intro hgw (And.intro hrw (And.intro n1 n2))))
          clear HF o' g' hgw hrw hoo n1 n2
          go_wp2_with fail
          go_roundw
          case rel => exact ⟨k + 1, l ++ [(x1, x2, wrap64 (x2 + x3))], r3, b4, rfl, by omega, by simp [hlk], hrn4, HE.out.1, HE.out.2.2.1, HE.out.2.1, HE.out.2.2.2.1, HE.out.2.2.2.2⟩
          case measure => simp only [intOf]; omega
        · have hy' : (4611686018427387904 : Int) < x3 := by omega
          go_wp2_with fail
          go_ret
          exact HF.out.1 (HF.out.2.1 (fun h => absurd h.2 (by omega)))
      · have hx' : (4611686018427387904 : Int) < x2 := by omega
        go_wp2_with fail
        go_ret
        exact HF.out.1 (HF.out.2.1 (fun h => absurd h.1 (by omega)))
    · obtain ⟨A', c', rfl⟩ := own_form ho
      have hend : RTook R A c n w F (ssV w.heap.size) (anySs w.heap.size) (.returned (.slice A' l.length c')) wr := by
        cases b
        · have hk : k = M := by
            rcases Nat.lt_or_ge k M with h | h
            · exact absurd ⟨h, rfl⟩ hgo
            · omega
          subst hk
          obtain ⟨h1, h2⟩ := hal rfl
          rw [h1, taking_end h2]
          exact rtook_some hg hrq ⟨A', c', rfl, ho⟩
        · rw [hde rfl]
          exact rtook_none hg hrq hrn ⟨l, A', c', rfl, ho⟩
      have HE := Lib.hid hend
      clear hend hal hde hg ho hrq
      by_cases hk : k < M
      · have hbt : b = true := by
          cases b
          · exact absurd ⟨hk, rfl⟩ hgo
          · rfl
        subst hbt
        go_wp2_with fail
        go_ret
        first | exact HE.out | (have h := HE.out; rw [hlk] at h; exact h)
      · have hk' : ¬ (k : Int) < (M : Int) := by omega
        have hd : decide ((k : Int) < (M : Int)) = false := decide_eq_false hk'
        go_wp2_with fail
        go_ret
        first | exact HE.out | (have h := HE.out; rw [hlk] at h; exact h)

/-- A set and an error, the set in memory of the call's own. -/
def GotSetR (B : Nat) (r : List Sp × Int) (w : World) (e : Ending) (w' : World) : Prop :=
  ∃ A c, e = .returned (.tuple #[.slice A r.1.length c, .int .i64 r.2]) ∧ w'.ownsRow B 45 3 (.slice A r.1.length c) r.1.length (sps r.1) ∧ Below B w w'

set_option maxRecDepth 100000 in
theorem refset_any (A : Option Addr) (c n : Nat) (zs : List Int) (hn : zs.length = n) (w : World) (hN : Ns .u8 w w.heap.size A zs) (hby : ∀ z ∈ zs, 0 ≤ z ∧ z ≤ 255) (hc : n ≤ c) (hbig : n ≤ 4294967296) :
    Calls Try.prog 32 #[.slice A n c] w (GotSetR w.heap.size (setF zs) w) := by
  rw [← setR_ref hby]
  obtain ⟨W, hW⟩ : ∃ W, w.alloc (.cells #[.slice A n c, .int .i64 0, .bool false] 80) = W := ⟨_, rfl⟩
  have hr : Rq w.heap.size A c n 0 false W := by rw [← hW]; exact heap_alloc_new _ _
  have hb : Below w.heap.size w W := by rw [← hW]; exact (Below.refl _ w).alloc (Nat.le_refl _) _
  have hs : Src w.heap.size A c n zs W := ⟨hN.below hb, hby, hn, hc, hbig⟩
  have hsz : W.heap.size = w.heap.size + 1 := by rw [← hW]; simp
  have h1 := qspans_any w.heap.size A c n 0 false zs W hs hr (by omega)
  rw [show gd false (setR zs 0) = setR zs 0 from rfl] at h1
  have hle := fun l q (h : setR zs 0 = some (l, q)) => setR_len hby (p := 0) (by omega) h
  obtain ⟨P, hP⟩ : ∃ P, setR zs 0 = P := ⟨_, rfl⟩
  rw [hP] at h1 ⊢
  have H1 := Lib.hid h1
  have HB := Lib.hid (And.intro hb (And.intro hn (fun l q (h : P = some (l, q)) => hle l q (hP.trans h))))
  clear h1 hb hs hr hP hN hby hle hn
  go_enter Try.func32, Try.ntmps32
  go_wp2_with fail
  refine H1.out.mono ?_
  intro e w1 hT
  rcases P with _ | ⟨l, q⟩
  · obtain ⟨v, p', rfl, hr1, _, ⟨l, A', c', rfl, ho⟩, hg1⟩ := hT.none
    obtain ⟨k0, k1, k2⟩ := hr1.cell
    have hb1 := HB.out.1.grown hg1 (by omega) (fun j hj => by injection hj with hj; omega)
    have HE := Lib.hid hb1
    clear hb1 hg1 hr1 ho hT H1
    go_wp2_with fail
    go_ret2
    exact ⟨none, 0, rfl, World.ownsRow_nil _ _ _ _, HE.out⟩
  · obtain ⟨v, rfl, hr1, ⟨A', c', rfl, ho⟩, hg1⟩ := hT.some
    obtain ⟨k0, k1, k2⟩ := hr1.cell
    have hb1 := HB.out.1.grown hg1 (by omega) (fun j hj => by injection hj with hj; omega)
    have hln := HB.out.2.2 l q rfl
    have hn := HB.out.2.1
    have h2 := ref_right_any A' c' l.length l rfl w1 (own_ss ho) (by omega)
    have hF := fun (h : ¬ (q = zs.length ∧ Right l)) => wholeF_bad (P := some (l, q)) (m := zs.length) (R := Right) (x0 := ([] : List Sp)) (fun x r e k => h (by
      simp only [Option.some.injEq, Prod.mk.injEq] at e
      obtain ⟨rfl, rfl⟩ := e
      exact k))
    have hG := fun (h : q = zs.length ∧ Right l) => wholeF_ok (P := some (l, q)) (m := zs.length) (R := Right) (x0 := ([] : List Sp)) rfl h.1 h.2
    have H2 := Lib.hid h2
    have HE := Lib.hid (And.intro hb1 (And.intro ho (And.intro hF (And.intro hG hn))))
    clear hb1 hg1 hr1 ho hT H1 h2 hF hG hn
    by_cases hq : q = n
    · subst hq
      by_cases hR : Right l
      · have hd : decide (Right l) = true := decide_eq_true hR
        rw [hd] at H2
        have HR := Lib.hid hR
        clear hR hd
        go_wp2_with fail
        refine H2.out.mono ?_
        rintro e w2 ⟨rfl, b2⟩
        have HZ := Lib.hid b2
        clear b2
        go_wp2_with fail
        go_ret2
        rw [HE.out.2.2.2.1 ⟨HE.out.2.2.2.2.symm, HR.out⟩]
        exact ⟨A', c', rfl, own_base (own_below HE.out.2.1 HZ.out (Nat.le_refl _)) (by omega), HE.out.1.trans (HZ.out.mono HE.out.1.size)⟩
      · have hd : decide (Right l) = false := decide_eq_false hR
        rw [hd] at H2
        have HR := Lib.hid hR
        clear hR hd
        go_wp2_with fail
        refine H2.out.mono ?_
        rintro e w2 ⟨rfl, b2⟩
        have HZ := Lib.hid b2
        clear b2
        go_wp2_with fail
        go_ret2
        rw [HE.out.2.2.1 (fun h => HR.out h.2)]
        exact ⟨none, 0, rfl, World.ownsRow_nil _ _ _ _, HE.out.1.trans (HZ.out.mono HE.out.1.size)⟩
    · have hd : ((q : Int) != (n : Int)) = true := by simp; omega
      have HQ := Lib.hid hq
      clear hq
      go_wp2_with fail
      go_ret2
      rw [HE.out.2.2.1 (fun h => HQ.out (h.1.trans HE.out.2.2.2.2))]
      exact ⟨none, 0, rfl, World.ownsRow_nil _ _ _ _, HE.out.1⟩
end Code
end Go.Proofs.Ytjifklojbbocfaa
