/-
  firthref06: texts, numbers, spans, as the document's reader takes them, whether something was bad or not.
-/
import Derived.Test.YtegiigeelcnemaaGreatGCodeB
import Derived.Test.YtegiigeelcnemaaGreatCodeRefRecPlain
import Derived.Test.YtegiigeelcnemaaGreatGNumB
namespace Go.Proofs.YtegiigeelcnemaaGreat
namespace Code
open Go.RowKit Num Span Vers
attribute [local go_sem ↓] Go.wp_at_zero Go.wp_at_succ

def strV (x : ByteArray) (v : Value) (_ : World) : Prop := v = .string x
def emptyV (v : Value) (_ : World) : Prop := v = .string ⟨#[]⟩
set_option maxRecDepth 100000 in
set_option maxHeartbeats 1000000 in
theorem qtext_any (R : Nat) (A : Option Addr) (c n p : Nat) (bad : Bool) (zs : List Int) (w : World) (hs : Src R A c n zs w) (hr : Rq R A c n p bad w) (hp : p ≤ n) :
    Calls Tryz.prog 50 #[.pointer (some ⟨R, 0, none⟩)] w (RTook R A c n w (gd bad (strP (zs.length : Int) zs p)) strV emptyV) := by
  obtain ⟨hN, hby, hn, hc, hbig⟩ := hs
  have hlt := hr.lt
  obtain ⟨c0, c1, c2⟩ := hr.cell
  have f1 := hr.frozen 1
  have f2 := hr.frozen 2
  cases bad
  case true =>
    have HR := Lib.hid hr
    clear hr hN hby
    go_enter Tryz.func50, Tryz.ntmps50
    go_wp2_with fail
    go_ret
    exact rtook_none (World.grownBy.refl _ _) HR.out hp rfl
  case false =>
    have h1 := fun W (hW : Ns .u8 W R A zs) => ref_text_in A c zs p (zs.length : Int) (by omega) R W hW hby (by omega) (by omega) (by omega)
    rw [hn] at h1
    show Calls Tryz.prog 50 #[.pointer (some ⟨R, 0, none⟩)] w (RTook R A c n w (strP (zs.length : Int) zs p) strV emptyV)
    rw [hn]
    obtain ⟨⟨y, q, e⟩, hF⟩ : ∃ r, textF zs p (n : Int) = r := ⟨_, rfl⟩
    have hP : strP (n : Int) zs p = if e = 0 then some (strOfNums y, q) else none := by
      unfold strP textP
      rw [hF]
      by_cases he : e = 0
      · simp [he]
      · simp [he]
    rw [hF] at h1
    rw [hP]
    by_cases he : e = 0
    · subst he
      rw [if_pos rfl]
      have H1 := Lib.hid h1
      have HN := Lib.hid hN
      have HR := Lib.hid hr
      clear h1 hN hF hP hby hr
      go_enter Tryz.func50, Tryz.ntmps50
      go_wp2_with fail
      go_region_held3 (fun V => V.cell? ⟨R, 0, none⟩ = some (.slice A n c) ∧ V.cell? ⟨R, 1, none⟩ = some (.int .i64 p) ∧ V = w.drew) (first | exact ⟨c0, c1, rfl⟩ | assumption)
        (first | (go_at_call 103; refine (H1.out _ HN.out.drew).mono ?_; rintro e w3 ⟨rfl, rfl⟩))
      all_goals
        go_wp2_with fail
        go_ret
        exact rtook_some (grown_drew (grown_set1 _ _ _ _)) (HR.out.set1 _).drew rfl
    · rw [if_neg he]
      have he1 : (e != 0) = true := by simpa using he
      have H1 := Lib.hid h1
      have HN := Lib.hid hN
      have HR := Lib.hid hr
      clear h1 hN hF hP hby hr he
      go_enter Tryz.func50, Tryz.ntmps50
      go_wp2_with fail
      go_region_held3 (fun V => V.cell? ⟨R, 0, none⟩ = some (.slice A n c) ∧ V.cell? ⟨R, 1, none⟩ = some (.int .i64 p) ∧ V = w.drew) (first | exact ⟨c0, c1, rfl⟩ | assumption)
        (first | (go_at_call 103; refine (H1.out _ HN.out.drew).mono ?_; rintro e w3 ⟨rfl, rfl⟩))
      all_goals
        go_wp2_with fail
        go_ret
        exact rtook_none (grown_drew (grown_set1 _ _ _ _)) (HR.out.set2 _).drew hp rfl

/-- Spans of the call's own, whichever, no more than there are bytes. -/
def anySb (n B : Nat) (v : Value) (w' : World) : Prop := ∃ l, ssV B l v w' ∧ l.length ≤ n
set_option maxRecDepth 100000 in
set_option maxHeartbeats 1000000 in
theorem qspansb_any (R : Nat) (A : Option Addr) (c n p : Nat) (bad : Bool) (zs : List Int) (w : World) (hs : Src R A c n zs w) (hr : Rq R A c n p bad w) (hp : p ≤ n) :
    Calls Tryz.prog 69 #[.pointer (some ⟨R, 0, none⟩)] w (RTook R A c n w (gd bad (setR zs p)) (ssV w.heap.size) (anySb n w.heap.size)) := by
  obtain ⟨info, hi, hz, hsize, hbyt⟩ := info_span
  have hlt := hr.lt
  have hbig := hs.2.2.2.2
  have h1 := qcount_one R A c n p bad zs w hs hr hp
  obtain ⟨F, hF⟩ : ∃ F, gd bad (setR zs p) = F := ⟨_, rfl⟩
  have H1 := Lib.hid h1
  have HS := Lib.hid (And.intro hs hF)
  rw [hF]
  clear h1 hs hr hF
  go_enter Tryz.func69, Tryz.ntmps69
  go_wp2_with fail
  refine H1.out.mono ?_
  rintro e w1 ⟨M, p1, b1, rfl, hr1, hp1, hg1, hMn, hst⟩
  have hF := HS.out.2
  have hby := HS.out.1.2.1
  have hn := HS.out.1.2.2.1
  have hdead : b1 = true → F = none := fun e => by
    rcases hst with ⟨e', _⟩ | ⟨_, _, h⟩
    · rw [e] at e'; cases e'
    · rw [← hF]; exact setR_none h
  have hlive : b1 = false → F = listP (spanQ zs) M p1 := fun e => by
    rcases hst with ⟨_, rfl, h⟩ | ⟨e', _⟩
    · rw [← hF]; exact setR_some h
    · rw [e] at e'; cases e'
  have HX := Lib.hid (And.intro hr1 (And.intro hg1 (And.intro hdead hlive)))
  clear hr1 hg1 hst hF hby hn hdead hlive H1
  go_wp2_with fail
  go_loopw [3, 5] (fun v q wr => ∃ (k : Nat) (l : List Sp) (r : Nat) (b : Bool), q = .int .i64 k ∧ k ≤ M ∧ l.length = k ∧ r ≤ n ∧ wr.ownsRow w.heap.size 70 3 v l.length (sps l) ∧ Rq R A c n r b wr ∧ w.grownBy wr (some R) ∧ (b = false → F = listP (spanQ zs) M p1 ∧ Taking (spanQ zs) M p1 k l r) ∧ (b = true → F = none)) (fun _ q _ => M - (intOf q).toNat)
  case atStart => exact ⟨0, [], p1, b1, rfl, by omega, rfl, hp1, World.ownsRow_nil _ _ _ _, HX.out.1, HX.out.2.1, fun e => ⟨HX.out.2.2.2 e, taking_start _ _ _⟩, HX.out.2.2.1⟩
  case round =>
    obtain ⟨k, l, r, b, rfl, hkM, hlk, hrn, ho, hrq, hg, hal, hde⟩ := hrel
    obtain ⟨c0, c1, c2⟩ := hrq.cell
    have hsz := hg.size
    by_cases hgo : k < M ∧ b = false
    · obtain ⟨hlt3, rfl⟩ := hgo
      have hsw : Src R A c n zs wr := HS.out.1.kept hg hlt
      have h2 := qnum_one R A c n r false zs wr hsw hrq hrn
      have H2 := Lib.hid h2
      have HU := Lib.hid (And.intro ho (And.intro hg (hal rfl)))
      clear h2 ho hg hal hde hsw
      have hltR := hrq.lt
      clear hrq
      go_wp2_with fail
      refine H2.out.mono ?_
      rintro e w2 ⟨x1, r1, b2, rfl, hr2, hrn2, hg2, hx1, hst1⟩
      have hg02 := grown_trans HU.out.2.1 hg2
      have h3 := qnum_one R A c n r1 b2 zs w2 (HS.out.1.kept hg02 hlt) hr2 hrn2
      have H3 := Lib.hid h3
      have HU2 := Lib.hid (And.intro hg02 (And.intro hst1 hg2))
      clear h3 hg02 hst1 hg2 hr2 H2
      go_wp2_with fail
      refine H3.out.mono ?_
      rintro e w3 ⟨x2, r2, b3, rfl, hr3, hrn3, hg3, hx2, hst2⟩
      have hg03 := grown_trans HU2.out.1 hg3
      have h4 := qnum_one R A c n r2 b3 zs w3 (HS.out.1.kept hg03 hlt) hr3 hrn3
      have H4 := Lib.hid h4
      have HU3 := Lib.hid (And.intro hg03 (And.intro hst2 hg3))
      clear h4 hg03 hst2 hg3 hr3 H3
      go_wp2_with fail
      refine H4.out.mono ?_
      rintro e w4 ⟨x3, r3, b4, rfl, hr4, hrn4, hg4, hx3, hst3⟩
      have hg04 := grown_trans HU3.out.1 hg4
      obtain ⟨k0, k1, k2⟩ := hr4.cell
      have f2 := hr4.frozen 2
      have hT := HU.out.2.2.2
      have hFl := HU.out.2.2.1
      have hby := HS.out.1.2.1
      have hn := HS.out.1.2.2.1
      obtain ⟨hq1, hq2⟩ := spanQ_one (zs := zs) HU2.out.2.1 HU3.out.2.1 hst3
      have hfin : F = none → RTook R A c n w F (ssV w.heap.size) (anySb n w.heap.size) (.returned (.slice none 0 0)) (w4.setCell ⟨R, 2, none⟩ (.bool true)) := fun e => by
        rw [e]
        exact rtook_none (grown_trans hg04 (grown_set1 _ _ _ _)) (hr4.set2 _) hrn4 ⟨[], ⟨none, 0, rfl, World.ownsRow_nil _ _ _ _⟩, by simp⟩
      have hQ : ¬ (x2 ≤ 4611686018427387904 ∧ x3 ≤ 4611686018427387904) → F = none := fun h => by
        rw [hFl]
        cases b4
        · exact taking_none hT hlt3 (by rw [hq2 rfl, if_neg h])
        · exact taking_none hT hlt3 (hq1 rfl)
      have o2 := HU.out.1.kept HU2.out.2.2 (own_apart HU.out.1 hlt)
      have o3 := o2.kept HU3.out.2.2 (own_apart o2 hlt)
      have o4 := o3.kept hg4 (own_apart o3 hlt)
      have hs4 := hg04.size
      have hnext : x2 ≤ 4611686018427387904 → x3 ≤ 4611686018427387904 → (b4 = false → F = listP (spanQ zs) M p1 ∧ Taking (spanQ zs) M p1 (k + 1) (l ++ [(x1, x2, wrap64 (x2 + x3))]) r3) ∧ (b4 = true → F = none) := fun hx hy => by
        refine ⟨fun e => ?_, fun e => ?_⟩
        · have h := hq2 e
          rw [if_pos ⟨hx, hy⟩] at h
          obtain ⟨g1, g2⟩ := spanQ_goes hby (by omega) h
          exact ⟨hFl, taking_more hT hlt3 h g1⟩
        · rw [hFl]
          exact taking_none hT hlt3 (hq1 e)
      have HF := Lib.hid (And.intro hfin (And.intro hQ (And.intro hnext (And.intro o4 (And.intro hg04 hr4)))))
      clear hfin hQ hnext o2 o3 o4 hg04 hr4 hT hFl hby hn hq1 hq2 hg4 hst3 H4
      by_cases hx : x2 ≤ 4611686018427387904
      · by_cases hy : x3 ≤ 4611686018427387904
        · go_wp2_with (at_builtin; refine wpList_append_sp _ rfl _ _ _ rfl w.heap.size 70 info _ 24 Tryz.underlying71 hi hz hsize hbyt rfl _ l.length l rfl HF.out.2.2.2.1 (x1, x2, wrap64 (x2 + x3)) 1 rfl (by omega) (by omega) hs4 ?_; intro v' w' o' g' _)
          have hgw := grown_own HF.out.2.2.2.2.1 g' (fun j hj => (HF.out.2.2.2.1.lt j hj).1)
          have hrw : Rq R A c n r3 b4 w' := HF.out.2.2.2.2.2.kept g' (own_far HF.out.2.2.2.1 hlt)
          have hoo : w'.ownsRow w.heap.size 70 3 v' (l ++ [(x1, x2, wrap64 (x2 + x3))]).length (sps (l ++ [(x1, x2, wrap64 (x2 + x3))])) := by simpa using o'
          obtain ⟨n1, n2⟩ := HF.out.2.2.1 hx hy
          have HE := Lib.hid (And.intro hoo (And.intro hgw (And.intro hrw (And.intro n1 n2))))
          clear HF o' g' hgw hrw hoo n1 n2
          go_wp2_with fail
          go_roundw
          case rel => exact ⟨k + 1, l ++ [(x1, x2, wrap64 (x2 + x3))], r3, b4, rfl, by omega, by simp [hlk], hrn4, HE.out.1, HE.out.2.2.1, HE.out.2.1, HE.out.2.2.2.1, HE.out.2.2.2.2⟩
          case measure => simp only [intOf]; omega
        · have hy' : (4611686018427387904 : Int) < x3 := by omega
          go_wp2_with fail
          go_ret
          exact HF.out.1 (HF.out.2.1 (fun h => absurd h.2 (by omega)))
      · have hx' : (4611686018427387904 : Int) < x2 := by omega
        go_wp2_with fail
        go_ret
        exact HF.out.1 (HF.out.2.1 (fun h => absurd h.1 (by omega)))
    · obtain ⟨A', c', rfl⟩ := own_form ho
      have hend : RTook R A c n w F (ssV w.heap.size) (anySb n w.heap.size) (.returned (.slice A' l.length c')) wr := by
        cases b
        · have hk : k = M := by
            rcases Nat.lt_or_ge k M with h | h
            · exact absurd ⟨h, rfl⟩ hgo
            · omega
          subst hk
          obtain ⟨h1, h2⟩ := hal rfl
          rw [h1, taking_end h2]
          exact rtook_some hg hrq ⟨A', c', rfl, ho⟩
        · rw [hde rfl]
          exact rtook_none hg hrq hrn ⟨l, ⟨A', c', rfl, ho⟩, by omega⟩
      have HE := Lib.hid hend
      clear hend hal hde hg ho hrq
      by_cases hk : k < M
      · have hbt : b = true := by
          cases b
          · exact absurd ⟨hk, rfl⟩ hgo
          · rfl
        subst hbt
        go_wp2_with fail
        go_ret
        first | exact HE.out | (have h := HE.out; rw [hlk] at h; exact h)
      · have hk' : ¬ (k : Int) < (M : Int) := by omega
        have hd : decide ((k : Int) < (M : Int)) = false := decide_eq_false hk'
        go_wp2_with fail
        go_ret
        first | exact HE.out | (have h := HE.out; rw [hlk] at h; exact h)

/-- What became of one thing that was to be read: it was, or something was bad, now or ahead of it. -/
def One {α : Type} (P : Nat → Option (α × Nat)) (p : Nat) (bad : Bool) (x : α) (p' : Nat) (b' : Bool) : Prop := (b' = false ∧ bad = false ∧ P p = some (x, p')) ∨ (b' = true ∧ (bad = true ∨ P p = none))
theorem One.none {α : Type} {P : Nat → Option (α × Nat)} {p p' : Nat} {bad b' : Bool} {x : α} (h : One P p bad x p' b') (hb : b' = true) : bad = true ∨ P p = none := by
  rcases h with ⟨e, _⟩ | ⟨_, h⟩
  · rw [hb] at e; cases e
  · exact h
theorem One.some {α : Type} {P : Nat → Option (α × Nat)} {p p' : Nat} {bad b' : Bool} {x : α} (h : One P p bad x p' b') (hb : b' = false) : bad = false ∧ P p = some (x, p') := by
  rcases h with ⟨_, h⟩ | ⟨e, _⟩
  · exact h
  · rw [hb] at e; cases e
theorem num1_one {zs : List Int} {p p' : Nat} {bad b' : Bool} {x : Int} (h : Num1 zs p bad x p' b') : One (numP zs) p bad x p' b' := by
  rcases h with ⟨a, b, c⟩ | ⟨a, _, c⟩
  · exact .inl ⟨a, b, c⟩
  · exact .inr ⟨a, c⟩
theorem gd_none {α : Type} {bad : Bool} {P : Option α} (h : gd bad P = none) : bad = true ∨ P = none := by
  unfold gd at h
  cases bad
  · exact .inr h
  · exact .inl rfl
theorem gd_some {α : Type} {bad : Bool} {P : Option α} {x : α} (h : gd bad P = some x) : bad = false ∧ P = some x := by
  unfold gd at h
  cases bad
  · exact ⟨rfl, h⟩
  · cases h
theorem qtext_one (R : Nat) (A : Option Addr) (c n p : Nat) (bad : Bool) (zs : List Int) (w : World) (hs : Src R A c n zs w) (hr : Rq R A c n p bad w) (hp : p ≤ n) :
    Calls Tryz.prog 50 #[.pointer (some ⟨R, 0, none⟩)] w fun e w' => ∃ (x : ByteArray) (p' : Nat) (b' : Bool), e = .returned (.string x) ∧ Rq R A c n p' b' w' ∧ p' ≤ n ∧ w.grownBy w' (some R) ∧ x.size ≤ n ∧ One (strP (zs.length : Int) zs) p bad x p' b' := by
  refine (qtext_any R A c n p bad zs w hs hr hp).mono ?_
  intro e w1 hT
  have hby := hs.2.1
  have hn := hs.2.2.1
  rcases hP : gd bad (strP (zs.length : Int) zs p) with _ | ⟨x, q⟩
  · rw [hP] at hT
    obtain ⟨v, p', rfl, hr1, hp1, rfl, hg1⟩ := hT.none
    exact ⟨_, p', true, rfl, hr1, hp1, hg1, by simp [ByteArray.size], .inr ⟨rfl, gd_none hP⟩⟩
  · rw [hP] at hT
    obtain ⟨v, rfl, hr1, rfl, hg1⟩ := hT.some
    obtain ⟨rfl, hP'⟩ := gd_some hP
    obtain ⟨⟨a1, a2⟩, a3, a4⟩ := strP_ok hby (by omega) hP'
    have hge := strL_ge x
    exact ⟨x, q, false, rfl, hr1, by omega, hg1, by omega, .inl ⟨rfl, rfl, hP'⟩⟩
theorem qspans_one (R : Nat) (A : Option Addr) (c n p : Nat) (bad : Bool) (zs : List Int) (w : World) (hs : Src R A c n zs w) (hr : Rq R A c n p bad w) (hp : p ≤ n) :
    Calls Tryz.prog 69 #[.pointer (some ⟨R, 0, none⟩)] w fun e w' => ∃ (l : List Sp) (A' : Option Addr) (c' p' : Nat) (b' : Bool), e = .returned (.slice A' l.length c') ∧ w'.ownsRow w.heap.size 70 3 (.slice A' l.length c') l.length (sps l) ∧ Rq R A c n p' b' w' ∧ p' ≤ n ∧ w.grownBy w' (some R) ∧ l.length ≤ n ∧ One (setR zs) p bad l p' b' := by
  refine (qspansb_any R A c n p bad zs w hs hr hp).mono ?_
  intro e w1 hT
  have hby := hs.2.1
  have hn := hs.2.2.1
  rcases hP : gd bad (setR zs p) with _ | ⟨x, q⟩
  · rw [hP] at hT
    obtain ⟨v, p', rfl, hr1, hp1, ⟨l, ⟨A', c', rfl, ho⟩, hln⟩, hg1⟩ := hT.none
    exact ⟨l, A', c', p', true, rfl, ho, hr1, hp1, hg1, hln, .inr ⟨rfl, gd_none hP⟩⟩
  · rw [hP] at hT
    obtain ⟨v, rfl, hr1, ⟨A', c', rfl, ho⟩, hg1⟩ := hT.some
    obtain ⟨rfl, hP'⟩ := gd_some hP
    have hle := setR_len hby (by omega) hP'
    exact ⟨x, A', c', q, false, rfl, ho, hr1, by omega, hg1, by omega, .inl ⟨rfl, rfl, hP'⟩⟩
/-- Of a version: five things, one behind the other. -/
theorem verQ_one {zs : List Int} {p0 p1 p2 p3 p4 p5 : Nat} {b1 b2 b3 b4 b5 : Bool} {s n k : Int} {l : List Sp} {x : ByteArray} (h1 : One (numP zs) p0 false s p1 b1) (h2 : One (numP zs) p1 b1 n p2 b2) (h3 : One (setR zs) p2 b2 l p3 b3) (h4 : One (numP zs) p3 b3 k p4 b4) :
    (b4 = true → verQ zs p0 = none) ∧ (b4 = false → 1 < k → verQ zs p0 = none) ∧ (b4 = false → k = 1 → verQ zs p0 = some (⟨s, n, l, true, ⟨#[]⟩⟩, p4)) ∧
    (k = 0 → One (strP (zs.length : Int) zs) p4 b4 x p5 b5 → (b5 = true → verQ zs p0 = none) ∧ (b5 = false → verQ zs p0 = some (⟨s, n, l, false, x⟩, p5))) := by
  have key : b4 = true → verQ zs p0 = none := fun e => by
    unfold verQ
    rcases h4.none e with e3 | e3
    · rcases h3.none e3 with e2 | e2
      · rcases h2.none e2 with e1 | e1
        · rcases h1.none e1 with e0 | e0
          · cases e0
          · rw [e0]
        · cases b1 with
          | false => rw [(h1.some rfl).2]; simp only; rw [e1]
          | true => rcases h1.none rfl with e0 | e0
                    · cases e0
                    · rw [e0]
      · cases b2 with
        | false =>
          obtain ⟨e1, f2⟩ := h2.some rfl
          rw [(h1.some e1).2]; simp only; rw [f2]; simp only; rw [e2]
        | true =>
          rcases h2.none rfl with e1 | e1
          · rcases h1.none e1 with e0 | e0
            · cases e0
            · rw [e0]
          · cases b1 with
            | false => rw [(h1.some rfl).2]; simp only; rw [e1]
            | true => rcases h1.none rfl with e0 | e0
                      · cases e0
                      · rw [e0]
    · cases b3 with
      | false =>
        obtain ⟨e2, f3⟩ := h3.some rfl
        obtain ⟨e1, f2⟩ := h2.some e2
        rw [(h1.some e1).2]; simp only; rw [f2]; simp only; rw [f3]; simp only
        unfold tailQ
        rw [e3]
      | true =>
        rcases h3.none rfl with e2 | e2
        · rcases h2.none e2 with e1 | e1
          · rcases h1.none e1 with e0 | e0
            · cases e0
            · rw [e0]
          · cases b1 with
            | false => rw [(h1.some rfl).2]; simp only; rw [e1]
            | true => rcases h1.none rfl with e0 | e0
                      · cases e0
                      · rw [e0]
        · cases b2 with
          | false =>
            obtain ⟨e1, f2⟩ := h2.some rfl
            rw [(h1.some e1).2]; simp only; rw [f2]; simp only; rw [e2]
          | true =>
            rcases h2.none rfl with e1 | e1
            · rcases h1.none e1 with e0 | e0
              · cases e0
              · rw [e0]
            · cases b1 with
              | false => rw [(h1.some rfl).2]; simp only; rw [e1]
              | true => rcases h1.none rfl with e0 | e0
                        · cases e0
                        · rw [e0]
  have live : b4 = false → verQ zs p0 = match tailQ zs p3 with | none => none | some ((g, x), p4) => some (⟨s, n, l, g, x⟩, p4) := fun e => by
    obtain ⟨e3, f4⟩ := h4.some e
    obtain ⟨e2, f3⟩ := h3.some e3
    obtain ⟨e1, f2⟩ := h2.some e2
    unfold verQ
    rw [(h1.some e1).2]; simp only; rw [f2]; simp only; rw [f3]; rfl
  refine ⟨key, fun e hk => ?_, fun e hk => ?_, fun hk hx => ⟨fun e5 => ?_, fun e5 => ?_⟩⟩
  · rw [live e]
    unfold tailQ
    rw [(h4.some e).2]
    simp only
    rw [if_neg (by omega), if_neg (by omega)]
  · rw [live e]
    unfold tailQ
    rw [(h4.some e).2, hk]
    rfl
  · rcases hx.none e5 with e4 | e4
    · exact key e4
    · cases b4 with
      | true => exact key rfl
      | false =>
        rw [live rfl]
        unfold tailQ
        rw [(h4.some rfl).2, hk]
        simp only
        rw [if_pos (by trivial), e4]
  · obtain ⟨e4, f5⟩ := hx.some e5
    rw [live e4]
    unfold tailQ
    rw [(h4.some e4).2, hk]
    simp only
    rw [if_pos (by trivial), f5]
end Code
end Go.Proofs.YtegiigeelcnemaaGreat
