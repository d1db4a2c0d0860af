/-
  net: Part.
-/
import Derived.Test.YtinbaiblbbfnnaaNetTally
namespace Go.Proofs.Ytinbaiblbbfnnaa
namespace Net
open Go.RowKit Blk Go.Maps
attribute [local go_sem ↓] Go.wp_at_zero Go.wp_at_succ
/-- One pair is set, or taken away. -/
def oneC (C : Ad → Ad → Bool) (a b : Ad) (cut : Bool) : Ad → Ad → Bool := fun a' b' => if cut then (a' == a && b' == b) || C a' b' else !(a' == a && b' == b) && C a' b'
def partC (C : Ad → Ad → Bool) (a b : Ad) (cut : Bool) (k : Nat) : Ad → Ad → Bool := if k = 0 then C else if k = 1 then oneC C a b cut else oneC (oneC C a b cut) b a cut
section
variable {F : Nat → Prop} {w : World} {nb m : Nat} {P : List Pk} {s t u : Int} {C : Ad → Ad → Bool}
/-- A pair is set in the map. -/
theorem NI.put (h : NI F w nb P s t u C m) (hm : m ≤ 1000000000000000) (a b : Ad) (ha : okA a) (hb : okA b) : ∃ mb w', w.cell? ⟨nb, 1, none⟩ = some (.map (some mb)) ∧ (Instr.mapUpdate 56 (.map (some mb)) (kv a b) (.agg #[])).run Try.prog w = .ok () w' ∧ NI F w' nb P s t u (oneC C a b true) (m + 1) ∧ Stp F w F w' := by
  obtain ⟨mb, A, c, l, D, e, hS, hM, hl⟩ := h
  obtain ⟨kl, hkl⟩ := key_some a b ha hb
  obtain ⟨w', hrun, ho, hg⟩ := hS.1.2.2.update (t := 56) (e := 57) keyed Try.underlying56 (by unfold maxLen; omega) hkl unitElem_mk
  have c1 := hS.1.1.cell 1
  simp only [List.getElem?_cons_zero, List.getElem?_cons_succ] at c1
  have hm2 := map_put hM a b kl hkl (.agg [])
  refine ⟨mb, w', c1, hrun, ⟨mb, A, c, l, _, e, hS.mapped hg ho, ?_, hl⟩, Chg.of_grown hg fun g hg => by injection hg with hg; subst hg; exact hS.2.2.2.1, fun _ => .inl⟩
  have : oneC C a b true = fun a' b' => (a' == a && b' == b) || C a' b' := by funext a' b'; simp [oneC]
  rw [this]
  exact hm2
theorem NI.del (h : NI F w nb P s t u C m) (a b : Ad) (ha : okA a) (hb : okA b) (ty : TypeId) : ∃ mb w', w.cell? ⟨nb, 1, none⟩ = some (.map (some mb)) ∧ (Builtin.delete_ #[56, 66] ty #[.map (some mb), kv a b]).run Try.prog w = .ok (.tuple #[]) w' ∧ NI F w' nb P s t u (oneC C a b false) m ∧ Stp F w F w' := by
  obtain ⟨mb, A, c, l, D, e, hS, hM, hl⟩ := h
  obtain ⟨kl, hkl⟩ := key_some a b ha hb
  obtain ⟨w', hrun, ho, ht⟩ := hS.1.2.2.drop (t := 56) (e := 57) keyed Try.underlying56 hkl ty
  have hg := ht.grown
  have c1 := hS.1.1.cell 1
  simp only [List.getElem?_cons_zero, List.getElem?_cons_succ] at c1
  have hm2 := map_del hM a b kl hkl
  refine ⟨mb, w', c1, hrun, ⟨mb, A, c, l, _, e, hS.mapped hg ho, ?_, hl⟩, Chg.of_grown hg fun g hg => by injection hg with hg; subst hg; exact hS.2.2.2.1, fun _ => .inl⟩
  have : oneC C a b false = fun a' b' => !(a' == a && b' == b) && C a' b' := by funext a' b'; simp [oneC]
  rw [this]
  exact hm2
theorem eq_facts (x y : Int) : ((x == y) = true ∧ x = y) ∨ ((x == y) = false ∧ ¬ x = y) := by
  by_cases h : x = y
  · exact .inl ⟨by simp [h], h⟩
  · exact .inr ⟨by simp [h], h⟩
theorem part_same (_h : NI F w nb P s t u C m) (a1 a2 : Int) (cut : Bool) :
    Calls Try.prog 20 #[hd nb, .agg #[.int .i64 a1, .int .i64 a2], .agg #[.int .i64 a1, .int .i64 a2], .bool cut] w (fun e w' => e = .returned (.tuple #[]) ∧ Below w.heap.size w w') := by
  obtain ⟨U, hU⟩ : ∃ U, (w.alloc (.cells #[.int .i64 a1, .int .i64 a2] 33)).alloc (.cells #[.int .i64 a1, .int .i64 a2] 33) = U := ⟨_, rfl⟩
  have hbl : Below w.heap.size w U := by rw [← hU]; exact ((Below.refl _ w).alloc (Nat.le_refl _) _).alloc (by simp) _
  have hB1 : Bn w.heap.size 33 [.int .i64 a1, .int .i64 a2] U := by
    rw [← hU]
    exact (Below.heap_alloc _ _ _ (by simp)).trans (heap_alloc_new w _)
  have hB2 : Bn (w.heap.size + 1) 33 [.int .i64 a1, .int .i64 a2] U := by
    rw [← hU]
    have h := heap_alloc_new (w.alloc (.cells #[.int .i64 a1, .int .i64 a2] 33)) (.cells #[.int .i64 a1, .int .i64 a2] 33)
    rw [World.size_alloc] at h
    exact h
  have x1 := hB1.cell 0
  have x2 := hB1.cell 1
  have y1 := hB2.cell 0
  have y2 := hB2.cell 1
  simp only [List.getElem?_cons_zero, List.getElem?_cons_succ] at x1 x2 y1 y2
  have HB := Lib.hid hbl
  clear hbl hB1 hB2
  go_enter Try.func20, Try.ntmps20
  go_wp2_with fail
  exact bodyPost_ret (v := .tuple #[]) (results_none rfl _ _ _) rfl ⟨rfl, HB.out⟩
/-- What stands while the two pairs are gone through. -/
def Pt (F : Nat → Prop) (w : World) (nb : Nat) (P : List Pk) (s t u : Int) (C : Ad → Ad → Bool) (m sb : Nat) (a b : Ad) (cut : Bool) (k : Nat) (V : World) : Prop :=
  (∃ m', m' ≤ m + k ∧ NI F V nb P s t u (partC C a b cut k) m') ∧ Stp F w F V ∧ Bn sb 66 [.int .i64 a.1, .int .i64 a.2, .int .i64 b.1, .int .i64 b.2, .int .i64 b.1, .int .i64 b.2, .int .i64 a.1, .int .i64 a.2] V ∧ ¬ F sb
theorem Pt.step {sb : Nat} {a b : Ad} {cut : Bool} {k m' : Nat} {V V' : World} (h : Pt F w nb P s t u C m sb a b cut k V) (hk : k < 2) (hm : m' ≤ m + k + 1) (hN : NI F V' nb P s t u (oneC (partC C a b cut k) (if k = 0 then a else b) (if k = 0 then b else a) cut) m') (hS : Stp F V F V') : Pt F w nb P s t u C m sb a b cut (k + 1) V' := by
  obtain ⟨_, h2, h3, h4⟩ := h
  refine ⟨⟨m', hm, ?_⟩, h2.trans hS, h3.same (hS.1.block _ h3.lt h4), h4⟩
  have : partC C a b cut (k + 1) = oneC (partC C a b cut k) (if k = 0 then a else b) (if k = 0 then b else a) cut := by
    match k, hk with
    | 0, _ => rfl
    | 1, _ => rfl
  rw [this]
  exact hN
set_option maxRecDepth 100000 in
set_option maxHeartbeats 1000000 in
theorem part_diff (h : NI F w nb P s t u C m) (hm : m ≤ 100000000000000) (a1 a2 b1 b2 : Int) (ha : okA (a1, a2)) (hb : okA (b1, b2)) (hne : ¬ (a1 = b1 ∧ a2 = b2)) (cut : Bool) :
    Calls Try.prog 20 #[hd nb, .agg #[.int .i64 a1, .int .i64 a2], .agg #[.int .i64 b1, .int .i64 b2], .bool cut] w (fun e w' => e = .returned (.tuple #[]) ∧ ∃ m', m' ≤ m + 2 ∧ Hid (NI F w' nb P s t u (partC C (a1, a2) (b1, b2) cut 2) m' ∧ Stp F w F w')) := by
  obtain ⟨U, hU⟩ : ∃ U, (w.alloc (.cells #[.int .i64 a1, .int .i64 a2] 33)).alloc (.cells #[.int .i64 b1, .int .i64 b2] 33) = U := ⟨_, rfl⟩
  have hbl : Below w.heap.size w U := by rw [← hU]; exact ((Below.refl _ w).alloc (Nat.le_refl _) _).alloc (by simp) _
  have hB1 : Bn w.heap.size 33 [.int .i64 a1, .int .i64 a2] U := by
    rw [← hU]
    exact (Below.heap_alloc _ _ _ (by simp)).trans (heap_alloc_new w _)
  have hB2 : Bn (w.heap.size + 1) 33 [.int .i64 b1, .int .i64 b2] U := by
    rw [← hU]
    have h := heap_alloc_new (w.alloc (.cells #[.int .i64 a1, .int .i64 a2] 33)) (.cells #[.int .i64 b1, .int .i64 b2] 33)
    rw [World.size_alloc] at h
    exact h
  have x1 := hB1.cell 0
  have x2 := hB1.cell 1
  have y1 := hB2.cell 0
  have y2 := hB2.cell 1
  simp only [List.getElem?_cons_zero, List.getElem?_cons_succ] at x1 x2 y1 y2
  obtain ⟨U2, hU2⟩ : ∃ U2, U.alloc (.cells #[.int .i64 a1, .int .i64 a2, .int .i64 b1, .int .i64 b2, .int .i64 b1, .int .i64 b2, .int .i64 a1, .int .i64 a2] 66) = U2 := ⟨_, rfl⟩
  have hb2 : Below U.heap.size U U2 := by rw [← hU2]; exact (Below.refl _ U).alloc (Nat.le_refl _) _
  have hS2 : Bn U.heap.size 66 [.int .i64 a1, .int .i64 a2, .int .i64 b1, .int .i64 b2, .int .i64 b1, .int .i64 b2, .int .i64 a1, .int .i64 a2] U2 := by rw [← hU2]; exact heap_alloc_new U _
  obtain ⟨sb, hsb⟩ : ∃ b, U.heap.size = b := ⟨_, rfl⟩
  have hbw := hbl.trans (hb2.mono hbl.size)
  have P0 : Hid (Pt F w nb P s t u C m sb (a1, a2) (b1, b2) cut 0 U2) := Lib.hid ⟨⟨m, Nat.le_refl _, h.below hbw⟩, Stp.of_below hbw, hsb ▸ hS2, fun hf => by have := h.lt _ hf; have := hbl.size; omega⟩
  have HP := Lib.hid (And.intro ha (And.intro hb (And.intro hm trivial)))
  have hds : ((a1 == b1) = false) ∨ ((a1 == b1) = true ∧ (a2 == b2) = false) := by
    rcases eq_facts a1 b1 with ⟨e, e'⟩ | ⟨e, _⟩
    · rcases eq_facts a2 b2 with ⟨_, f'⟩ | ⟨f, _⟩
      · exact absurd ⟨e', f'⟩ hne
      · exact .inr ⟨e, f⟩
    · exact .inl e
  clear hbl hB1 hB2 h hb2 hS2 hbw hm hne ha hb
  go_enter Try.func20, Try.ntmps20
  rcases hds with d1 | ⟨d1, d2⟩
  all_goals
    go_wp2_with fail
    go_loopw [21] (fun q wr => ∃ k : Nat, k ≤ 2 ∧ q = .int .i64 k ∧ Hid (Pt F w nb P s t u C m sb (a1, a2) (b1, b2) cut k wr)) (fun q _ => 2 - (intOf q).toNat)
    case atStart => exact ⟨0, by omega, rfl, P0⟩
    case round =>
      obtain ⟨k, hk, rfl, hst⟩ := hrel
      by_cases hlt : k < 2
      · obtain ⟨p1, p2, q1, q2, e1, e2, hp, hq, c0, c1, c2, c3⟩ : ∃ p1 p2 q1 q2 : Int, (if k = 0 then ((a1, a2) : Ad) else (b1, b2)) = (p1, p2) ∧ (if k = 0 then ((b1, b2) : Ad) else (a1, a2)) = (q1, q2) ∧ okA (p1, p2) ∧ okA (q1, q2) ∧
            wr.cell? ⟨sb, k * 4, none⟩ = some (.int .i64 p1) ∧ wr.cell? ⟨sb, k * 4 + 1, none⟩ = some (.int .i64 p2) ∧ wr.cell? ⟨sb, k * 4 + 2, none⟩ = some (.int .i64 q1) ∧ wr.cell? ⟨sb, k * 4 + 3, none⟩ = some (.int .i64 q2) := by
          have hB := hst.out.2.2.1
          match k, hlt with
          | 0, _ => exact ⟨a1, a2, b1, b2, rfl, rfl, HP.out.1, HP.out.2.1, hB.cell 0, hB.cell 1, hB.cell 2, hB.cell 3⟩
          | 1, _ => exact ⟨b1, b2, a1, a2, rfl, rfl, HP.out.2.1, HP.out.1, hB.cell 4, hB.cell 5, hB.cell 6, hB.cell 7⟩
        obtain ⟨V, hV⟩ : ∃ V, wr.alloc (.cells #[.int .i64 p1, .int .i64 p2, .int .i64 q1, .int .i64 q2] 66) = V := ⟨_, rfl⟩
        have hbV : Below wr.heap.size wr V := by rw [← hV]; exact (Below.refl _ wr).alloc (Nat.le_refl _) _
        have hBV : Bn wr.heap.size 66 [.int .i64 p1, .int .i64 p2, .int .i64 q1, .int .i64 q2] V := by rw [← hV]; exact heap_alloc_new wr _
        have v0 := hBV.cell 0
        have v1 := hBV.cell 1
        have v2 := hBV.cell 2
        have v3 := hBV.cell 3
        simp only [List.getElem?_cons_zero, List.getElem?_cons_succ] at v0 v1 v2 v3
        have hbD : Below wr.heap.size wr V.drew := hbV.drew
        obtain ⟨⟨m', hm', hN⟩, _, _⟩ := hst.out
        have z1 : (0 : Int) ≤ (k : Int) := by omega
        have z2 : (k : Int) < 2 := by omega
        have d3 : decide ((k : Int) < 2) = true := decide_eq_true z2
        cases cut with
        | true =>
          obtain ⟨mb, w', hc1, hrun, hN', hS'⟩ := (hN.below hbD).put (by have := HP.out.2.2.1; omega) (p1, p2) (q1, q2) hp hq
          have hc1' : V.cell? ⟨nb, 1, none⟩ = some (.map (some mb)) := hc1
          unfold kv at hrun
          simp only at hrun
          rw [← e1, ← e2] at hN'
          have HN : Hid (Pt F w nb P s t u C m sb (a1, a2) (b1, b2) true (k + 1) w') := Lib.hid (Pt.step (V' := w') hst.out hlt (by omega) hN' ((Stp.of_below hbD).trans hS'))
          clear hst hbV hBV hbD hm' hN hc1 hN' hS' hp hq e1 e2
          go_wp2_with fail
          go_region_law (fail)
          all_goals
            go_wp2_with fail
            first
            | exact ⟨⟨k + 1, by omega, rfl, HN⟩, by simp only [intOf]; omega⟩
            | (go_roundw
               case rel => exact ⟨k + 1, by omega, rfl, HN⟩
               case measure => simp only [intOf]; omega)
        | false =>
          obtain ⟨mb, w', hc1, hrun, hN', hS'⟩ := (hN.below hbD).del (p1, p2) (q1, q2) hp hq 0
          have hc1' : V.cell? ⟨nb, 1, none⟩ = some (.map (some mb)) := hc1
          unfold kv at hrun
          simp only at hrun
          rw [← e1, ← e2] at hN'
          have HN : Hid (Pt F w nb P s t u C m sb (a1, a2) (b1, b2) false (k + 1) w') := Lib.hid (Pt.step (V' := w') hst.out hlt (by omega) hN' ((Stp.of_below hbD).trans hS'))
          clear hst hbV hBV hbD hm' hN hc1 hN' hS' hp hq e1 e2
          go_wp2_with fail
          go_region_law (fail)
          all_goals
            go_wp2_with fail
            first
            | exact ⟨⟨k + 1, by omega, rfl, HN⟩, by simp only [intOf]; omega⟩
            | (go_roundw
               case rel => exact ⟨k + 1, by omega, rfl, HN⟩
               case measure => simp only [intOf]; omega)
      · have hk2 : k = 2 := by omega
        have d3 : decide ((k : Int) < 2) = false := decide_eq_false (by omega)
        have HE : Hid (∃ m', m' ≤ m + 2 ∧ Hid (NI F wr nb P s t u (partC C (a1, a2) (b1, b2) cut 2) m' ∧ Stp F w F wr)) := Lib.hid (by
          obtain ⟨⟨m', h1, h2⟩, h3, _⟩ := hst.out
          rw [hk2] at h1 h2
          exact ⟨m', h1, Lib.hid ⟨h2, h3⟩⟩)
        clear hst hk2
        go_wp2_with fail
        exact bodyPost_end (v := .tuple #[]) (results_none rfl _ _ _) rfl ⟨rfl, HE.out⟩
end
end Net
end Go.Proofs.Ytinbaiblbbfnnaa
