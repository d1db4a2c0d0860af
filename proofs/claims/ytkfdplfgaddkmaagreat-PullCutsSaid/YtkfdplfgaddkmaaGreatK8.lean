/-
  Several texts of this family in one: SpanRightRef, SpanJoinRef, Stp.
-/
import Derived.Test.YtkfdplfgaddkmaaGreatK2
import Derived.Deep.RegionHeld3
import Derived.Deep.DrawnRows
import Derived.IntWalk
import Derived.Test.YtkfdplfgaddkmaaGreatK3
/-
 firthref03.Right tells whether a list is right.
-/
namespace Go.Proofs.YtkfdplfgaddkmaaGreat
namespace Span
open Go.RowKit
attribute [local go_sem ↓] Go.wp_at_zero Go.wp_at_succ

theorem refDot_yes (x y : Int) (h : okDot (x, y)) (w : World) : Calls Tryz.prog 127 #[.agg #[.int .i64 x, .int .i64 y]] w fun e w' => e = .returned (.bool true) ∧ Below w.heap.size w w' := by
 have := refDot_is (x, y) w
 rwa [decide_eq_true h] at this
theorem refDot_no (x y : Int) (h : ¬ okDot (x, y)) (w : World) : Calls Tryz.prog 127 #[.agg #[.int .i64 x, .int .i64 y]] w fun e w' => e = .returned (.bool false) ∧ Below w.heap.size w w' := by
 have := refDot_is (x, y) w
 rwa [decide_eq_false h] at this

set_option maxHeartbeats 2000000 in
set_option maxRecDepth 100000 in
theorem ref_right_any (A : Option Addr) (c n : Nat) (l : List Sp) (hn : l.length = n) (w : World) (hr : Ss w w.heap.size A l) (hbig : n ≤ 140737488355328) :
  Calls Tryz.prog 128 #[.slice A n c] w fun e w' => e = .returned (.bool (decide (Right l))) ∧ Below w.heap.size w w' := by
 by_cases hlong : 1024 < n
 ·have hres := Lib.hid (show decide (Right l) = false from decide_eq_false fun h => by have := h.1; omega)
  clear hr hn
  go_enter Tryz.func128, Tryz.ntmps128
  go_wp2
  go_ret
  exact ⟨by rw [hres.out]; rfl, Below.refl _ _⟩
 ·go_enter Tryz.func128, Tryz.ntmps128
  go_wp2
  go_loopw [3] (fun q wr => ∃ k : Nat, k ≤ n ∧ q = .int .i64 k ∧ Below w.heap.size w wr ∧ Hid (Fine (l.take k))) (fun q _ => n - (intOf q).toNat)
  case atStart => exact ⟨0, by omega, rfl, Below.refl _ _, fine_nil⟩
  case round =>
   obtain ⟨k, hk, rfl, hb, hst⟩ := hrel
   by_cases hlt : k < n
   ·obtain ⟨b, off, rfl, hbB, hc⟩ := hr (by omega)
    obtain ⟨c0, c1, c2⟩ := hc k (by omega)
    have d0 := (hb.cell (p := ⟨b, off + k * 3, none⟩) (by exact hbB)).trans c0
    have d1 := (hb.cell (p := ⟨b, off + k * 3 + 1, none⟩) (by exact hbB)).trans c1
    have d2 := (hb.cell (p := ⟨b, off + k * 3 + 2, none⟩) (by exact hbB)).trans c2
    obtain ⟨⟨x0, x1, x2⟩, hx⟩ : ∃ x, l.getD k (0, 0, 0) = x := ⟨_, rfl⟩
    rw [hx] at d0 d1 d2
    simp only at d0 d1 d2
    have hbs := hb.size
    have hbl : b < wr.heap.size := by omega
    have r0 : (0 : Int) ≤ (k : Int) := by omega
    have r1 : (k : Int) < (n : Int) := by omega
    have hbad : ¬ okSp (x0, x1, x2) → decide (Right l) = false := fun h => decide_eq_false fun hR => fine_not_ok (by omega) hx h hR.2
    by_cases h1 : okDot (x0, x1)
    ·have H1 := Lib.hid (refDot_yes x0 x1 h1)
     by_cases h2 : okDot (x0, x2)
     ·have H2 := Lib.hid (refDot_yes x0 x2 h2)
      by_cases h3 : x1 ≤ x2
      ·have hok : okSp (x0, x1, x2) := by unfold okDot at h1 h2; unfold okSp; simp only at h1 h2 ⊢; omega
       have h4 : decide (x2 < x1) = false := decide_eq_false (by omega)
       have hf' := hst.out
       have hx1 : 1 ≤ x1 ∧ x1 ≤ 4611686018427387904 := ⟨h1.2.2.1, h1.2.2.2⟩
       have HC := Lib.hid hc
       have HX := Lib.hid hx
       have HF := Lib.hid hf'
       have HO := Lib.hid hok
       clear hr hc c0 c1 c2 hx hst h1 h2 hbad hf' hok
       go_wp2
       go_region_held3 (fun W => W.cell? ⟨b, off + k * 3, none⟩ = some (.int .i64 x0) ∧ W.cell? ⟨b, off + k * 3 + 1, none⟩ = some (.int .i64 x1) ∧ W.cell? ⟨b, off + k * 3 + 2, none⟩ = some (.int .i64 x2)) (first
         | exact ⟨d0, d1, d2⟩
         | exact ⟨cell_below b2 (Nat.lt_of_lt_of_le hbl b1.size) (cell_below b1 hbl d0), cell_below b2 (Nat.lt_of_lt_of_le hbl b1.size) (cell_below b1 hbl d1), cell_below b2 (Nat.lt_of_lt_of_le hbl b1.size) (cell_below b1 hbl d2)⟩
         | exact ⟨cell_below b1 hbl d0, cell_below b1 hbl d1, cell_below b1 hbl d2⟩)
        (first
         | (go_at_call 127; refine (H1.out _).mono ?_; rintro e w1 ⟨rfl, b1⟩; clear H1)
         | (go_at_call 127; refine (H2.out _).mono ?_; rintro e w2 ⟨rfl, b2⟩))
       have hbE := hb.drew.trans (Below.mono (b1.trans (b2.mono b1.size)) hbs)
       have hbs2 : w.heap.size ≤ w2.heap.size := hbE.size
       have d0' := cell_below b2 (Nat.lt_of_lt_of_le hbl b1.size) (cell_below b1 hbl d0)
       have d1' := cell_below b2 (Nat.lt_of_lt_of_le hbl b1.size) (cell_below b1 hbl d1)
       clear b1 b2 hb d0 d1 d2
       by_cases h0 : 0 < k
       ·obtain ⟨p0, _, p2⟩ := HC.out (k - 1) (by omega)
        have f0 := (hbE.cell (p := ⟨b, off + (k - 1) * 3, none⟩) (by exact hbB)).trans p0
        have f2 := (hbE.cell (p := ⟨b, off + (k - 1) * 3 + 2, none⟩) (by exact hbB)).trans p2
        obtain ⟨⟨y0, y1, y2⟩, hy⟩ : ∃ y, l.getD (k - 1) (0, 0, 0) = y := ⟨_, rfl⟩
        rw [hy] at f0 f2
        simp only at f0 f2
        have HY1 := Lib.hid (fun h : apart (y0, y1, y2) (x0, x1, x2) => fine_step (by omega) HX.out HF.out HO.out fun _ => hy ▸ h)
        have HY2 := Lib.hid (fun h : ¬ apart (y0, y1, y2) (x0, x1, x2) => (show decide (Right l) = false from decide_eq_false fun hR => fine_not_apart (by omega) HX.out h0 (hy ▸ h) hR.2))
        clear HC HX HF HO hy p0 p2
        have e0 : ((k : Int) - 1).toNat = k - 1 := by omega
        have e1 : (0 : Int) ≤ (k : Int) - 1 := by omega
        have e2 : (k : Int) - 1 < (n : Int) := by omega
        have e5 : (1 : Int) ≤ (k : Int) := by omega
        have e6 : (k : Int) ≤ (n : Int) := by omega
        have e7 : 1 ≤ k := by omega
        have e8 : ((k : Int) - 1 < (n : Int)) = True := eq_true (by omega)
        have e9 : (0 ≤ (k : Int) - 1) = True := eq_true (by omega)
        have e3 : decide ((0 : Int) < (k : Int)) = true := decide_eq_true (by omega)
        have e4 : IntKind.i64.wrap ((k : Int) - 1) = (k : Int) - 1 := IntWalk.i64_in _ (by omega)
        have e10 : IntKind.i64.wrap (x1 - 1) = x1 - 1 := IntWalk.i64_in _ (by omega)
        rcases Int.lt_trichotomy x0 y0 with hlt0 | rfl | hgt0
        ·have hres := Lib.hid (HY2.out (by unfold apart; simp only; omega))
         have g1 : decide (x0 < y0) = true := decide_eq_true hlt0
         clear HY1 HY2
         go_wp2
         go_quiet (fail)
         go_wp2
         go_ret
         exact ⟨by rw [hres.out]; rfl, hbE.trans (Span.below_drewN _ _ _)⟩
        ·have g1 : decide (x0 < x0) = false := decide_eq_false (by omega)
         have g2 : (x0 == x0) = true := by simp
         by_cases hto : x1 - 1 ≤ y2
         ·have hres := Lib.hid (HY2.out (by unfold apart; simp only; omega))
          have g3 : decide (x1 - 1 ≤ y2) = true := decide_eq_true hto
          clear HY1 HY2
          go_wp2
          go_quiet (fail)
          go_wp2
          go_ret
          exact ⟨by rw [hres.out]; rfl, hbE.trans (Span.below_drewN _ _ _)⟩
         ·have hres := Lib.hid (HY1.out (Or.inr ⟨rfl, by show y2 + 1 < x1; omega⟩))
          have g3 : decide (x1 - 1 ≤ y2) = false := decide_eq_false hto
          clear HY1 HY2
          go_wp2
          go_quiet (fail)
          go_wp2
          exact ⟨⟨k + 1, by omega, rfl, hbE.trans (Span.below_drewN _ _ _), hres⟩, by simp only [intOf]; omega⟩
        ·have hres := Lib.hid (HY1.out (by unfold apart; simp only; omega))
         have g1 : decide (x0 < y0) = false := decide_eq_false (by omega)
         have g2 : (x0 == y0) = false := by simp; omega
         clear HY1 HY2
         go_wp2
         go_quiet (fail)
         go_wp2
         exact ⟨⟨k + 1, by omega, rfl, hbE.trans (Span.below_drewN _ _ _), hres⟩, by simp only [intOf]; omega⟩
       ·have hres := Lib.hid (fine_step (by omega) HX.out HF.out HO.out (fun h => absurd h h0))
        have e3 : decide ((0 : Int) < (k : Int)) = false := decide_eq_false (by omega)
        clear HC HX HF HO
        go_wp2
        go_quiet (fail)
        go_wp2
        exact ⟨⟨k + 1, by omega, rfl, hbE.trans (Span.below_drewN _ _ _), hres⟩, by simp only [intOf]; omega⟩
      ·have hres := Lib.hid (hbad fun h => by unfold okSp at h; simp only at h; omega)
       have h4 : decide (x2 < x1) = true := decide_eq_true (by omega)
       clear hr hc c0 c1 c2 hx hst hn h1 h2 hbad
       go_wp2
       go_region_held3 (fun W => W.cell? ⟨b, off + k * 3, none⟩ = some (.int .i64 x0) ∧ W.cell? ⟨b, off + k * 3 + 1, none⟩ = some (.int .i64 x1) ∧ W.cell? ⟨b, off + k * 3 + 2, none⟩ = some (.int .i64 x2)) (first
         | exact ⟨d0, d1, d2⟩
         | exact ⟨cell_below b2 (Nat.lt_of_lt_of_le hbl b1.size) (cell_below b1 hbl d0), cell_below b2 (Nat.lt_of_lt_of_le hbl b1.size) (cell_below b1 hbl d1), cell_below b2 (Nat.lt_of_lt_of_le hbl b1.size) (cell_below b1 hbl d2)⟩
         | exact ⟨cell_below b1 hbl d0, cell_below b1 hbl d1, cell_below b1 hbl d2⟩)
        (first
         | (go_at_call 127; refine (H1.out _).mono ?_; rintro e w1 ⟨rfl, b1⟩; clear H1)
         | (go_at_call 127; refine (H2.out _).mono ?_; rintro e w2 ⟨rfl, b2⟩))
       have hbE := hb.drew.trans (Below.mono (b1.trans (b2.mono b1.size)) hbs)
       go_wp2
       go_ret
       exact ⟨by rw [hres.out]; rfl, hbE⟩
     ·have H2 := Lib.hid (refDot_no x0 x2 h2)
      have hres := Lib.hid (hbad fun h => h2 (by unfold okSp at h; unfold okDot; simp only at h ⊢; omega))
      clear hr hc c0 c1 c2 hx hst hn h1 h2 hbad
      go_wp2
      refine wp_region_held_drew (S := (fun W => W.cell? ⟨b, off + k * 3, none⟩ = some (.int .i64 x0) ∧ W.cell? ⟨b, off + k * 3 + 1, none⟩ = some (.int .i64 x1) ∧ W.cell? ⟨b, off + k * 3 + 2, none⟩ = some (.int .i64 x2))) (by kernel_rfl) ⟨d0, d1, d2⟩ (fun hHeld => ?_)
      refine wpAnyH_take (i := 0) (oi := { dst := some 13, op := Op.move (Operand.tmp 0), type := 117, pos := "ref.go:22", after := #[], guard := none }) (v := ?v1) rfl (by kernel_rfl) (by kernel_rfl) (by kernel_rfl) (fun _ _ _ h => h) (Or.inl ⟨by rfl, ?hy1⟩) (by assumption) ?rest1
      case hy1 =>
       intro w hSw
       (try dsimp only at hSw)
       go_simp
       (try with_reducible rfl)
      (try simp only [Act.put, List.setIfInBounds_toArray, List.set_cons_zero, List.set_cons_succ])
      refine wpAnyH_take (i := 1) (oi := { dst := some 14, op := Op.move (Operand.tmp 3), type := 3, pos := "ref.go:22", after := #[], guard := none }) (v := ?v2) rfl (by kernel_rfl) (by kernel_rfl) (by kernel_rfl) (fun _ _ _ h => h) (Or.inl ⟨by rfl, ?hy2⟩) (by assumption) ?rest2
      case hy2 =>
       intro w hSw
       (try dsimp only at hSw)
       go_simp
       (try with_reducible rfl)
      (try simp only [Act.put, List.setIfInBounds_toArray, List.set_cons_zero, List.set_cons_succ])
      refine wpAnyH_take (i := 2) (oi := { dst := some 15, op := Op.indexAddr 117 (Operand.tmp 13) (Operand.tmp 14), type := 0, pos := "ref.go:22", after := #[{ on := 0, ground := Ground.data }, { on := 1, ground := Ground.data }], guard := none }) (v := ?v3) rfl (by kernel_rfl) (by kernel_rfl) (by kernel_rfl) (fun _ _ _ h => h) (Or.inl ⟨by rfl, ?hy3⟩) (by assumption) ?rest3
      case hy3 =>
       intro w hSw
       (try dsimp only at hSw)
       go_simp
       (try with_reducible rfl)
      (try simp only [Act.put, List.setIfInBounds_toArray, List.set_cons_zero, List.set_cons_succ])
      refine wpAnyH_take (i := 3) (oi := { dst := some 16, op := Op.fieldAddr 121 (Operand.tmp 15) 0, type := 0, pos := "ref.go:22", after := #[{ on := 2, ground := Ground.data }], guard := none }) (v := ?v4) rfl (by kernel_rfl) (by kernel_rfl) (by kernel_rfl) (fun _ _ _ h => h) (Or.inl ⟨by rfl, ?hy4⟩) (by assumption) ?rest4
      case hy4 =>
       intro w hSw
       (try dsimp only at hSw)
       go_simp
       (try with_reducible rfl)
      (try simp only [Act.put, List.setIfInBounds_toArray, List.set_cons_zero, List.set_cons_succ])
      refine wpAnyH_take (i := 4) (oi := { dst := some 17, op := Op.load 3 (Operand.tmp 16), type := 3, pos := "ref.go:22", after := #[{ on := 3, ground := Ground.data }], guard := none }) (v := ?v5) rfl (by kernel_rfl) (by kernel_rfl) (by kernel_rfl) (fun _ _ _ h => h) (Or.inl ⟨by rfl, ?hy5⟩) (by assumption) ?rest5
      case hy5 =>
       intro w hSw
       (try dsimp only at hSw)
       go_simp
       (try with_reducible rfl)
      (try simp only [Act.put, List.setIfInBounds_toArray, List.set_cons_zero, List.set_cons_succ])
      refine wpAnyH_take (i := 5) (oi := { dst := some 18, op := Op.move (Operand.tmp 0), type := 117, pos := "ref.go:22", after := #[], guard := none }) (v := ?v6) rfl (by kernel_rfl) (by kernel_rfl) (by kernel_rfl) (fun _ _ _ h => h) (Or.inl ⟨by rfl, ?hy6⟩) (by assumption) ?rest6
      case hy6 =>
       intro w hSw
       (try dsimp only at hSw)
       go_simp
       (try with_reducible rfl)
      (try simp only [Act.put, List.setIfInBounds_toArray, List.set_cons_zero, List.set_cons_succ])
      refine wpAnyH_take (i := 6) (oi := { dst := some 19, op := Op.move (Operand.tmp 3), type := 3, pos := "ref.go:22", after := #[], guard := none }) (v := ?v7) rfl (by kernel_rfl) (by kernel_rfl) (by kernel_rfl) (fun _ _ _ h => h) (Or.inl ⟨by rfl, ?hy7⟩) (by assumption) ?rest7
      case hy7 =>
       intro w hSw
       (try dsimp only at hSw)
       go_simp
       (try with_reducible rfl)
      (try simp only [Act.put, List.setIfInBounds_toArray, List.set_cons_zero, List.set_cons_succ])
      refine wpAnyH_take (i := 7) (oi := { dst := some 20, op := Op.indexAddr 117 (Operand.tmp 18) (Operand.tmp 19), type := 0, pos := "ref.go:22", after := #[{ on := 5, ground := Ground.data }, { on := 6, ground := Ground.data }], guard := none }) (v := ?v8) rfl (by kernel_rfl) (by kernel_rfl) (by kernel_rfl) (fun _ _ _ h => h) (Or.inl ⟨by rfl, ?hy8⟩) (by assumption) ?rest8
      case hy8 =>
       intro w hSw
       (try dsimp only at hSw)
       go_simp
       (try with_reducible rfl)
      (try simp only [Act.put, List.setIfInBounds_toArray, List.set_cons_zero, List.set_cons_succ])
      refine wpAnyH_take (i := 8) (oi := { dst := some 21, op := Op.fieldAddr 121 (Operand.tmp 20) 1, type := 0, pos := "ref.go:22", after := #[{ on := 7, ground := Ground.data }], guard := none }) (v := ?v9) rfl (by kernel_rfl) (by kernel_rfl) (by kernel_rfl) (fun _ _ _ h => h) (Or.inl ⟨by rfl, ?hy9⟩) (by assumption) ?rest9
      case hy9 =>
       intro w hSw
       (try dsimp only at hSw)
       go_simp
       (try with_reducible rfl)
      (try simp only [Act.put, List.setIfInBounds_toArray, List.set_cons_zero, List.set_cons_succ])
      refine wpAnyH_take (i := 9) (oi := { dst := some 22, op := Op.load 2 (Operand.tmp 21), type := 2, pos := "ref.go:22", after := #[{ on := 8, ground := Ground.data }], guard := none }) (v := ?v10) rfl (by kernel_rfl) (by kernel_rfl) (by kernel_rfl) (fun _ _ _ h => h) (Or.inl ⟨by rfl, ?hy10⟩) (by assumption) ?rest10
      case hy10 =>
       intro w hSw
       (try dsimp only at hSw)
       go_simp
       (try with_reducible rfl)
      (try simp only [Act.put, List.setIfInBounds_toArray, List.set_cons_zero, List.set_cons_succ])
      refine wpAnyH_take (i := 10) (oi := { dst := some 23, op := Op.build 116 #[(0, Operand.tmp 17), (1, Operand.tmp 22)], type := 116, pos := "ref.go:22", after := #[{ on := 4, ground := Ground.data }, { on := 9, ground := Ground.data }], guard := none }) (v := ?v11) rfl (by kernel_rfl) (by kernel_rfl) (by kernel_rfl) (fun _ _ _ h => h) (Or.inl ⟨by rfl, ?hy11⟩) (by assumption) ?rest11
      case hy11 =>
       intro w hSw
       (try dsimp only at hSw)
       go_simp
       (try with_reducible rfl)
      (try simp only [Act.put, List.setIfInBounds_toArray, List.set_cons_zero, List.set_cons_succ])
      refine wpAnyH_ready (rs := [11]) (by kernel_rfl) (by simp) ?_
      refine AllReadyH.cons (o := { dst := some 24, op := Op.call { callee := Callee.value (Operand.func 127), args := #[Operand.tmp 23], argTypes := #[116] }, type := 4, pos := "ref.go:22", after := #[{ on := 10, ground := Ground.data }], guard := none }) rfl (fun K hK => ?_) AllReadyH.nil
      go_simp
      (go_at_call 127; refine (H1.out _).mono ?_; rintro e w1 ⟨rfl, b1⟩; clear H1)
      go_wp2_with fail
      refine hK.out _ _ ⟨cell_below b1 hbl d0, cell_below b1 hbl d1, cell_below b1 hbl d2⟩ (fun hHeld => ?_)
      clear hK K
      (try simp only [Act.put, List.setIfInBounds_toArray, List.set_cons_zero, List.set_cons_succ])
      refine wpAnyH_take (i := 12) (oi := { dst := some 25, op := Op.unOp UnOp.not 4 (Operand.tmp 24), type := 4, pos := "ref.go:22", after := #[{ on := 11, ground := Ground.data }], guard := none }) (v := ?v12) rfl (by kernel_rfl) (by kernel_rfl) (by kernel_rfl) (fun _ _ _ h => h) (Or.inl ⟨by rfl, ?hy12⟩) (by assumption) ?rest12
      case hy12 =>
       intro w hSw
       (try dsimp only at hSw)
       go_simp
       (try with_reducible rfl)
      (try simp only [Act.put, List.setIfInBounds_toArray, List.set_cons_zero, List.set_cons_succ])
      refine wpAnyH_take (i := 13) (oi := { dst := some 26, op := Op.move (Operand.tmp 25), type := 4, pos := "ref.go:22", after := #[{ on := 12, ground := Ground.data }, { on := 11, ground := Ground.chain }], guard := none }) (v := ?v13) rfl (by kernel_rfl) (by kernel_rfl) (by kernel_rfl) (fun _ _ _ h => h) (Or.inl ⟨by rfl, ?hy13⟩) (by assumption) ?rest13
      case hy13 =>
       intro w hSw
       (try dsimp only at hSw)
       go_simp
       (try with_reducible rfl)
      (try simp only [Act.put, List.setIfInBounds_toArray, List.set_cons_zero, List.set_cons_succ])
      refine wpAnyH_take (i := 14) (oi := { dst := some 27, op := Op.move (Operand.tmp 0), type := 117, pos := "ref.go:22", after := #[{ on := 13, ground := Ground.guard }], guard := some (13, false) }) (v := ?v14) rfl (by kernel_rfl) (by kernel_rfl) (by kernel_rfl) (fun _ _ _ h => h) (Or.inl ⟨by rfl, ?hy14⟩) (by assumption) ?rest14
      case hy14 =>
       intro w hSw
       (try dsimp only at hSw)
       go_simp
       (try with_reducible rfl)
      (try simp only [Act.put, List.setIfInBounds_toArray, List.set_cons_zero, List.set_cons_succ])
      refine wpAnyH_take (i := 15) (oi := { dst := some 28, op := Op.move (Operand.tmp 3), type := 3, pos := "ref.go:22", after := #[{ on := 13, ground := Ground.guard }], guard := some (13, false) }) (v := ?v15) rfl (by kernel_rfl) (by kernel_rfl) (by kernel_rfl) (fun _ _ _ h => h) (Or.inl ⟨by rfl, ?hy15⟩) (by assumption) ?rest15
      case hy15 =>
       intro w hSw
       (try dsimp only at hSw)
       go_simp
       (try with_reducible rfl)
      (try simp only [Act.put, List.setIfInBounds_toArray, List.set_cons_zero, List.set_cons_succ])
      refine wpAnyH_take (i := 16) (oi := { dst := some 29, op := Op.indexAddr 117 (Operand.tmp 27) (Operand.tmp 28), type := 0, pos := "ref.go:22", after := #[{ on := 14, ground := Ground.data }, { on := 15, ground := Ground.data }, { on := 13, ground := Ground.guard }], guard := some (13, false) }) (v := ?v16) rfl (by kernel_rfl) (by kernel_rfl) (by kernel_rfl) (fun _ _ _ h => h) (Or.inl ⟨by rfl, ?hy16⟩) (by assumption) ?rest16
      case hy16 =>
       intro w hSw
       (try dsimp only at hSw)
       go_simp
       (try with_reducible rfl)
      (try simp only [Act.put, List.setIfInBounds_toArray, List.set_cons_zero, List.set_cons_succ])
      refine wpAnyH_take (i := 17) (oi := { dst := some 30, op := Op.fieldAddr 121 (Operand.tmp 29) 0, type := 0, pos := "ref.go:22", after := #[{ on := 16, ground := Ground.data }, { on := 13, ground := Ground.guard }], guard := some (13, false) }) (v := ?v17) rfl (by kernel_rfl) (by kernel_rfl) (by kernel_rfl) (fun _ _ _ h => h) (Or.inl ⟨by rfl, ?hy17⟩) (by assumption) ?rest17
      case hy17 =>
       intro w hSw
       (try dsimp only at hSw)
       go_simp
       (try with_reducible rfl)
      (try simp only [Act.put, List.setIfInBounds_toArray, List.set_cons_zero, List.set_cons_succ])
      refine wpAnyH_take (i := 18) (oi := { dst := some 31, op := Op.load 3 (Operand.tmp 30), type := 3, pos := "ref.go:22", after := #[{ on := 17, ground := Ground.data }, { on := 13, ground := Ground.guard }], guard := some (13, false) }) (v := ?v18) rfl (by kernel_rfl) (by kernel_rfl) (by kernel_rfl) (fun _ _ _ h => h) (Or.inl ⟨by rfl, ?hy18⟩) (by assumption) ?rest18
      case hy18 =>
       intro w hSw
       (try dsimp only at hSw)
       go_simp
       (try with_reducible rfl)
      (try simp only [Act.put, List.setIfInBounds_toArray, List.set_cons_zero, List.set_cons_succ])
      refine wpAnyH_take (i := 19) (oi := { dst := some 32, op := Op.move (Operand.tmp 0), type := 117, pos := "ref.go:22", after := #[{ on := 13, ground := Ground.guard }], guard := some (13, false) }) (v := ?v19) rfl (by kernel_rfl) (by kernel_rfl) (by kernel_rfl) (fun _ _ _ h => h) (Or.inl ⟨by rfl, ?hy19⟩) (by assumption) ?rest19
      case hy19 =>
       intro w hSw
       (try dsimp only at hSw)
       go_simp
       (try with_reducible rfl)
      (try simp only [Act.put, List.setIfInBounds_toArray, List.set_cons_zero, List.set_cons_succ])
      refine wpAnyH_take (i := 20) (oi := { dst := some 33, op := Op.move (Operand.tmp 3), type := 3, pos := "ref.go:22", after := #[{ on := 13, ground := Ground.guard }], guard := some (13, false) }) (v := ?v20) rfl (by kernel_rfl) (by kernel_rfl) (by kernel_rfl) (fun _ _ _ h => h) (Or.inl ⟨by rfl, ?hy20⟩) (by assumption) ?rest20
      case hy20 =>
       intro w hSw
       (try dsimp only at hSw)
       go_simp
       (try with_reducible rfl)
      (try simp only [Act.put, List.setIfInBounds_toArray, List.set_cons_zero, List.set_cons_succ])
      refine wpAnyH_take (i := 21) (oi := { dst := some 34, op := Op.indexAddr 117 (Operand.tmp 32) (Operand.tmp 33), type := 0, pos := "ref.go:22", after := #[{ on := 19, ground := Ground.data }, { on := 20, ground := Ground.data }, { on := 13, ground := Ground.guard }], guard := some (13, false) }) (v := ?v21) rfl (by kernel_rfl) (by kernel_rfl) (by kernel_rfl) (fun _ _ _ h => h) (Or.inl ⟨by rfl, ?hy21⟩) (by assumption) ?rest21
      case hy21 =>
       intro w hSw
       (try dsimp only at hSw)
       go_simp
       (try with_reducible rfl)
      (try simp only [Act.put, List.setIfInBounds_toArray, List.set_cons_zero, List.set_cons_succ])
      refine wpAnyH_take (i := 22) (oi := { dst := some 35, op := Op.fieldAddr 121 (Operand.tmp 34) 2, type := 0, pos := "ref.go:22", after := #[{ on := 21, ground := Ground.data }, { on := 13, ground := Ground.guard }], guard := some (13, false) }) (v := ?v22) rfl (by kernel_rfl) (by kernel_rfl) (by kernel_rfl) (fun _ _ _ h => h) (Or.inl ⟨by rfl, ?hy22⟩) (by assumption) ?rest22
      case hy22 =>
       intro w hSw
       (try dsimp only at hSw)
       go_simp
       (try with_reducible rfl)
      (try simp only [Act.put, List.setIfInBounds_toArray, List.set_cons_zero, List.set_cons_succ])
      refine wpAnyH_take (i := 23) (oi := { dst := some 36, op := Op.load 2 (Operand.tmp 35), type := 2, pos := "ref.go:22", after := #[{ on := 22, ground := Ground.data }, { on := 13, ground := Ground.guard }], guard := some (13, false) }) (v := ?v23) rfl (by kernel_rfl) (by kernel_rfl) (by kernel_rfl) (fun _ _ _ h => h) (Or.inl ⟨by rfl, ?hy23⟩) (by assumption) ?rest23
      case hy23 =>
       intro w hSw
       (try dsimp only at hSw)
       go_simp
       (try with_reducible rfl)
      (try simp only [Act.put, List.setIfInBounds_toArray, List.set_cons_zero, List.set_cons_succ])
      refine wpAnyH_take (i := 24) (oi := { dst := some 37, op := Op.build 116 #[(0, Operand.tmp 31), (1, Operand.tmp 36)], type := 116, pos := "ref.go:22", after := #[{ on := 18, ground := Ground.data }, { on := 23, ground := Ground.data }, { on := 13, ground := Ground.guard }], guard := some (13, false) }) (v := ?v24) rfl (by kernel_rfl) (by kernel_rfl) (by kernel_rfl) (fun _ _ _ h => h) (Or.inl ⟨by rfl, ?hy24⟩) (by assumption) ?rest24
      case hy24 =>
       intro w hSw
       (try dsimp only at hSw)
       go_simp
       (try with_reducible rfl)
      (try simp only [Act.put, List.setIfInBounds_toArray, List.set_cons_zero, List.set_cons_succ])
      refine wpAnyH_ready (rs := [25]) (by kernel_rfl) (by simp) ?_
      refine AllReadyH.cons (o := { dst := some 38, op := Op.call { callee := Callee.value (Operand.func 127), args := #[Operand.tmp 37], argTypes := #[116] }, type := 4, pos := "ref.go:22", after := #[{ on := 24, ground := Ground.data }, { on := 13, ground := Ground.chain }, { on := 13, ground := Ground.guard }], guard := some (13, false) }) rfl (fun K hK => ?_) AllReadyH.nil
      go_simp
      (go_at_call 127; refine (H2.out _).mono ?_; rintro e w2 ⟨rfl, b2⟩; clear H2)
      go_wp2_with fail
      refine hK.out _ _ ⟨cell_below b2 (Nat.lt_of_lt_of_le hbl b1.size) (cell_below b1 hbl d0), cell_below b2 (Nat.lt_of_lt_of_le hbl b1.size) (cell_below b1 hbl d1), cell_below b2 (Nat.lt_of_lt_of_le hbl b1.size) (cell_below b1 hbl d2)⟩ (fun hHeld => ?_)
      clear hK K
      (try simp only [Act.put, List.setIfInBounds_toArray, List.set_cons_zero, List.set_cons_succ])
      refine wpAnyH_take (i := 26) (oi := { dst := some 39, op := Op.unOp UnOp.not 4 (Operand.tmp 38), type := 4, pos := "ref.go:22", after := #[{ on := 25, ground := Ground.data }, { on := 13, ground := Ground.guard }], guard := some (13, false) }) (v := ?v25) rfl (by kernel_rfl) (by kernel_rfl) (by kernel_rfl) (fun _ _ _ h => h) (Or.inl ⟨by rfl, ?hy25⟩) (by assumption) ?rest25
      case hy25 =>
       intro w hSw
       (try dsimp only at hSw)
       go_simp
       (try with_reducible rfl)
      (try simp only [Act.put, List.setIfInBounds_toArray, List.set_cons_zero, List.set_cons_succ])
      refine wpAnyH_take (i := 27) (oi := { dst := some 40, op := Op.pick (Operand.tmp 26) (Operand.const (Value.bool true)) (Operand.tmp 39), type := 4, pos := "ref.go:22", after := #[{ on := 13, ground := Ground.data }, { on := 26, ground := Ground.data }], guard := none }) (v := ?v26) rfl (by kernel_rfl) (by kernel_rfl) (by kernel_rfl) (fun _ _ _ h => h) (Or.inl ⟨by rfl, ?hy26⟩) (by assumption) ?rest26
      case hy26 =>
       intro w hSw
       (try dsimp only at hSw)
       go_simp
       (try with_reducible rfl)
      (try simp only [Act.put, List.setIfInBounds_toArray, List.set_cons_zero, List.set_cons_succ])
      refine wpAnyH_take (i := 28) (oi := { dst := some 41, op := Op.move (Operand.tmp 40), type := 4, pos := "ref.go:22", after := #[{ on := 27, ground := Ground.data }, { on := 25, ground := Ground.chain }], guard := none }) (v := ?v27) rfl (by kernel_rfl) (by kernel_rfl) (by kernel_rfl) (fun _ _ _ h => h) (Or.inl ⟨by rfl, ?hy27⟩) (by assumption) ?rest27
      case hy27 =>
       intro w hSw
       (try dsimp only at hSw)
       go_simp
       (try with_reducible rfl)
      (try simp only [Act.put, List.setIfInBounds_toArray, List.set_cons_zero, List.set_cons_succ])
      refine wpAnyH_take (i := 29) (oi := { dst := some 42, op := Op.move (Operand.tmp 0), type := 117, pos := "ref.go:22", after := #[{ on := 28, ground := Ground.guard }], guard := some (28, false) }) (v := undef) rfl (by kernel_rfl) (by kernel_rfl) (by kernel_rfl) (fun _ _ _ h => h) (Or.inr ⟨by rfl, rfl⟩) (by assumption) ?_
      (try simp only [Act.put, List.setIfInBounds_toArray, List.set_cons_zero, List.set_cons_succ])
      refine wpAnyH_take (i := 30) (oi := { dst := some 43, op := Op.move (Operand.tmp 3), type := 3, pos := "ref.go:22", after := #[{ on := 28, ground := Ground.guard }], guard := some (28, false) }) (v := undef) rfl (by kernel_rfl) (by kernel_rfl) (by kernel_rfl) (fun _ _ _ h => h) (Or.inr ⟨by rfl, rfl⟩) (by assumption) ?_
      (try simp only [Act.put, List.setIfInBounds_toArray, List.set_cons_zero, List.set_cons_succ])
      refine wpAnyH_take (i := 31) (oi := { dst := some 44, op := Op.indexAddr 117 (Operand.tmp 42) (Operand.tmp 43), type := 0, pos := "ref.go:22", after := #[{ on := 29, ground := Ground.data }, { on := 30, ground := Ground.data }, { on := 28, ground := Ground.guard }], guard := some (28, false) }) (v := undef) rfl (by kernel_rfl) (by kernel_rfl) (by kernel_rfl) (fun _ _ _ h => h) (Or.inr ⟨by rfl, rfl⟩) (by assumption) ?_
      (try simp only [Act.put, List.setIfInBounds_toArray, List.set_cons_zero, List.set_cons_succ])
      refine wpAnyH_take (i := 32) (oi := { dst := some 45, op := Op.fieldAddr 121 (Operand.tmp 44) 1, type := 0, pos := "ref.go:22", after := #[{ on := 31, ground := Ground.data }, { on := 28, ground := Ground.guard }], guard := some (28, false) }) (v := undef) rfl (by kernel_rfl) (by kernel_rfl) (by kernel_rfl) (fun _ _ _ h => h) (Or.inr ⟨by rfl, rfl⟩) (by assumption) ?_
      (try simp only [Act.put, List.setIfInBounds_toArray, List.set_cons_zero, List.set_cons_succ])
      refine wpAnyH_take (i := 33) (oi := { dst := some 46, op := Op.load 2 (Operand.tmp 45), type := 2, pos := "ref.go:22", after := #[{ on := 32, ground := Ground.data }, { on := 28, ground := Ground.guard }], guard := some (28, false) }) (v := undef) rfl (by kernel_rfl) (by kernel_rfl) (by kernel_rfl) (fun _ _ _ h => h) (Or.inr ⟨by rfl, rfl⟩) (by assumption) ?_
      (try simp only [Act.put, List.setIfInBounds_toArray, List.set_cons_zero, List.set_cons_succ])
      refine wpAnyH_take (i := 34) (oi := { dst := some 47, op := Op.move (Operand.tmp 0), type := 117, pos := "ref.go:22", after := #[{ on := 28, ground := Ground.guard }], guard := some (28, false) }) (v := undef) rfl (by kernel_rfl) (by kernel_rfl) (by kernel_rfl) (fun _ _ _ h => h) (Or.inr ⟨by rfl, rfl⟩) (by assumption) ?_
      (try simp only [Act.put, List.setIfInBounds_toArray, List.set_cons_zero, List.set_cons_succ])
      refine wpAnyH_take (i := 35) (oi := { dst := some 48, op := Op.move (Operand.tmp 3), type := 3, pos := "ref.go:22", after := #[{ on := 28, ground := Ground.guard }], guard := some (28, false) }) (v := undef) rfl (by kernel_rfl) (by kernel_rfl) (by kernel_rfl) (fun _ _ _ h => h) (Or.inr ⟨by rfl, rfl⟩) (by assumption) ?_
      (try simp only [Act.put, List.setIfInBounds_toArray, List.set_cons_zero, List.set_cons_succ])
      refine wpAnyH_take (i := 36) (oi := { dst := some 49, op := Op.indexAddr 117 (Operand.tmp 47) (Operand.tmp 48), type := 0, pos := "ref.go:22", after := #[{ on := 34, ground := Ground.data }, { on := 35, ground := Ground.data }, { on := 28, ground := Ground.guard }], guard := some (28, false) }) (v := undef) rfl (by kernel_rfl) (by kernel_rfl) (by kernel_rfl) (fun _ _ _ h => h) (Or.inr ⟨by rfl, rfl⟩) (by assumption) ?_
      (try simp only [Act.put, List.setIfInBounds_toArray, List.set_cons_zero, List.set_cons_succ])
      refine wpAnyH_take (i := 37) (oi := { dst := some 50, op := Op.fieldAddr 121 (Operand.tmp 49) 2, type := 0, pos := "ref.go:22", after := #[{ on := 36, ground := Ground.data }, { on := 28, ground := Ground.guard }], guard := some (28, false) }) (v := undef) rfl (by kernel_rfl) (by kernel_rfl) (by kernel_rfl) (fun _ _ _ h => h) (Or.inr ⟨by rfl, rfl⟩) (by assumption) ?_
      (try simp only [Act.put, List.setIfInBounds_toArray, List.set_cons_zero, List.set_cons_succ])
      refine wpAnyH_take (i := 38) (oi := { dst := some 51, op := Op.load 2 (Operand.tmp 50), type := 2, pos := "ref.go:22", after := #[{ on := 37, ground := Ground.data }, { on := 28, ground := Ground.guard }], guard := some (28, false) }) (v := undef) rfl (by kernel_rfl) (by kernel_rfl) (by kernel_rfl) (fun _ _ _ h => h) (Or.inr ⟨by rfl, rfl⟩) (by assumption) ?_
      (try simp only [Act.put, List.setIfInBounds_toArray, List.set_cons_zero, List.set_cons_succ])
      refine wpAnyH_take (i := 39) (oi := { dst := some 52, op := Op.binOp BinOp.gtr 2 (Operand.tmp 46) (Operand.tmp 51) 2, type := 4, pos := "ref.go:22", after := #[{ on := 33, ground := Ground.data }, { on := 38, ground := Ground.data }, { on := 28, ground := Ground.guard }], guard := some (28, false) }) (v := undef) rfl (by kernel_rfl) (by kernel_rfl) (by kernel_rfl) (fun _ _ _ h => h) (Or.inr ⟨by rfl, rfl⟩) (by assumption) ?_
      (try simp only [Act.put, List.setIfInBounds_toArray, List.set_cons_zero, List.set_cons_succ])
      refine wpAnyH_take (i := 40) (oi := { dst := some 53, op := Op.pick (Operand.tmp 41) (Operand.const (Value.bool true)) (Operand.tmp 52), type := 4, pos := "ref.go:22", after := #[{ on := 28, ground := Ground.data }, { on := 39, ground := Ground.data }], guard := none }) (v := ?v28) rfl (by kernel_rfl) (by kernel_rfl) (by kernel_rfl) (fun _ _ _ h => h) (Or.inl ⟨by rfl, ?hy28⟩) (by assumption) ?rest28
      case hy28 =>
       intro w hSw
       (try dsimp only at hSw)
       go_simp
       (try with_reducible rfl)
      (try simp only [Act.put, List.setIfInBounds_toArray, List.set_cons_zero, List.set_cons_succ])
      refine wpAnyH_done (by kernel_rfl) ?_ _
      have hbE := hb.drew.trans (Below.mono (b1.trans (b2.mono b1.size)) hbs)
      go_wp2
      go_ret
      exact ⟨by rw [hres.out]; rfl, hbE⟩
    ·have H1 := Lib.hid (refDot_no x0 x1 h1)
     have hres := Lib.hid (hbad fun h => h1 (by unfold okSp at h; unfold okDot; simp only at h ⊢; omega))
     clear hr hc c0 c1 c2 hx hst hn h1 hbad
     go_wp2
     refine wp_region_held_drew (S := (fun W => W.cell? ⟨b, off + k * 3, none⟩ = some (.int .i64 x0) ∧ W.cell? ⟨b, off + k * 3 + 1, none⟩ = some (.int .i64 x1) ∧ W.cell? ⟨b, off + k * 3 + 2, none⟩ = some (.int .i64 x2))) (by kernel_rfl) ⟨d0, d1, d2⟩ (fun hHeld => ?_)
     refine wpAnyH_take (i := 0) (oi := { dst := some 13, op := Op.move (Operand.tmp 0), type := 117, pos := "ref.go:22", after := #[], guard := none }) (v := ?v29) rfl (by kernel_rfl) (by kernel_rfl) (by kernel_rfl) (fun _ _ _ h => h) (Or.inl ⟨by rfl, ?hy29⟩) (by assumption) ?rest29
     case hy29 =>
      intro w hSw
      (try dsimp only at hSw)
      go_simp
      (try with_reducible rfl)
     (try simp only [Act.put, List.setIfInBounds_toArray, List.set_cons_zero, List.set_cons_succ])
     refine wpAnyH_take (i := 1) (oi := { dst := some 14, op := Op.move (Operand.tmp 3), type := 3, pos := "ref.go:22", after := #[], guard := none }) (v := ?v30) rfl (by kernel_rfl) (by kernel_rfl) (by kernel_rfl) (fun _ _ _ h => h) (Or.inl ⟨by rfl, ?hy30⟩) (by assumption) ?rest30
     case hy30 =>
      intro w hSw
      (try dsimp only at hSw)
      go_simp
      (try with_reducible rfl)
     (try simp only [Act.put, List.setIfInBounds_toArray, List.set_cons_zero, List.set_cons_succ])
     refine wpAnyH_take (i := 2) (oi := { dst := some 15, op := Op.indexAddr 117 (Operand.tmp 13) (Operand.tmp 14), type := 0, pos := "ref.go:22", after := #[{ on := 0, ground := Ground.data }, { on := 1, ground := Ground.data }], guard := none }) (v := ?v31) rfl (by kernel_rfl) (by kernel_rfl) (by kernel_rfl) (fun _ _ _ h => h) (Or.inl ⟨by rfl, ?hy31⟩) (by assumption) ?rest31
     case hy31 =>
      intro w hSw
      (try dsimp only at hSw)
      go_simp
      (try with_reducible rfl)
     (try simp only [Act.put, List.setIfInBounds_toArray, List.set_cons_zero, List.set_cons_succ])
     refine wpAnyH_take (i := 3) (oi := { dst := some 16, op := Op.fieldAddr 121 (Operand.tmp 15) 0, type := 0, pos := "ref.go:22", after := #[{ on := 2, ground := Ground.data }], guard := none }) (v := ?v32) rfl (by kernel_rfl) (by kernel_rfl) (by kernel_rfl) (fun _ _ _ h => h) (Or.inl ⟨by rfl, ?hy32⟩) (by assumption) ?rest32
     case hy32 =>
      intro w hSw
      (try dsimp only at hSw)
      go_simp
      (try with_reducible rfl)
     (try simp only [Act.put, List.setIfInBounds_toArray, List.set_cons_zero, List.set_cons_succ])
     refine wpAnyH_take (i := 4) (oi := { dst := some 17, op := Op.load 3 (Operand.tmp 16), type := 3, pos := "ref.go:22", after := #[{ on := 3, ground := Ground.data }], guard := none }) (v := ?v33) rfl (by kernel_rfl) (by kernel_rfl) (by kernel_rfl) (fun _ _ _ h => h) (Or.inl ⟨by rfl, ?hy33⟩) (by assumption) ?rest33
     case hy33 =>
      intro w hSw
      (try dsimp only at hSw)
      go_simp
      (try with_reducible rfl)
     (try simp only [Act.put, List.setIfInBounds_toArray, List.set_cons_zero, List.set_cons_succ])
     refine wpAnyH_take (i := 5) (oi := { dst := some 18, op := Op.move (Operand.tmp 0), type := 117, pos := "ref.go:22", after := #[], guard := none }) (v := ?v34) rfl (by kernel_rfl) (by kernel_rfl) (by kernel_rfl) (fun _ _ _ h => h) (Or.inl ⟨by rfl, ?hy34⟩) (by assumption) ?rest34
     case hy34 =>
      intro w hSw
      (try dsimp only at hSw)
      go_simp
      (try with_reducible rfl)
     (try simp only [Act.put, List.setIfInBounds_toArray, List.set_cons_zero, List.set_cons_succ])
     refine wpAnyH_take (i := 6) (oi := { dst := some 19, op := Op.move (Operand.tmp 3), type := 3, pos := "ref.go:22", after := #[], guard := none }) (v := ?v35) rfl (by kernel_rfl) (by kernel_rfl) (by kernel_rfl) (fun _ _ _ h => h) (Or.inl ⟨by rfl, ?hy35⟩) (by assumption) ?rest35
     case hy35 =>
      intro w hSw
      (try dsimp only at hSw)
      go_simp
      (try with_reducible rfl)
     (try simp only [Act.put, List.setIfInBounds_toArray, List.set_cons_zero, List.set_cons_succ])
     refine wpAnyH_take (i := 7) (oi := { dst := some 20, op := Op.indexAddr 117 (Operand.tmp 18) (Operand.tmp 19), type := 0, pos := "ref.go:22", after := #[{ on := 5, ground := Ground.data }, { on := 6, ground := Ground.data }], guard := none }) (v := ?v36) rfl (by kernel_rfl) (by kernel_rfl) (by kernel_rfl) (fun _ _ _ h => h) (Or.inl ⟨by rfl, ?hy36⟩) (by assumption) ?rest36
     case hy36 =>
      intro w hSw
      (try dsimp only at hSw)
      go_simp
      (try with_reducible rfl)
     (try simp only [Act.put, List.setIfInBounds_toArray, List.set_cons_zero, List.set_cons_succ])
     refine wpAnyH_take (i := 8) (oi := { dst := some 21, op := Op.fieldAddr 121 (Operand.tmp 20) 1, type := 0, pos := "ref.go:22", after := #[{ on := 7, ground := Ground.data }], guard := none }) (v := ?v37) rfl (by kernel_rfl) (by kernel_rfl) (by kernel_rfl) (fun _ _ _ h => h) (Or.inl ⟨by rfl, ?hy37⟩) (by assumption) ?rest37
     case hy37 =>
      intro w hSw
      (try dsimp only at hSw)
      go_simp
      (try with_reducible rfl)
     (try simp only [Act.put, List.setIfInBounds_toArray, List.set_cons_zero, List.set_cons_succ])
     refine wpAnyH_take (i := 9) (oi := { dst := some 22, op := Op.load 2 (Operand.tmp 21), type := 2, pos := "ref.go:22", after := #[{ on := 8, ground := Ground.data }], guard := none }) (v := ?v38) rfl (by kernel_rfl) (by kernel_rfl) (by kernel_rfl) (fun _ _ _ h => h) (Or.inl ⟨by rfl, ?hy38⟩) (by assumption) ?rest38
     case hy38 =>
      intro w hSw
      (try dsimp only at hSw)
      go_simp
      (try with_reducible rfl)
     (try simp only [Act.put, List.setIfInBounds_toArray, List.set_cons_zero, List.set_cons_succ])
     refine wpAnyH_take (i := 10) (oi := { dst := some 23, op := Op.build 116 #[(0, Operand.tmp 17), (1, Operand.tmp 22)], type := 116, pos := "ref.go:22", after := #[{ on := 4, ground := Ground.data }, { on := 9, ground := Ground.data }], guard := none }) (v := ?v39) rfl (by kernel_rfl) (by kernel_rfl) (by kernel_rfl) (fun _ _ _ h => h) (Or.inl ⟨by rfl, ?hy39⟩) (by assumption) ?rest39
     case hy39 =>
      intro w hSw
      (try dsimp only at hSw)
      go_simp
      (try with_reducible rfl)
     (try simp only [Act.put, List.setIfInBounds_toArray, List.set_cons_zero, List.set_cons_succ])
     refine wpAnyH_ready (rs := [11]) (by kernel_rfl) (by simp) ?_
     refine AllReadyH.cons (o := { dst := some 24, op := Op.call { callee := Callee.value (Operand.func 127), args := #[Operand.tmp 23], argTypes := #[116] }, type := 4, pos := "ref.go:22", after := #[{ on := 10, ground := Ground.data }], guard := none }) rfl (fun K hK => ?_) AllReadyH.nil
     go_simp
     (go_at_call 127; refine (H1.out _).mono ?_; rintro e w1 ⟨rfl, b1⟩; clear H1)
     go_wp2_with fail
     refine hK.out _ _ ⟨cell_below b1 hbl d0, cell_below b1 hbl d1, cell_below b1 hbl d2⟩ (fun hHeld => ?_)
     clear hK K
     (try simp only [Act.put, List.setIfInBounds_toArray, List.set_cons_zero, List.set_cons_succ])
     refine wpAnyH_take (i := 12) (oi := { dst := some 25, op := Op.unOp UnOp.not 4 (Operand.tmp 24), type := 4, pos := "ref.go:22", after := #[{ on := 11, ground := Ground.data }], guard := none }) (v := ?v40) rfl (by kernel_rfl) (by kernel_rfl) (by kernel_rfl) (fun _ _ _ h => h) (Or.inl ⟨by rfl, ?hy40⟩) (by assumption) ?rest40
     case hy40 =>
      intro w hSw
      (try dsimp only at hSw)
      go_simp
      (try with_reducible rfl)
     (try simp only [Act.put, List.setIfInBounds_toArray, List.set_cons_zero, List.set_cons_succ])
     refine wpAnyH_take (i := 13) (oi := { dst := some 26, op := Op.move (Operand.tmp 25), type := 4, pos := "ref.go:22", after := #[{ on := 12, ground := Ground.data }, { on := 11, ground := Ground.chain }], guard := none }) (v := ?v41) rfl (by kernel_rfl) (by kernel_rfl) (by kernel_rfl) (fun _ _ _ h => h) (Or.inl ⟨by rfl, ?hy41⟩) (by assumption) ?rest41
     case hy41 =>
      intro w hSw
      (try dsimp only at hSw)
      go_simp
      (try with_reducible rfl)
     (try simp only [Act.put, List.setIfInBounds_toArray, List.set_cons_zero, List.set_cons_succ])
     refine wpAnyH_take (i := 14) (oi := { dst := some 27, op := Op.move (Operand.tmp 0), type := 117, pos := "ref.go:22", after := #[{ on := 13, ground := Ground.guard }], guard := some (13, false) }) (v := undef) rfl (by kernel_rfl) (by kernel_rfl) (by kernel_rfl) (fun _ _ _ h => h) (Or.inr ⟨by rfl, rfl⟩) (by assumption) ?_
     (try simp only [Act.put, List.setIfInBounds_toArray, List.set_cons_zero, List.set_cons_succ])
     refine wpAnyH_take (i := 15) (oi := { dst := some 28, op := Op.move (Operand.tmp 3), type := 3, pos := "ref.go:22", after := #[{ on := 13, ground := Ground.guard }], guard := some (13, false) }) (v := undef) rfl (by kernel_rfl) (by kernel_rfl) (by kernel_rfl) (fun _ _ _ h => h) (Or.inr ⟨by rfl, rfl⟩) (by assumption) ?_
     (try simp only [Act.put, List.setIfInBounds_toArray, List.set_cons_zero, List.set_cons_succ])
     refine wpAnyH_take (i := 16) (oi := { dst := some 29, op := Op.indexAddr 117 (Operand.tmp 27) (Operand.tmp 28), type := 0, pos := "ref.go:22", after := #[{ on := 14, ground := Ground.data }, { on := 15, ground := Ground.data }, { on := 13, ground := Ground.guard }], guard := some (13, false) }) (v := undef) rfl (by kernel_rfl) (by kernel_rfl) (by kernel_rfl) (fun _ _ _ h => h) (Or.inr ⟨by rfl, rfl⟩) (by assumption) ?_
     (try simp only [Act.put, List.setIfInBounds_toArray, List.set_cons_zero, List.set_cons_succ])
     refine wpAnyH_take (i := 17) (oi := { dst := some 30, op := Op.fieldAddr 121 (Operand.tmp 29) 0, type := 0, pos := "ref.go:22", after := #[{ on := 16, ground := Ground.data }, { on := 13, ground := Ground.guard }], guard := some (13, false) }) (v := undef) rfl (by kernel_rfl) (by kernel_rfl) (by kernel_rfl) (fun _ _ _ h => h) (Or.inr ⟨by rfl, rfl⟩) (by assumption) ?_
     (try simp only [Act.put, List.setIfInBounds_toArray, List.set_cons_zero, List.set_cons_succ])
     refine wpAnyH_take (i := 18) (oi := { dst := some 31, op := Op.load 3 (Operand.tmp 30), type := 3, pos := "ref.go:22", after := #[{ on := 17, ground := Ground.data }, { on := 13, ground := Ground.guard }], guard := some (13, false) }) (v := undef) rfl (by kernel_rfl) (by kernel_rfl) (by kernel_rfl) (fun _ _ _ h => h) (Or.inr ⟨by rfl, rfl⟩) (by assumption) ?_
     (try simp only [Act.put, List.setIfInBounds_toArray, List.set_cons_zero, List.set_cons_succ])
     refine wpAnyH_take (i := 19) (oi := { dst := some 32, op := Op.move (Operand.tmp 0), type := 117, pos := "ref.go:22", after := #[{ on := 13, ground := Ground.guard }], guard := some (13, false) }) (v := undef) rfl (by kernel_rfl) (by kernel_rfl) (by kernel_rfl) (fun _ _ _ h => h) (Or.inr ⟨by rfl, rfl⟩) (by assumption) ?_
     (try simp only [Act.put, List.setIfInBounds_toArray, List.set_cons_zero, List.set_cons_succ])
     refine wpAnyH_take (i := 20) (oi := { dst := some 33, op := Op.move (Operand.tmp 3), type := 3, pos := "ref.go:22", after := #[{ on := 13, ground := Ground.guard }], guard := some (13, false) }) (v := undef) rfl (by kernel_rfl) (by kernel_rfl) (by kernel_rfl) (fun _ _ _ h => h) (Or.inr ⟨by rfl, rfl⟩) (by assumption) ?_
     (try simp only [Act.put, List.setIfInBounds_toArray, List.set_cons_zero, List.set_cons_succ])
     refine wpAnyH_take (i := 21) (oi := { dst := some 34, op := Op.indexAddr 117 (Operand.tmp 32) (Operand.tmp 33), type := 0, pos := "ref.go:22", after := #[{ on := 19, ground := Ground.data }, { on := 20, ground := Ground.data }, { on := 13, ground := Ground.guard }], guard := some (13, false) }) (v := undef) rfl (by kernel_rfl) (by kernel_rfl) (by kernel_rfl) (fun _ _ _ h => h) (Or.inr ⟨by rfl, rfl⟩) (by assumption) ?_
     (try simp only [Act.put, List.setIfInBounds_toArray, List.set_cons_zero, List.set_cons_succ])
     refine wpAnyH_take (i := 22) (oi := { dst := some 35, op := Op.fieldAddr 121 (Operand.tmp 34) 2, type := 0, pos := "ref.go:22", after := #[{ on := 21, ground := Ground.data }, { on := 13, ground := Ground.guard }], guard := some (13, false) }) (v := undef) rfl (by kernel_rfl) (by kernel_rfl) (by kernel_rfl) (fun _ _ _ h => h) (Or.inr ⟨by rfl, rfl⟩) (by assumption) ?_
     (try simp only [Act.put, List.setIfInBounds_toArray, List.set_cons_zero, List.set_cons_succ])
     refine wpAnyH_take (i := 23) (oi := { dst := some 36, op := Op.load 2 (Operand.tmp 35), type := 2, pos := "ref.go:22", after := #[{ on := 22, ground := Ground.data }, { on := 13, ground := Ground.guard }], guard := some (13, false) }) (v := undef) rfl (by kernel_rfl) (by kernel_rfl) (by kernel_rfl) (fun _ _ _ h => h) (Or.inr ⟨by rfl, rfl⟩) (by assumption) ?_
     (try simp only [Act.put, List.setIfInBounds_toArray, List.set_cons_zero, List.set_cons_succ])
     refine wpAnyH_take (i := 24) (oi := { dst := some 37, op := Op.build 116 #[(0, Operand.tmp 31), (1, Operand.tmp 36)], type := 116, pos := "ref.go:22", after := #[{ on := 18, ground := Ground.data }, { on := 23, ground := Ground.data }, { on := 13, ground := Ground.guard }], guard := some (13, false) }) (v := undef) rfl (by kernel_rfl) (by kernel_rfl) (by kernel_rfl) (fun _ _ _ h => h) (Or.inr ⟨by rfl, rfl⟩) (by assumption) ?_
     (try simp only [Act.put, List.setIfInBounds_toArray, List.set_cons_zero, List.set_cons_succ])
     refine wpAnyH_take (i := 25) (oi := { dst := some 38, op := Op.call { callee := Callee.value (Operand.func 127), args := #[Operand.tmp 37], argTypes := #[116] }, type := 4, pos := "ref.go:22", after := #[{ on := 24, ground := Ground.data }, { on := 13, ground := Ground.chain }, { on := 13, ground := Ground.guard }], guard := some (13, false) }) (v := undef) rfl (by kernel_rfl) (by kernel_rfl) (by kernel_rfl) (fun _ _ _ h => h) (Or.inr ⟨by rfl, rfl⟩) (by assumption) ?_
     (try simp only [Act.put, List.setIfInBounds_toArray, List.set_cons_zero, List.set_cons_succ])
     refine wpAnyH_take (i := 26) (oi := { dst := some 39, op := Op.unOp UnOp.not 4 (Operand.tmp 38), type := 4, pos := "ref.go:22", after := #[{ on := 25, ground := Ground.data }, { on := 13, ground := Ground.guard }], guard := some (13, false) }) (v := undef) rfl (by kernel_rfl) (by kernel_rfl) (by kernel_rfl) (fun _ _ _ h => h) (Or.inr ⟨by rfl, rfl⟩) (by assumption) ?_
     (try simp only [Act.put, List.setIfInBounds_toArray, List.set_cons_zero, List.set_cons_succ])
     refine wpAnyH_take (i := 27) (oi := { dst := some 40, op := Op.pick (Operand.tmp 26) (Operand.const (Value.bool true)) (Operand.tmp 39), type := 4, pos := "ref.go:22", after := #[{ on := 13, ground := Ground.data }, { on := 26, ground := Ground.data }], guard := none }) (v := ?v42) rfl (by kernel_rfl) (by kernel_rfl) (by kernel_rfl) (fun _ _ _ h => h) (Or.inl ⟨by rfl, ?hy42⟩) (by assumption) ?rest42
     case hy42 =>
      intro w hSw
      (try dsimp only at hSw)
      go_simp
      (try with_reducible rfl)
     (try simp only [Act.put, List.setIfInBounds_toArray, List.set_cons_zero, List.set_cons_succ])
     refine wpAnyH_take (i := 28) (oi := { dst := some 41, op := Op.move (Operand.tmp 40), type := 4, pos := "ref.go:22", after := #[{ on := 27, ground := Ground.data }, { on := 25, ground := Ground.chain }], guard := none }) (v := ?v43) rfl (by kernel_rfl) (by kernel_rfl) (by kernel_rfl) (fun _ _ _ h => h) (Or.inl ⟨by rfl, ?hy43⟩) (by assumption) ?rest43
     case hy43 =>
      intro w hSw
      (try dsimp only at hSw)
      go_simp
      (try with_reducible rfl)
     (try simp only [Act.put, List.setIfInBounds_toArray, List.set_cons_zero, List.set_cons_succ])
     refine wpAnyH_take (i := 29) (oi := { dst := some 42, op := Op.move (Operand.tmp 0), type := 117, pos := "ref.go:22", after := #[{ on := 28, ground := Ground.guard }], guard := some (28, false) }) (v := undef) rfl (by kernel_rfl) (by kernel_rfl) (by kernel_rfl) (fun _ _ _ h => h) (Or.inr ⟨by rfl, rfl⟩) (by assumption) ?_
     (try simp only [Act.put, List.setIfInBounds_toArray, List.set_cons_zero, List.set_cons_succ])
     refine wpAnyH_take (i := 30) (oi := { dst := some 43, op := Op.move (Operand.tmp 3), type := 3, pos := "ref.go:22", after := #[{ on := 28, ground := Ground.guard }], guard := some (28, false) }) (v := undef) rfl (by kernel_rfl) (by kernel_rfl) (by kernel_rfl) (fun _ _ _ h => h) (Or.inr ⟨by rfl, rfl⟩) (by assumption) ?_
     (try simp only [Act.put, List.setIfInBounds_toArray, List.set_cons_zero, List.set_cons_succ])
     refine wpAnyH_take (i := 31) (oi := { dst := some 44, op := Op.indexAddr 117 (Operand.tmp 42) (Operand.tmp 43), type := 0, pos := "ref.go:22", after := #[{ on := 29, ground := Ground.data }, { on := 30, ground := Ground.data }, { on := 28, ground := Ground.guard }], guard := some (28, false) }) (v := undef) rfl (by kernel_rfl) (by kernel_rfl) (by kernel_rfl) (fun _ _ _ h => h) (Or.inr ⟨by rfl, rfl⟩) (by assumption) ?_
     (try simp only [Act.put, List.setIfInBounds_toArray, List.set_cons_zero, List.set_cons_succ])
     refine wpAnyH_take (i := 32) (oi := { dst := some 45, op := Op.fieldAddr 121 (Operand.tmp 44) 1, type := 0, pos := "ref.go:22", after := #[{ on := 31, ground := Ground.data }, { on := 28, ground := Ground.guard }], guard := some (28, false) }) (v := undef) rfl (by kernel_rfl) (by kernel_rfl) (by kernel_rfl) (fun _ _ _ h => h) (Or.inr ⟨by rfl, rfl⟩) (by assumption) ?_
     (try simp only [Act.put, List.setIfInBounds_toArray, List.set_cons_zero, List.set_cons_succ])
     refine wpAnyH_take (i := 33) (oi := { dst := some 46, op := Op.load 2 (Operand.tmp 45), type := 2, pos := "ref.go:22", after := #[{ on := 32, ground := Ground.data }, { on := 28, ground := Ground.guard }], guard := some (28, false) }) (v := undef) rfl (by kernel_rfl) (by kernel_rfl) (by kernel_rfl) (fun _ _ _ h => h) (Or.inr ⟨by rfl, rfl⟩) (by assumption) ?_
     (try simp only [Act.put, List.setIfInBounds_toArray, List.set_cons_zero, List.set_cons_succ])
     refine wpAnyH_take (i := 34) (oi := { dst := some 47, op := Op.move (Operand.tmp 0), type := 117, pos := "ref.go:22", after := #[{ on := 28, ground := Ground.guard }], guard := some (28, false) }) (v := undef) rfl (by kernel_rfl) (by kernel_rfl) (by kernel_rfl) (fun _ _ _ h => h) (Or.inr ⟨by rfl, rfl⟩) (by assumption) ?_
     (try simp only [Act.put, List.setIfInBounds_toArray, List.set_cons_zero, List.set_cons_succ])
     refine wpAnyH_take (i := 35) (oi := { dst := some 48, op := Op.move (Operand.tmp 3), type := 3, pos := "ref.go:22", after := #[{ on := 28, ground := Ground.guard }], guard := some (28, false) }) (v := undef) rfl (by kernel_rfl) (by kernel_rfl) (by kernel_rfl) (fun _ _ _ h => h) (Or.inr ⟨by rfl, rfl⟩) (by assumption) ?_
     (try simp only [Act.put, List.setIfInBounds_toArray, List.set_cons_zero, List.set_cons_succ])
     refine wpAnyH_take (i := 36) (oi := { dst := some 49, op := Op.indexAddr 117 (Operand.tmp 47) (Operand.tmp 48), type := 0, pos := "ref.go:22", after := #[{ on := 34, ground := Ground.data }, { on := 35, ground := Ground.data }, { on := 28, ground := Ground.guard }], guard := some (28, false) }) (v := undef) rfl (by kernel_rfl) (by kernel_rfl) (by kernel_rfl) (fun _ _ _ h => h) (Or.inr ⟨by rfl, rfl⟩) (by assumption) ?_
     (try simp only [Act.put, List.setIfInBounds_toArray, List.set_cons_zero, List.set_cons_succ])
     refine wpAnyH_take (i := 37) (oi := { dst := some 50, op := Op.fieldAddr 121 (Operand.tmp 49) 2, type := 0, pos := "ref.go:22", after := #[{ on := 36, ground := Ground.data }, { on := 28, ground := Ground.guard }], guard := some (28, false) }) (v := undef) rfl (by kernel_rfl) (by kernel_rfl) (by kernel_rfl) (fun _ _ _ h => h) (Or.inr ⟨by rfl, rfl⟩) (by assumption) ?_
     (try simp only [Act.put, List.setIfInBounds_toArray, List.set_cons_zero, List.set_cons_succ])
     refine wpAnyH_take (i := 38) (oi := { dst := some 51, op := Op.load 2 (Operand.tmp 50), type := 2, pos := "ref.go:22", after := #[{ on := 37, ground := Ground.data }, { on := 28, ground := Ground.guard }], guard := some (28, false) }) (v := undef) rfl (by kernel_rfl) (by kernel_rfl) (by kernel_rfl) (fun _ _ _ h => h) (Or.inr ⟨by rfl, rfl⟩) (by assumption) ?_
     (try simp only [Act.put, List.setIfInBounds_toArray, List.set_cons_zero, List.set_cons_succ])
     refine wpAnyH_take (i := 39) (oi := { dst := some 52, op := Op.binOp BinOp.gtr 2 (Operand.tmp 46) (Operand.tmp 51) 2, type := 4, pos := "ref.go:22", after := #[{ on := 33, ground := Ground.data }, { on := 38, ground := Ground.data }, { on := 28, ground := Ground.guard }], guard := some (28, false) }) (v := undef) rfl (by kernel_rfl) (by kernel_rfl) (by kernel_rfl) (fun _ _ _ h => h) (Or.inr ⟨by rfl, rfl⟩) (by assumption) ?_
     (try simp only [Act.put, List.setIfInBounds_toArray, List.set_cons_zero, List.set_cons_succ])
     refine wpAnyH_take (i := 40) (oi := { dst := some 53, op := Op.pick (Operand.tmp 41) (Operand.const (Value.bool true)) (Operand.tmp 52), type := 4, pos := "ref.go:22", after := #[{ on := 28, ground := Ground.data }, { on := 39, ground := Ground.data }], guard := none }) (v := ?v44) rfl (by kernel_rfl) (by kernel_rfl) (by kernel_rfl) (fun _ _ _ h => h) (Or.inl ⟨by rfl, ?hy44⟩) (by assumption) ?rest44
     case hy44 =>
      intro w hSw
      (try dsimp only at hSw)
      go_simp
      (try with_reducible rfl)
     (try simp only [Act.put, List.setIfInBounds_toArray, List.set_cons_zero, List.set_cons_succ])
     refine wpAnyH_done (by kernel_rfl) ?_ _
     have hbE := hb.drew.trans (Below.mono b1 hbs)
     go_wp2
     go_ret
     exact ⟨by rw [hres.out]; rfl, hbE⟩
   ·have hk0 : k = n := by omega
    have hres := Lib.hid (show decide (Right l) = true from decide_eq_true ⟨by omega, by have := hst.out; rwa [List.take_of_length_le (by omega)] at this⟩)
    clear hst hr
    go_wp2
    go_ret
    exact ⟨by rw [hres.out]; rfl, hb⟩
end Span
end Go.Proofs.YtkfdplfgaddkmaaGreat

/-
 firthref03.Join, span.Add, firthref03.Add: the same answers as span.Join's.
-/
namespace Go.Proofs.YtkfdplfgaddkmaaGreat
namespace Span
open Go.RowKit
attribute [local go_sem ↓] Go.wp_at_zero Go.wp_at_succ

/-! The answers of Add. -/
open Classical in
open Classical in
section
variable {P : Program} (w : World)
theorem wpList_append_ss {ops : Array Oper} {rest : List Oper} {o : Oper} {a : Act} {Q : Exit → Act → World → Prop} (hgd : o.guard = none) (s x : Operand) (t : TypeId)
  (ho : o.op = .call { callee := .builtin .append, args := #[s, x], argTypes := #[t, t] })
  (base : Nat) (e : TypeId) (i : TypeInfo) (z : Value) (bytes : Nat) (ht : P.underlying t = some (.slice e)) (hi : P.info? e = some i) (hz : i.zero = some z)
  (hsize : i.size = 3) (hby : i.bytes = bytes) (hzs : z.cells.size = 3)
  (v : Value) (n : Nat) (l : List Sp) (hs : a.eval s = v) (hown : w.ownsRow base e 3 v n (sps l)) (B : Nat) (A : Option Addr) (m c : Nat) (ys : List Sp) (hm : ys.length = m)
  (hx : a.eval x = .slice A m c) (hr : Ss w B A ys)
  (hbytes : (n + m) * bytes ≤ 140737488355328) (hn : n + m ≤ 140737488355328) (hbase : base ≤ w.heap.size)
  (h : ∀ v' w', w'.ownsRow base e 3 v' (n + m) (sps (l ++ ys)) → w.grownBy w' v.ownBlock → (v'.ownBlock = v.ownBlock ∨ v'.ownBlock = some w.heap.size) → wpList P ops Q rest (a.put o.dst v') w') :
  wpList P ops Q (o :: rest) a w := by
 subst hm
 have hone : ∀ u ∈ sps ys, u.oneCell' = true := by
  intro u hu
  obtain ⟨y, rfl⟩ := sps_cell ys u hu
  rfl
 rcases A with _ | ad
 ·have h0 : ys = [] := by
   rcases Nat.eq_zero_or_pos ys.length with h0 | h0
   ·exact List.eq_nil_of_length_eq_zero h0
   ·obtain ⟨b, off, he, _⟩ := hr h0
    cases he
  subst h0
  refine wpList_plain hgd fun K hK => ?_
  have hrun : (Builtin.append_ #[t, t] o.type #[v, .slice none 0 c]).run P w = .ok v w := by
   rcases hown.2 with ⟨rfl, rfl⟩ | ⟨g, cap, cur, rfl, _, _, hnc, _⟩
   ·simp [Builtin.append_, run_underlying ht, sizeOf, typeInfo, hi, Builtin.lenOf, Builtin.firstCells]
   ·simp [Builtin.append_, run_underlying ht, sizeOf, typeInfo, hi, Builtin.lenOf, Builtin.firstCells, hnc, storeCells]
  unfold Oper.wp execOp
  simp only [ho, resolve, invoke, builtin, Sem.run_bind, Sem.run_pure, Result.andThen_ok, List.map_toArray, List.map_cons, List.map_nil, hs, hx, List.length_nil, hrun]
  exact hK _ _ (h v w (by simpa using hown) (World.grownBy.refl w _) (.inl rfl))
 ·rcases ys with _ | ⟨y, ys⟩
  ·refine wpList_append_own_at w hgd s x t ho base e i z 3 bytes ht hi hz hsize hby hzs (by omega) v n (sps l) hs hown ad 0 c [] hx (by simp) (by simp) (by simp) (by unfold maxLen; simp at hn; omega) hbytes hbase
    fun v' w' h1 h2 _ h4 => h v' w' (by simpa using h1) h2 h4
  ·obtain ⟨b, off, he, _⟩ := hr (by simp)
   injection he with he
   subst he
   exact wpList_append_own_at w hgd s x t ho base e i z 3 bytes ht hi hz hsize hby hzs (by omega) v n (sps l) hs hown ⟨b, off, none⟩ _ c (sps (y :: ys)) hx (sps_length _) (Ss.cells hr) hone (by unfold maxLen; omega) hbytes hbase
    fun v' w' h1 h2 _ h4 => h v' w' (by rw [sps_append]; exact h1) h2 h4
end

end Span
end Go.Proofs.YtkfdplfgaddkmaaGreat

/-
 A step: what it turns is among the blocks F, or new; what it owns then is of F, or new.
-/
namespace Go.Proofs.YtkfdplfgaddkmaaGreat
namespace Blk
open Go.RowKit
def Stp (F : Nat → Prop) (w : World) (F' : Nat → Prop) (w' : World) : Prop := Chg F w w' ∧ ∀ k, F' k → F k ∨ w.heap.size ≤ k
section
variable {F F' F'' : Nat → Prop} {w w' w'' : World}
theorem Stp.refl (F : Nat → Prop) (w : World) : Stp F w F w := ⟨Chg.refl _ _, fun _ h => .inl h⟩
theorem Stp.of_below (h : Below w.heap.size w w') : Stp F w F w' := ⟨Chg.of_below h, fun _ h => .inl h⟩
theorem Stp.trans (h : Stp F w F' w') (h' : Stp F' w' F'' w'') : Stp F w F'' w'' := ⟨h.1.trans h'.1 h.2, fun k hk => (h'.2 k hk).elim (h.2 k) fun e => .inr (Nat.le_trans h.1.size e)⟩
theorem Stp.old {W : World} (h : Stp F w F' w') (hb : Below W.heap.size W w) (hF : ∀ k, F k → W.heap.size ≤ k) : Below W.heap.size W w' ∧ ∀ k, F' k → W.heap.size ≤ k :=
 ⟨hb.trans (h.1.below hF hb.size), fun k hk => (h.2 k hk).elim (hF k) fun e => Nat.le_trans hb.size e⟩
end
end Blk
end Go.Proofs.YtkfdplfgaddkmaaGreat
