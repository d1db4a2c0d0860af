/-
  span.Right tells whether a list is right.
-/
import Derived.Test.YtbhidndgnldheaaSpanOwn
import Derived.Deep.RegionHeld3
import Derived.Deep.DrawnRows
import Derived.IntWalk
namespace Go.Proofs.Ytbhidndgnldheaa
namespace Span
open Go.RowKit
attribute [local go_sem ↓] Go.wp_at_zero Go.wp_at_succ

theorem below_drewN (B n : Nat) (w : World) : Below B w (w.drewN n) := ⟨rfl, rfl, rfl, Nat.le_refl _, fun _ _ => rfl⟩
theorem cell_below {B : Nat} {w w' : World} {p : Addr} {v : Value} (h : Below B w w') (hp : p.block < B) (hc : w.cell? p = some v) : w'.cell? p = some v := (h.cell hp).trans hc

set_option maxHeartbeats 2000000 in
set_option maxRecDepth 100000 in
theorem right_any (A : Option Addr) (c n : Nat) (l : List Sp) (hn : l.length = n) (w : World) (hr : Ss w w.heap.size A l) (hbig : n ≤ 140737488355328) :
    Calls Try.prog 67 #[.slice A n c] w fun e w' => e = .returned (.bool (decide (Right l))) ∧ Below w.heap.size w w' := by
  by_cases hlong : 1024 < n
  · have hres := Lib.hid (show decide (Right l) = false from decide_eq_false fun h => by have := h.1; omega)
    clear hr hn
    go_enter Try.func67, Try.ntmps67
    go_wp2
    go_ret
    exact ⟨by rw [hres.out]; rfl, Below.refl _ _⟩
  · go_enter Try.func67, Try.ntmps67
    go_wp2
    go_loopw [10] (fun q wr => ∃ k : Nat, k ≤ n ∧ q = .int .i64 k ∧ Below w.heap.size w wr ∧ Hid (Fine (l.take k))) (fun q _ => n - (intOf q).toNat)
    case atStart => exact ⟨0, by omega, rfl, Below.refl _ _, fine_nil⟩
    case round =>
      obtain ⟨k, hk, rfl, hb, hst⟩ := hrel
      by_cases hlt : k < n
      · obtain ⟨b, off, rfl, hbB, hc⟩ := hr (by omega)
        obtain ⟨c0, c1, c2⟩ := hc k (by omega)
        have d0 := (hb.cell (p := ⟨b, off + k * 3, none⟩) (by exact hbB)).trans c0
        have d1 := (hb.cell (p := ⟨b, off + k * 3 + 1, none⟩) (by exact hbB)).trans c1
        have d2 := (hb.cell (p := ⟨b, off + k * 3 + 2, none⟩) (by exact hbB)).trans c2
        obtain ⟨⟨x0, x1, x2⟩, hx⟩ : ∃ x, l.getD k (0, 0, 0) = x := ⟨_, rfl⟩
        rw [hx] at d0 d1 d2
        have hbs := hb.size
        by_cases hok : okSp (x0, x1, x2)
        · have hok' := hok
          unfold okSp at hok'
          simp only at hok'
          obtain ⟨o1, o2, o3, o4, o5⟩ := hok'
          have hf' := hst.out
          by_cases h0 : 0 < k
          · obtain ⟨p0, p1, p2⟩ := hc (k - 1) (by omega)
            have f0 := (hb.cell (p := ⟨b, off + (k - 1) * 3, none⟩) (by exact hbB)).trans p0
            have f1 := (hb.cell (p := ⟨b, off + (k - 1) * 3 + 1, none⟩) (by exact hbB)).trans p1
            have f2 := (hb.cell (p := ⟨b, off + (k - 1) * 3 + 2, none⟩) (by exact hbB)).trans p2
            obtain ⟨y, hy⟩ : ∃ y, l.getD (k - 1) (0, 0, 0) = y := ⟨_, rfl⟩
            rw [hy] at f0 f1 f2
            have hap := fine_step (l := l) (y := (x0, x1, x2)) (by omega) hx hf' hok
            have hnap := fine_not_apart (l := l) (y := (x0, x1, x2)) (by omega) hx h0
            rw [hy] at hap hnap
            have hX := fun W => apart_is y (x0, x1, x2) W ⟨o3, by simp only; omega⟩
            obtain ⟨q, hq⟩ : ∃ q, decide (apart y (x0, x1, x2)) = q := ⟨_, rfl⟩
            rw [hq] at hX
            have HX := Lib.hid hX
            have HY1 : Hid (q = true → Fine (l.take (k + 1))) := Lib.hid (fun h => hap fun _ => of_decide_eq_true (hq.trans h))
            have HY2 : Hid (q = false → decide (Right l) = false) := Lib.hid (fun h => decide_eq_false fun hR => hnap (of_decide_eq_false (hq.trans h)) hR.2)
            obtain ⟨y0, y1, y2⟩ := y
            clear hr hc c0 c1 c2 p0 p1 p2 hst hx hy hok hn hf' hap hnap hX hq
            simp only at f0 f1 f2
            have e0 : ((k : Int) - 1).toNat = k - 1 := by omega
            have e1 : (0 : Int) ≤ (k : Int) - 1 := by omega
            have e2 : (k : Int) - 1 < (n : Int) := by omega
            have e5 : (1 : Int) ≤ (k : Int) := by omega
            have e6 : (k : Int) ≤ (n : Int) := by omega
            have e7 : 1 ≤ k := by omega
            have e8 : ((k : Int) - 1 < (n : Int)) = True := eq_true (by omega)
            have e9 : (0 ≤ (k : Int) - 1) = True := eq_true (by omega)
            have e3 : decide ((0 : Int) < (k : Int)) = true := decide_eq_true (by omega)
            have g0 := World.cell?_alloc_lt wr (.cells #[.int .i64 x0, .int .i64 x1, .int .i64 x2] 111) ⟨b, off + (k - 1) * 3, none⟩ (by show b < _; omega)
            have g1 := World.cell?_alloc_lt wr (.cells #[.int .i64 x0, .int .i64 x1, .int .i64 x2] 111) ⟨b, off + (k - 1) * 3 + 1, none⟩ (by show b < _; omega)
            have g2 := World.cell?_alloc_lt wr (.cells #[.int .i64 x0, .int .i64 x1, .int .i64 x2] 111) ⟨b, off + (k - 1) * 3 + 2, none⟩ (by show b < _; omega)
            rw [f0] at g0
            rw [f1] at g1
            rw [f2] at g2
            have hbw := hb.alloc hbs (.cells #[.int .i64 x0, .int .i64 x1, .int .i64 x2] 111)
            have hs0 : wr.heap.size < (wr.alloc (.cells #[.int .i64 x0, .int .i64 x1, .int .i64 x2] 111)).heap.size := by simp
            have hs1 : b < (wr.alloc (.cells #[.int .i64 x0, .int .i64 x1, .int .i64 x2] 111)).heap.size := by simp; omega
            have q0 : (wr.alloc (.cells #[.int .i64 x0, .int .i64 x1, .int .i64 x2] 111)).cell? ⟨wr.heap.size, 0, none⟩ = some (.int .i64 x0) := by simp
            have q1 : (wr.alloc (.cells #[.int .i64 x0, .int .i64 x1, .int .i64 x2] 111)).cell? ⟨wr.heap.size, 1, none⟩ = some (.int .i64 x1) := by simp
            have q2 : (wr.alloc (.cells #[.int .i64 x0, .int .i64 x1, .int .i64 x2] 111)).cell? ⟨wr.heap.size, 2, none⟩ = some (.int .i64 x2) := by simp
            have e4 : IntKind.i64.wrap ((k : Int) - 1) = (k : Int) - 1 := IntWalk.i64_in _ (by omega)
            clear f0 f1 f2 hb hbB
            go_wp2
            go_region_held3 (fun W => W.cell? ⟨b, off + (k - 1) * 3, none⟩ = some (.int .i64 y0) ∧ W.cell? ⟨b, off + (k - 1) * 3 + 1, none⟩ = some (.int .i64 y1) ∧ W.cell? ⟨b, off + (k - 1) * 3 + 2, none⟩ = some (.int .i64 y2) ∧
                W.cell? ⟨wr.heap.size, 0, none⟩ = some (.int .i64 x0) ∧ W.cell? ⟨wr.heap.size, 1, none⟩ = some (.int .i64 x1) ∧ W.cell? ⟨wr.heap.size, 2, none⟩ = some (.int .i64 x2)) (first
                | exact ⟨g0, g1, g2, q0, q1, q2⟩
                | (have hb9 := ‹Below _ _ _›; exact ⟨cell_below hb9 hs1 g0, cell_below hb9 hs1 g1, cell_below hb9 hs1 g2, cell_below hb9 hs0 q0, cell_below hb9 hs0 q1, cell_below hb9 hs0 q2⟩))
              (first | (go_at_call 79; refine (HX.out _).mono ?_; rintro e w1 ⟨rfl, b1⟩))
            have hb2 := hbw.drew.trans (Below.mono b1 (by simp; omega))
            cases q
            · have hres := Lib.hid (HY2.out rfl)
              clear HY1 HY2 HX g0 g1 g2 q0 q1 q2
              go_wp2
              go_ret
              exact ⟨by rw [hres.out]; rfl, hb2⟩
            · have hres := Lib.hid (HY1.out rfl)
              clear HY1 HY2 HX g0 g1 g2 q0 q1 q2
              go_wp2
              exact ⟨⟨k + 1, by omega, rfl, hb2, hres⟩, by simp only [intOf]; omega⟩
          · have hres := Lib.hid (fine_step (by omega) hx hf' hok (fun h => absurd h h0))
            clear hr hc c0 c1 c2 hx hst hok hn hf'
            have e3 : decide ((0 : Int) < (k : Int)) = false := decide_eq_false (by omega)
            go_wp2
            go_quiet (fail)
            go_wp2
            exact ⟨⟨k + 1, by omega, rfl, (hb.alloc hbs _).trans (below_drewN _ _ _), hres⟩, by simp only [intOf]; omega⟩
        · have hres := Lib.hid (show decide (Right l) = false from decide_eq_false fun h => fine_not_ok (by omega) hx hok h.2)
          have hM := Lib.hid hok
          clear hr hc c0 c1 c2 hx hst hok hn
          go_wp2
          all_goals first
            | (exfalso; refine hM.out ?_; unfold okSp; simp only; omega)
            | (go_ret; exact ⟨by rw [hres.out]; rfl, hb.alloc hbs _⟩)
      · have hk0 : k = n := by omega
        have hres := Lib.hid (show decide (Right l) = true from decide_eq_true ⟨by omega, by have := hst.out; rwa [List.take_of_length_le (by omega)] at this⟩)
        clear hst hr
        go_wp2
        go_ret
        exact ⟨by rw [hres.out]; rfl, hb⟩
end Span
end Go.Proofs.Ytbhidndgnldheaa
