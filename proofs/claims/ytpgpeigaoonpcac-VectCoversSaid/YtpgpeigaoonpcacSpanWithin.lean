/-
  span.Within and firthref03.Within: whether all dots of one right list are in another.
-/
import Derived.Test.YtpgpeigaoonpcacSpanJoinRef
import Derived.Deep.LoopGhost
namespace Go.Proofs.Ytpgpeigaoonpcac
namespace Span
open Go.RowKit
attribute [local go_sem ↓] Go.wp_at_zero Go.wp_at_succ

instance (b : List Sp) (x : Sp) : Decidable (inOne b x) := by unfold inOne; infer_instance
def withinF (a b : List Sp) : Bool := decide (Right a ∧ Right b ∧ ∀ x ∈ a, inOne b x)
theorem within_wrong {a b : List Sp} (h : ¬ (Right a ∧ Right b)) : withinF a b = false := decide_eq_false fun h' => h ⟨h'.1, h'.2.1⟩
theorem within_no {a b : List Sp} {x : Sp} (hx : x ∈ a) (h : ¬ inOne b x) : withinF a b = false := decide_eq_false fun h' => h (h'.2.2 x hx)
theorem within_yes {a b : List Sp} (ha : Right a) (hb : Right b) (h : ∀ x ∈ a, inOne b x) : withinF a b = true := decide_eq_true ⟨ha, hb, h⟩

theorem Bx.drewN {W : World} {B : Nat} {x : Sp} (h : Bx W B x) (n : Nat) : Bx (W.drewN n) B x := h

set_option maxHeartbeats 4000000 in
set_option maxRecDepth 100000 in
theorem within_any (A A' : Option Addr) (c c' n n' : Nat) (a b : List Sp) (hn : a.length = n) (hn' : b.length = n') (w : World) (hr : Ss w w.heap.size A a) (hr' : Ss w w.heap.size A' b) (hbig : n ≤ 140737488355328) (hbig' : n' ≤ 140737488355328) :
    Calls Try.prog 16 #[.slice A n c, .slice A' n' c'] w fun e w' => e = .returned (.bool (withinF a b)) ∧ Below w.heap.size w w' := by
  have h1 := right_any A c n a hn w hr hbig
  have h2 := fun W h => right_any A' c' n' b hn' W h hbig'
  obtain ⟨q1, hq1⟩ : ∃ q, decide (Right a) = q := ⟨_, rfl⟩
  obtain ⟨q2, hq2⟩ : ∃ q, decide (Right b) = q := ⟨_, rfl⟩
  rw [hq1] at h1
  rw [hq2] at h2
  obtain ⟨Q, hQ⟩ : ∃ Q, withinF a b = Q := ⟨_, rfl⟩
  rw [hQ]
  have H1 := Lib.hid h1
  have H2 := Lib.hid h2
  have HR := Lib.hid hr
  have HR' := Lib.hid hr'
  clear h1 h2 hr hr'
  cases q1
  · have HW := Lib.hid (hQ.symm.trans (within_wrong fun h => of_decide_eq_false hq1 h.1))
    clear hq1 hq2 H2 hn hn' hQ
    go_enter Try.func16, Try.ntmps16
    go_wp2
    go_step3
    go_wp2_with fail
    refine H1.out.mono ?_
    rintro e w1 ⟨rfl, b1⟩
    go_wp2
    try rw [Exit.noGoto_ret]
    go_ret
    exact ⟨by rw [HW.out]; rfl, b1⟩
  · cases q2
    · have HW := Lib.hid (hQ.symm.trans (within_wrong fun h => of_decide_eq_false hq2 h.2))
      clear hq1 hq2 hn hn' hQ
      go_enter Try.func16, Try.ntmps16
      go_wp2
      go_step3
      go_wp2_with fail
      refine H1.out.mono ?_
      rintro e w1 ⟨rfl, b1⟩
      have s1 := b1.size
      go_wp2_with fail
      refine (H2.out _ ((HR'.out.below b1).more s1)).mono ?_
      rintro e w2 ⟨rfl, b2⟩
      go_wp2
      try rw [Exit.noGoto_ret]
      go_ret
      exact ⟨by rw [HW.out]; rfl, b1.trans (b2.mono s1)⟩
    · have hRa := of_decide_eq_true hq1
      have hRb := of_decide_eq_true hq2
      have hn1 : n ≤ 1024 := by rw [← hn]; exact hRa.1
      have hn2 : n' ≤ 1024 := by rw [← hn']; exact hRb.1
      have HA := Lib.hid (And.intro hRa hRb)
      have HN := Lib.hid (And.intro hn hn')
      have HQ := Lib.hid hQ
      clear hq1 hq2 hRa hRb hn hn' hQ
      go_enter Try.func16, Try.ntmps16
      go_wp2
      go_step3
      go_wp2_with fail
      refine H1.out.mono ?_
      rintro e w1 ⟨rfl, b1⟩
      have s1 := b1.size
      go_wp2_with fail
      refine (H2.out _ ((HR'.out.below b1).more s1)).mono ?_
      rintro e w2 ⟨rfl, b2⟩
      have HB2 := Lib.hid (b1.trans (b2.mono s1))
      clear H1 H2 s1 b1 b2
      go_wp2
      go_step3
      go_wp2
      go_loopg [5, 18] n (fun g s5 s18 wr => ∃ i j : Nat, i + g = n ∧ i ≤ n ∧ j ≤ n' ∧ s5 = .int .i64 j ∧ s18 = .int .i64 i ∧ Hid (Below w.heap.size w wr) ∧ Hid (∀ z ∈ b.take j, ∀ u ∈ a.drop i, ¬ has1 z u) ∧ Hid (∀ z ∈ a.take i, inOne b z))
      case atStart => exact ⟨0, 0, by omega, by omega, by omega, rfl, rfl, HB2, Lib.hid (by simp), Lib.hid (by simp)⟩
      case round =>
        obtain ⟨i, j0, hgi, hi1, hj1, rfl, rfl, hb, hpa, hin⟩ := hrel
        clear HB2
        cases gk with
        | zero =>
          have hie : i = n := by omega
          have hall := hin.out
          rw [hie, ← HN.out.1, List.take_length] at hall
          have HW := Lib.hid (HQ.out.symm.trans (within_yes HA.out.1 HA.out.2 hall))
          clear hall hin hpa HA HN HQ
          go_wp2
          try rw [Exit.noGoto_ret]
          go_ret
          exact ⟨by rw [HW.out]; rfl, hb.out⟩
        | succ g =>
          have hlt : i < n := by omega
          obtain ⟨⟨x0, x1, x2⟩, hx⟩ : ∃ x, a.getD i (0, 0, 0) = x := ⟨_, rfl⟩
          have hi2 : i < a.length := by rw [HN.out.1]; exact hlt
          obtain ⟨b0, off, rfl, hbB, d0, d1, d2⟩ := ss_at HR.out HN.out.1 hb.out hlt hx
          have hmi : Hid (∀ z ∈ b.take j0, ¬ has1 z (x0, x1, x2)) := Lib.hid fun z hz => hpa.out z hz _ (by rw [drop_one hi2 hx]; simp)
          have HBX := Lib.hid (Bx.new wr (x0, x1, x2))
          have HB3 := Lib.hid (hb.out.alloc hb.out.size (.cells #[.int .i64 x0, .int .i64 x1, .int .i64 x2] 50))
          have hws := hb.out.size
          simp only at d0 d1 d2
          go_wp2
          go_loopg [5] (n' - j0) (fun h s5 wq => ∃ j : Nat, j + h = n' ∧ j ≤ n' ∧ s5 = .int .i64 j ∧ Hid (Below w.heap.size w wq) ∧ Hid (Bx wq wr.heap.size (x0, x1, x2)) ∧ Hid (∀ z ∈ b.take j, ¬ has1 z (x0, x1, x2)))
          case atStart => exact ⟨j0, by omega, by omega, rfl, HB3, HBX, hmi⟩
          case round =>
            obtain ⟨j, hhj, hj3, rfl, hb1, hbx, hmi⟩ := hrel
            clear HB3 HBX
            cases gk with
            | zero =>
              have hje : j = n' := by omega
              have hm := hmi.out
              rw [hje, ← HN.out.2, List.take_length] at hm
              have HW := Lib.hid (HQ.out.symm.trans (within_no (getD_mem hi2 hx) (in_none hm)))
              clear hm hmi hin hpa HA HN HQ hx
              go_wp2
              try rw [Exit.noGoto_ret]
              go_ret
              exact ⟨by rw [HW.out]; rfl, hb1.out⟩
            | succ h =>
              have hlj : j < n' := by omega
              obtain ⟨⟨y0, y1, y2⟩, hy⟩ : ∃ y, b.getD j (0, 0, 0) = y := ⟨_, rfl⟩
              have hj2 : j < b.length := by rw [HN.out.2]; exact hlj
              obtain ⟨b0', off', rfl, hbB', k0, k1, k2⟩ := ss_at HR'.out HN.out.2 hb1.out hlj hy
              have e0 := hbx.out.c0
              have e1 := hbx.out.c1
              have e2 := hbx.out.c2
              simp only at k0 k1 k2 e0 e1 e2
              have r0 : (0 : Int) ≤ (j : Int) := by omega
              have r1 : (j : Int) < (n' : Int) := by omega
              clear d0 d1 d2
              by_cases q0 : y0 = x0
              · subst q0
                by_cases q1 : y1 = x1
                · subst q1
                  by_cases q2 : y2 = x2
                  · subst q2
                    have hh : has1 (y0, y1, y2) (y0, y1, y2) := ⟨rfl, Int.le_refl _, Int.le_refl _⟩
                    have HA1 := Lib.hid (passed HA.out.1.2 HA.out.2.2 hi2 hx hj2 hy hh)
                    have HI1 : Hid (∀ z ∈ a.take (i + 1), inOne b z) := Lib.hid (by
                      rw [take_one hi2 hx]
                      intro z hz
                      rcases List.mem_append.1 hz with hz | hz
                      · exact hin.out z hz
                      · rw [List.mem_singleton.1 hz]; exact ⟨_, getD_mem hj2 hy, hh⟩)
                    clear hin HA HN HQ HR HR' hpa hmi hx hy hh
                    go_wp2
                    go_quiet (fail)
                    go_wp2
                    go_roundg g
                    case measure => omega
                    case rel => exact ⟨i + 1, j, by omega, by omega, by omega, rfl, rfl, Lib.hid (hb1.out.trans (below_drewN _ _ _)), HA1, HI1⟩
                  · have g0 : (y2 == x2) = false := by simp [q2]
                    by_cases q3 : x2 ≤ y2
                    · have g1 : decide (x2 ≤ y2) = true := decide_eq_true q3
                      have hh : has1 (y0, y1, y2) (y0, y1, x2) := ⟨rfl, Int.le_refl _, q3⟩
                      have HA1 := Lib.hid (passed HA.out.1.2 HA.out.2.2 hi2 hx hj2 hy hh)
                      have HI1 : Hid (∀ z ∈ a.take (i + 1), inOne b z) := Lib.hid (by
                        rw [take_one hi2 hx]
                        intro z hz
                        rcases List.mem_append.1 hz with hz | hz
                        · exact hin.out z hz
                        · rw [List.mem_singleton.1 hz]; exact ⟨_, getD_mem hj2 hy, hh⟩)
                      clear hin HA HN HQ HR HR' hpa hmi hx hy hh
                      go_wp2
                      go_quiet (fail)
                      go_wp2
                      go_roundg g
                      case measure => omega
                      case rel => exact ⟨i + 1, j, by omega, by omega, by omega, rfl, rfl, Lib.hid (hb1.out.trans (below_drewN _ _ _)), HA1, HI1⟩
                    · have g1 : decide (x2 ≤ y2) = false := decide_eq_false q3
                      have hh : ¬ has1 (y0, y1, y2) (y0, y1, x2) := fun h => q3 h.2.2
                      have HM1 : Hid (∀ z ∈ b.take (j + 1), ¬ has1 z (y0, y1, x2)) := Lib.hid (by
                        rw [take_one hj2 hy]
                        intro z hz
                        rcases List.mem_append.1 hz with hz | hz
                        · exact hmi.out z hz
                        · rw [List.mem_singleton.1 hz]; exact hh)
                      clear hin HA HN HQ HR HR' hpa hmi hx hy hh
                      go_wp2
                      go_quiet (fail)
                      go_wp2
                      go_roundg h
                      case measure => omega
                      case rel => exact ⟨j + 1, by omega, by omega, rfl, Lib.hid (hb1.out.trans (below_drewN _ _ _)), Lib.hid (hbx.out.drewN _), HM1⟩
                · have g0 : (y1 == x1) = false := by simp [q1]
                  by_cases q2 : y1 ≤ x1
                  · have g1 : decide (y1 ≤ x1) = true := decide_eq_true q2
                    by_cases q3 : x2 ≤ y2
                    · have g2 : decide (x2 ≤ y2) = true := decide_eq_true q3
                      have hh : has1 (y0, y1, y2) (y0, x1, x2) := ⟨rfl, q2, q3⟩
                      have HA1 := Lib.hid (passed HA.out.1.2 HA.out.2.2 hi2 hx hj2 hy hh)
                      have HI1 : Hid (∀ z ∈ a.take (i + 1), inOne b z) := Lib.hid (by
                        rw [take_one hi2 hx]
                        intro z hz
                        rcases List.mem_append.1 hz with hz | hz
                        · exact hin.out z hz
                        · rw [List.mem_singleton.1 hz]; exact ⟨_, getD_mem hj2 hy, hh⟩)
                      clear hin HA HN HQ HR HR' hpa hmi hx hy hh
                      go_wp2
                      go_quiet (fail)
                      go_wp2
                      go_roundg g
                      case measure => omega
                      case rel => exact ⟨i + 1, j, by omega, by omega, by omega, rfl, rfl, Lib.hid (hb1.out.trans (below_drewN _ _ _)), HA1, HI1⟩
                    · have g2 : decide (x2 ≤ y2) = false := decide_eq_false q3
                      have hh : ¬ has1 (y0, y1, y2) (y0, x1, x2) := fun h => q3 h.2.2
                      have HM1 : Hid (∀ z ∈ b.take (j + 1), ¬ has1 z (y0, x1, x2)) := Lib.hid (by
                        rw [take_one hj2 hy]
                        intro z hz
                        rcases List.mem_append.1 hz with hz | hz
                        · exact hmi.out z hz
                        · rw [List.mem_singleton.1 hz]; exact hh)
                      clear hin HA HN HQ HR HR' hpa hmi hx hy hh
                      go_wp2
                      go_quiet (fail)
                      go_wp2
                      go_roundg h
                      case measure => omega
                      case rel => exact ⟨j + 1, by omega, by omega, rfl, Lib.hid (hb1.out.trans (below_drewN _ _ _)), Lib.hid (hbx.out.drewN _), HM1⟩
                  · have g1 : decide (y1 ≤ x1) = false := decide_eq_false q2
                    have hh : ¬ has1 (y0, y1, y2) (y0, x1, x2) := fun h => q2 h.2.1
                    have HM1 : Hid (∀ z ∈ b.take (j + 1), ¬ has1 z (y0, x1, x2)) := Lib.hid (by
                      rw [take_one hj2 hy]
                      intro z hz
                      rcases List.mem_append.1 hz with hz | hz
                      · exact hmi.out z hz
                      · rw [List.mem_singleton.1 hz]; exact hh)
                    clear hin HA HN HQ HR HR' hpa hmi hx hy hh
                    go_wp2
                    go_quiet (fail)
                    go_wp2
                    go_roundg h
                    case measure => omega
                    case rel => exact ⟨j + 1, by omega, by omega, rfl, Lib.hid (hb1.out.trans (below_drewN _ _ _)), Lib.hid (hbx.out.drewN _), HM1⟩
              · have g0 : (y0 == x0) = false := by simp [q0]
                have hh : ¬ has1 (y0, y1, y2) (x0, x1, x2) := fun h => q0 h.1
                have HM1 : Hid (∀ z ∈ b.take (j + 1), ¬ has1 z (x0, x1, x2)) := Lib.hid (by
                  rw [take_one hj2 hy]
                  intro z hz
                  rcases List.mem_append.1 hz with hz | hz
                  · exact hmi.out z hz
                  · rw [List.mem_singleton.1 hz]; exact hh)
                clear hin HA HN HQ HR HR' hpa hmi hx hy hh
                go_wp2
                go_quiet (fail)
                go_wp2
                go_roundg h
                case measure => omega
                case rel => exact ⟨j + 1, by omega, by omega, rfl, Lib.hid (hb1.out.trans (below_drewN _ _ _)), Lib.hid (hbx.out.drewN _), HM1⟩
end Span
end Go.Proofs.Ytpgpeigaoonpcac
