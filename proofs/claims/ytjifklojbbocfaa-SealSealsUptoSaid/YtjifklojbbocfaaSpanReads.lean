/-
  Functions that only read spans: firthref03.Has, span.Top, firthref03.Top, firthref03.Same.
-/
import Derived.Test.YtjifklojbbocfaaSpanRight
namespace Go.Proofs.Ytjifklojbbocfaa
namespace Span
open Go.RowKit

theorem take_eq_step {l m : List Sp} {k : Nat} (hl : k < l.length) (hm : k < m.length) (h : l.take k = m.take k) (he : l.getD k (0, 0, 0) = m.getD k (0, 0, 0)) : l.take (k + 1) = m.take (k + 1) := by
  rw [take_one hl rfl, take_one hm rfl, h, he]
theorem take_ne {l m : List Sp} {k : Nat} (he : l.getD k (0, 0, 0) ≠ m.getD k (0, 0, 0)) : ¬ l = m := fun h => he (by rw [h])

set_option maxHeartbeats 1000000 in
theorem same_any (A A' : Option Addr) (c c' n n' : Nat) (l m : List Sp) (hn : l.length = n) (hn' : m.length = n') (w : World) (hr : Ss w w.heap.size A l) (hr' : Ss w w.heap.size A' m) (hbig : n ≤ 140737488355328) (hbig' : n' ≤ 140737488355328) :
    Calls Try.prog 16 #[.slice A n c, .slice A' n' c'] w fun e w' => e = .returned (.bool (decide (l = m))) ∧ Below w.heap.size w w' := by
  by_cases hlen : n = n'
  · subst hlen
    go_enter Try.func16, Try.ntmps16
    go_wp2
    go_loopw [5] (fun q wr => ∃ k : Nat, k ≤ n ∧ q = .int .i64 k ∧ Below w.heap.size w wr ∧ Hid (l.take k = m.take k)) (fun q _ => n - (intOf q).toNat)
    case atStart => exact ⟨0, by omega, rfl, Below.refl _ _, rfl⟩
    case round =>
      obtain ⟨k, hk, rfl, hb, hst⟩ := hrel
      by_cases hlt : k < n
      · obtain ⟨b, off, rfl, hbB, hc⟩ := hr (by omega)
        obtain ⟨c0, c1, c2⟩ := hc k (by omega)
        have d0 := (hb.cell (p := ⟨b, off + k * 3, none⟩) (by exact hbB)).trans c0
        have d1 := (hb.cell (p := ⟨b, off + k * 3 + 1, none⟩) (by exact hbB)).trans c1
        have d2 := (hb.cell (p := ⟨b, off + k * 3 + 2, none⟩) (by exact hbB)).trans c2
        obtain ⟨b', off', rfl, hbB', hc'⟩ := hr' (by omega)
        obtain ⟨c0', c1', c2'⟩ := hc' k (by omega)
        have d0' := (hb.cell (p := ⟨b', off' + k * 3, none⟩) (by exact hbB')).trans c0'
        have d1' := (hb.cell (p := ⟨b', off' + k * 3 + 1, none⟩) (by exact hbB')).trans c1'
        have d2' := (hb.cell (p := ⟨b', off' + k * 3 + 2, none⟩) (by exact hbB')).trans c2'
        have hy := take_eq_step (l := l) (m := m) (by omega) (by omega) hst.out
        have hz := take_ne (l := l) (m := m) (k := k)
        obtain ⟨⟨x0, x1, x2⟩, hx⟩ : ∃ x, l.getD k (0, 0, 0) = x := ⟨_, rfl⟩
        obtain ⟨⟨y0, y1, y2⟩, hx'⟩ : ∃ x, m.getD k (0, 0, 0) = x := ⟨_, rfl⟩
        rw [hx] at d0 d1 d2
        rw [hx'] at d0' d1' d2'
        rw [hx, hx'] at hy hz
        simp only at d0 d1 d2 d0' d1' d2'
        have r0 : (0 : Int) ≤ (k : Int) := by omega
        have r1 : (k : Int) < (n : Int) := by omega
        by_cases he : (x0, x1, x2) = (y0, y1, y2)
        · have HY := Lib.hid (hy he)
          injection he with e0 e1
          injection e1 with e1 e2
          subst e0 e1 e2
          clear hr hr' hc hc' c0 c1 c2 c0' c1' c2' hst hy hz hx hx' hn hn'
          go_wp2
          go_quiet (fail)
          go_wp2
          all_goals exact ⟨⟨k + 1, by omega, rfl, hb.trans (below_drewN _ _ _), HY⟩, by simp only [intOf]; omega⟩
        · have HZ := Lib.hid (decide_eq_false (hz he))
          have hp : (x0 ≠ y0) ∨ (x0 = y0 ∧ x1 ≠ y1) ∨ (x0 = y0 ∧ x1 = y1 ∧ x2 ≠ y2) := by
            by_cases q0 : x0 = y0
            · by_cases q1 : x1 = y1
              · exact .inr (.inr ⟨q0, q1, fun q2 => he (by rw [q0, q1, q2])⟩)
              · exact .inr (.inl ⟨q0, q1⟩)
            · exact .inl q0
          clear hr hr' hc hc' c0 c1 c2 c0' c1' c2' hst hy hz hx hx' hn hn' he
          rcases hp with q0 | ⟨rfl, q1⟩ | ⟨rfl, rfl, q2⟩
          · have g0 : (x0 == y0) = false := by simp [q0]
            go_wp2
            go_quiet (fail)
            go_wp2
            go_ret
            exact ⟨by rw [HZ.out]; rfl, hb.trans (below_drewN _ _ _)⟩
          · have g0 : (x1 == y1) = false := by simp [q1]
            go_wp2
            go_quiet (fail)
            go_wp2
            go_ret
            exact ⟨by rw [HZ.out]; rfl, hb.trans (below_drewN _ _ _)⟩
          · have g0 : (x2 == y2) = false := by simp [q2]
            go_wp2
            go_quiet (fail)
            go_wp2
            go_ret
            exact ⟨by rw [HZ.out]; rfl, hb.trans (below_drewN _ _ _)⟩
      · have hk0 : k = n := by omega
        have hres := hst.out
        rw [List.take_of_length_le (by omega), List.take_of_length_le (by omega)] at hres
        have HR := Lib.hid (decide_eq_true hres)
        clear hst hr hr' hn hn' hres
        go_wp2
        go_ret
        exact ⟨by rw [HR.out]; rfl, hb⟩
  · have hne : ¬ l = m := fun h => hlen (by rw [← hn, ← hn', h])
    have HR := Lib.hid (decide_eq_false hne)
    clear hr hr' hn hn' hne
    go_enter Try.func16, Try.ntmps16
    go_wp2
    go_ret
    exact ⟨by rw [HR.out]; rfl, Below.refl _ _⟩
end Span
end Go.Proofs.Ytjifklojbbocfaa
