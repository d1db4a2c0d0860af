/-
  Several texts of this family in one: SpanReads, SpanLay, SpanJoin, SpanPut, SpanJoinRef, SpanWithin, SpanRow, SpanDots.
-/
import Derived.Test.YtegiigeelcnemaaGreatGSpanA
import Derived.Test.YtegiigeelcnemaaGreatSpanRightRef
import Derived.Deep.LoopGhost
import Derived.Test.YtegiigeelcnemaaGreatGNumA
import Derived.Deep.Slices
import Derived.Deep.Fields
import Derived.Lib.SmallJoins
/-
  Functions that only read spans: firthref03.Has, span.Top, firthref03.Top, firthref03.Same.
-/
namespace Go.Proofs.YtegiigeelcnemaaGreat
namespace Span
open Go.RowKit

set_option maxHeartbeats 1000000 in
theorem ref_has_any (A : Option Addr) (c n' : Nat) (l : List Sp) (hn : l.length = n') (s n : Int) (w : World) (hr : Ss w w.heap.size A l) (hbig : n' ≤ 140737488355328) :
    Calls Tryz.prog 108 #[.slice A n' c, .agg #[.int .i64 s, .int .i64 n]] w fun e w' => e = .returned (.bool (hasL l s n)) ∧ Below w.heap.size w w' := by
  go_enter Tryz.func108, Tryz.ntmps108
  go_wp2
  go_loopw [5] (fun q wr => ∃ k : Nat, k ≤ n' ∧ q = .int .i64 k ∧ Below (w.heap.size + 1) (w.alloc (.cells #[.int .i64 s, .int .i64 n] 103)) wr ∧ Hid (hasL l s n = hasL (l.drop k) s n)) (fun q _ => n' - (intOf q).toNat)
  case atStart => exact ⟨0, by omega, rfl, Below.refl _ _, rfl⟩
  case round =>
    obtain ⟨k, hk, rfl, hb, hst⟩ := hrel
    have hbw := ((Below.refl w.heap.size w).alloc (Nat.le_refl _) (.cells #[.int .i64 s, .int .i64 n] 103)).trans (hb.mono (Nat.le_succ _))
    by_cases hlt : k < n'
    · obtain ⟨b, off, rfl, hbB, hc⟩ := hr (by omega)
      obtain ⟨c0, c1, c2⟩ := hc k (by omega)
      have d0 := (hb.cell (p := ⟨b, off + k * 3, none⟩) (by show b < _; omega)).trans ((World.cell?_alloc_lt w _ _ (by exact hbB)).trans c0)
      have d1 := (hb.cell (p := ⟨b, off + k * 3 + 1, none⟩) (by show b < _; omega)).trans ((World.cell?_alloc_lt w _ _ (by exact hbB)).trans c1)
      have d2 := (hb.cell (p := ⟨b, off + k * 3 + 2, none⟩) (by show b < _; omega)).trans ((World.cell?_alloc_lt w _ _ (by exact hbB)).trans c2)
      have e0 : wr.cell? ⟨w.heap.size, 0, none⟩ = some (.int .i64 s) := (hb.cell (by simp)).trans (by simp)
      have e1 : wr.cell? ⟨w.heap.size, 1, none⟩ = some (.int .i64 n) := (hb.cell (by simp)).trans (by simp)
      obtain ⟨⟨x0, x1, x2⟩, hx⟩ : ∃ x, l.getD k (0, 0, 0) = x := ⟨_, rfl⟩
      rw [hx] at d0 d1 d2
      simp only at d0 d1 d2
      have HX := Lib.hid hx
      have HN := Lib.hid hn
      have r0 : (0 : Int) ≤ (k : Int) := by omega
      have r1 : (k : Int) < (n' : Int) := by omega
      clear hr hc c0 c1 c2 hx hn
      by_cases h1 : x0 = s
      · have g1 : (x0 == s) = true := by simp [h1]
        by_cases h2 : x1 ≤ n
        · have g2 : decide (x1 ≤ n) = true := decide_eq_true h2
          by_cases h3 : n ≤ x2
          · have g3 : decide (n ≤ x2) = true := decide_eq_true h3
            have hres := Lib.hid (hst.out.trans (hasL_hit (by rw [HN.out]; exact hlt) HX.out h1 h2 h3))
            clear hst HX HN h1
            go_wp2
            go_quiet (fail)
            go_wp2
            go_ret
            exact ⟨by rw [hres.out]; rfl, hbw.trans (below_drewN _ _ _)⟩
          · have g3 : decide (n ≤ x2) = false := decide_eq_false h3
            have hres := Lib.hid (hst.out.trans (hasL_miss (by rw [HN.out]; exact hlt) HX.out fun h => h3 h.2.2))
            clear hst HX HN h1
            go_wp2
            go_quiet (fail)
            go_wp2
            exact ⟨⟨k + 1, by omega, rfl, hb.trans (below_drewN _ _ _), hres⟩, by simp only [intOf]; omega⟩
        · have g2 : decide (x1 ≤ n) = false := decide_eq_false h2
          have hres := Lib.hid (hst.out.trans (hasL_miss (by rw [HN.out]; exact hlt) HX.out fun h => h2 h.2.1))
          clear hst HX HN h1
          go_wp2
          go_quiet (fail)
          go_wp2
          exact ⟨⟨k + 1, by omega, rfl, hb.trans (below_drewN _ _ _), hres⟩, by simp only [intOf]; omega⟩
      · have g1 : (x0 == s) = false := by simp [h1]
        have hres := Lib.hid (hst.out.trans (hasL_miss (by rw [HN.out]; exact hlt) HX.out fun h => h1 h.1))
        clear hst HX HN h1
        go_wp2
        go_quiet (fail)
        go_wp2
        exact ⟨⟨k + 1, by omega, rfl, hb.trans (below_drewN _ _ _), hres⟩, by simp only [intOf]; omega⟩
    · have hk0 : k = n' := by omega
      have hres := Lib.hid (hst.out.trans (by rw [List.drop_eq_nil_of_le (by omega)]; rfl : _ = false))
      clear hst hr hn
      go_wp2
      go_ret
      exact ⟨by rw [hres.out]; rfl, hbw⟩

set_option maxHeartbeats 1000000 in
theorem top_any (A : Option Addr) (c n : Nat) (l : List Sp) (hn : l.length = n) (s : Int) (w : World) (hr : Ss w w.heap.size A l) (hbig : n ≤ 140737488355328) :
    Calls Tryz.prog 114 #[.slice A n c, .int .i64 s] w fun e w' => e = .returned (.int .i64 (topF l s)) ∧ Below w.heap.size w w' := by
  go_enter Tryz.func114, Tryz.ntmps114
  go_wp2
  go_loopw [5, 10] (fun z q wr => ∃ (k : Nat) (t : Int), k ≤ n ∧ q = .int .i64 k ∧ z = .int .i64 t ∧ Below w.heap.size w wr ∧ Hid (topF (l.take k) s = t)) (fun _ q _ => n - (intOf q).toNat)
  case atStart => exact ⟨0, 0, by omega, rfl, rfl, Below.refl _ _, rfl⟩
  case round =>
    obtain ⟨k, t, hk, rfl, rfl, hb, hst⟩ := hrel
    by_cases hlt : k < n
    · obtain ⟨b, off, rfl, hbB, hc⟩ := hr (by omega)
      obtain ⟨c0, c1, c2⟩ := hc k (by omega)
      have d0 := (hb.cell (p := ⟨b, off + k * 3, none⟩) (by exact hbB)).trans c0
      have d1 := (hb.cell (p := ⟨b, off + k * 3 + 1, none⟩) (by exact hbB)).trans c1
      have d2 := (hb.cell (p := ⟨b, off + k * 3 + 2, none⟩) (by exact hbB)).trans c2
      obtain ⟨⟨x0, x1, x2⟩, hx⟩ : ∃ x, l.getD k (0, 0, 0) = x := ⟨_, rfl⟩
      rw [hx] at d0 d1 d2
      simp only at d0 d1 d2
      have hs := topF_take (l := l) (by rw [hn]; exact hlt) hx s
      rw [hst.out] at hs
      have hbs := hb.size
      by_cases h1 : x0 = s
      · rw [if_pos h1] at hs
        have HS := Lib.hid hs
        clear hr hc c0 c1 c2 hx hn hs hst
        go_wp2
        all_goals exact ⟨⟨k + 1, max t x2, by omega, rfl, by first | rfl | (congr 1; omega), hb.alloc hbs _, HS⟩, by simp only [intOf]; omega⟩
      · rw [if_neg h1] at hs
        have HS := Lib.hid hs
        clear hr hc c0 c1 c2 hx hn hs hst
        go_wp2
        all_goals exact ⟨⟨k + 1, t, by omega, rfl, rfl, hb.alloc hbs _, HS⟩, by simp only [intOf]; omega⟩
    · have hk0 : k = n := by omega
      have hres := hst.out
      rw [List.take_of_length_le (by omega)] at hres
      have HR := Lib.hid hres
      clear hst hr hn hres
      go_wp2
      go_ret
      exact ⟨by rw [HR.out]; rfl, hb⟩

set_option maxHeartbeats 1000000 in
theorem ref_top_any (A : Option Addr) (c n : Nat) (l : List Sp) (hn : l.length = n) (s : Int) (w : World) (hr : Ss w w.heap.size A l) (hbig : n ≤ 140737488355328) :
    Calls Tryz.prog 107 #[.slice A n c, .int .i64 s] w fun e w' => e = .returned (.int .i64 (topF l s)) ∧ Below w.heap.size w w' := by
  go_enter Tryz.func107, Tryz.ntmps107
  go_wp2
  go_loopw [5, 6] (fun z q wr => ∃ (k : Nat) (t : Int), k ≤ n ∧ q = .int .i64 k ∧ z = .int .i64 t ∧ Below w.heap.size w wr ∧ Hid (topF (l.take k) s = t)) (fun _ q _ => n - (intOf q).toNat)
  case atStart => exact ⟨0, 0, by omega, rfl, rfl, Below.refl _ _, rfl⟩
  case round =>
    obtain ⟨k, t, hk, rfl, rfl, hb, hst⟩ := hrel
    by_cases hlt : k < n
    · obtain ⟨b, off, rfl, hbB, hc⟩ := hr (by omega)
      obtain ⟨c0, c1, c2⟩ := hc k (by omega)
      have d0 := (hb.cell (p := ⟨b, off + k * 3, none⟩) (by exact hbB)).trans c0
      have d2 := (hb.cell (p := ⟨b, off + k * 3 + 2, none⟩) (by exact hbB)).trans c2
      obtain ⟨⟨x0, x1, x2⟩, hx⟩ : ∃ x, l.getD k (0, 0, 0) = x := ⟨_, rfl⟩
      rw [hx] at d0 d2
      simp only at d0 d2
      have hs := topF_take (l := l) (by rw [hn]; exact hlt) hx s
      rw [hst.out] at hs
      have hbs := hb.size
      by_cases h1 : x0 = s
      · rw [if_pos h1] at hs
        by_cases h2 : t < x2
        · have HS := Lib.hid (hs.trans (show max t x2 = x2 by omega))
          clear hr hc c0 c1 c2 hx hn hs hst
          go_wp2
          all_goals exact ⟨⟨k + 1, x2, by omega, rfl, rfl, hb, HS⟩, by simp only [intOf]; omega⟩
        · have HS := Lib.hid (hs.trans (show max t x2 = t by omega))
          clear hr hc c0 c1 c2 hx hn hs hst
          go_wp2
          all_goals exact ⟨⟨k + 1, t, by omega, rfl, rfl, hb, HS⟩, by simp only [intOf]; omega⟩
      · rw [if_neg h1] at hs
        have HS := Lib.hid hs
        clear hr hc c0 c1 c2 hx hn hs hst
        go_wp2
        all_goals exact ⟨⟨k + 1, t, by omega, rfl, rfl, hb, HS⟩, by simp only [intOf]; omega⟩
    · have hk0 : k = n := by omega
      have hres := hst.out
      rw [List.take_of_length_le (by omega)] at hres
      have HR := Lib.hid hres
      clear hst hr hn hres
      go_wp2
      go_ret
      exact ⟨by rw [HR.out]; rfl, hb⟩

theorem take_eq_step {l m : List Sp} {k : Nat} (hl : k < l.length) (hm : k < m.length) (h : l.take k = m.take k) (he : l.getD k (0, 0, 0) = m.getD k (0, 0, 0)) : l.take (k + 1) = m.take (k + 1) := by
  rw [take_one hl rfl, take_one hm rfl, h, he]
theorem take_ne {l m : List Sp} {k : Nat} (he : l.getD k (0, 0, 0) ≠ m.getD k (0, 0, 0)) : ¬ l = m := fun h => he (by rw [h])

set_option maxHeartbeats 1000000 in
theorem same_any (A A' : Option Addr) (c c' n n' : Nat) (l m : List Sp) (hn : l.length = n) (hn' : m.length = n') (w : World) (hr : Ss w w.heap.size A l) (hr' : Ss w w.heap.size A' m) (hbig : n ≤ 140737488355328) (hbig' : n' ≤ 140737488355328) :
    Calls Tryz.prog 120 #[.slice A n c, .slice A' n' c'] w fun e w' => e = .returned (.bool (decide (l = m))) ∧ Below w.heap.size w w' := by
  by_cases hlen : n = n'
  · subst hlen
    go_enter Tryz.func120, Tryz.ntmps120
    go_wp2
    go_loopw [5] (fun q wr => ∃ k : Nat, k ≤ n ∧ q = .int .i64 k ∧ Below w.heap.size w wr ∧ Hid (l.take k = m.take k)) (fun q _ => n - (intOf q).toNat)
    case atStart => exact ⟨0, by omega, rfl, Below.refl _ _, rfl⟩
    case round =>
      obtain ⟨k, hk, rfl, hb, hst⟩ := hrel
      by_cases hlt : k < n
      · obtain ⟨b, off, rfl, hbB, hc⟩ := hr (by omega)
        obtain ⟨c0, c1, c2⟩ := hc k (by omega)
        have d0 := (hb.cell (p := ⟨b, off + k * 3, none⟩) (by exact hbB)).trans c0
        have d1 := (hb.cell (p := ⟨b, off + k * 3 + 1, none⟩) (by exact hbB)).trans c1
        have d2 := (hb.cell (p := ⟨b, off + k * 3 + 2, none⟩) (by exact hbB)).trans c2
        obtain ⟨b', off', rfl, hbB', hc'⟩ := hr' (by omega)
        obtain ⟨c0', c1', c2'⟩ := hc' k (by omega)
        have d0' := (hb.cell (p := ⟨b', off' + k * 3, none⟩) (by exact hbB')).trans c0'
        have d1' := (hb.cell (p := ⟨b', off' + k * 3 + 1, none⟩) (by exact hbB')).trans c1'
        have d2' := (hb.cell (p := ⟨b', off' + k * 3 + 2, none⟩) (by exact hbB')).trans c2'
        have hy := take_eq_step (l := l) (m := m) (by omega) (by omega) hst.out
        have hz := take_ne (l := l) (m := m) (k := k)
        obtain ⟨⟨x0, x1, x2⟩, hx⟩ : ∃ x, l.getD k (0, 0, 0) = x := ⟨_, rfl⟩
        obtain ⟨⟨y0, y1, y2⟩, hx'⟩ : ∃ x, m.getD k (0, 0, 0) = x := ⟨_, rfl⟩
        rw [hx] at d0 d1 d2
        rw [hx'] at d0' d1' d2'
        rw [hx, hx'] at hy hz
        simp only at d0 d1 d2 d0' d1' d2'
        have r0 : (0 : Int) ≤ (k : Int) := by omega
        have r1 : (k : Int) < (n : Int) := by omega
        by_cases he : (x0, x1, x2) = (y0, y1, y2)
        · have HY := Lib.hid (hy he)
          injection he with e0 e1
          injection e1 with e1 e2
          subst e0 e1 e2
          clear hr hr' hc hc' c0 c1 c2 c0' c1' c2' hst hy hz hx hx' hn hn'
          go_wp2
          go_quiet (fail)
          go_wp2
          all_goals exact ⟨⟨k + 1, by omega, rfl, hb.trans (below_drewN _ _ _), HY⟩, by simp only [intOf]; omega⟩
        · have HZ := Lib.hid (decide_eq_false (hz he))
          have hp : (x0 ≠ y0) ∨ (x0 = y0 ∧ x1 ≠ y1) ∨ (x0 = y0 ∧ x1 = y1 ∧ x2 ≠ y2) := by
            by_cases q0 : x0 = y0
            · by_cases q1 : x1 = y1
              · exact .inr (.inr ⟨q0, q1, fun q2 => he (by rw [q0, q1, q2])⟩)
              · exact .inr (.inl ⟨q0, q1⟩)
            · exact .inl q0
          clear hr hr' hc hc' c0 c1 c2 c0' c1' c2' hst hy hz hx hx' hn hn' he
          rcases hp with q0 | ⟨rfl, q1⟩ | ⟨rfl, rfl, q2⟩
          · have g0 : (x0 == y0) = false := by simp [q0]
            go_wp2
            go_quiet (fail)
            go_wp2
            go_ret
            exact ⟨by rw [HZ.out]; rfl, hb.trans (below_drewN _ _ _)⟩
          · have g0 : (x1 == y1) = false := by simp [q1]
            go_wp2
            go_quiet (fail)
            go_wp2
            go_ret
            exact ⟨by rw [HZ.out]; rfl, hb.trans (below_drewN _ _ _)⟩
          · have g0 : (x2 == y2) = false := by simp [q2]
            go_wp2
            go_quiet (fail)
            go_wp2
            go_ret
            exact ⟨by rw [HZ.out]; rfl, hb.trans (below_drewN _ _ _)⟩
      · have hk0 : k = n := by omega
        have hres := hst.out
        rw [List.take_of_length_le (by omega), List.take_of_length_le (by omega)] at hres
        have HR := Lib.hid (decide_eq_true hres)
        clear hst hr hr' hn hn' hres
        go_wp2
        go_ret
        exact ⟨by rw [HR.out]; rfl, hb⟩
  · have hne : ¬ l = m := fun h => hlen (by rw [← hn, ← hn', h])
    have HR := Lib.hid (decide_eq_false hne)
    clear hr hr' hn hn' hne
    go_enter Tryz.func120, Tryz.ntmps120
    go_wp2
    go_ret
    exact ⟨by rw [HR.out]; rfl, Below.refl _ _⟩
end Span
end Go.Proofs.YtegiigeelcnemaaGreat

/-
  span.lay puts a span behind those laid.
-/
namespace Go.Proofs.YtegiigeelcnemaaGreat
namespace Span
open Go.RowKit
attribute [local go_sem ↓] Go.wp_at_zero Go.wp_at_succ

theorem info_span : ∃ i, Tryz.prog.info? 70 = some i ∧ i.zero = some (.agg #[.int .i64 0, .int .i64 0, .int .i64 0]) ∧ i.size = 3 ∧ i.bytes = 24 := by
  have h : (Tryz.prog.info? 70).map (fun i => (i.zero, i.size, i.bytes)) = some (some (.agg #[.int .i64 0, .int .i64 0, .int .i64 0]), 3, 24) := by kernel_rfl
  obtain ⟨i, h1, h2⟩ := Option.map_eq_some_iff.1 h
  simp only [Prod.mk.injEq] at h2
  exact ⟨i, h1, h2.1, h2.2.1, h2.2.2⟩

/-- The slice l, made at or behind base; nothing below base has turned. -/
def GotSs (base : Nat) (l : List Sp) (w : World) (r : Ending) (w' : World) : Prop :=
  ∃ A c, r = .returned (.slice A l.length c) ∧ w'.ownsRow base 70 3 (.slice A l.length c) l.length (sps l) ∧ Below base w w'

theorem sps_set_last (l : List Sp) (z : Sp) (t : Int) : (sps (l ++ [z])).set (l.length * 3 + 2) (.int .i64 t) = sps (l ++ [(z.1, z.2.1, t)]) := by
  rw [sps_append, sps_append, sps_one, sps_one, List.set_append_right _ _ (by rw [sps_length]; omega)]
  rw [sps_length, show l.length * 3 + 2 - l.length * 3 = 2 by omega]
  rfl
theorem own_snoc {w : World} {base : Nat} {e : TypeId} {A : Option Addr} {c n : Nat} {l : List Sp} {z : Sp} (h : w.ownsRow base e 3 (.slice A n c) (l ++ [z]).length (sps (l ++ [z]))) :
    ∃ g, A = some ⟨g, 0, none⟩ ∧ base ≤ g ∧ g < w.heap.size ∧ w.cell? ⟨g, l.length * 3, none⟩ = some (.int .i64 z.1) ∧ w.cell? ⟨g, l.length * 3 + 1, none⟩ = some (.int .i64 z.2.1) ∧ w.cell? ⟨g, l.length * 3 + 2, none⟩ = some (.int .i64 z.2.2) ∧ ∀ j, w.frozen? ⟨g, j, none⟩ = false := by
  have hs := own_ss h
  obtain ⟨b, off, hA, hb, hc⟩ := hs (by simp)
  have h2 := hc l.length (by simp)
  rcases h.2 with ⟨_, h0⟩ | ⟨g, cap, cur, hv, hbg, hg, hn, hcm, hcs, htake⟩
  · simp at h0
  · injection hv with h1 _ h3
    rw [h1] at hA
    injection hA with hA
    injection hA with e1 e2
    subst e1
    subst e2
    have hz : (l ++ [z]).getD l.length (0, 0, 0) = z := by simp [List.getD_eq_getElem?_getD]
    rw [hz] at h2
    simp only [Nat.zero_add] at h2
    exact ⟨g, h1, hbg, (Array.getElem?_eq_some_iff.1 hg).1, h2.1, h2.2.1, h2.2.2, fun j => by simp [World.frozen?, hg]⟩

end Span
end Go.Proofs.YtegiigeelcnemaaGreat

/-
  span.Join: two right lists merged.
-/
namespace Go.Proofs.YtegiigeelcnemaaGreat
namespace Span
open Go.RowKit
attribute [local go_sem ↓] Go.wp_at_zero Go.wp_at_succ

/-- The answer of Join: the list of both, or the error's number; new memory. -/
def JoinPost (l : List Sp) (f : Int) (w : World) (e : Ending) (w' : World) : Prop :=
  ∃ A c, e = .returned (.tuple #[.slice A l.length c, .int .i64 f]) ∧ w'.ownsRow w.heap.size 70 3 (.slice A l.length c) l.length (sps l) ∧ Below w.heap.size w w'
theorem joinPost_nil (f : Int) (w w' : World) (hb : Below w.heap.size w w') (e : Ending) (he : e = .returned (.tuple #[.slice none 0 0, .int .i64 f])) : JoinPost [] f w e w' :=
  ⟨none, 0, he, World.ownsRow_nil _ _ _ _, hb⟩

theorem ss_at {w w' : World} {B : Nat} {A : Option Addr} {l : List Sp} {n : Nat} (h : Ss w B A l) (hn : l.length = n) (hb : Below B w w') {k : Nat} (hk : k < n) {x : Sp} (hx : l.getD k (0, 0, 0) = x) :
    ∃ b off, A = some ⟨b, off, none⟩ ∧ b < B ∧ w'.cell? ⟨b, off + k * 3, none⟩ = some (.int .i64 x.1) ∧ w'.cell? ⟨b, off + k * 3 + 1, none⟩ = some (.int .i64 x.2.1) ∧ w'.cell? ⟨b, off + k * 3 + 2, none⟩ = some (.int .i64 x.2.2) := by
  subst hn
  subst hx
  obtain ⟨b, off, e, hbB, hc⟩ := h (by omega)
  obtain ⟨c0, c1, c2⟩ := hc k hk
  exact ⟨b, off, e, hbB, (hb.cell (by exact hbB)).trans c0, (hb.cell (by exact hbB)).trans c1, (hb.cell (by exact hbB)).trans c2⟩

end Span
end Go.Proofs.YtegiigeelcnemaaGreat

/-
  firthref03.put: a span laid into a right list.
-/
namespace Go.Proofs.YtegiigeelcnemaaGreat
namespace Span
open Go.RowKit
attribute [local go_sem ↓] Go.wp_at_zero Go.wp_at_succ

/-- Block B is a box that holds the span x. -/
def Bx (W : World) (B : Nat) (x : Sp) : Prop := W.heap[B]? = some (.cells #[.int .i64 x.1, .int .i64 x.2.1, .int .i64 x.2.2] 70 (0, 0))
section
variable {W W' : World} {B : Nat} {x : Sp}
theorem Bx.lt (h : Bx W B x) : B < W.heap.size := (Array.getElem?_eq_some_iff.1 h).1
theorem Bx.c0 (h : Bx W B x) : W.cell? ⟨B, 0, none⟩ = some (.int .i64 x.1) := by simp [World.cell?, show W.heap[B]? = _ from h]
theorem Bx.c1 (h : Bx W B x) : W.cell? ⟨B, 1, none⟩ = some (.int .i64 x.2.1) := by simp [World.cell?, show W.heap[B]? = _ from h]
theorem Bx.c2 (h : Bx W B x) : W.cell? ⟨B, 2, none⟩ = some (.int .i64 x.2.2) := by simp [World.cell?, show W.heap[B]? = _ from h]
theorem Bx.frozen (h : Bx W B x) (j : Nat) : W.frozen? ⟨B, j, none⟩ = false := by simp [World.frozen?, show W.heap[B]? = _ from h]
theorem Bx.new (W : World) (x : Sp) : Bx (W.alloc (.cells #[.int .i64 x.1, .int .i64 x.2.1, .int .i64 x.2.2] 70)) W.heap.size x := heap_alloc_new W _
theorem Bx.kept {row : Option Nat} (h : Bx W B x) (hg : W.grownBy W' row) (hne : some B ≠ row) : Bx W' B x := (hg.block B h.lt hne).trans h
theorem Bx.alloc (h : Bx W B x) (o : Obj) : Bx (W.alloc o) B x := h.kept (World.grownBy_alloc W o none) (by simp)
theorem Bx.below {B' : Nat} (h : Bx W B x) (hb : Below B' W W') (hB : B < B') : Bx W' B x := (hb.block B hB).trans h
theorem Bx.set1 (h : Bx W B x) (z : Int) : Bx (W.setCell ⟨B, 1, none⟩ (.int .i64 z)) B (x.1, z, x.2.2) := by
  have h' : W.heap[B]? = some (.cells #[.int .i64 x.1, .int .i64 x.2.1, .int .i64 x.2.2] 70 (0, 0)) := h
  show (W.setCell ⟨B, 1, none⟩ (.int .i64 z)).heap[B]? = _
  simp [World.setCell, Array.getElem?_modify, h']
theorem Bx.set2 (h : Bx W B x) (z : Int) : Bx (W.setCell ⟨B, 2, none⟩ (.int .i64 z)) B (x.1, x.2.1, z) := by
  have h' : W.heap[B]? = some (.cells #[.int .i64 x.1, .int .i64 x.2.1, .int .i64 x.2.2] 70 (0, 0)) := h
  show (W.setCell ⟨B, 2, none⟩ (.int .i64 z)).heap[B]? = _
  simp [World.setCell, Array.getElem?_modify, h']
end

/-- The slice v owns the spans l; nothing below base has turned. -/
def OwnSs (W : World) (base : Nat) (A : Option Addr) (c : Nat) (l : List Sp) : Prop := W.ownsRow base 70 3 (.slice A l.length c) l.length (sps l)

theorem own_next {W : World} {base : Nat} {A : Option Addr} {c m : Nat} {l : List Sp} {y : Sp} (h : W.ownsRow base 70 3 (.slice A (m + 1) c) (m + 1) (sps (l ++ [y]))) (hm : l.length = m) : OwnSs W base A c (l ++ [y]) := by
  unfold OwnSs
  rw [show (l ++ [y]).length = m + 1 by simp [hm]]
  exact h
theorem len_next {l : List Sp} {m : Nat} (y : Sp) (hm : l.length = m) : (l ++ [y]).length = m + 1 := by simp [hm]
theorem own_back {W : World} {base : Nat} {A : Option Addr} {c m : Nat} {l : List Sp} (hm : l.length = m) (h : W.ownsRow base 70 3 (.slice A m c) m (sps l)) : OwnSs W base A c l := by
  subst hm
  exact h
theorem own_at {W : World} {base : Nat} {A : Option Addr} {c m : Nat} {l : List Sp} (h : OwnSs W base A c l) (hm : l.length = m) : W.ownsRow base 70 3 (.slice A m c) m (sps l) := by
  subst hm
  exact h

end Span
end Go.Proofs.YtegiigeelcnemaaGreat

/-
  firthref03.Join, span.Add, firthref03.Add: the same answers as span.Join's.
-/
namespace Go.Proofs.YtegiigeelcnemaaGreat
namespace Span
open Go.RowKit
attribute [local go_sem ↓] Go.wp_at_zero Go.wp_at_succ

/-! The answers of Add. -/
open Classical in
noncomputable def addE (l : List Sp) (d : Int × Int) : Int := if okDot d then joinE l [(d.1, d.2, d.2)] else 1
open Classical in
noncomputable def addL (l : List Sp) (d : Int × Int) : List Sp := if okDot d then joinL l [(d.1, d.2, d.2)] else []
theorem add_good {l : List Sp} {s k : Int} (h : okDot (s, k)) : addL l (s, k) = joinL l [(s, k, k)] := if_pos h
theorem addE_good {l : List Sp} {s k : Int} (h : okDot (s, k)) : addE l (s, k) = joinE l [(s, k, k)] := if_pos h
theorem add_wrong {l : List Sp} {d : Int × Int} (h : ¬ okDot d) : addE l d = 1 ∧ addL l d = [] := ⟨if_neg h, if_neg h⟩
theorem addL_len (l : List Sp) (d : Int × Int) : (addL l d).length ≤ 1024 := by
  unfold addL
  split
  · exact joinL_len _ _
  · simp
theorem addE_range (l : List Sp) (d : Int × Int) : addE l d = 0 ∨ addE l d = 1 ∨ addE l d = 30 := by
  unfold addE
  split
  · exact joinE_range _ _
  · exact .inr (.inl rfl)

section
variable {P : Program} (w : World)
/-- append of a slice of spans, nil and empty ones too, onto a row of the call's own. -/
theorem wpList_append_ss {ops : Array Oper} {rest : List Oper} {o : Oper} {a : Act} {Q : Exit → Act → World → Prop} (hgd : o.guard = none) (s x : Operand) (t : TypeId)
    (ho : o.op = .call { callee := .builtin .append, args := #[s, x], argTypes := #[t, t] })
    (base : Nat) (e : TypeId) (i : TypeInfo) (z : Value) (bytes : Nat) (ht : P.underlying t = some (.slice e)) (hi : P.info? e = some i) (hz : i.zero = some z)
    (hsize : i.size = 3) (hby : i.bytes = bytes) (hzs : z.cells.size = 3)
    (v : Value) (n : Nat) (l : List Sp) (hs : a.eval s = v) (hown : w.ownsRow base e 3 v n (sps l)) (B : Nat) (A : Option Addr) (m c : Nat) (ys : List Sp) (hm : ys.length = m)
    (hx : a.eval x = .slice A m c) (hr : Ss w B A ys)
    (hbytes : (n + m) * bytes ≤ 140737488355328) (hn : n + m ≤ 140737488355328) (hbase : base ≤ w.heap.size)
    (h : ∀ v' w', w'.ownsRow base e 3 v' (n + m) (sps (l ++ ys)) → w.grownBy w' v.ownBlock → (v'.ownBlock = v.ownBlock ∨ v'.ownBlock = some w.heap.size) → wpList P ops Q rest (a.put o.dst v') w') :
    wpList P ops Q (o :: rest) a w := by
  subst hm
  have hone : ∀ u ∈ sps ys, u.oneCell' = true := by
    intro u hu
    obtain ⟨y, rfl⟩ := sps_cell ys u hu
    rfl
  rcases A with _ | ad
  · have h0 : ys = [] := by
      rcases Nat.eq_zero_or_pos ys.length with h0 | h0
      · exact List.eq_nil_of_length_eq_zero h0
      · obtain ⟨b, off, he, _⟩ := hr h0
        cases he
    subst h0
    refine wpList_plain hgd fun K hK => ?_
    have hrun : (Builtin.append_ #[t, t] o.type #[v, .slice none 0 c]).run P w = .ok v w := by
      rcases hown.2 with ⟨rfl, rfl⟩ | ⟨g, cap, cur, rfl, _, _, hnc, _⟩
      · simp [Builtin.append_, run_underlying ht, sizeOf, typeInfo, hi, Builtin.lenOf, Builtin.firstCells]
      · simp [Builtin.append_, run_underlying ht, sizeOf, typeInfo, hi, Builtin.lenOf, Builtin.firstCells, hnc, storeCells]
    unfold Oper.wp execOp
    simp only [ho, resolve, invoke, builtin, Sem.run_bind, Sem.run_pure, Result.andThen_ok, List.map_toArray, List.map_cons, List.map_nil, hs, hx, List.length_nil, hrun]
    exact hK _ _ (h v w (by simpa using hown) (World.grownBy.refl w _) (.inl rfl))
  · rcases ys with _ | ⟨y, ys⟩
    · refine wpList_append_own_at w hgd s x t ho base e i z 3 bytes ht hi hz hsize hby hzs (by omega) v n (sps l) hs hown ad 0 c [] hx (by simp) (by simp) (by simp) (by unfold maxLen; simp at hn; omega) hbytes hbase
        fun v' w' h1 h2 _ h4 => h v' w' (by simpa using h1) h2 h4
    · obtain ⟨b, off, he, _⟩ := hr (by simp)
      injection he with he
      subst he
      exact wpList_append_own_at w hgd s x t ho base e i z 3 bytes ht hi hz hsize hby hzs (by omega) v n (sps l) hs hown ⟨b, off, none⟩ _ c (sps (y :: ys)) hx (sps_length _) (Ss.cells hr) hone (by unfold maxLen; omega) hbytes hbase
        fun v' w' h1 h2 _ h4 => h v' w' (by rw [sps_append]; exact h1) h2 h4
end

end Span
end Go.Proofs.YtegiigeelcnemaaGreat

/-
  span.Within and firthref03.Within: whether all dots of one right list are in another.
-/
namespace Go.Proofs.YtegiigeelcnemaaGreat
namespace Span
open Go.RowKit
attribute [local go_sem ↓] Go.wp_at_zero Go.wp_at_succ

instance (b : List Sp) (x : Sp) : Decidable (inOne b x) := by unfold inOne; infer_instance
def withinF (a b : List Sp) : Bool := decide (Right a ∧ Right b ∧ ∀ x ∈ a, inOne b x)
theorem within_wrong {a b : List Sp} (h : ¬ (Right a ∧ Right b)) : withinF a b = false := decide_eq_false fun h' => h ⟨h'.1, h'.2.1⟩
theorem within_no {a b : List Sp} {x : Sp} (hx : x ∈ a) (h : ¬ inOne b x) : withinF a b = false := decide_eq_false fun h' => h (h'.2.2 x hx)
theorem within_yes {a b : List Sp} (ha : Right a) (hb : Right b) (h : ∀ x ∈ a, inOne b x) : withinF a b = true := decide_eq_true ⟨ha, hb, h⟩

theorem Bx.drewN {W : World} {B : Nat} {x : Sp} (h : Bx W B x) (n : Nat) : Bx (W.drewN n) B x := h

end Span
end Go.Proofs.YtegiigeelcnemaaGreat

/-
  Slices of spans and of dots, and dots, among a law's arguments.
-/
namespace Go.Proofs.YtegiigeelcnemaaGreat
namespace Span
open Go.ChangeShapes Go.WideShapes Go.ChangeAt Go.RowKit Go.Joins Go.Deep

theorem cells_span : Tryz.prog.cellsOf 70 = 3 := by kernel_rfl
theorem bytes_span : Tryz.prog.bytesOf 70 = 24 := by kernel_rfl
theorem cells_dot : Tryz.prog.cellsOf 103 = 2 := by kernel_rfl
theorem bytes_dot : Tryz.prog.bytesOf 103 = 16 := by kernel_rfl

section
variable {H : Type} {enc : TypeId × Value → H} {P : Program} {W : World}

theorem one_at {cs : List Value} {k : Nat} {v : Value} (h : (cs.drop k).take 1 = [v]) : cs[k]? = some v := by
  rcases Nat.lt_or_ge k cs.length with hk | hk
  · rw [List.drop_eq_getElem_cons hk] at h
    simp only [List.take_succ_cons, List.take_zero, List.cons.injEq, and_true] at h
    rw [List.getElem?_eq_getElem hk, h]
  · rw [List.drop_eq_nil_of_le hk] at h
    simp at h

/-- The cells of one span, as they are read. -/
theorem span_at {e : TypeId} {f0 f1 f2 : Field} {base : Nat} {spare : Nat → Bool} {held : Bool} {n : Nat} {cs : List Value} {x : DataW H × List MemPlace} (he : P.underlying e = some (.struct #[f0, f1, f2])) (hone : oneCellFields P #[f0, f1, f2] = true)
    (i0 : P.underlying f0.type = some (.int .i64)) (i1 : P.underlying f1.type = some (.int .i64)) (i2 : P.underlying f2.type = some (.int .i64)) (h : DataW.trod enc P W base spare held n e cs = some x) :
    ∃ z : Sp, cs[0]? = some (.int .i64 z.1) ∧ cs[1]? = some (.int .i64 z.2.1) ∧ cs[2]? = some (.int .i64 z.2.2) := by
  obtain ⟨y0, y1, y2, m, _, _, h0, h1, h2⟩ := trod_struct3 he h
  obtain ⟨o0, k0⟩ := hone_of hone 0 f0 rfl
  obtain ⟨o1, k1⟩ := hone_of hone 1 f1 rfl
  obtain ⟨o2, k2⟩ := hone_of hone 2 f2 rfl
  rw [o0, k0] at h0
  rw [o1, k1] at h1
  rw [o2, k2] at h2
  obtain ⟨z0, e0, _, _⟩ := DataW.trod_int i0 h0
  obtain ⟨z1, e1, _, _⟩ := DataW.trod_int i1 h1
  obtain ⟨z2, e2, _, _⟩ := DataW.trod_int i2 h2
  exact ⟨(z0, z1, z2), one_at e0, one_at e1, one_at e2⟩
theorem dot_at {e : TypeId} {f0 f1 : Field} {base : Nat} {spare : Nat → Bool} {held : Bool} {n : Nat} {cs : List Value} {x : DataW H × List MemPlace} (he : P.underlying e = some (.struct #[f0, f1])) (hone : oneCellFields P #[f0, f1] = true)
    (i0 : P.underlying f0.type = some (.int .i64)) (i1 : P.underlying f1.type = some (.int .i64)) (h : DataW.trod enc P W base spare held n e cs = some x) :
    ∃ z : Int × Int, cs[0]? = some (.int .i64 z.1) ∧ cs[1]? = some (.int .i64 z.2) := by
  obtain ⟨y0, y1, m, _, _, h0, h1⟩ := trod_struct2 he h
  obtain ⟨o0, k0⟩ := hone_of hone 0 f0 rfl
  obtain ⟨o1, k1⟩ := hone_of hone 1 f1 rfl
  rw [o0, k0] at h0
  rw [o1, k1] at h1
  obtain ⟨z0, e0, _, _⟩ := DataW.trod_int i0 h0
  obtain ⟨z1, e1, _, _⟩ := DataW.trod_int i1 h1
  exact ⟨(z0, z1), one_at e0, one_at e1⟩

/-- A slice of spans among the arguments, nil and empty ones too. -/
theorem open_ss {t e : TypeId} {f0 f1 f2 : Field} {v : Value} {d : DataW H} {p : List MemPlace} {r : Reach} {b0 : Nat} (ht : P.underlying t = some (.slice e)) (he : P.underlying e = some (.struct #[f0, f1, f2])) (hone : oneCellFields P #[f0, f1, f2] = true) (hC : P.cellsOf e = 3)
    (i0 : P.underlying f0.type = some (.int .i64)) (i1 : P.underlying f1.type = some (.int .i64)) (i2 : P.underlying f2.type = some (.int .i64))
    (hv : Value.okWide P W r b0 t v) (h : DataW.Trod enc P W 0 (fun _ => true) true t v d p) :
    ∃ (A : Option Addr) (c : Nat) (l : List Sp), v = .slice A l.length c ∧ Ss W W.heap.size A l ∧ l.length ≤ c ∧ ((d = .nil ∧ l = [] ∧ c = 0) ∨ ∃ el sp, d = .slice el sp ∧ c = el.length + sp.length) := by
  obtain ⟨A, len, c, rfl⟩ := okWide_slice ht hv
  obtain ⟨fuel, hf⟩ := h
  rcases open_slice ht hf with ⟨hcs, hx⟩ | ⟨a, len', cap', m, n, D, Pl, hcs, _, hl, hm, hmm, hx, hi⟩
  · simp [Value.cells] at hcs
    obtain ⟨rfl, rfl, rfl⟩ := hcs
    simp only [Prod.mk.injEq] at hx
    exact ⟨none, 0, [], rfl, Ss.nil _, by simp, .inl ⟨hx.1, rfl, rfl⟩⟩
  · simp [Value.cells] at hcs
    obtain ⟨rfl, rfl, rfl⟩ := hcs
    simp only [Prod.mk.injEq] at hx
    simp only [if_true] at hmm
    subst hmm
    have hz : ∀ i, i < len → ∃ z : Sp, W.cell? (a.add (i * 3)) = some (.int .i64 z.1) ∧ W.cell? (a.add (i * 3 + 1)) = some (.int .i64 z.2.1) ∧ W.cell? (a.add (i * 3 + 2)) = some (.int .i64 z.2.2) := by
      intro i hil
      obtain ⟨cs', hc, ht'⟩ := hi i (by omega)
      rw [hC] at hc
      obtain ⟨_, hcl, hat⟩ := World.cells?_some hc
      obtain ⟨z, z0, z1, z2⟩ := span_at he hone i0 i1 i2 ht'
      have q0 := (hat 0 (by omega)).trans z0
      have q1 := (hat 1 (by omega)).trans z1
      have q2 := (hat 2 (by omega)).trans z2
      rw [Go.Deep.add_add] at q0 q1 q2
      exact ⟨z, q0, q1, q2⟩
    obtain ⟨f, hfz⟩ : ∃ f : Nat → Sp, ∀ i, i < len → W.cell? (a.add (i * 3)) = some (.int .i64 (f i).1) ∧ W.cell? (a.add (i * 3 + 1)) = some (.int .i64 (f i).2.1) ∧ W.cell? (a.add (i * 3 + 2)) = some (.int .i64 (f i).2.2) :=
      ⟨fun i => if h : i < len then (hz i h).choose else (0, 0, 0), fun i h => by simp only [dif_pos h]; exact (hz i h).choose_spec⟩
    have hlen : ((List.range len).map f).length = len := by simp
    refine ⟨some a, _, (List.range len).map f, by rw [hlen], fun hp => ?_, by rw [hlen]; exact hl, .inr ⟨_, _, hx.1, by simp; omega⟩⟩
    rw [hlen] at hp
    obtain ⟨b, off, spot⟩ := a
    have hspot : spot = none := by simpa [Addr.add] using World.cell?_spot (hfz 0 hp).1
    subst hspot
    have hadd : ∀ k, (⟨b, off, none⟩ : Addr).add k = ⟨b, off + k, none⟩ := Go.WideShapes.add_plain b off
    have h0 := (hfz 0 hp).1
    refine ⟨b, off, rfl, by have := World.block_lt_of_cell? W _ h0; rwa [hadd] at this, fun j hj => ?_⟩
    rw [hlen] at hj
    have hg : ((List.range len).map f).getD j (0, 0, 0) = f j := by simp [List.getD_eq_getElem?_getD, hj]
    rw [hg]
    obtain ⟨c0, c1, c2⟩ := hfz j hj
    rw [hadd] at c0 c1 c2
    exact ⟨c0, by rw [Nat.add_assoc]; exact c1, by rw [Nat.add_assoc]; exact c2⟩

/-- How long it may be, by the form's own reach. -/
theorem reach_ss {ts : List TypeId} {ds : List (DataW H)} {j : Nat} {t e : TypeId} {d : DataW H} {l : List Sp} {c nb : Nat} (h : (DataW.weightsEach P ts ds).all (· ≤ reachBytes) = true)
    (ht : ts[j]? = some t) (hd : ds[j]? = some d) (hu : P.underlying t = some (.slice e)) (hb : P.bytesOf e = nb) (hlc : l.length ≤ c)
    (ho : (d = .nil ∧ l = [] ∧ c = 0) ∨ ∃ el sp, d = .slice el sp ∧ c = el.length + sp.length) : l.length * nb ≤ 140737488351232 := by
  rcases ho with ⟨_, rfl, _⟩ | ⟨el, sp, rfl, hc⟩
  · simp
  · have := sized_slice h ht hd hu
    rw [hb] at this
    have h2 : l.length * nb ≤ (el.length + sp.length) * nb := Nat.mul_le_mul_right _ (by omega)
    have h3 : reachBytes = 140737488351232 := by decide
    omega

/-- A dot among the arguments. -/
theorem open_dot {t : TypeId} {f0 f1 : Field} {v : Value} {d : DataW H} {p : List MemPlace} {r : Reach} {b0 : Nat} (hs : P.underlying t = some (.struct #[f0, f1])) (hone : oneCellFields P #[f0, f1] = true) (hC : P.cellsOf t = 2)
    (i0 : P.underlying f0.type = some (.int .i64)) (i1 : P.underlying f1.type = some (.int .i64))
    (hv : Value.okWide P W r b0 t v) (h : DataW.Trod enc P W 0 (fun _ => true) true t v d p) :
    ∃ s n : Int, v = .agg #[.int .i64 s, .int .i64 n] ∧ (Lit.int .i64 s).wf = true ∧ (Lit.int .i64 n).wf = true := by
  obtain ⟨v0, v1, y0, y1, n, rfl, rfl, rfl, h0, h1⟩ := open_agg2 hs hone hC hv h
  obtain ⟨z0, e0, _, w0⟩ := DataW.trod_int i0 h0
  obtain ⟨z1, e1, _, w1⟩ := DataW.trod_int i1 h1
  simp at e0 e1
  subst e0 e1
  exact ⟨z0, z1, rfl, w0, w1⟩
end
end Span
end Go.Proofs.YtegiigeelcnemaaGreat

/-
  Slices of dots: as they are read, and among a law's arguments.
-/
namespace Go.Proofs.YtegiigeelcnemaaGreat
namespace Span
open Go.ChangeShapes Go.WideShapes Go.ChangeAt Go.RowKit Go.Joins Go.Deep

/-- From the address A on stand the dots l, in a block below B. -/
def Ds (w : World) (B : Nat) (A : Option Addr) (l : List (Int × Int)) : Prop :=
  0 < l.length → ∃ b off, A = some ⟨b, off, none⟩ ∧ b < B ∧ ∀ j, j < l.length →
    w.cell? ⟨b, off + j * 2, none⟩ = some (.int .i64 (l.getD j (0, 0)).1) ∧ w.cell? ⟨b, off + j * 2 + 1, none⟩ = some (.int .i64 (l.getD j (0, 0)).2)
theorem Ds.nil {w : World} {B : Nat} (A : Option Addr) : Ds w B A [] := fun h => absurd h (by simp)
theorem ds_at {w w' : World} {B : Nat} {A : Option Addr} {l : List (Int × Int)} {n : Nat} (h : Ds w B A l) (hn : l.length = n) (hb : Below B w w') {k : Nat} (hk : k < n) {x : Int × Int} (hx : l.getD k (0, 0) = x) :
    ∃ b off, A = some ⟨b, off, none⟩ ∧ b < B ∧ w'.cell? ⟨b, off + k * 2, none⟩ = some (.int .i64 x.1) ∧ w'.cell? ⟨b, off + k * 2 + 1, none⟩ = some (.int .i64 x.2) := by
  subst hn
  subst hx
  obtain ⟨b, off, e, hbB, hc⟩ := h (by omega)
  obtain ⟨c0, c1⟩ := hc k hk
  exact ⟨b, off, e, hbB, (hb.cell (by exact hbB)).trans c0, (hb.cell (by exact hbB)).trans c1⟩

section
variable {H : Type} {enc : TypeId × Value → H} {P : Program} {W : World}
/-- A slice of dots among the arguments, nil and empty ones too. -/
theorem open_ds {t e : TypeId} {f0 f1 : Field} {v : Value} {d : DataW H} {p : List MemPlace} {r : Reach} {b0 : Nat} (ht : P.underlying t = some (.slice e)) (he : P.underlying e = some (.struct #[f0, f1])) (hone : oneCellFields P #[f0, f1] = true) (hC : P.cellsOf e = 2)
    (i0 : P.underlying f0.type = some (.int .i64)) (i1 : P.underlying f1.type = some (.int .i64))
    (hv : Value.okWide P W r b0 t v) (h : DataW.Trod enc P W 0 (fun _ => true) true t v d p) :
    ∃ (A : Option Addr) (c : Nat) (l : List (Int × Int)), v = .slice A l.length c ∧ Ds W W.heap.size A l ∧ l.length ≤ c ∧ ((d = .nil ∧ l = [] ∧ c = 0) ∨ ∃ el sp, d = .slice el sp ∧ c = el.length + sp.length) := by
  obtain ⟨A, len, c, rfl⟩ := okWide_slice ht hv
  obtain ⟨fuel, hf⟩ := h
  rcases open_slice ht hf with ⟨hcs, hx⟩ | ⟨a, len', cap', m, n, D, Pl, hcs, _, hl, hm, hmm, hx, hi⟩
  · simp [Value.cells] at hcs
    obtain ⟨rfl, rfl, rfl⟩ := hcs
    simp only [Prod.mk.injEq] at hx
    exact ⟨none, 0, [], rfl, Ds.nil _, by simp, .inl ⟨hx.1, rfl, rfl⟩⟩
  · simp [Value.cells] at hcs
    obtain ⟨rfl, rfl, rfl⟩ := hcs
    simp only [Prod.mk.injEq] at hx
    simp only [if_true] at hmm
    subst hmm
    have hz : ∀ i, i < len → ∃ z : Int × Int, W.cell? (a.add (i * 2)) = some (.int .i64 z.1) ∧ W.cell? (a.add (i * 2 + 1)) = some (.int .i64 z.2) := by
      intro i hil
      obtain ⟨cs', hc, ht'⟩ := hi i (by omega)
      rw [hC] at hc
      obtain ⟨_, hcl, hat⟩ := World.cells?_some hc
      obtain ⟨z, z0, z1⟩ := dot_at he hone i0 i1 ht'
      have q0 := (hat 0 (by omega)).trans z0
      have q1 := (hat 1 (by omega)).trans z1
      rw [Go.Deep.add_add] at q0 q1
      exact ⟨z, q0, q1⟩
    obtain ⟨f, hfz⟩ : ∃ f : Nat → Int × Int, ∀ i, i < len → W.cell? (a.add (i * 2)) = some (.int .i64 (f i).1) ∧ W.cell? (a.add (i * 2 + 1)) = some (.int .i64 (f i).2) :=
      ⟨fun i => if h : i < len then (hz i h).choose else (0, 0), fun i h => by simp only [dif_pos h]; exact (hz i h).choose_spec⟩
    have hlen : ((List.range len).map f).length = len := by simp
    refine ⟨some a, _, (List.range len).map f, by rw [hlen], fun hp => ?_, by rw [hlen]; exact hl, .inr ⟨_, _, hx.1, by simp; omega⟩⟩
    rw [hlen] at hp
    obtain ⟨b, off, spot⟩ := a
    have hspot : spot = none := by simpa [Addr.add] using World.cell?_spot (hfz 0 hp).1
    subst hspot
    have hadd : ∀ k, (⟨b, off, none⟩ : Addr).add k = ⟨b, off + k, none⟩ := Go.WideShapes.add_plain b off
    have h0 := (hfz 0 hp).1
    refine ⟨b, off, rfl, by have := World.block_lt_of_cell? W _ h0; rwa [hadd] at this, fun j hj => ?_⟩
    rw [hlen] at hj
    have hg : ((List.range len).map f).getD j (0, 0) = f j := by simp [List.getD_eq_getElem?_getD, hj]
    rw [hg]
    obtain ⟨c0, c1⟩ := hfz j hj
    rw [hadd] at c0 c1
    exact ⟨c0, by rw [Nat.add_assoc]; exact c1⟩

/-- How long it may be, by the form's own reach. -/
theorem reach_ds {ts : List TypeId} {ds : List (DataW H)} {j : Nat} {t e : TypeId} {d : DataW H} {l : List (Int × Int)} {c nb : Nat} (h : (DataW.weightsEach P ts ds).all (· ≤ reachBytes) = true)
    (ht : ts[j]? = some t) (hd : ds[j]? = some d) (hu : P.underlying t = some (.slice e)) (hb : P.bytesOf e = nb) (hlc : l.length ≤ c)
    (ho : (d = .nil ∧ l = [] ∧ c = 0) ∨ ∃ el sp, d = .slice el sp ∧ c = el.length + sp.length) : l.length * nb ≤ 140737488351232 := by
  rcases ho with ⟨_, rfl, _⟩ | ⟨el, sp, rfl, hc⟩
  · simp
  · have := sized_slice h ht hd hu
    rw [hb] at this
    have h2 : l.length * nb ≤ (el.length + sp.length) * nb := Nat.mul_le_mul_right _ (by omega)
    have h3 : reachBytes = 140737488351232 := by decide
    omega

end

/-! ### Dots laid one by one into a set -/
/-- The right dots among these. -/
def dm (l : List (Int × Int)) (d : Int × Int) : Prop := d ∈ l ∧ okDot d
instance (l : List (Int × Int)) (d : Int × Int) : Decidable (dm l d) := by unfold dm; infer_instance
theorem dtake_one {l : List (Int × Int)} {i : Nat} {y : Int × Int} (hi : i < l.length) (hy : l.getD i (0, 0) = y) : l.take (i + 1) = l.take i ++ [y] := by
  rw [List.take_succ_eq_append_getElem hi]
  rw [List.getD_eq_getElem?_getD, List.getElem?_eq_getElem hi, Option.getD_some] at hy
  rw [hy]
theorem dm_step {l : List (Int × Int)} {i : Nat} {y : Int × Int} (hi : i < l.length) (hy : l.getD i (0, 0) = y) (d : Int × Int) : dm (l.take (i + 1)) d ↔ dm (l.take i) d ∨ (d = y ∧ okDot y) := by
  rw [dtake_one hi hy]
  unfold dm
  rw [List.mem_append, List.mem_singleton]
  constructor
  · rintro ⟨h | rfl, h2⟩
    · exact .inl ⟨h, h2⟩
    · exact .inr ⟨rfl, h2⟩
  · rintro (⟨h, h2⟩ | ⟨rfl, h2⟩)
    · exact ⟨.inl h, h2⟩
    · exact ⟨.inr rfl, h2⟩
/-- X has just the right dots of l, and no more spans than k. -/
def Laid (X : List Sp) (l : List (Int × Int)) (k : Nat) : Prop := Fine X ∧ (∀ s n, mem X s n ↔ dm l (s, n)) ∧ X.length ≤ k
theorem laid_nil (l : List (Int × Int)) : Laid [] (l.take 0) 0 := ⟨fine_nil, fun s n => by simp [mem_nil, dm], by simp⟩
theorem laid_skip {X : List Sp} {l : List (Int × Int)} {i k : Nat} {y : Int × Int} (hi : i < l.length) (hy : l.getD i (0, 0) = y) (hn : ¬ okDot y) (h : Laid X (l.take i) k) : Laid X (l.take (i + 1)) (k + 1) :=
  ⟨h.1, fun s n => by rw [h.2.1, dm_step hi hy]; exact ⟨.inl, fun h => h.elim id fun h => absurd h.2 hn⟩, Nat.le_succ_of_le h.2.2⟩
theorem laid_more {X : List Sp} {l : List (Int × Int)} {i k : Nat} {s n : Int} (hi : i < l.length) (hy : l.getD i (0, 0) = (s, n)) (ho : okDot (s, n)) (hk : k < 1024) (h : Laid X (l.take i) k) :
    ∃ r, addE X (s, n) = 0 ∧ addL X (s, n) = r ∧ Laid r (l.take (i + 1)) (k + 1) := by
  have hx : okSp (s, n, n) := by unfold okDot at ho; unfold okSp; simp only at ho ⊢; omega
  obtain ⟨hj, hl⟩ := joinOf_is (b := [(s, n, n)]) h.1 (by simpa using hx)
  obtain ⟨r, hr⟩ : ∃ r, joinOf X [(s, n, n)] = r := ⟨_, rfl⟩
  rw [hr] at hj hl
  have hl2 : r.length ≤ k + 1 := by have := h.2.2; simp only [List.length_cons, List.length_nil] at hl; omega
  have hg := join_good (a := X) (b := [(s, n, n)]) ⟨by have := h.2.2; omega, h.1⟩ ⟨by simp, fine_one hx⟩ hj (by omega)
  refine ⟨r, by rw [addE_good ho]; exact hg.1, by rw [add_good ho]; exact hg.2, hj.1, fun t m => ?_, hl2⟩
  rw [hj.2, h.2.1, dm_step hi hy, mem_one]
  refine or_congr Iff.rfl ⟨fun ⟨e1, e2, e3⟩ => ?_, fun ⟨e, _⟩ => ?_⟩
  · simp only at e1 e2 e3
    exact ⟨by rw [← e1]; exact Prod.ext rfl (by simp only; omega), ho⟩
  · injection e with e1 e2
    exact ⟨e1.symm, by simp only; omega, by simp only; omega⟩
/-- Two such sets joined, in either order. -/
theorem laid_join {X Y : List Sp} {l m : List (Int × Int)} {d : Int × Int} (hX : Laid X l 500) (hY : Laid Y m 500) :
    ∃ U, joinE X Y = 0 ∧ joinL X Y = U ∧ joinE Y X = 0 ∧ joinL Y X = U ∧ Right U ∧ hasL U d.1 d.2 = decide (dm l d ∨ dm m d) ∧ Right X ∧ Right Y ∧ (∀ s n, mem U s n ↔ mem X s n ∨ mem Y s n) := by
  have rX : Right X := ⟨by have := hX.2.2; omega, hX.1⟩
  have rY : Right Y := ⟨by have := hY.2.2; omega, hY.1⟩
  obtain ⟨hj, hl⟩ := joinOf_is hX.1 hY.1.1
  obtain ⟨U, hU⟩ : ∃ U, joinOf X Y = U := ⟨_, rfl⟩
  rw [hU] at hj hl
  have hl2 : U.length ≤ 1024 := by have := hX.2.2; have := hY.2.2; omega
  have g1 := join_good rX rY hj hl2
  have g2 := join_good rY rX (r := U) ⟨hj.1, fun s n => by rw [hj.2, or_comm]⟩ hl2
  refine ⟨U, g1.1, g1.2, g2.1, g2.2, ⟨hl2, hj.1⟩, ?_, rX, rY, hj.2⟩
  rw [hasL_mem]
  exact decide_eq_decide.2 (by rw [hj.2, hX.2.1, hY.2.1])
end Span
end Go.Proofs.YtegiigeelcnemaaGreat
