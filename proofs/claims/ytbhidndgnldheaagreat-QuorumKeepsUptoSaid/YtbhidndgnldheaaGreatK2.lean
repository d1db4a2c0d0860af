/-
  Several texts of this family in one: SpanReads, SpanLay, SpanJoin, SpanPut.
-/
import Derived.Test.YtbhidndgnldheaaGreatK1
/-
 Functions that only read spans: firthref03.Has, span.Top, firthref03.Top, firthref03.Same.
-/
namespace Go.Proofs.YtbhidndgnldheaaGreat
namespace Span
open Go.RowKit

set_option maxHeartbeats 1000000 in
theorem ref_has_any (A : Option Addr) (c n' : Nat) (l : List Sp) (hn : l.length = n') (s n : Int) (w : World) (hr : Ss w w.heap.size A l) (hbig : n' ≤ 140737488355328) :
  Calls Tryz.prog 48 #[.slice A n' c, .agg #[.int .i64 s, .int .i64 n]] w fun e w' => e = .returned (.bool (hasL l s n)) ∧ Below w.heap.size w w' := by
 go_enter Tryz.func48, Tryz.ntmps48
 go_wp2
 go_loopw [5] (fun q wr => ∃ k : Nat, k ≤ n' ∧ q = .int .i64 k ∧ Below (w.heap.size + 1) (w.alloc (.cells #[.int .i64 s, .int .i64 n] 37)) wr ∧ Hid (hasL l s n = hasL (l.drop k) s n)) (fun q _ => n' - (intOf q).toNat)
 case atStart => exact ⟨0, by omega, rfl, Below.refl _ _, rfl⟩
 case round =>
  obtain ⟨k, hk, rfl, hb, hst⟩ := hrel
  have hbw := ((Below.refl w.heap.size w).alloc (Nat.le_refl _) (.cells #[.int .i64 s, .int .i64 n] 37)).trans (hb.mono (Nat.le_succ _))
  by_cases hlt : k < n'
  ·obtain ⟨b, off, rfl, hbB, hc⟩ := hr (by omega)
   obtain ⟨c0, c1, c2⟩ := hc k (by omega)
   have d0 := (hb.cell (p := ⟨b, off + k * 3, none⟩) (by show b < _; omega)).trans ((World.cell?_alloc_lt w _ _ (by exact hbB)).trans c0)
   have d1 := (hb.cell (p := ⟨b, off + k * 3 + 1, none⟩) (by show b < _; omega)).trans ((World.cell?_alloc_lt w _ _ (by exact hbB)).trans c1)
   have d2 := (hb.cell (p := ⟨b, off + k * 3 + 2, none⟩) (by show b < _; omega)).trans ((World.cell?_alloc_lt w _ _ (by exact hbB)).trans c2)
   have e0 : wr.cell? ⟨w.heap.size, 0, none⟩ = some (.int .i64 s) := (hb.cell (by simp)).trans (by simp)
   have e1 : wr.cell? ⟨w.heap.size, 1, none⟩ = some (.int .i64 n) := (hb.cell (by simp)).trans (by simp)
   obtain ⟨⟨x0, x1, x2⟩, hx⟩ : ∃ x, l.getD k (0, 0, 0) = x := ⟨_, rfl⟩
   rw [hx] at d0 d1 d2
   simp only at d0 d1 d2
   have HX := Lib.hid hx
   have HN := Lib.hid hn
   have r0 : (0 : Int) ≤ (k : Int) := by omega
   have r1 : (k : Int) < (n' : Int) := by omega
   clear hr hc c0 c1 c2 hx hn
   by_cases h1 : x0 = s
   ·have g1 : (x0 == s) = true := by simp [h1]
    by_cases h2 : x1 ≤ n
    ·have g2 : decide (x1 ≤ n) = true := decide_eq_true h2
     by_cases h3 : n ≤ x2
     ·have g3 : decide (n ≤ x2) = true := decide_eq_true h3
      have hres := Lib.hid (hst.out.trans (hasL_hit (by rw [HN.out]; exact hlt) HX.out h1 h2 h3))
      clear hst HX HN h1
      go_wp2
      go_quiet (fail)
      go_wp2
      go_ret
      exact ⟨by rw [hres.out]; rfl, hbw.trans (below_drewN _ _ _)⟩
     ·have g3 : decide (n ≤ x2) = false := decide_eq_false h3
      have hres := Lib.hid (hst.out.trans (hasL_miss (by rw [HN.out]; exact hlt) HX.out fun h => h3 h.2.2))
      clear hst HX HN h1
      go_wp2
      go_quiet (fail)
      go_wp2
      exact ⟨⟨k + 1, by omega, rfl, hb.trans (below_drewN _ _ _), hres⟩, by simp only [intOf]; omega⟩
    ·have g2 : decide (x1 ≤ n) = false := decide_eq_false h2
     have hres := Lib.hid (hst.out.trans (hasL_miss (by rw [HN.out]; exact hlt) HX.out fun h => h2 h.2.1))
     clear hst HX HN h1
     go_wp2
     go_quiet (fail)
     go_wp2
     exact ⟨⟨k + 1, by omega, rfl, hb.trans (below_drewN _ _ _), hres⟩, by simp only [intOf]; omega⟩
   ·have g1 : (x0 == s) = false := by simp [h1]
    have hres := Lib.hid (hst.out.trans (hasL_miss (by rw [HN.out]; exact hlt) HX.out fun h => h1 h.1))
    clear hst HX HN h1
    go_wp2
    go_quiet (fail)
    go_wp2
    exact ⟨⟨k + 1, by omega, rfl, hb.trans (below_drewN _ _ _), hres⟩, by simp only [intOf]; omega⟩
  ·have hk0 : k = n' := by omega
   have hres := Lib.hid (hst.out.trans (by rw [List.drop_eq_nil_of_le (by omega)]; rfl : _ = false))
   clear hst hr hn
   go_wp2
   go_ret
   exact ⟨by rw [hres.out]; rfl, hbw⟩

set_option maxHeartbeats 1000000 in
theorem top_any (A : Option Addr) (c n : Nat) (l : List Sp) (hn : l.length = n) (s : Int) (w : World) (hr : Ss w w.heap.size A l) (hbig : n ≤ 140737488355328) :
  Calls Tryz.prog 71 #[.slice A n c, .int .i64 s] w fun e w' => e = .returned (.int .i64 (topF l s)) ∧ Below w.heap.size w w' := by
 go_enter Tryz.func71, Tryz.ntmps71
 go_wp2
 go_loopw [5, 10] (fun z q wr => ∃ (k : Nat) (t : Int), k ≤ n ∧ q = .int .i64 k ∧ z = .int .i64 t ∧ Below w.heap.size w wr ∧ Hid (topF (l.take k) s = t)) (fun _ q _ => n - (intOf q).toNat)
 case atStart => exact ⟨0, 0, by omega, rfl, rfl, Below.refl _ _, rfl⟩
 case round =>
  obtain ⟨k, t, hk, rfl, rfl, hb, hst⟩ := hrel
  by_cases hlt : k < n
  ·obtain ⟨b, off, rfl, hbB, hc⟩ := hr (by omega)
   obtain ⟨c0, c1, c2⟩ := hc k (by omega)
   have d0 := (hb.cell (p := ⟨b, off + k * 3, none⟩) (by exact hbB)).trans c0
   have d1 := (hb.cell (p := ⟨b, off + k * 3 + 1, none⟩) (by exact hbB)).trans c1
   have d2 := (hb.cell (p := ⟨b, off + k * 3 + 2, none⟩) (by exact hbB)).trans c2
   obtain ⟨⟨x0, x1, x2⟩, hx⟩ : ∃ x, l.getD k (0, 0, 0) = x := ⟨_, rfl⟩
   rw [hx] at d0 d1 d2
   simp only at d0 d1 d2
   have hs := topF_take (l := l) (by rw [hn]; exact hlt) hx s
   rw [hst.out] at hs
   have hbs := hb.size
   by_cases h1 : x0 = s
   ·rw [if_pos h1] at hs
    have HS := Lib.hid hs
    clear hr hc c0 c1 c2 hx hn hs hst
    go_wp2
    all_goals exact ⟨⟨k + 1, max t x2, by omega, rfl, by first | rfl | (congr 1; omega), hb.alloc hbs _, HS⟩, by simp only [intOf]; omega⟩
   ·rw [if_neg h1] at hs
    have HS := Lib.hid hs
    clear hr hc c0 c1 c2 hx hn hs hst
    go_wp2
    all_goals exact ⟨⟨k + 1, t, by omega, rfl, rfl, hb.alloc hbs _, HS⟩, by simp only [intOf]; omega⟩
  ·have hk0 : k = n := by omega
   have hres := hst.out
   rw [List.take_of_length_le (by omega)] at hres
   have HR := Lib.hid hres
   clear hst hr hn hres
   go_wp2
   go_ret
   exact ⟨by rw [HR.out]; rfl, hb⟩

set_option maxHeartbeats 1000000 in
theorem ref_top_any (A : Option Addr) (c n : Nat) (l : List Sp) (hn : l.length = n) (s : Int) (w : World) (hr : Ss w w.heap.size A l) (hbig : n ≤ 140737488355328) :
  Calls Tryz.prog 47 #[.slice A n c, .int .i64 s] w fun e w' => e = .returned (.int .i64 (topF l s)) ∧ Below w.heap.size w w' := by
 go_enter Tryz.func47, Tryz.ntmps47
 go_wp2
 go_loopw [5, 6] (fun z q wr => ∃ (k : Nat) (t : Int), k ≤ n ∧ q = .int .i64 k ∧ z = .int .i64 t ∧ Below w.heap.size w wr ∧ Hid (topF (l.take k) s = t)) (fun _ q _ => n - (intOf q).toNat)
 case atStart => exact ⟨0, 0, by omega, rfl, rfl, Below.refl _ _, rfl⟩
 case round =>
  obtain ⟨k, t, hk, rfl, rfl, hb, hst⟩ := hrel
  by_cases hlt : k < n
  ·obtain ⟨b, off, rfl, hbB, hc⟩ := hr (by omega)
   obtain ⟨c0, c1, c2⟩ := hc k (by omega)
   have d0 := (hb.cell (p := ⟨b, off + k * 3, none⟩) (by exact hbB)).trans c0
   have d2 := (hb.cell (p := ⟨b, off + k * 3 + 2, none⟩) (by exact hbB)).trans c2
   obtain ⟨⟨x0, x1, x2⟩, hx⟩ : ∃ x, l.getD k (0, 0, 0) = x := ⟨_, rfl⟩
   rw [hx] at d0 d2
   simp only at d0 d2
   have hs := topF_take (l := l) (by rw [hn]; exact hlt) hx s
   rw [hst.out] at hs
   have hbs := hb.size
   by_cases h1 : x0 = s
   ·rw [if_pos h1] at hs
    by_cases h2 : t < x2
    ·have HS := Lib.hid (hs.trans (show max t x2 = x2 by omega))
     clear hr hc c0 c1 c2 hx hn hs hst
     go_wp2
     all_goals exact ⟨⟨k + 1, x2, by omega, rfl, rfl, hb, HS⟩, by simp only [intOf]; omega⟩
    ·have HS := Lib.hid (hs.trans (show max t x2 = t by omega))
     clear hr hc c0 c1 c2 hx hn hs hst
     go_wp2
     all_goals exact ⟨⟨k + 1, t, by omega, rfl, rfl, hb, HS⟩, by simp only [intOf]; omega⟩
   ·rw [if_neg h1] at hs
    have HS := Lib.hid hs
    clear hr hc c0 c1 c2 hx hn hs hst
    go_wp2
    all_goals exact ⟨⟨k + 1, t, by omega, rfl, rfl, hb, HS⟩, by simp only [intOf]; omega⟩
  ·have hk0 : k = n := by omega
   have hres := hst.out
   rw [List.take_of_length_le (by omega)] at hres
   have HR := Lib.hid hres
   clear hst hr hn hres
   go_wp2
   go_ret
   exact ⟨by rw [HR.out]; rfl, hb⟩

theorem take_eq_step {l m : List Sp} {k : Nat} (hl : k < l.length) (hm : k < m.length) (h : l.take k = m.take k) (he : l.getD k (0, 0, 0) = m.getD k (0, 0, 0)) : l.take (k + 1) = m.take (k + 1) := by
 rw [take_one hl rfl, take_one hm rfl, h, he]
theorem take_ne {l m : List Sp} {k : Nat} (he : l.getD k (0, 0, 0) ≠ m.getD k (0, 0, 0)) : ¬ l = m := fun h => he (by rw [h])

set_option maxHeartbeats 1000000 in
theorem same_any (A A' : Option Addr) (c c' n n' : Nat) (l m : List Sp) (hn : l.length = n) (hn' : m.length = n') (w : World) (hr : Ss w w.heap.size A l) (hr' : Ss w w.heap.size A' m) (hbig : n ≤ 140737488355328) (hbig' : n' ≤ 140737488355328) :
  Calls Tryz.prog 68 #[.slice A n c, .slice A' n' c'] w fun e w' => e = .returned (.bool (decide (l = m))) ∧ Below w.heap.size w w' := by
 by_cases hlen : n = n'
 ·subst hlen
  go_enter Tryz.func68, Tryz.ntmps68
  go_wp2
  go_loopw [5] (fun q wr => ∃ k : Nat, k ≤ n ∧ q = .int .i64 k ∧ Below w.heap.size w wr ∧ Hid (l.take k = m.take k)) (fun q _ => n - (intOf q).toNat)
  case atStart => exact ⟨0, by omega, rfl, Below.refl _ _, rfl⟩
  case round =>
   obtain ⟨k, hk, rfl, hb, hst⟩ := hrel
   by_cases hlt : k < n
   ·obtain ⟨b, off, rfl, hbB, hc⟩ := hr (by omega)
    obtain ⟨c0, c1, c2⟩ := hc k (by omega)
    have d0 := (hb.cell (p := ⟨b, off + k * 3, none⟩) (by exact hbB)).trans c0
    have d1 := (hb.cell (p := ⟨b, off + k * 3 + 1, none⟩) (by exact hbB)).trans c1
    have d2 := (hb.cell (p := ⟨b, off + k * 3 + 2, none⟩) (by exact hbB)).trans c2
    obtain ⟨b', off', rfl, hbB', hc'⟩ := hr' (by omega)
    obtain ⟨c0', c1', c2'⟩ := hc' k (by omega)
    have d0' := (hb.cell (p := ⟨b', off' + k * 3, none⟩) (by exact hbB')).trans c0'
    have d1' := (hb.cell (p := ⟨b', off' + k * 3 + 1, none⟩) (by exact hbB')).trans c1'
    have d2' := (hb.cell (p := ⟨b', off' + k * 3 + 2, none⟩) (by exact hbB')).trans c2'
    have hy := take_eq_step (l := l) (m := m) (by omega) (by omega) hst.out
    have hz := take_ne (l := l) (m := m) (k := k)
    obtain ⟨⟨x0, x1, x2⟩, hx⟩ : ∃ x, l.getD k (0, 0, 0) = x := ⟨_, rfl⟩
    obtain ⟨⟨y0, y1, y2⟩, hx'⟩ : ∃ x, m.getD k (0, 0, 0) = x := ⟨_, rfl⟩
    rw [hx] at d0 d1 d2
    rw [hx'] at d0' d1' d2'
    rw [hx, hx'] at hy hz
    simp only at d0 d1 d2 d0' d1' d2'
    have r0 : (0 : Int) ≤ (k : Int) := by omega
    have r1 : (k : Int) < (n : Int) := by omega
    by_cases he : (x0, x1, x2) = (y0, y1, y2)
    ·have HY := Lib.hid (hy he)
     injection he with e0 e1
     injection e1 with e1 e2
     subst e0 e1 e2
     clear hr hr' hc hc' c0 c1 c2 c0' c1' c2' hst hy hz hx hx' hn hn'
     go_wp2
     go_quiet (fail)
     go_wp2
     all_goals exact ⟨⟨k + 1, by omega, rfl, hb.trans (below_drewN _ _ _), HY⟩, by simp only [intOf]; omega⟩
    ·have HZ := Lib.hid (decide_eq_false (hz he))
     have hp : (x0 ≠ y0) ∨ (x0 = y0 ∧ x1 ≠ y1) ∨ (x0 = y0 ∧ x1 = y1 ∧ x2 ≠ y2) := by
      by_cases q0 : x0 = y0
      ·by_cases q1 : x1 = y1
       ·exact .inr (.inr ⟨q0, q1, fun q2 => he (by rw [q0, q1, q2])⟩)
       ·exact .inr (.inl ⟨q0, q1⟩)
      ·exact .inl q0
     clear hr hr' hc hc' c0 c1 c2 c0' c1' c2' hst hy hz hx hx' hn hn' he
     rcases hp with q0 | ⟨rfl, q1⟩ | ⟨rfl, rfl, q2⟩
     ·have g0 : (x0 == y0) = false := by simp [q0]
      go_wp2
      go_quiet (fail)
      go_wp2
      go_ret
      exact ⟨by rw [HZ.out]; rfl, hb.trans (below_drewN _ _ _)⟩
     ·have g0 : (x1 == y1) = false := by simp [q1]
      go_wp2
      go_quiet (fail)
      go_wp2
      go_ret
      exact ⟨by rw [HZ.out]; rfl, hb.trans (below_drewN _ _ _)⟩
     ·have g0 : (x2 == y2) = false := by simp [q2]
      go_wp2
      go_quiet (fail)
      go_wp2
      go_ret
      exact ⟨by rw [HZ.out]; rfl, hb.trans (below_drewN _ _ _)⟩
   ·have hk0 : k = n := by omega
    have hres := hst.out
    rw [List.take_of_length_le (by omega), List.take_of_length_le (by omega)] at hres
    have HR := Lib.hid (decide_eq_true hres)
    clear hst hr hr' hn hn' hres
    go_wp2
    go_ret
    exact ⟨by rw [HR.out]; rfl, hb⟩
 ·have hne : ¬ l = m := fun h => hlen (by rw [← hn, ← hn', h])
  have HR := Lib.hid (decide_eq_false hne)
  clear hr hr' hn hn' hne
  go_enter Tryz.func68, Tryz.ntmps68
  go_wp2
  go_ret
  exact ⟨by rw [HR.out]; rfl, Below.refl _ _⟩
end Span
end Go.Proofs.YtbhidndgnldheaaGreat

/-
 span.lay puts a span behind those laid.
-/
namespace Go.Proofs.YtbhidndgnldheaaGreat
namespace Span
open Go.RowKit
attribute [local go_sem ↓] Go.wp_at_zero Go.wp_at_succ

theorem info_span : ∃ i, Tryz.prog.info? 43 = some i ∧ i.zero = some (.agg #[.int .i64 0, .int .i64 0, .int .i64 0]) ∧ i.size = 3 ∧ i.bytes = 24 := by
 have h : (Tryz.prog.info? 43).map (fun i => (i.zero, i.size, i.bytes)) = some (some (.agg #[.int .i64 0, .int .i64 0, .int .i64 0]), 3, 24) := by kernel_rfl
 obtain ⟨i, h1, h2⟩ := Option.map_eq_some_iff.1 h
 simp only [Prod.mk.injEq] at h2
 exact ⟨i, h1, h2.1, h2.2.1, h2.2.2⟩

end Span
end Go.Proofs.YtbhidndgnldheaaGreat

/-
 span.Join: two right lists merged.
-/
namespace Go.Proofs.YtbhidndgnldheaaGreat
namespace Span
open Go.RowKit
attribute [local go_sem ↓] Go.wp_at_zero Go.wp_at_succ

end Span
end Go.Proofs.YtbhidndgnldheaaGreat

/-
 firthref03.put: a span laid into a right list.
-/
namespace Go.Proofs.YtbhidndgnldheaaGreat
namespace Span
open Go.RowKit
attribute [local go_sem ↓] Go.wp_at_zero Go.wp_at_succ

def Bx (W : World) (B : Nat) (x : Sp) : Prop := W.heap[B]? = some (.cells #[.int .i64 x.1, .int .i64 x.2.1, .int .i64 x.2.2] 43 (0, 0))
section
variable {W W' : World} {B : Nat} {x : Sp}
theorem Bx.lt (h : Bx W B x) : B < W.heap.size := (Array.getElem?_eq_some_iff.1 h).1
theorem Bx.c0 (h : Bx W B x) : W.cell? ⟨B, 0, none⟩ = some (.int .i64 x.1) := by simp [World.cell?, show W.heap[B]? = _ from h]
theorem Bx.c1 (h : Bx W B x) : W.cell? ⟨B, 1, none⟩ = some (.int .i64 x.2.1) := by simp [World.cell?, show W.heap[B]? = _ from h]
theorem Bx.c2 (h : Bx W B x) : W.cell? ⟨B, 2, none⟩ = some (.int .i64 x.2.2) := by simp [World.cell?, show W.heap[B]? = _ from h]
theorem Bx.frozen (h : Bx W B x) (j : Nat) : W.frozen? ⟨B, j, none⟩ = false := by simp [World.frozen?, show W.heap[B]? = _ from h]
theorem Bx.new (W : World) (x : Sp) : Bx (W.alloc (.cells #[.int .i64 x.1, .int .i64 x.2.1, .int .i64 x.2.2] 43)) W.heap.size x := heap_alloc_new W _
theorem Bx.kept {row : Option Nat} (h : Bx W B x) (hg : W.grownBy W' row) (hne : some B ≠ row) : Bx W' B x := (hg.block B h.lt hne).trans h
theorem Bx.alloc (h : Bx W B x) (o : Obj) : Bx (W.alloc o) B x := h.kept (World.grownBy_alloc W o none) (by simp)
theorem Bx.below {B' : Nat} (h : Bx W B x) (hb : Below B' W W') (hB : B < B') : Bx W' B x := (hb.block B hB).trans h
end

end Span
end Go.Proofs.YtbhidndgnldheaaGreat
