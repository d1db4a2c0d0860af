/-
  Several texts of this family in one: SpanReads, SpanLay, CodeSpans, PutText, CodeWr, CodeWrSet, VersPlain, CodeVerPlain, Blk, DiskPlain, VersBase, VersCmp, SpanJoin, SpanPut.
-/
import Derived.Test.YtkfdplfgaddkmaaGreatK2
import Derived.Deep.AppendLies
import Derived.Deep.RegionLaw
import Derived.Sort.Walk0
import Derived.Deep.RegionHeld3
import Derived.Deep.DrawnRows
import Derived.IntWalk
/-
 Functions that only read spans: firthref03.Has, span.Top, firthref03.Top, firthref03.Same.
-/
namespace Go.Proofs.YtkfdplfgaddkmaaGreat
namespace Span
open Go.RowKit

set_option maxHeartbeats 1000000 in
theorem ref_has_any (A : Option Addr) (c n' : Nat) (l : List Sp) (hn : l.length = n') (s n : Int) (w : World) (hr : Ss w w.heap.size A l) (hbig : n' ≤ 140737488355328) :
  Calls Tryz.prog 130 #[.slice A n' c, .agg #[.int .i64 s, .int .i64 n]] w fun e w' => e = .returned (.bool (hasL l s n)) ∧ Below w.heap.size w w' := by
 go_enter Tryz.func130, Tryz.ntmps130
 go_wp2
 go_loopw [5] (fun q wr => ∃ k : Nat, k ≤ n' ∧ q = .int .i64 k ∧ Below (w.heap.size + 1) (w.alloc (.cells #[.int .i64 s, .int .i64 n] 116)) wr ∧ Hid (hasL l s n = hasL (l.drop k) s n)) (fun q _ => n' - (intOf q).toNat)
 case atStart => exact ⟨0, by omega, rfl, Below.refl _ _, rfl⟩
 case round =>
  obtain ⟨k, hk, rfl, hb, hst⟩ := hrel
  have hbw := ((Below.refl w.heap.size w).alloc (Nat.le_refl _) (.cells #[.int .i64 s, .int .i64 n] 116)).trans (hb.mono (Nat.le_succ _))
  by_cases hlt : k < n'
  ·obtain ⟨b, off, rfl, hbB, hc⟩ := hr (by omega)
   obtain ⟨c0, c1, c2⟩ := hc k (by omega)
   have d0 := (hb.cell (p := ⟨b, off + k * 3, none⟩) (by show b < _; omega)).trans ((World.cell?_alloc_lt w _ _ (by exact hbB)).trans c0)
   have d1 := (hb.cell (p := ⟨b, off + k * 3 + 1, none⟩) (by show b < _; omega)).trans ((World.cell?_alloc_lt w _ _ (by exact hbB)).trans c1)
   have d2 := (hb.cell (p := ⟨b, off + k * 3 + 2, none⟩) (by show b < _; omega)).trans ((World.cell?_alloc_lt w _ _ (by exact hbB)).trans c2)
   have e0 : wr.cell? ⟨w.heap.size, 0, none⟩ = some (.int .i64 s) := (hb.cell (by simp)).trans (by simp)
   have e1 : wr.cell? ⟨w.heap.size, 1, none⟩ = some (.int .i64 n) := (hb.cell (by simp)).trans (by simp)
   obtain ⟨⟨x0, x1, x2⟩, hx⟩ : ∃ x, l.getD k (0, 0, 0) = x := ⟨_, rfl⟩
   rw [hx] at d0 d1 d2
   simp only at d0 d1 d2
   have HX := Lib.hid hx
   have HN := Lib.hid hn
   have r0 : (0 : Int) ≤ (k : Int) := by omega
   have r1 : (k : Int) < (n' : Int) := by omega
   clear hr hc c0 c1 c2 hx hn
   by_cases h1 : x0 = s
   ·have g1 : (x0 == s) = true := by simp [h1]
    by_cases h2 : x1 ≤ n
    ·have g2 : decide (x1 ≤ n) = true := decide_eq_true h2
     by_cases h3 : n ≤ x2
     ·have g3 : decide (n ≤ x2) = true := decide_eq_true h3
      have hres := Lib.hid (hst.out.trans (hasL_hit (by rw [HN.out]; exact hlt) HX.out h1 h2 h3))
      clear hst HX HN h1
      go_wp2
      go_quiet (fail)
      go_wp2
      go_ret
      exact ⟨by rw [hres.out]; rfl, hbw.trans (Span.below_drewN _ _ _)⟩
     ·have g3 : decide (n ≤ x2) = false := decide_eq_false h3
      have hres := Lib.hid (hst.out.trans (hasL_miss (by rw [HN.out]; exact hlt) HX.out fun h => h3 h.2.2))
      clear hst HX HN h1
      go_wp2
      go_quiet (fail)
      go_wp2
      exact ⟨⟨k + 1, by omega, rfl, hb.trans (Span.below_drewN _ _ _), hres⟩, by simp only [intOf]; omega⟩
    ·have g2 : decide (x1 ≤ n) = false := decide_eq_false h2
     have hres := Lib.hid (hst.out.trans (hasL_miss (by rw [HN.out]; exact hlt) HX.out fun h => h2 h.2.1))
     clear hst HX HN h1
     go_wp2
     go_quiet (fail)
     go_wp2
     exact ⟨⟨k + 1, by omega, rfl, hb.trans (Span.below_drewN _ _ _), hres⟩, by simp only [intOf]; omega⟩
   ·have g1 : (x0 == s) = false := by simp [h1]
    have hres := Lib.hid (hst.out.trans (hasL_miss (by rw [HN.out]; exact hlt) HX.out fun h => h1 h.1))
    clear hst HX HN h1
    go_wp2
    go_quiet (fail)
    go_wp2
    exact ⟨⟨k + 1, by omega, rfl, hb.trans (Span.below_drewN _ _ _), hres⟩, by simp only [intOf]; omega⟩
  ·have hk0 : k = n' := by omega
   have hres := Lib.hid (hst.out.trans (by rw [List.drop_eq_nil_of_le (by omega)]; rfl : _ = false))
   clear hst hr hn
   go_wp2
   go_ret
   exact ⟨by rw [hres.out]; rfl, hbw⟩

set_option maxHeartbeats 1000000 in
theorem top_any (A : Option Addr) (c n : Nat) (l : List Sp) (hn : l.length = n) (s : Int) (w : World) (hr : Ss w w.heap.size A l) (hbig : n ≤ 140737488355328) :
  Calls Tryz.prog 144 #[.slice A n c, .int .i64 s] w fun e w' => e = .returned (.int .i64 (topF l s)) ∧ Below w.heap.size w w' := by
 go_enter Tryz.func144, Tryz.ntmps144
 go_wp2
 go_loopw [5, 10] (fun z q wr => ∃ (k : Nat) (t : Int), k ≤ n ∧ q = .int .i64 k ∧ z = .int .i64 t ∧ Below w.heap.size w wr ∧ Hid (topF (l.take k) s = t)) (fun _ q _ => n - (intOf q).toNat)
 case atStart => exact ⟨0, 0, by omega, rfl, rfl, Below.refl _ _, rfl⟩
 case round =>
  obtain ⟨k, t, hk, rfl, rfl, hb, hst⟩ := hrel
  by_cases hlt : k < n
  ·obtain ⟨b, off, rfl, hbB, hc⟩ := hr (by omega)
   obtain ⟨c0, c1, c2⟩ := hc k (by omega)
   have d0 := (hb.cell (p := ⟨b, off + k * 3, none⟩) (by exact hbB)).trans c0
   have d1 := (hb.cell (p := ⟨b, off + k * 3 + 1, none⟩) (by exact hbB)).trans c1
   have d2 := (hb.cell (p := ⟨b, off + k * 3 + 2, none⟩) (by exact hbB)).trans c2
   obtain ⟨⟨x0, x1, x2⟩, hx⟩ : ∃ x, l.getD k (0, 0, 0) = x := ⟨_, rfl⟩
   rw [hx] at d0 d1 d2
   simp only at d0 d1 d2
   have hs := topF_take (l := l) (by rw [hn]; exact hlt) hx s
   rw [hst.out] at hs
   have hbs := hb.size
   by_cases h1 : x0 = s
   ·rw [if_pos h1] at hs
    have HS := Lib.hid hs
    clear hr hc c0 c1 c2 hx hn hs hst
    go_wp2
    all_goals exact ⟨⟨k + 1, max t x2, by omega, rfl, by first | rfl | (congr 1; omega), hb.alloc hbs _, HS⟩, by simp only [intOf]; omega⟩
   ·rw [if_neg h1] at hs
    have HS := Lib.hid hs
    clear hr hc c0 c1 c2 hx hn hs hst
    go_wp2
    all_goals exact ⟨⟨k + 1, t, by omega, rfl, rfl, hb.alloc hbs _, HS⟩, by simp only [intOf]; omega⟩
  ·have hk0 : k = n := by omega
   have hres := hst.out
   rw [List.take_of_length_le (by omega)] at hres
   have HR := Lib.hid hres
   clear hst hr hn hres
   go_wp2
   go_ret
   exact ⟨by rw [HR.out]; rfl, hb⟩

set_option maxHeartbeats 1000000 in
theorem ref_top_any (A : Option Addr) (c n : Nat) (l : List Sp) (hn : l.length = n) (s : Int) (w : World) (hr : Ss w w.heap.size A l) (hbig : n ≤ 140737488355328) :
  Calls Tryz.prog 129 #[.slice A n c, .int .i64 s] w fun e w' => e = .returned (.int .i64 (topF l s)) ∧ Below w.heap.size w w' := by
 go_enter Tryz.func129, Tryz.ntmps129
 go_wp2
 go_loopw [5, 6] (fun z q wr => ∃ (k : Nat) (t : Int), k ≤ n ∧ q = .int .i64 k ∧ z = .int .i64 t ∧ Below w.heap.size w wr ∧ Hid (topF (l.take k) s = t)) (fun _ q _ => n - (intOf q).toNat)
 case atStart => exact ⟨0, 0, by omega, rfl, rfl, Below.refl _ _, rfl⟩
 case round =>
  obtain ⟨k, t, hk, rfl, rfl, hb, hst⟩ := hrel
  by_cases hlt : k < n
  ·obtain ⟨b, off, rfl, hbB, hc⟩ := hr (by omega)
   obtain ⟨c0, c1, c2⟩ := hc k (by omega)
   have d0 := (hb.cell (p := ⟨b, off + k * 3, none⟩) (by exact hbB)).trans c0
   have d2 := (hb.cell (p := ⟨b, off + k * 3 + 2, none⟩) (by exact hbB)).trans c2
   obtain ⟨⟨x0, x1, x2⟩, hx⟩ : ∃ x, l.getD k (0, 0, 0) = x := ⟨_, rfl⟩
   rw [hx] at d0 d2
   simp only at d0 d2
   have hs := topF_take (l := l) (by rw [hn]; exact hlt) hx s
   rw [hst.out] at hs
   have hbs := hb.size
   by_cases h1 : x0 = s
   ·rw [if_pos h1] at hs
    by_cases h2 : t < x2
    ·have HS := Lib.hid (hs.trans (show max t x2 = x2 by omega))
     clear hr hc c0 c1 c2 hx hn hs hst
     go_wp2
     all_goals exact ⟨⟨k + 1, x2, by omega, rfl, rfl, hb, HS⟩, by simp only [intOf]; omega⟩
    ·have HS := Lib.hid (hs.trans (show max t x2 = t by omega))
     clear hr hc c0 c1 c2 hx hn hs hst
     go_wp2
     all_goals exact ⟨⟨k + 1, t, by omega, rfl, rfl, hb, HS⟩, by simp only [intOf]; omega⟩
   ·rw [if_neg h1] at hs
    have HS := Lib.hid hs
    clear hr hc c0 c1 c2 hx hn hs hst
    go_wp2
    all_goals exact ⟨⟨k + 1, t, by omega, rfl, rfl, hb, HS⟩, by simp only [intOf]; omega⟩
  ·have hk0 : k = n := by omega
   have hres := hst.out
   rw [List.take_of_length_le (by omega)] at hres
   have HR := Lib.hid hres
   clear hst hr hn hres
   go_wp2
   go_ret
   exact ⟨by rw [HR.out]; rfl, hb⟩

theorem take_eq_step {l m : List Sp} {k : Nat} (hl : k < l.length) (hm : k < m.length) (h : l.take k = m.take k) (he : l.getD k (0, 0, 0) = m.getD k (0, 0, 0)) : l.take (k + 1) = m.take (k + 1) := by
 rw [take_one hl rfl, take_one hm rfl, h, he]
theorem take_ne {l m : List Sp} {k : Nat} (he : l.getD k (0, 0, 0) ≠ m.getD k (0, 0, 0)) : ¬ l = m := fun h => he (by rw [h])

set_option maxHeartbeats 1000000 in
theorem same_any (A A' : Option Addr) (c c' n n' : Nat) (l m : List Sp) (hn : l.length = n) (hn' : m.length = n') (w : World) (hr : Ss w w.heap.size A l) (hr' : Ss w w.heap.size A' m) (hbig : n ≤ 140737488355328) (hbig' : n' ≤ 140737488355328) :
  Calls Tryz.prog 91 #[.slice A n c, .slice A' n' c'] w fun e w' => e = .returned (.bool (decide (l = m))) ∧ Below w.heap.size w w' := by
 by_cases hlen : n = n'
 ·subst hlen
  go_enter Tryz.func91, Tryz.ntmps91
  go_wp2
  go_loopw [5] (fun q wr => ∃ k : Nat, k ≤ n ∧ q = .int .i64 k ∧ Below w.heap.size w wr ∧ Hid (l.take k = m.take k)) (fun q _ => n - (intOf q).toNat)
  case atStart => exact ⟨0, by omega, rfl, Below.refl _ _, rfl⟩
  case round =>
   obtain ⟨k, hk, rfl, hb, hst⟩ := hrel
   by_cases hlt : k < n
   ·obtain ⟨b, off, rfl, hbB, hc⟩ := hr (by omega)
    obtain ⟨c0, c1, c2⟩ := hc k (by omega)
    have d0 := (hb.cell (p := ⟨b, off + k * 3, none⟩) (by exact hbB)).trans c0
    have d1 := (hb.cell (p := ⟨b, off + k * 3 + 1, none⟩) (by exact hbB)).trans c1
    have d2 := (hb.cell (p := ⟨b, off + k * 3 + 2, none⟩) (by exact hbB)).trans c2
    obtain ⟨b', off', rfl, hbB', hc'⟩ := hr' (by omega)
    obtain ⟨c0', c1', c2'⟩ := hc' k (by omega)
    have d0' := (hb.cell (p := ⟨b', off' + k * 3, none⟩) (by exact hbB')).trans c0'
    have d1' := (hb.cell (p := ⟨b', off' + k * 3 + 1, none⟩) (by exact hbB')).trans c1'
    have d2' := (hb.cell (p := ⟨b', off' + k * 3 + 2, none⟩) (by exact hbB')).trans c2'
    have hy := take_eq_step (l := l) (m := m) (by omega) (by omega) hst.out
    have hz := take_ne (l := l) (m := m) (k := k)
    obtain ⟨⟨x0, x1, x2⟩, hx⟩ : ∃ x, l.getD k (0, 0, 0) = x := ⟨_, rfl⟩
    obtain ⟨⟨y0, y1, y2⟩, hx'⟩ : ∃ x, m.getD k (0, 0, 0) = x := ⟨_, rfl⟩
    rw [hx] at d0 d1 d2
    rw [hx'] at d0' d1' d2'
    rw [hx, hx'] at hy hz
    simp only at d0 d1 d2 d0' d1' d2'
    have r0 : (0 : Int) ≤ (k : Int) := by omega
    have r1 : (k : Int) < (n : Int) := by omega
    by_cases he : (x0, x1, x2) = (y0, y1, y2)
    ·have HY := Lib.hid (hy he)
     injection he with e0 e1
     injection e1 with e1 e2
     subst e0 e1 e2
     clear hr hr' hc hc' c0 c1 c2 c0' c1' c2' hst hy hz hx hx' hn hn'
     go_wp2
     go_quiet (fail)
     go_wp2
     all_goals exact ⟨⟨k + 1, by omega, rfl, hb.trans (Span.below_drewN _ _ _), HY⟩, by simp only [intOf]; omega⟩
    ·have HZ := Lib.hid (decide_eq_false (hz he))
     have hp : (x0 ≠ y0) ∨ (x0 = y0 ∧ x1 ≠ y1) ∨ (x0 = y0 ∧ x1 = y1 ∧ x2 ≠ y2) := by
      by_cases q0 : x0 = y0
      ·by_cases q1 : x1 = y1
       ·exact .inr (.inr ⟨q0, q1, fun q2 => he (by rw [q0, q1, q2])⟩)
       ·exact .inr (.inl ⟨q0, q1⟩)
      ·exact .inl q0
     clear hr hr' hc hc' c0 c1 c2 c0' c1' c2' hst hy hz hx hx' hn hn' he
     rcases hp with q0 | ⟨rfl, q1⟩ | ⟨rfl, rfl, q2⟩
     ·have g0 : (x0 == y0) = false := by simp [q0]
      go_wp2
      go_quiet (fail)
      go_wp2
      go_ret
      exact ⟨by rw [HZ.out]; rfl, hb.trans (Span.below_drewN _ _ _)⟩
     ·have g0 : (x1 == y1) = false := by simp [q1]
      go_wp2
      go_quiet (fail)
      go_wp2
      go_ret
      exact ⟨by rw [HZ.out]; rfl, hb.trans (Span.below_drewN _ _ _)⟩
     ·have g0 : (x2 == y2) = false := by simp [q2]
      go_wp2
      go_quiet (fail)
      go_wp2
      go_ret
      exact ⟨by rw [HZ.out]; rfl, hb.trans (Span.below_drewN _ _ _)⟩
   ·have hk0 : k = n := by omega
    have hres := hst.out
    rw [List.take_of_length_le (by omega), List.take_of_length_le (by omega)] at hres
    have HR := Lib.hid (decide_eq_true hres)
    clear hst hr hr' hn hn' hres
    go_wp2
    go_ret
    exact ⟨by rw [HR.out]; rfl, hb⟩
 ·have hne : ¬ l = m := fun h => hlen (by rw [← hn, ← hn', h])
  have HR := Lib.hid (decide_eq_false hne)
  clear hr hr' hn hn' hne
  go_enter Tryz.func91, Tryz.ntmps91
  go_wp2
  go_ret
  exact ⟨by rw [HR.out]; rfl, Below.refl _ _⟩
end Span
end Go.Proofs.YtkfdplfgaddkmaaGreat

/-
 span.lay puts a span behind those laid.
-/
namespace Go.Proofs.YtkfdplfgaddkmaaGreat
namespace Span
open Go.RowKit
attribute [local go_sem ↓] Go.wp_at_zero Go.wp_at_succ

theorem info_span : ∃ i, Tryz.prog.info? 121 = some i ∧ i.zero = some (.agg #[.int .i64 0, .int .i64 0, .int .i64 0]) ∧ i.size = 3 ∧ i.bytes = 24 := by
 have h : (Tryz.prog.info? 121).map (fun i => (i.zero, i.size, i.bytes)) = some (some (.agg #[.int .i64 0, .int .i64 0, .int .i64 0]), 3, 24) := by kernel_rfl
 obtain ⟨i, h1, h2⟩ := Option.map_eq_some_iff.1 h
 simp only [Prod.mk.injEq] at h2
 exact ⟨i, h1, h2.1, h2.2.1, h2.2.2⟩

end Span
end Go.Proofs.YtkfdplfgaddkmaaGreat

/-
 The reader of layer 6: spans and sets.
-/
namespace Go.Proofs.YtkfdplfgaddkmaaGreat
namespace Code
open Go.RowKit Num Span
attribute [local go_sem ↓] Go.wp_at_zero Go.wp_at_succ

theorem results_cell1 {fn : Func} {p : Tmp} {ty : TypeId} (h : fn.results = #[.cell p ty]) (tmps : Array Value) (P : Program) (w : World) :
  (results fn tmps).run P w = ((asAddr (tmps.getD p undef)).run P w).andThen fun a w₁ => (loadVar ty a).run P w₁ := by
 simp only [results, h]
 simp [Sem.run_bind, Result.andThen]

def Box3 (B : Nat) (t : TypeId) (x y z : Value) (w : World) : Prop := w.heap[B]? = some (.cells #[x, y, z] t (0, 0))
section
variable {w w' : World} {B : Nat} {t : TypeId} {x y z x' y' z' : Value}
theorem Box3.lt (h : Box3 B t x y z w) : B < w.heap.size := (Array.getElem?_eq_some_iff.1 h).1
theorem Box3.kept {row : Option Nat} (h : Box3 B t x y z w) (hg : w.grownBy w' row) (hne : some B ≠ row) : Box3 B t x y z w' := (hg.block B h.lt hne).trans h
theorem Box3.cell (h : Box3 B t x y z w) : w.cell? ⟨B, 0, none⟩ = some x ∧ w.cell? ⟨B, 1, none⟩ = some y ∧ w.cell? ⟨B, 2, none⟩ = some z := by
 have h' : w.heap[B]? = _ := h
 refine ⟨?_, ?_, ?_⟩ <;> simp [World.cell?, h']
theorem Box3.frozen (h : Box3 B t x y z w) (j : Nat) : w.frozen? ⟨B, j, none⟩ = false := by simp [World.frozen?, show w.heap[B]? = _ from h]
def set3 (w : World) (B : Nat) (x y z : Value) : World := ((w.setCell ⟨B, 0, none⟩ x).setCell ⟨B, 1, none⟩ y).setCell ⟨B, 2, none⟩ z
theorem Box3.set (h : Box3 B t x y z w) : Box3 B t x' y' z' (set3 w B x' y' z') := by
 have h' : w.heap[B]? = some (.cells #[x, y, z] t (0, 0)) := h
 show (set3 w B x' y' z').heap[B]? = _
 simp [set3, World.setCell, Array.getElem?_modify, h']
end

theorem listP_len {α : Type} {P : Nat → Option (α × Nat)} {n : Nat} (hP : ∀ x p q, p ≤ n → P p = some (x, q) → p < q ∧ q ≤ n) : ∀ (k p q : Nat) (l : List α), p ≤ n → listP P k p = some (l, q) → p + l.length ≤ q ∧ q ≤ n
 | 0, p, q, l, hp, h => by
  simp only [listP, Option.some.injEq, Prod.mk.injEq] at h
  obtain ⟨rfl, rfl⟩ := h
  exact ⟨by simp, hp⟩
 | k + 1, p, q, l, hp, h => by
  rw [listP] at h
  split at h
  ·cases h
  ·rename_i x r hx
   obtain ⟨y, hy, he⟩ := Option.map_eq_some_iff.1 h
   simp only [Prod.mk.injEq] at he
   obtain ⟨rfl, rfl⟩ := he
   obtain ⟨h1, h2⟩ := hP x p r hp hx
   obtain ⟨h3, h4⟩ := listP_len hP k r y.2 y.1 h2 hy
   simp only [List.length_cons]
   omega
theorem seqP_len {α : Type} {P : Nat → Option (α × Nat)} {zs : List Int} (hby : ∀ z ∈ zs, 0 ≤ z ∧ z ≤ 255) (hP : ∀ x p q, p ≤ zs.length → P p = some (x, q) → p < q ∧ q ≤ zs.length) {p q : Nat} {l : List α} (hp : p ≤ zs.length) (h : seqP P zs p = some (l, q)) : p + l.length < q ∧ q ≤ zs.length := by
 unfold seqP at h
 split at h
 ·cases h
 ·rename_i n r hn
  obtain ⟨g1, g2, g3, g4⟩ := numP_ok hby hp hn
  have gl := std_le g1
  have gp := putL_len n
  have := listP_len hP _ r q l (by omega) h
  omega
end Code
end Go.Proofs.YtkfdplfgaddkmaaGreat

/-
 num.PutText and firthref01.PutText make the bytes of a text.
-/
namespace Go.Proofs.YtkfdplfgaddkmaaGreat
namespace Num
open Go.RowKit

def textL (s : ByteArray) : List Int := putL (s.size : Int) ++ strNums s

set_option maxRecDepth 100000 in
theorem puttext (s : ByteArray) (hs : s.size ≤ 140737488351232) (w : World) :
  Calls Tryz.prog 141 #[.string s] w (MadeNs 5 .u8 (textL s) w) := by
 obtain ⟨i0, hi0, hz0, hz1, hz2⟩ := info_parts Facts.info5
 have h1 := putnum_pos (s.size : Int) (by omega) w
 have hl : (putL (s.size : Int)).length ≤ 9 := putF_len 9 (s.size : Int)
 obtain ⟨L, hL⟩ : ∃ L, putL (s.size : Int) = L := ⟨_, rfl⟩
 have HL : Hid (textL s = L ++ strNums s) := by unfold textL; rw [hL]; exact rfl
 rw [hL] at h1 hl
 clear hL
 have H1 := Lib.hid h1
 clear h1
 go_enter Tryz.func141, Tryz.ntmps141
 go_wp2_with fail
 refine H1.out.mono ?_
 rintro e w1 ⟨A, c, rfl, hown, hb⟩
 go_wp2_with (at_builtin; refine Lib.wpList_append_own_string _ rfl (.tmp 5) (.tmp 6) 146 9 rfl w.heap.size 5 i0 Tryz.underlying146 Tryz.underlying9 hi0 hz0 hz1 hz2 _ L.length (nums .u8 L) rfl hown s rfl (by unfold maxLen; omega) (by omega) hb.size ?_; intro v2 w2 hown2 hg2 _)
 have hb2 : Below w.heap.size w w2 := hb.grown hg2 hb.size (fun k hk => (hown.lt k hk).1)
 have R : MadeNs 5 .u8 (textL s) w (.returned v2) w2 := by
  obtain ⟨A2, c2, rfl⟩ := own_form hown2
  have hlen : (textL s).length = L.length + s.size := by rw [HL.out, List.length_append, strNums_length]
  refine ⟨A2, c2, by rw [hlen], ?_, hb2⟩
  rw [hlen, HL.out]
  rw [strCells_nums] at hown2
  simpa [nums] using hown2
 clear hown hown2 hg2
 go_wp2
 go_ret
 exact R

set_option maxRecDepth 100000 in
theorem ref_puttext (s : ByteArray) (hs : s.size ≤ 140737488351232) (w : World) :
  Calls Tryz.prog 122 #[.string s] w (MadeNs 5 .u8 (textL s) w) := by
 obtain ⟨i0, hi0, hz0, hz1, hz2⟩ := info_parts Facts.info5
 have h1 := ref_putnum_pos (s.size : Int) (by omega) w
 have hl : (putL (s.size : Int)).length ≤ 9 := putF_len 9 (s.size : Int)
 obtain ⟨L, hL⟩ : ∃ L, putL (s.size : Int) = L := ⟨_, rfl⟩
 have HL : Hid (textL s = L ++ strNums s) := by unfold textL; rw [hL]; exact rfl
 rw [hL] at h1 hl
 clear hL
 have H1 := Lib.hid h1
 clear h1
 go_enter Tryz.func122, Tryz.ntmps122
 go_wp2_with fail
 refine H1.out.mono ?_
 rintro e w1 ⟨A, c, rfl, hown, hb⟩
 go_wp2
 go_loopw [3, 4] (fun v q wr => ∃ k : Nat, k ≤ s.size ∧ q = .int .i64 k ∧ wr.ownsRow w.heap.size 5 1 v (L.length + k) (nums .u8 (L ++ (strNums s).take k)) ∧ Below w.heap.size w wr) (fun _ q _ => s.size - (intOf q).toNat)
 case atStart => exact ⟨0, by omega, rfl, by simpa using hown, hb⟩
 case round =>
  obtain ⟨k, hk, rfl, hownr, hbr⟩ := hrel
  have hsz := hbr.size
  by_cases hlt : k < s.size
  ·have hat := Lib.hid (strNums_at s k hlt)
   go_wp2_with (at_builtin; refine wpList_append_one _ rfl (.tmp 14) (.tmp 18) 146 rfl w.heap.size 5 i0 (.int .u8 0) 1 Tryz.underlying146 hi0 hz0 hz1 hz2 rfl _ (L.length + k) (nums .u8 (L ++ (strNums s).take k)) rfl hownr (.int .u8 ((s[k]'hlt).toNat : Int)) 1 rfl rfl (by omega) (by omega) hsz ?_; intro v1 w1 hown1 hg1 hat1)
   have hb1 : Below w.heap.size w w1 := hbr.grown hg1 hsz (fun k hk => (hownr.lt k hk).1)
   have ho : w1.ownsRow w.heap.size 5 1 v1 (L.length + (k + 1)) (nums .u8 (L ++ (strNums s).take (k + 1))) := by
    rw [hat.out]
    simpa [nums, Nat.add_assoc] using hown1
   clear hownr hown1 hg1 hat1
   go_wp2
   go_roundw
   case rel => exact ⟨k + 1, by omega, by go_num, ho, hb1⟩
   case measure => simp [intOf]; omega
  ·go_wp2
   go_ret
   have hkk : k = s.size := by omega
   subst hkk
   rw [List.take_of_length_le (by rw [strNums_length]; omega)] at hownr
   obtain ⟨A2, c2, hv⟩ := own_form hownr
   subst hv
   have hlen : (textL s).length = L.length + s.size := by rw [HL.out, List.length_append, strNums_length]
   refine ⟨A2, c2, by rw [hlen]; rfl, ?_, hbr⟩
   rw [hlen, HL.out]
   exact hownr
end Num
end Go.Proofs.YtkfdplfgaddkmaaGreat

/-
 The writer of layer 6: its block and the row of its bytes; numbers, texts, spans, sets.
-/
namespace Go.Proofs.YtkfdplfgaddkmaaGreat
namespace Code
open Go.RowKit Num Span
attribute [local go_sem ↓] Go.wp_at_zero Go.wp_at_succ

def Kp (g : Nat) (v : Value) (w : World) (v' : Value) (w' : World) : Prop :=
 w'.os = w.os ∧ w'.tape = w.tape ∧ w'.output = w.output ∧ w.heap.size ≤ w'.heap.size ∧ ∀ j, j < w.heap.size → j ≠ g → some j ≠ v.ownBlock → w'.heap[j]? = w.heap[j]? ∧ some j ≠ v'.ownBlock
section
variable {base g : Nat} {L : List Int} {v v' v'' : Value} {w w' w'' : World}
theorem Kp.refl (g : Nat) (v : Value) (w : World) : Kp g v w v w := ⟨rfl, rfl, rfl, Nat.le_refl _, fun _ _ _ h => ⟨rfl, h⟩⟩
theorem Kp.trans (h : Kp g v w v' w') (k : Kp g v' w' v'' w'') : Kp g v w v'' w'' :=
 ⟨k.1.trans h.1, k.2.1.trans h.2.1, k.2.2.1.trans h.2.2.1, Nat.le_trans h.2.2.2.1 k.2.2.2.1, fun j hj hg hv => by
  obtain ⟨h1, h2⟩ := h.2.2.2.2 j hj hg hv
  obtain ⟨h3, h4⟩ := k.2.2.2.2 j (Nat.lt_of_lt_of_le hj h.2.2.2.1) hg h2
  exact ⟨h3.trans h1, h4⟩⟩
theorem Kp.of_below (hb : Below w.heap.size w w') : Kp g v w v w' := ⟨hb.os, hb.tape, hb.output, hb.size, fun j hj _ hv => ⟨hb.block j hj, hv⟩⟩
theorem Kp.alloc (g : Nat) (v : Value) (w : World) (o : Obj) : Kp g v w v (w.alloc o) := Kp.of_below ((Below.refl _ w).alloc (Nat.le_refl _) o)
theorem Kp.block (h : Kp g v w v' w') {j : Nat} {o : Obj} (ho : w.heap[j]? = some o) (hg : j ≠ g) (hv : some j ≠ v.ownBlock) : w'.heap[j]? = some o ∧ some j ≠ v'.ownBlock := by
 obtain ⟨h1, h2⟩ := h.2.2.2.2 j (Array.getElem?_eq_some_iff.1 ho).1 hg hv
 exact ⟨h1.trans ho, h2⟩
end

section
variable {P : Program} {w : World}
theorem step_call {ops : Array Oper} {o : Oper} {a : Act} {K : Act → World → Prop} {Q : Exit → Act → World → Prop} {E : Prop} (hgd : o.guard = none) (f : FuncId) (args : Array Operand) (ats : Array TypeId)
  (ho : o.op = .call { callee := .value (.func f), args := args, argTypes := ats }) (hcf : (callFunc f (args.map a.eval)).run P w = .ok (.enter f (args.map a.eval)) w) (vals : Array Value) (hv : args.map a.eval = vals) {R : Ending → World → Prop} (hc : Calls P f vals w R)
  (hR : ∀ e w', R e w' → ∃ v, e = .returned v) (hK : ∀ v w', R (.returned v) w' → K (a.put o.dst v) w') :
  if Region.wanted o (yielded ops a.tmps) = true then Oper.wp P o a w K Q else E := by
 have hw : Region.wanted o (yielded ops a.tmps) = true := by simp [Region.wanted, hgd]
 rw [if_pos hw]
 have hrun : (execOp a.eval o).run P w = .ok (.enter f vals) w := by
  subst hv
  unfold execOp
  simp [ho, go_sem, hcf]
 unfold Oper.wp
 rw [hrun, Oper.upon_enter]
 refine hc.mono fun e w' h => ?_
 obtain ⟨v, rfl⟩ := hR e w' h
 exact hK v w' h
end

end Code
end Go.Proofs.YtkfdplfgaddkmaaGreat

/-
 The writer of layer 6: spans and sets.
-/
namespace Go.Proofs.YtkfdplfgaddkmaaGreat
namespace Code
open Go.RowKit Num Span
attribute [local go_sem ↓] Go.wp_at_zero Go.wp_at_succ

theorem Box3.kp {g B : Nat} {v v' : Value} {w w' : World} {t : TypeId} {x y z : Value} (h : Box3 B t x y z w) (hk : Kp g v w v' w') (hg : B ≠ g) (hv : some B ≠ v.ownBlock) : Box3 B t x y z w' ∧ some B ≠ v'.ownBlock := hk.block h hg hv

end Code
end Go.Proofs.YtkfdplfgaddkmaaGreat

/-
 Versions and sets of versions, on plain lists: which are right, and what comes of two sets.
-/
namespace Go.Proofs.YtkfdplfgaddkmaaGreat
namespace Vers
open Span

structure Vr where
 (s n : Int) (past : List Sp) (gone : Bool) (val : ByteArray)
instance : DecidableEq Vr := fun a b => decidable_of_iff (a.s = b.s ∧ a.n = b.n ∧ a.past = b.past ∧ a.gone = b.gone ∧ a.val = b.val) (by
 cases a; cases b; simp)
def v0 : Vr := ⟨0, 0, [], false, ⟨#[]⟩⟩

def okD (s n : Int) : Prop := 1 ≤ s ∧ s ≤ 16 ∧ 1 ≤ n ∧ n ≤ 4611686018427387904
instance (s n : Int) : Decidable (okD s n) := by unfold okD; infer_instance
def okV (v : Vr) : Prop := okD v.s v.n ∧ Right v.past ∧ topF v.past v.s < v.n ∧ v.val.size ≤ 256 ∧ (v.gone = true → v.val = ⟨#[]⟩)
instance (v : Vr) : Decidable (okV v) := by unfold okV; infer_instance
def dlt (a b : Vr) : Prop := a.s < b.s ∨ (a.s = b.s ∧ a.n < b.n)
instance (a b : Vr) : Decidable (dlt a b) := by unfold dlt; infer_instance
def same (a b : Vr) : Prop := a.s = b.s ∧ a.n = b.n
instance (a b : Vr) : Decidable (same a b) := by unfold same; infer_instance
def behind (l : List Vr) (s n : Int) : Prop := ∃ v ∈ l, mem v.past s n
instance (l : List Vr) (s n : Int) : Decidable (behind l s n) := by unfold behind; infer_instance
def FineV (l : List Vr) : Prop := (∀ v ∈ l, okV v) ∧ l.Pairwise dlt
instance (l : List Vr) : Decidable (FineV l) := by unfold FineV; infer_instance
def RightV (l : List Vr) : Prop := l.length ≤ 512 ∧ FineV l ∧ ∀ v ∈ l, ¬ behind l v.s v.n
instance (l : List Vr) : Decidable (RightV l) := by unfold RightV; infer_instance

theorem dlt_trans {a b c : Vr} (h : dlt a b) (k : dlt b c) : dlt a c := by unfold dlt at *; omega
theorem behind_append (l m : List Vr) (s n : Int) : behind (l ++ m) s n ↔ behind l s n ∨ behind m s n := by
 unfold behind
 constructor
 ·rintro ⟨v, hv, h⟩
  rcases List.mem_append.1 hv with hv | hv
  ·exact .inl ⟨v, hv, h⟩
  ·exact .inr ⟨v, hv, h⟩
 ·rintro (⟨v, hv, h⟩ | ⟨v, hv, h⟩)
  ·exact ⟨v, by simp [hv], h⟩
  ·exact ⟨v, by simp [hv], h⟩

def Twin (a b : List Vr) : Prop := ∃ x ∈ a, ∃ y ∈ b, same x y ∧ x ≠ y
instance (a b : List Vr) : Decidable (Twin a b) := by unfold Twin; infer_instance

def putV : List Vr → Vr → List Vr
 | [], v => [v]
 | x :: l, v => if dlt x v then x :: putV l v else if same x v then x :: l else v :: x :: l

def laidV (d : List Vr) (l out : List Vr) : List Vr := (l.filter fun v => !decide (behind d v.s v.n)).foldl putV out
def stayF (a b : List Vr) : List Vr := laidV a b (laidV b a [])
def mergeF (a b : List Vr) : List Vr × Int :=
 if ¬ RightV a ∨ ¬ RightV b then ([], 1) else if Twin a b then ([], 50) else if 512 < (stayF a b).length then ([], 3) else (stayF a b, 0)
def lacksF (a b : List Vr) : Bool := decide ((mergeF a b).2 = 0 ∧ (mergeF a b).1 ≠ a)
end Vers
end Go.Proofs.YtkfdplfgaddkmaaGreat

/-
 Plain words of layer 6: versions, records, addresses, hashes, as they are taken and written.
-/
namespace Go.Proofs.YtkfdplfgaddkmaaGreat
namespace Code
open Num Span Vers

/-! ### Versions -/
/-! ### Records -/
abbrev Rc := ByteArray × List Vr
def okR (r : Rc) : Prop := 1 ≤ r.1.size ∧ r.1.size ≤ 32 ∧ RightV r.2
instance (r : Rc) : Decidable (okR r) := by unfold okR; infer_instance
/-! ### Addresses and hashes -/
end Code
end Go.Proofs.YtkfdplfgaddkmaaGreat

/-
 Blocks of cells; what a call may turn: a set of blocks, and new ones.
-/
namespace Go.Proofs.YtkfdplfgaddkmaaGreat
namespace Blk
open Go.RowKit

section
variable {w w' w'' : World}
theorem gset (w : World) (g k : Nat) (v : Value) : w.grownBy (w.setCell ⟨g, k, none⟩ v) (some g) :=
 ⟨rfl, rfl, rfl, by simp [World.setCell], fun j hj hne => by
  have : j ≠ g := fun e => hne (by rw [e])
  simp [World.setCell, Array.getElem?_modify, this.symm]⟩
theorem gdrew {row : Option Nat} (h : w.grownBy w' row) : w.grownBy w'.drew row := ⟨h.os, h.tape, h.output, h.size, h.block⟩
def Bn (B : Nat) (t : TypeId) (cs : List Value) (w : World) : Prop := w.heap[B]? = some (.cells cs.toArray t (0, 0))
variable {B : Nat} {t : TypeId} {cs : List Value}
theorem Bn.lt (h : Bn B t cs w) : B < w.heap.size := (Array.getElem?_eq_some_iff.1 h).1
theorem Bn.cell (h : Bn B t cs w) (k : Nat) : w.cell? ⟨B, k, none⟩ = cs[k]? := by
 have h' : w.heap[B]? = _ := h
 simp [World.cell?, h']
theorem Bn.frozen (h : Bn B t cs w) (j : Nat) : w.frozen? ⟨B, j, none⟩ = false := by simp [World.frozen?, show w.heap[B]? = _ from h]
theorem Bn.same (h : Bn B t cs w) (hk : w'.heap[B]? = w.heap[B]?) : Bn B t cs w' := hk.trans h
theorem Bn.kept {row : Option Nat} (h : Bn B t cs w) (hg : w.grownBy w' row) (hne : some B ≠ row) : Bn B t cs w' := (hg.block B h.lt hne).trans h
theorem Bn.set (h : Bn B t cs w) (k : Nat) (v : Value) : Bn B t (cs.set k v) (w.setCell ⟨B, k, none⟩ v) := by
 have h' : w.heap[B]? = some (.cells cs.toArray t (0, 0)) := h
 show (w.setCell ⟨B, k, none⟩ v).heap[B]? = _
 simp [World.setCell, Array.getElem?_modify, h']
theorem Bn.type {t' : TypeId} {cs' : List Value} (h : Bn B t cs w) (h' : Bn B t' cs' w) : t = t' := by
 have e : some (Obj.cells cs.toArray t (0, 0)) = some (.cells cs'.toArray t' (0, 0)) := (show w.heap[B]? = _ from h).symm.trans (show w.heap[B]? = _ from h')
 injection e with e
 injection e with e1 e2
end
theorem own_block {w : World} {base : Nat} {t : TypeId} {s : Nat} {v : Value} {n : Nat} {xs : List Value} (h : w.ownsRow base t s v n xs) {g : Nat} (hg : v.ownBlock = some g) : ∃ cur, w.heap[g]? = some (.cells cur t (0, 0)) := by
 rcases h.2 with ⟨hv, _⟩ | ⟨g', cap, cur, hv, _, hc, _⟩
 ·rw [hv] at hg; cases hg
 ·rw [hv] at hg
  injection hg with hg
  subst hg
  exact ⟨cur, hc⟩
theorem own_ne {w : World} {base : Nat} {t t' : TypeId} {s : Nat} {v : Value} {n : Nat} {xs cs : List Value} {B : Nat} (h : w.ownsRow base t s v n xs) (hB : Bn B t' cs w) (ht : t ≠ t') : v.ownBlock ≠ some B := fun e => by
 obtain ⟨cur, hc⟩ := own_block h e
 rw [show w.heap[B]? = _ from hB] at hc
 injection hc with hc
 injection hc with h1 h2
 exact ht h2.symm
theorem own_ne2 {w : World} {base base' : Nat} {t t' : TypeId} {s s' : Nat} {v v' : Value} {n n' : Nat} {xs xs' : List Value} (h : w.ownsRow base t s v n xs) (h' : w.ownsRow base' t' s' v' n' xs') (ht : t ≠ t') {g : Nat} (hg : v.ownBlock = some g) : v'.ownBlock ≠ some g := fun e => by
 obtain ⟨cur, hc⟩ := own_block h hg
 obtain ⟨cur', hc'⟩ := own_block h' e
 rw [hc] at hc'
 injection hc' with hc'
 injection hc' with h1 h2
 exact ht h2
theorem own_keep {w w' : World} {base : Nat} {e : TypeId} {size : Nat} {v : Value} {n : Nat} {xs : List Value} (h : w.ownsRow base e size v n xs) (hk : ∀ g, v.ownBlock = some g → w'.heap[g]? = w.heap[g]?) : w'.ownsRow base e size v n xs := by
 refine ⟨h.1, ?_⟩
 rcases h.2 with ⟨hv, h0⟩ | ⟨g, cap, cur, hv, hb, hc, h1⟩
 ·exact .inl ⟨hv, h0⟩
 ·exact .inr ⟨g, cap, cur, hv, hb, (hk g (by rw [hv]; rfl)).trans hc, h1⟩

structure Chg (F : Nat → Prop) (w w' : World) : Prop where
 os : w'.os = w.os
 tape : w'.tape = w.tape
 output : w'.output = w.output
 size : w.heap.size ≤ w'.heap.size
 block : ∀ k, k < w.heap.size → ¬ F k → w'.heap[k]? = w.heap[k]?
section
variable {F F' : Nat → Prop} {w w' w'' : World}
theorem Chg.refl (F : Nat → Prop) (w : World) : Chg F w w := ⟨rfl, rfl, rfl, Nat.le_refl _, fun _ _ _ => rfl⟩
theorem Chg.trans (h : Chg F w w') (h' : Chg F' w' w'') (hF : ∀ k, F' k → F k ∨ w.heap.size ≤ k) : Chg F w w'' :=
 ⟨h'.os.trans h.os, h'.tape.trans h.tape, h'.output.trans h.output, Nat.le_trans h.size h'.size, fun k hk hn => (h'.block k (Nat.lt_of_lt_of_le hk h.size) fun e => (hF k e).elim hn (fun e => by omega)).trans (h.block k hk hn)⟩
theorem Chg.mono (h : Chg F w w') (hF : ∀ k, F k → F' k) : Chg F' w w' := ⟨h.os, h.tape, h.output, h.size, fun k hk hn => h.block k hk fun e => hn (hF k e)⟩
theorem Chg.of_below (h : Below w.heap.size w w') : Chg F w w' := ⟨h.os, h.tape, h.output, h.size, fun k hk _ => h.block k hk⟩
theorem Chg.of_grown {row : Option Nat} (h : w.grownBy w' row) (hr : ∀ g, row = some g → F g) : Chg F w w' := ⟨h.os, h.tape, h.output, h.size, fun k hk hn => h.block k hk fun e => hn (hr k e.symm)⟩
theorem Chg.below {base : Nat} (h : Chg F w w') (hF : ∀ k, F k → base ≤ k) (hb : base ≤ w.heap.size) : Below base w w' := ⟨h.os, h.tape, h.output, h.size, fun k hk => h.block k (by omega) fun e => by have := hF k e; omega⟩
end
def five (V : World) (m : Nat) (u0 u1 u2 u3 u4 : Value) : World := ((((V.setCell ⟨m, 0, none⟩ u0).setCell ⟨m, 1, none⟩ u1).setCell ⟨m, 2, none⟩ u2).setCell ⟨m, 3, none⟩ u3).setCell ⟨m, 4, none⟩ u4
theorem grown_trans_one {w w' w'' : World} {row : Option Nat} (h : w.grownBy w' row) (h' : w'.grownBy w'' row) : w.grownBy w'' row := ⟨h'.os.trans h.os, h'.tape.trans h.tape, h'.output.trans h.output, Nat.le_trans h.size h'.size, fun k hk hne => (h'.block k (Nat.lt_of_lt_of_le hk h.size) hne).trans (h.block k hk hne)⟩
theorem five_grown (V : World) (m : Nat) (u0 u1 u2 u3 u4 : Value) : V.grownBy (five V m u0 u1 u2 u3 u4) (some m) := grown_trans_one (grown_trans_one (grown_trans_one (grown_trans_one (gset V m 0 u0) (gset _ m 1 u1)) (gset _ m 2 u2)) (gset _ m 3 u3)) (gset _ m 4 u4)
theorem five_below {B : Nat} (V : World) (m : Nat) (hm : B ≤ m) (hV : B ≤ V.heap.size) (u0 u1 u2 u3 u4 : Value) : Below B V (five V m u0 u1 u2 u3 u4) := (Below.refl B V).grown (five_grown V m u0 u1 u2 u3 u4) hV fun j hj => by injection hj with hj; omega
theorem results_cell1 {fn : Func} {p : Tmp} {ty : TypeId} (h : fn.results = #[.cell p ty]) (tmps : Array Value) (P : Program) (w : World) :
  (results fn tmps).run P w = ((asAddr (tmps.getD p undef)).run P w).andThen fun a w₁ => (loadVar ty a).run P w₁ := by
 simp only [results, h]
 simp [Sem.run_bind, Result.andThen]
section
variable {P : Program} {w : World}
theorem step_call {ops : Array Oper} {o : Oper} {a : Act} {K : Act → World → Prop} {Q : Exit → Act → World → Prop} {E : Prop} (hgd : o.guard = none) (f : FuncId) (args : Array Operand) (ats : Array TypeId)
  (ho : o.op = .call { callee := .value (.func f), args := args, argTypes := ats }) (hcf : (callFunc f (args.map a.eval)).run P w = .ok (.enter f (args.map a.eval)) w) (vals : Array Value) (hv : args.map a.eval = vals) {R : Ending → World → Prop} (hc : Calls P f vals w R)
  (hR : ∀ e w', R e w' → ∃ v, e = .returned v) (hK : ∀ v w', R (.returned v) w' → K (a.put o.dst v) w') :
  if Region.wanted o (yielded ops a.tmps) = true then Oper.wp P o a w K Q else E := by
 have hw : Region.wanted o (yielded ops a.tmps) = true := by simp [Region.wanted, hgd]
 rw [if_pos hw]
 have hrun : (execOp a.eval o).run P w = .ok (.enter f vals) w := by
  subst hv
  unfold execOp
  simp [ho, go_sem, hcf]
 unfold Oper.wp
 rw [hrun, Oper.upon_enter]
 refine hc.mono fun e w' h => ?_
 obtain ⟨v, rfl⟩ := hR e w' h
 exact hK v w' h
end
end Blk
end Go.Proofs.YtkfdplfgaddkmaaGreat

/-
 Plain words of layer 7: files by their names, in order; what a change makes of them.
-/
namespace Go.Proofs.YtkfdplfgaddkmaaGreat
namespace Disk
abbrev Nm := ByteArray
def nlt (a b : Nm) : Bool := Op.bytesLess a.toList b.toList
theorem nm_ext {a b : Nm} (h : a.toList = b.toList) : a = b := by
 rw [Lib.toList_data, Lib.toList_data] at h
 exact ByteArray.ext (Array.toList_inj.1 h)
theorem nlt_iff {a b : Nm} : nlt a b = true ↔ a.toList < b.toList := by
 unfold nlt
 rw [bytesLess_eq, decide_eq_true_iff]
theorem nm_eq (a b : Nm) : (a.toList == b.toList) = decide (a = b) := by
 by_cases h : a = b
 ·subst h; simp
 ·rw [decide_eq_false h, beq_eq_false_iff_ne]
  exact fun e => h (nm_ext e)
theorem nlt_irrefl (a : Nm) : nlt a a = false := by
 rw [Bool.eq_false_iff]
 intro h
 exact List.lt_irrefl _ (nlt_iff.1 h)
theorem nlt_trans {a b c : Nm} (h : nlt a b = true) (h' : nlt b c = true) : nlt a c = true := nlt_iff.2 (List.lt_trans (nlt_iff.1 h) (nlt_iff.1 h'))
theorem nlt_asymm {a b : Nm} (h : nlt a b = true) : nlt b a = false := by
 rw [Bool.eq_false_iff]
 intro h'
 have := nlt_trans h h'
 rw [nlt_irrefl] at this
 cases this
theorem nlt_tri {a b : Nm} (h : nlt a b = false) (hne : a ≠ b) : nlt b a = true := by
 have h1 : ¬ a.toList < b.toList := fun e => by rw [nlt_iff.2 e] at h; cases h
 have h2 : b.toList ≤ a.toList := List.not_lt.1 h1
 rcases Classical.em (b.toList < a.toList) with h3 | h3
 ·exact nlt_iff.2 h3
 ·exact absurd (nm_ext (List.le_antisymm (List.not_lt.1 h3) h2)) hne
theorem nlt_ne {a b : Nm} (h : nlt a b = true) : a ≠ b := fun e => by subst e; rw [nlt_irrefl] at h; cases h
section
variable {β γ : Type}
def find : List (Nm × β) → Nm → Option β
 | [], _ => none
 | x :: l, s => if x.1 = s then some x.2 else find l s
def wout (l : List (Nm × β)) (s : Nm) : List (Nm × β) := l.filter fun x => !decide (x.1 = s)
def ins : List (Nm × β) → Nm → β → List (Nm × β)
 | [], s, b => [(s, b)]
 | x :: l, s, b => if nlt s x.1 then (s, b) :: x :: l else x :: ins l s b
def wit (l : List (Nm × β)) (s : Nm) (b : β) : List (Nm × β) := ins (wout l s) s b
def Srt (l : List (Nm × β)) : Prop := l.Pairwise fun x y => nlt x.1 y.1 = true
theorem Srt.nil : Srt ([] : List (Nm × β)) := List.Pairwise.nil
theorem find_none {l : List (Nm × β)} {s : Nm} : find l s = none ↔ ∀ x ∈ l, x.1 ≠ s := by
 induction l with
 | nil => simp [find]
 | cons y l ih =>
  unfold find
  by_cases h : y.1 = s
  ·simp [h]
  ·simp [h, ih]
theorem find_some {l : List (Nm × β)} {s : Nm} {b : β} (h : find l s = some b) : (s, b) ∈ l := by
 induction l with
 | nil => simp [find] at h
 | cons y l ih =>
  unfold find at h
  by_cases e : y.1 = s
  ·rw [if_pos e] at h
   injection h with h
   subst e h
   exact List.mem_cons_self
  ·rw [if_neg e] at h
   exact List.mem_cons_of_mem _ (ih h)
theorem find_mem {l : List (Nm × β)} (h : Srt l) {x : Nm × β} (hx : x ∈ l) : find l x.1 = some x.2 := by
 induction l with
 | nil => cases hx
 | cons y l ih =>
  obtain ⟨h1, h2⟩ := List.pairwise_cons.1 h
  unfold find
  rcases List.mem_cons.1 hx with rfl | hx
  ·rw [if_pos rfl]
  ·rw [if_neg (nlt_ne (h1 x hx)), ih h2 hx]
theorem Srt.wout {l : List (Nm × β)} (h : Srt l) (s : Nm) : Srt (wout l s) := List.Pairwise.filter _ h
theorem mem_wout {l : List (Nm × β)} {s : Nm} {x : Nm × β} : x ∈ wout l s ↔ x ∈ l ∧ x.1 ≠ s := by simp [Disk.wout, List.mem_filter]
theorem mem_ins {l : List (Nm × β)} {s : Nm} {b : β} {x : Nm × β} : x ∈ ins l s b ↔ x = (s, b) ∨ x ∈ l := by
 induction l with
 | nil => simp [ins]
 | cons y l ih =>
  unfold ins
  by_cases h : nlt s y.1 = true
  ·simp [h]
  ·simp [h, ih]
   constructor
   ·rintro (h | h | h)
    ·exact .inr (.inl h)
    ·exact .inl h
    ·exact .inr (.inr h)
   ·rintro (h | h | h)
    ·exact .inr (.inl h)
    ·exact .inl h
    ·exact .inr (.inr h)
theorem mem_wit {l : List (Nm × β)} {s : Nm} {b : β} {x : Nm × β} : x ∈ wit l s b ↔ x = (s, b) ∨ (x ∈ l ∧ x.1 ≠ s) := by rw [wit, mem_ins, mem_wout]
theorem Srt.ins {l : List (Nm × β)} (h : Srt l) {s : Nm} (b : β) (hs : ∀ x ∈ l, x.1 ≠ s) : Srt (ins l s b) := by
 induction l with
 | nil => exact List.pairwise_singleton _ _
 | cons y l ih =>
  obtain ⟨h1, h2⟩ := List.pairwise_cons.1 h
  unfold Disk.ins
  by_cases e : nlt s y.1 = true
  ·rw [if_pos e]
   refine List.pairwise_cons.2 ⟨fun x hx => ?_, h⟩
   rcases List.mem_cons.1 hx with rfl | hx
   ·exact e
   ·exact nlt_trans e (h1 x hx)
  ·rw [if_neg e]
   refine List.pairwise_cons.2 ⟨fun x hx => ?_, ih h2 fun x hx => hs x (List.mem_cons_of_mem _ hx)⟩
   rcases mem_ins.1 hx with rfl | hx
   ·exact nlt_tri (by simpa using e) (fun e2 => hs y List.mem_cons_self e2.symm)
   ·exact h1 x hx
theorem Srt.wit {l : List (Nm × β)} (h : Srt l) (s : Nm) (b : β) : Srt (wit l s b) := (h.wout s).ins b fun _ hx => (mem_wout.1 hx).2
theorem find_wout {l : List (Nm × β)} (s t : Nm) : find (wout l s) t = if t = s then none else find l t := by
 induction l with
 | nil => simp [Disk.wout, find]
 | cons y l ih =>
  have e : wout (y :: l) s = if y.1 = s then wout l s else y :: wout l s := by
   unfold Disk.wout
   by_cases h : y.1 = s
   ·simp [h]
   ·simp [h]
  rw [e]
  by_cases h : y.1 = s
  ·rw [if_pos h, ih]
   by_cases h2 : t = s
   ·rw [if_pos h2, if_pos h2]
   ·rw [if_neg h2, if_neg h2]
    show _ = (if y.1 = t then some y.2 else find l t)
    rw [if_neg (fun e => h2 (e.symm.trans h))]
  ·rw [if_neg h]
   show (if y.1 = t then some y.2 else find (wout l s) t) = if t = s then none else (if y.1 = t then some y.2 else find l t)
   rw [ih]
   by_cases h2 : t = s
   ·subst h2
    simp [h]
   ·simp [h2]
theorem find_ins {l : List (Nm × β)} (s : Nm) (b : β) (t : Nm) (hs : ∀ x ∈ l, x.1 ≠ s) : find (ins l s b) t = if t = s then some b else find l t := by
 induction l with
 | nil =>
  show (if s = t then some b else none) = _
  by_cases h : t = s
  ·subst h; simp
  ·rw [if_neg (fun e => h e.symm), if_neg h]; rfl
 | cons y l ih =>
  have hy := hs y List.mem_cons_self
  have ih := ih fun x hx => hs x (List.mem_cons_of_mem _ hx)
  unfold Disk.ins
  by_cases e : nlt s y.1 = true
  ·rw [if_pos e]
   show (if s = t then some b else find (y :: l) t) = _
   by_cases h : t = s
   ·subst h; simp
   ·rw [if_neg (fun e => h e.symm), if_neg h]
  ·rw [if_neg e]
   show (if y.1 = t then some y.2 else find (ins l s b) t) = if t = s then some b else (if y.1 = t then some y.2 else find l t)
   rw [ih]
   by_cases h : t = s
   ·subst h
    rw [if_neg hy, if_pos rfl, if_pos rfl]
   ·rw [if_neg h, if_neg h]
theorem find_wit (l : List (Nm × β)) (s : Nm) (b : β) (t : Nm) : find (wit l s b) t = if t = s then some b else find l t := by
 rw [wit, find_ins s b t fun x hx => (mem_wout.1 hx).2, find_wout]
 by_cases h : t = s
 ·rw [if_pos h, if_pos h]
 ·rw [if_neg h, if_neg h, if_neg h]
theorem srt_ext {l m : List (Nm × β)} (hl : Srt l) (hm : Srt m) (h : ∀ s, find l s = find m s) : l = m := by
 induction l generalizing m with
 | nil =>
  rcases m with _ | ⟨y, m⟩
  ·rfl
  ·have := h y.1
   unfold find at this
   simp at this
 | cons x l ih =>
  obtain ⟨l1, l2⟩ := List.pairwise_cons.1 hl
  rcases m with _ | ⟨y, m⟩
  ·have := h x.1
   unfold find at this
   simp at this
  ·obtain ⟨m1, m2⟩ := List.pairwise_cons.1 hm
   have hx : (x.1, x.2) ∈ y :: m := find_some ((h x.1).symm.trans (by unfold find; rw [if_pos rfl]))
   have hy : (y.1, y.2) ∈ x :: l := find_some ((h y.1).trans (by unfold find; rw [if_pos rfl]))
   have hxy : x = y := by
    rcases List.mem_cons.1 hx with e | hx
    ·exact e
    ·rcases List.mem_cons.1 hy with e | hy
     ·exact e.symm
     ·have h1 := m1 _ hx
      have h2 := l1 _ hy
      simp only at h1 h2
      rw [nlt_asymm h1] at h2
      cases h2
   subst hxy
   rw [ih l2 m2 fun s => ?_]
   have := h s
   unfold find at this
   by_cases e : x.1 = s
   ·have n1 : find l s = none := find_none.2 fun z hz e2 => nlt_ne (l1 z hz) (e.trans e2.symm)
    have n2 : find m s = none := find_none.2 fun z hz e2 => nlt_ne (m1 z hz) (e.trans e2.symm)
    rw [n1, n2]
   ·rwa [if_neg e, if_neg e] at this
def mapV (f : β → γ) (l : List (Nm × β)) : List (Nm × γ) := l.map fun x => (x.1, f x.2)
theorem Srt.map {l : List (Nm × β)} (h : Srt l) (f : β → γ) : Srt (mapV f l) := by
 unfold Srt mapV
 rw [List.pairwise_map]
 exact h
end
end Disk
end Go.Proofs.YtkfdplfgaddkmaaGreat

/-
 A slice of versions read as a list: five cells each, of which one is the slice of the spans of its past.
-/
namespace Go.Proofs.YtkfdplfgaddkmaaGreat
namespace Vers
open Go.RowKit Span

def Pa (w : World) (L B : Nat) (A : Option Addr) (c : Nat) (v : Vr) : Prop :=
 Ss w B A v.past ∧ v.past.length ≤ c ∧ v.past.length ≤ 140737488355328 ∧ v.val.size ≤ 140737488355328 ∧ (0 < v.past.length → ∀ a, A = some a → L ≤ a.block)
def Vat (w : World) (L B b off : Nat) (v : Vr) (A : Option Addr) (c : Nat) : Prop :=
 w.cell? ⟨b, off, none⟩ = some (.int .i64 v.s) ∧ w.cell? ⟨b, off + 1, none⟩ = some (.int .i64 v.n) ∧ w.cell? ⟨b, off + 2, none⟩ = some (.slice A v.past.length c) ∧
 w.cell? ⟨b, off + 3, none⟩ = some (.bool v.gone) ∧ w.cell? ⟨b, off + 4, none⟩ = some (.string v.val) ∧ Pa w L B A c v
def Vs (w : World) (L B : Nat) (A : Option Addr) (l : List Vr) : Prop :=
 0 < l.length → ∃ b off, A = some ⟨b, off, none⟩ ∧ L ≤ b ∧ b < B ∧ ∀ j, j < l.length → ∃ A' c', Vat w L B b (off + j * 5) (l.getD j v0) A' c'

section
variable {w w' : World} {L L' B B' b off c : Nat} {A : Option Addr} {l : List Vr} {l' : List Sp} {v : Vr}
theorem Ss.high (h : Ss w B A l') (hl : 0 < l'.length → ∀ a, A = some a → L ≤ a.block) (hk : ∀ p : Addr, L ≤ p.block → p.block < B → w'.cell? p = w.cell? p) : Ss w' B A l' := fun hp => by
 obtain ⟨b, off, e, hb, hc⟩ := h hp
 have hL : L ≤ b := hl hp _ e
 exact ⟨b, off, e, hb, fun j hj => ⟨(hk ⟨b, _, none⟩ hL hb).trans (hc j hj).1, (hk ⟨b, _, none⟩ hL hb).trans (hc j hj).2.1, (hk ⟨b, _, none⟩ hL hb).trans (hc j hj).2.2⟩⟩
theorem Pa.keep (h : Pa w L B A c v) (hk : ∀ p : Addr, L ≤ p.block → p.block < B → w'.cell? p = w.cell? p) : Pa w' L B A c v := ⟨Ss.high h.1 h.2.2.2.2 hk, h.2⟩
theorem Pa.more (h : Pa w L B A c v) (hB : B ≤ B') : Pa w L B' A c v := ⟨h.1.more hB, h.2⟩
theorem Pa.less (h : Pa w L B A c v) (hL : L' ≤ L) : Pa w L' B A c v := ⟨h.1, h.2.1, h.2.2.1, h.2.2.2.1, fun hp a ha => Nat.le_trans hL (h.2.2.2.2 hp a ha)⟩
theorem Pa.below (h : Pa w L B A c v) (hb : Below B w w') : Pa w' L B A c v := h.keep fun _ _ hp => hb.cell hp
theorem Pa.alloc (h : Pa w L B A c v) (hB : B ≤ w.heap.size) (o : Obj) : Pa (w.alloc o) L B A c v := h.keep fun p _ hp => World.cell?_alloc_lt w o p (by omega)
theorem Vat.keep (h : Vat w L B b off v A c) (hL : L ≤ b) (hb : b < B) (hk : ∀ p : Addr, L ≤ p.block → p.block < B → w'.cell? p = w.cell? p) : Vat w' L B b off v A c := by
 obtain ⟨h0, h1, h2, h3, h4, h5⟩ := h
 exact ⟨(hk ⟨b, _, none⟩ hL hb).trans h0, (hk ⟨b, _, none⟩ hL hb).trans h1, (hk ⟨b, _, none⟩ hL hb).trans h2, (hk ⟨b, _, none⟩ hL hb).trans h3, (hk ⟨b, _, none⟩ hL hb).trans h4, h5.keep hk⟩
theorem Vs.nil (A : Option Addr) : Vs w L B A [] := fun h => absurd h (by simp)
theorem Vs.keep (h : Vs w L B A l) (hk : ∀ p : Addr, L ≤ p.block → p.block < B → w'.cell? p = w.cell? p) : Vs w' L B A l := fun hp => by
 obtain ⟨b, off, e, hL, hb, hc⟩ := h hp
 refine ⟨b, off, e, hL, hb, fun j hj => ?_⟩
 obtain ⟨A', c', h1⟩ := hc j hj
 exact ⟨A', c', h1.keep hL hb hk⟩
theorem Vs.more (h : Vs w L B A l) (hB : B ≤ B') : Vs w L B' A l := fun hp => by
 obtain ⟨b, off, e, hL, hb, hc⟩ := h hp
 refine ⟨b, off, e, hL, by omega, fun j hj => ?_⟩
 obtain ⟨A', c', h0, h1, h2, h3, h4, h5⟩ := hc j hj
 exact ⟨A', c', h0, h1, h2, h3, h4, h5.more hB⟩
theorem Vs.less (h : Vs w L B A l) (hL : L' ≤ L) : Vs w L' B A l := fun hp => by
 obtain ⟨b, off, e, hLb, hb, hc⟩ := h hp
 refine ⟨b, off, e, by omega, hb, fun j hj => ?_⟩
 obtain ⟨A', c', h0, h1, h2, h3, h4, h5⟩ := hc j hj
 exact ⟨A', c', h0, h1, h2, h3, h4, h5.less hL⟩
theorem Vs.below (h : Vs w L B A l) (hb : Below B w w') : Vs w' L B A l := h.keep fun _ _ hp => hb.cell hp
theorem Vs.drewN (h : Vs w L B A l) (n : Nat) : Vs (w.drewN n) L B A l := h.keep fun _ _ _ => rfl
theorem Vs.alloc (h : Vs w L B A l) (hB : B ≤ w.heap.size) (o : Obj) : Vs (w.alloc o) L B A l := h.keep fun p _ hp => World.cell?_alloc_lt w o p (by omega)
theorem Vs.at {n k : Nat} (h : Vs w L B A l) (hn : l.length = n) (hb : Below B w w') (hk : k < n) (hv : l.getD k v0 = v) : ∃ b off A' c', A = some ⟨b, off, none⟩ ∧ L ≤ b ∧ b < B ∧ Vat w' L B b (off + k * 5) v A' c' := by
 obtain ⟨b, off, e, hL, hbB, hc⟩ := (h.below hb) (by omega)
 obtain ⟨A', c', h1⟩ := hc k (by omega)
 rw [hv] at h1
 exact ⟨b, off, A', c', e, hL, hbB, h1⟩
end
end Vers
end Go.Proofs.YtkfdplfgaddkmaaGreat

/-
 How dots are compared: vers.compare, firthref05.Less; the list of one dot.
-/
namespace Go.Proofs.YtkfdplfgaddkmaaGreat
namespace Vers
open Go.RowKit Span
attribute [local go_sem ↓] Go.wp_at_zero Go.wp_at_succ

def cmpI (x y : Int) : Int := if x < y then -1 else if y < x then 1 else 0
def cmpD (s n s' n' : Int) : Int := if cmpI s s' = 0 then cmpI n n' else cmpI s s'
theorem cmpD_lt (s n s' n' : Int) : cmpD s n s' n' < 0 ↔ s < s' ∨ (s = s' ∧ n < n') := by
 unfold cmpD cmpI
 repeat' split
 all_goals omega
theorem cmp_int (x y : Int) (w : World) : Calls Tryz.prog 146 #[.int .i64 x, .int .i64 y] w fun e w' => e = .returned (.int .i64 (cmpI x y)) ∧ w = w' := by
 have hN : ∀ (z : Int) (W : World), Calls Tryz.prog 156 #[.int .i64 z] W fun e w' => e = .returned (.bool false) ∧ W = w' := by
  intro z W
  go_enter Tryz.func156, Tryz.ntmps156
  go_wp2
  go_ret
  exact ⟨by simp, rfl⟩
 have H := Lib.hid hN
 clear hN
 rcases Int.lt_trichotomy x y with h | rfl | h
 ·have h1 : decide (x < y) = true := decide_eq_true h
  have hr : cmpI x y = -1 := by unfold cmpI; rw [if_pos h]
  have HR := Lib.hid hr
  clear hr h
  go_enter Tryz.func146, Tryz.ntmps146
  go_wp2_with (go_at_call 156; refine (H.out _ _).mono ?_; rintro e w' ⟨rfl, rfl⟩)
  go_ret
  exact ⟨by rw [HR.out]; rfl, rfl⟩
 ·have h1 : decide (x < x) = false := decide_eq_false (by omega)
  have hr : cmpI x x = 0 := by unfold cmpI; rw [if_neg (by omega), if_neg (by omega)]
  have HR := Lib.hid hr
  clear hr
  go_enter Tryz.func146, Tryz.ntmps146
  go_wp2_with (go_at_call 156; refine (H.out _ _).mono ?_; rintro e w' ⟨rfl, rfl⟩)
  go_ret
  exact ⟨by rw [HR.out]; rfl, rfl⟩
 ·have h1 : decide (x < y) = false := decide_eq_false (by omega)
  have h2 : decide (y < x) = true := decide_eq_true h
  have hr : cmpI x y = 1 := by unfold cmpI; rw [if_neg (by omega), if_pos h]
  have HR := Lib.hid hr
  clear hr h
  go_enter Tryz.func146, Tryz.ntmps146
  go_wp2_with (go_at_call 156; refine (H.out _ _).mono ?_; rintro e w' ⟨rfl, rfl⟩)
  go_ret
  exact ⟨by rw [HR.out]; rfl, rfl⟩

theorem cmp_int64 (x y : Int) (w : World) : Calls Tryz.prog 147 #[.int .i64 x, .int .i64 y] w fun e w' => e = .returned (.int .i64 (cmpI x y)) ∧ w = w' := by
 have hN : ∀ (z : Int) (W : World), Calls Tryz.prog 157 #[.int .i64 z] W fun e w' => e = .returned (.bool false) ∧ W = w' := by
  intro z W
  go_enter Tryz.func157, Tryz.ntmps157
  go_wp2
  go_ret
  exact ⟨by simp, rfl⟩
 have H := Lib.hid hN
 clear hN
 rcases Int.lt_trichotomy x y with h | rfl | h
 ·have h1 : decide (x < y) = true := decide_eq_true h
  have hr : cmpI x y = -1 := by unfold cmpI; rw [if_pos h]
  have HR := Lib.hid hr
  clear hr h
  go_enter Tryz.func147, Tryz.ntmps147
  go_wp2_with (go_at_call 157; refine (H.out _ _).mono ?_; rintro e w' ⟨rfl, rfl⟩)
  go_ret
  exact ⟨by rw [HR.out]; rfl, rfl⟩
 ·have h1 : decide (x < x) = false := decide_eq_false (by omega)
  have hr : cmpI x x = 0 := by unfold cmpI; rw [if_neg (by omega), if_neg (by omega)]
  have HR := Lib.hid hr
  clear hr
  go_enter Tryz.func147, Tryz.ntmps147
  go_wp2_with (go_at_call 157; refine (H.out _ _).mono ?_; rintro e w' ⟨rfl, rfl⟩)
  go_ret
  exact ⟨by rw [HR.out]; rfl, rfl⟩
 ·have h1 : decide (x < y) = false := decide_eq_false (by omega)
  have h2 : decide (y < x) = true := decide_eq_true h
  have hr : cmpI x y = 1 := by unfold cmpI; rw [if_neg (by omega), if_pos h]
  have HR := Lib.hid hr
  clear hr h
  go_enter Tryz.func147, Tryz.ntmps147
  go_wp2_with (go_at_call 157; refine (H.out _ _).mono ?_; rintro e w' ⟨rfl, rfl⟩)
  go_ret
  exact ⟨by rw [HR.out]; rfl, rfl⟩

theorem or_two (p q : Int) (b : Nat) (w : World) (h0 : w.cell? ⟨b, 0, none⟩ = some (.int .i64 p)) (h1 : w.cell? ⟨b, 1, none⟩ = some (.int .i64 q)) :
  Calls Tryz.prog 145 #[.slice (some ⟨b, 0, none⟩) 2 2] w fun e w' => e = .returned (.int .i64 (if p = 0 then q else p)) ∧ w = w' := by
 by_cases hp : p = 0
 ·subst hp
  rw [if_pos rfl]
  by_cases hq : q = 0
  ·subst hq
   go_enter Tryz.func145, Tryz.ntmps145
   go_wp2
   go_loopw [5, 8] (fun _ q wr => ∃ k : Nat, q = .int .i64 k ∧ k ≤ 2 ∧ w = wr) (fun _ q _ => 2 - (intOf q).toNat)
   case atStart => exact ⟨0, rfl, by omega, rfl⟩
   case round =>
    obtain ⟨k, rfl, hk, rfl⟩ := hrel
    match k, hk with
    | 0, _ =>
     go_wp2
     exact ⟨⟨1, rfl, by omega, trivial⟩, by simp only [intOf]; omega⟩
    | 1, _ =>
     go_wp2
     exact ⟨⟨2, rfl, by omega, trivial⟩, by simp only [intOf]; omega⟩
    | 2, _ =>
     go_wp2
     go_ret
     exact ⟨rfl, rfl⟩
  ·have g1 : (q == 0) = false := by simpa using hq
   have g2 : ¬ (q = 0) := hq
   go_enter Tryz.func145, Tryz.ntmps145
   go_wp2
   go_loopw [5, 8] (fun _ q wr => ∃ k : Nat, q = .int .i64 k ∧ k ≤ 1 ∧ w = wr) (fun _ q _ => 2 - (intOf q).toNat)
   case atStart => exact ⟨0, rfl, by omega, rfl⟩
   case round =>
    obtain ⟨k, rfl, hk, rfl⟩ := hrel
    match k, hk with
    | 0, _ =>
     go_wp2
     exact ⟨⟨1, rfl, by omega, trivial⟩, by simp only [intOf]; omega⟩
    | 1, _ =>
     go_wp2
     go_ret
     exact ⟨rfl, rfl⟩
 ·rw [if_neg hp]
  have g1 : (p == 0) = false := by simpa using hp
  go_enter Tryz.func145, Tryz.ntmps145
  go_wp2
  go_loopw [5, 8] (fun _ q wr => q = .int .i64 0 ∧ w = wr) (fun _ q _ => 2 - (intOf q).toNat)
  case atStart => exact ⟨rfl, rfl⟩
  case round =>
   obtain ⟨rfl, rfl⟩ := hrel
   go_wp2
   go_ret
   exact ⟨rfl, rfl⟩

set_option maxHeartbeats 1000000 in
theorem compare_any (s n s' n' : Int) (w : World) : Calls Tryz.prog 124 #[.agg #[.int .i64 s, .int .i64 n], .agg #[.int .i64 s', .int .i64 n']] w fun e w' => e = .returned (.int .i64 (cmpD s n s' n')) ∧ Below w.heap.size w w' := by
 have H1 := Lib.hid (fun W => cmp_int s s' W)
 have H2 := Lib.hid (fun W => cmp_int64 n n' W)
 have hr : (if cmpI s s' = 0 then cmpI n n' else cmpI s s') = cmpD s n s' n' := rfl
 obtain ⟨p, hp⟩ : ∃ p, cmpI s s' = p := ⟨_, rfl⟩
 obtain ⟨q, hq⟩ : ∃ q, cmpI n n' = q := ⟨_, rfl⟩
 rw [hp, hq] at hr
 have H1' : Hid (∀ W, Calls Tryz.prog 146 #[.int .i64 s, .int .i64 s'] W fun e w' => e = .returned (.int .i64 p) ∧ W = w') := by rw [← hp]; exact H1
 have H2' : Hid (∀ W, Calls Tryz.prog 147 #[.int .i64 n, .int .i64 n'] W fun e w' => e = .returned (.int .i64 q) ∧ W = w') := by rw [← hq]; exact H2
 obtain ⟨r, hr'⟩ : ∃ r, (if p = 0 then q else p) = r := ⟨_, rfl⟩
 have H3 := Lib.hid (fun b W h0 h1 => hr' ▸ or_two p q b W h0 h1)
 have HR := Lib.hid (hr'.symm.trans hr)
 clear H1 H2 hp hq hr hr'
 go_enter Tryz.func124, Tryz.ntmps124
 go_wp2
 obtain ⟨W, hW⟩ : ∃ W, (w.alloc (.cells #[.int .i64 s, .int .i64 n] 116)).alloc (.cells #[.int .i64 s', .int .i64 n'] 116) = W := ⟨_, rfl⟩
 have a0 : W.cell? ⟨w.heap.size, 0, none⟩ = some (.int .i64 s) := by rw [← hW]; simp
 have a1 : W.cell? ⟨w.heap.size, 1, none⟩ = some (.int .i64 n) := by rw [← hW]; simp
 have a2 : W.cell? ⟨w.heap.size + 1, 0, none⟩ = some (.int .i64 s') := by rw [← hW]; simp
 have a3 : W.cell? ⟨w.heap.size + 1, 1, none⟩ = some (.int .i64 n') := by rw [← hW]; simp
 have b0 : Below w.heap.size w W := by rw [← hW]; exact ((Below.refl _ w).alloc (Nat.le_refl _) _).alloc (by simp) _
 have hs : W.heap.size = w.heap.size + 2 := by rw [← hW]; simp
 rw [hW]
 clear hW
 have HB := Lib.hid (b0.alloc (by rw [hs]; omega) (.cells #[.int .i64 p, .int .i64 q] 3))
 obtain ⟨m, hm⟩ : ∃ m, w.heap.size = m := ⟨_, rfl⟩
 rw [hm] at a0 a1 a2 a3 hs ⊢
 clear hm b0
 have l0 : m < W.heap.size := by omega
 have l1 : m + 1 < W.heap.size := by omega
 clear hs
 go_region_held3 (fun V => V.cell? ⟨m, 0, none⟩ = some (.int .i64 s) ∧ V.cell? ⟨m, 1, none⟩ = some (.int .i64 n) ∧ V.cell? ⟨m + 1, 0, none⟩ = some (.int .i64 s') ∧ V.cell? ⟨m + 1, 1, none⟩ = some (.int .i64 n'))
  (first | exact ⟨a0, a1, a2, a3⟩ | exact ⟨(World.cell?_alloc_lt _ _ _ l0).trans a0, (World.cell?_alloc_lt _ _ _ l0).trans a1, (World.cell?_alloc_lt _ _ _ l1).trans a2, (World.cell?_alloc_lt _ _ _ l1).trans a3⟩)
  (first
   | (go_at_call 146; refine (H1'.out _).mono ?_; rintro e w1 ⟨rfl, rfl⟩)
   | (go_at_call 147; refine (H2'.out _).mono ?_; rintro e w1 ⟨rfl, rfl⟩)
   | (go_at_call 145; refine (H3.out _ _ (by simp) (by simp)).mono ?_; rintro e w1 ⟨rfl, rfl⟩))
 all_goals
  go_wp2
  go_ret
  exact ⟨by rw [HR.out]; rfl, HB.out.drew⟩

theorem less_any (s n s' n' : Int) (w : World) : Calls Tryz.prog 104 #[.agg #[.int .i64 s, .int .i64 n], .agg #[.int .i64 s', .int .i64 n']] w fun e w' => e = .returned (.bool (decide (s < s' ∨ (s = s' ∧ n < n')))) ∧ Below w.heap.size w w' := by
 obtain ⟨R, hR⟩ : ∃ R, decide (s < s' ∨ (s = s' ∧ n < n')) = R := ⟨_, rfl⟩
 rw [hR]
 by_cases h : s = s'
 ·have HR := Lib.hid (show R = decide (n < n') by rw [← hR]; simp [h])
  subst h
  have g : (s == s) = true := by simp
  clear hR
  go_enter Tryz.func104, Tryz.ntmps104
  go_wp2
  go_ret
  exact ⟨by rw [HR.out]; rfl, ((Below.refl _ w).alloc (Nat.le_refl _) _).alloc (by simp) _⟩
 ·have HR := Lib.hid (show R = decide (s < s') by rw [← hR]; simp [h])
  have g : (s == s') = false := by simp [h]
  clear h hR
  go_enter Tryz.func104, Tryz.ntmps104
  go_wp2
  go_ret
  exact ⟨by rw [HR.out]; rfl, ((Below.refl _ w).alloc (Nat.le_refl _) _).alloc (by simp) _⟩

def DotList (s n : Int) (w : World) (e : Ending) (w' : World) : Prop := ∃ A, e = .returned (.slice A 1 1) ∧ Ss w' w'.heap.size A [(s, n, n)] ∧ Below w.heap.size w w'
theorem dotlist_any (s n : Int) (w : World) : Calls Tryz.prog 143 #[.agg #[.int .i64 s, .int .i64 n]] w (DotList s n w) := by
 go_enter Tryz.func143, Tryz.ntmps143
 go_wp2
 go_ret
 refine ⟨_, rfl, fun _ => ⟨_, _, rfl, by simp, fun j hj => ?_⟩, ((Below.refl _ w).alloc (Nat.le_refl _) _).alloc (by simp) _⟩
 match j, hj with
 | 0, _ => simp
end Vers
end Go.Proofs.YtkfdplfgaddkmaaGreat

/-
 span.Join: two right lists merged.
-/
namespace Go.Proofs.YtkfdplfgaddkmaaGreat
namespace Span
open Go.RowKit
attribute [local go_sem ↓] Go.wp_at_zero Go.wp_at_succ

end Span
end Go.Proofs.YtkfdplfgaddkmaaGreat

/-
 firthref03.put: a span laid into a right list.
-/
namespace Go.Proofs.YtkfdplfgaddkmaaGreat
namespace Span
open Go.RowKit
attribute [local go_sem ↓] Go.wp_at_zero Go.wp_at_succ

def Bx (W : World) (B : Nat) (x : Sp) : Prop := W.heap[B]? = some (.cells #[.int .i64 x.1, .int .i64 x.2.1, .int .i64 x.2.2] 121 (0, 0))
section
variable {W W' : World} {B : Nat} {x : Sp}
theorem Bx.lt (h : Bx W B x) : B < W.heap.size := (Array.getElem?_eq_some_iff.1 h).1
theorem Bx.c0 (h : Bx W B x) : W.cell? ⟨B, 0, none⟩ = some (.int .i64 x.1) := by simp [World.cell?, show W.heap[B]? = _ from h]
theorem Bx.c1 (h : Bx W B x) : W.cell? ⟨B, 1, none⟩ = some (.int .i64 x.2.1) := by simp [World.cell?, show W.heap[B]? = _ from h]
theorem Bx.c2 (h : Bx W B x) : W.cell? ⟨B, 2, none⟩ = some (.int .i64 x.2.2) := by simp [World.cell?, show W.heap[B]? = _ from h]
theorem Bx.frozen (h : Bx W B x) (j : Nat) : W.frozen? ⟨B, j, none⟩ = false := by simp [World.frozen?, show W.heap[B]? = _ from h]
theorem Bx.new (W : World) (x : Sp) : Bx (W.alloc (.cells #[.int .i64 x.1, .int .i64 x.2.1, .int .i64 x.2.2] 121)) W.heap.size x := heap_alloc_new W _
theorem Bx.kept {row : Option Nat} (h : Bx W B x) (hg : W.grownBy W' row) (hne : some B ≠ row) : Bx W' B x := (hg.block B h.lt hne).trans h
theorem Bx.alloc (h : Bx W B x) (o : Obj) : Bx (W.alloc o) B x := h.kept (World.grownBy_alloc W o none) (by simp)
theorem Bx.below {B' : Nat} (h : Bx W B x) (hb : Below B' W W') (hB : B < B') : Bx W' B x := (hb.block B hB).trans h
end

end Span
end Go.Proofs.YtkfdplfgaddkmaaGreat
