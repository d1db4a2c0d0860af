/-
  Several texts of this family in one: VectLooks, VectNext, Row, VectJoin, VectJoinRef, VectBump.
-/
import Derived.Test.YtiempgabamheiaaGVect
import Derived.Laws.ResultCell
import Derived.Test.YtiempgabamheiaaGBase
import Derived.Laws.CopyOwn
/-
  Vectors: what they cover, hold, whether two are the same, or one below another.
-/
namespace Go.Proofs.Ytiempgabamheiaa
namespace Vect
open Go.RowKit Span
attribute [local go_sem ↓] Go.wp_at_zero Go.wp_at_succ

set_option maxRecDepth 100000 in
set_option maxHeartbeats 1000000 in
theorem covers_any (A : Option Addr) (c m : Nat) (v : List Int) (hm : v.length = m) (s n : Int) (w : World) (hr : Ns .i64 w w.heap.size A v) (hbig : m ≤ 140737488355328) :
    Calls Try.prog 32 #[.slice A m c, .agg #[.int .i64 s, .int .i64 n]] w fun e w' => e = .returned (.bool (decide (CoversV v s n))) ∧ Below w.heap.size w w' := by
  obtain ⟨Q, hQ⟩ : ∃ Q, decide (CoversV v s n) = Q := ⟨_, rfl⟩
  rw [hQ]
  have hb1 := (Below.refl w.heap.size w).alloc (Nat.le_refl _) (.cells #[.int .i64 s, .int .i64 n] 56)
  have q0 : (w.alloc (.cells #[.int .i64 s, .int .i64 n] 56)).cell? ⟨w.heap.size, 0, none⟩ = some (.int .i64 s) := by simp
  have q1 : (w.alloc (.cells #[.int .i64 s, .int .i64 n] 56)).cell? ⟨w.heap.size, 1, none⟩ = some (.int .i64 n) := by simp
  have hr1 := hr.below hb1
  obtain ⟨W, hW⟩ : ∃ W, w.alloc (.cells #[.int .i64 s, .int .i64 n] 56) = W := ⟨_, rfl⟩
  rw [hW] at hb1 q0 q1 hr1
  by_cases h0 : 0 < n
  · have g0 : decide (0 < n) = true := decide_eq_true h0
    by_cases h1 : 1 ≤ s
    · have g1 : decide (1 ≤ s) = true := decide_eq_true h1
      by_cases h2 : s ≤ m
      · have g2 : decide (s ≤ (m : Int)) = true := decide_eq_true h2
        obtain ⟨k, rfl⟩ : ∃ k : Nat, s = (k : Int) + 1 := ⟨(s - 1).toNat, by omega⟩
        have hk : k < m := by omega
        obtain ⟨x, hx⟩ : ∃ x, v.getD k 0 = x := ⟨_, rfl⟩
        obtain ⟨b, off, rfl, hbB, d0⟩ := ns_cell hr1 hm (Below.refl _ _) hk hx
        have hv : CoversV v ((k : Int) + 1) n ↔ n ≤ x := by
          unfold CoversV
          rw [show ((k : Int) + 1 - 1).toNat = k by omega, hx, hm]
          exact ⟨fun h => h.2.2.2, fun h => ⟨h0, h1, h2, h⟩⟩
        have e0 : ((k : Int) + 1 - 1).toNat = k := by omega
        have e1 : (k : Int) + 1 - 1 = (k : Int) := by omega
        have e2 : IntKind.i64.wrap ((k : Int) + 1 - 1) = (k : Int) := by rw [e1]; exact IntWalk.i64_in _ (by omega)
        have e3 : (0 : Int) ≤ (k : Int) := by omega
        have e4 : (k : Int) < (m : Int) := by omega
        have e5 : decide ((1 : Int) ≤ (k : Int) + 1) = true := decide_eq_true (by omega)
        have e6 : decide ((k : Int) + 1 ≤ (m : Int)) = true := decide_eq_true (by omega)
        by_cases h3 : n ≤ x
        · have g3 : decide (n ≤ x) = true := decide_eq_true h3
          have HZ := Lib.hid (hQ.symm.trans (decide_eq_true (hv.2 h3)))
          clear hr hr1 hm hQ hx hv h0 h1 h2 h3
          go_enter Try.func32, Try.ntmps32
          go_wp2
          go_quiet (fail)
          go_wp2
          go_ret
          exact ⟨by rw [HZ.out]; rfl, hb1.trans (below_drewN _ _ _)⟩
        · have g3 : decide (n ≤ x) = false := decide_eq_false h3
          have HZ := Lib.hid (hQ.symm.trans (decide_eq_false fun h => h3 (hv.1 h)))
          clear hr hr1 hm hQ hx hv h0 h1 h2 h3
          go_enter Try.func32, Try.ntmps32
          go_wp2
          go_quiet (fail)
          go_wp2
          go_ret
          exact ⟨by rw [HZ.out]; rfl, hb1.trans (below_drewN _ _ _)⟩
      · have g2 : decide (s ≤ (m : Int)) = false := decide_eq_false h2
        have HZ := Lib.hid (hQ.symm.trans (decide_eq_false fun h => h2 (by have := h.2.2.1; rwa [hm] at this)))
        clear hr hr1 hm hQ h0 h1 h2
        go_enter Try.func32, Try.ntmps32
        go_wp2
        go_quiet (fail)
        go_wp2
        go_ret
        exact ⟨by rw [HZ.out]; rfl, hb1.trans (below_drewN _ _ _)⟩
    · have g1 : decide (1 ≤ s) = false := decide_eq_false h1
      have HZ := Lib.hid (hQ.symm.trans (decide_eq_false fun h => h1 h.2.1))
      clear hr hr1 hm hQ h0 h1
      go_enter Try.func32, Try.ntmps32
      go_wp2
      go_quiet (fail)
      go_wp2
      go_ret
      exact ⟨by rw [HZ.out]; rfl, hb1.trans (below_drewN _ _ _)⟩
  · have g0 : decide (0 < n) = false := decide_eq_false h0
    have HZ := Lib.hid (hQ.symm.trans (decide_eq_false fun h => h0 h.1))
    clear hr hr1 hm hQ h0
    go_enter Try.func32, Try.ntmps32
    go_wp2
    go_quiet (fail)
    go_wp2
    go_ret
    exact ⟨by rw [HZ.out]; rfl, hb1.trans (below_drewN _ _ _)⟩

set_option maxRecDepth 100000 in
set_option maxHeartbeats 1000000 in
theorem ref_covers_any (A : Option Addr) (c m : Nat) (v : List Int) (hm : v.length = m) (s n : Int) (hs : -9223372036854775808 ≤ s ∧ s ≤ 9223372036854775807) (w : World) (hr : Ns .i64 w w.heap.size A v) (hbig : m ≤ 140737488355328) :
    Calls Try.prog 23 #[.slice A m c, .agg #[.int .i64 s, .int .i64 n]] w fun e w' => e = .returned (.bool (decide (CoversV v s n))) ∧ Below w.heap.size w w' := by
  obtain ⟨Q, hQ⟩ : ∃ Q, decide (CoversV v s n) = Q := ⟨_, rfl⟩
  rw [hQ]
  have hb1 := (Below.refl w.heap.size w).alloc (Nat.le_refl _) (.cells #[.int .i64 s, .int .i64 n] 56)
  have q0 : (w.alloc (.cells #[.int .i64 s, .int .i64 n] 56)).cell? ⟨w.heap.size, 0, none⟩ = some (.int .i64 s) := by simp
  have q1 : (w.alloc (.cells #[.int .i64 s, .int .i64 n] 56)).cell? ⟨w.heap.size, 1, none⟩ = some (.int .i64 n) := by simp
  have hr1 := hr.below hb1
  have sA : (w.alloc (.cells #[.int .i64 s, .int .i64 n] 56)).heap.size = w.heap.size + 1 := by simp
  obtain ⟨W, hW⟩ : ∃ W, w.alloc (.cells #[.int .i64 s, .int .i64 n] 56) = W := ⟨_, rfl⟩
  rw [hW] at hb1 q0 q1 hr1 sA
  obtain ⟨p, hp⟩ : ∃ p, IntKind.i64.wrap (s - 1) = p := ⟨_, rfl⟩
  have hq : (1 ≤ s ∧ s ≤ m ∧ p = s - 1) ∨ (¬ (1 ≤ s ∧ s ≤ m) ∧ (p < 0 ∨ (m : Int) ≤ p)) := by
    rw [IntKind.wrap_i64] at hp
    omega
  have hlw : w.heap.size < W.heap.size := by omega
  rcases hq with ⟨h1, h2, h3⟩ | ⟨h1, h2⟩
  · obtain ⟨k, rfl⟩ : ∃ k : Nat, s = (k : Int) + 1 := ⟨(s - 1).toNat, by omega⟩
    have hk : k < m := by omega
    obtain ⟨x, hx⟩ : ∃ x, v.getD k 0 = x := ⟨_, rfl⟩
    obtain ⟨b, off, rfl, hbB, d0⟩ := ns_cell hr1 hm (Below.refl _ _) hk hx
    have hv : CoversV v ((k : Int) + 1) n ↔ 0 < n ∧ n ≤ x := by
      unfold CoversV
      rw [show ((k : Int) + 1 - 1).toNat = k by omega, hx, hm]
      exact ⟨fun h => ⟨h.1, h.2.2.2⟩, fun h => ⟨h.1, h1, h2, h.2⟩⟩
    have HV := Lib.hid hv
    have HQ := Lib.hid hQ
    clear hr hr1 hm hQ hx hv hp h3 h1 h2
    go_enter Try.func23, Try.ntmps23
    go_wp2
    go_loopw [5] (fun q wr => ∃ i : Nat, i ≤ k ∧ q = .int .i64 i ∧ Hid (Below W.heap.size W wr)) (fun q _ => m - (intOf q).toNat)
    case atStart => exact ⟨0, by omega, rfl, Lib.hid (Below.refl _ _)⟩
    case round =>
      obtain ⟨i, hi, rfl, hb⟩ := hrel
      have d1 := cell_below hb.out (by show b < _; omega) d0
      have p0 := cell_below hb.out hlw q0
      have p1 := cell_below hb.out hlw q1
      have hbw := Lib.hid (hb1.trans (hb.out.mono (Nat.le_of_lt hlw)))
      have r2 : (i : Int) < (m : Int) := by omega
      by_cases he : i = k
      · subst he
        have e3 : (0 : Int) ≤ (i : Int) := by omega
        by_cases h0 : 0 < n
        · have g0 : decide (0 < n) = true := decide_eq_true h0
          by_cases h3 : n ≤ x
          · have g3 : decide (n ≤ x) = true := decide_eq_true h3
            have HZ := Lib.hid (HQ.out.symm.trans (decide_eq_true (HV.out.2 ⟨h0, h3⟩)))
            clear HQ HV h0 h3
            go_wp2
            go_quiet (fail)
            go_wp2
            go_ret
            exact ⟨by rw [HZ.out]; rfl, hbw.out.trans (below_drewN _ _ _)⟩
          · have g3 : decide (n ≤ x) = false := decide_eq_false h3
            have HZ := Lib.hid (HQ.out.symm.trans (decide_eq_false fun h => h3 (HV.out.1 h).2))
            clear HQ HV h0 h3
            go_wp2
            go_quiet (fail)
            go_wp2
            go_ret
            exact ⟨by rw [HZ.out]; rfl, hbw.out.trans (below_drewN _ _ _)⟩
        · have g0 : decide (0 < n) = false := decide_eq_false h0
          have HZ := Lib.hid (HQ.out.symm.trans (decide_eq_false fun h => h0 (HV.out.1 h).1))
          clear HQ HV h0
          go_wp2
          go_quiet (fail)
          go_wp2
          go_ret
          exact ⟨by rw [HZ.out]; rfl, hbw.out.trans (below_drewN _ _ _)⟩
      · have hne : ¬ (i : Int) = (k : Int) := by omega
        clear HQ HV
        go_wp2
        exact ⟨⟨i + 1, by omega, rfl, hb⟩, by simp only [intOf]; omega⟩
  · have HZ := Lib.hid (hQ.symm.trans (decide_eq_false fun h => h1 ⟨h.2.1, by have := h.2.2.1; rwa [hm] at this⟩))
    have HP := Lib.hid h2
    clear hr hr1 hm hQ h1 h2
    go_enter Try.func23, Try.ntmps23
    go_wp2
    go_loopw [5] (fun q wr => ∃ i : Nat, i ≤ m ∧ q = .int .i64 i ∧ Hid (Below W.heap.size W wr)) (fun q _ => m - (intOf q).toNat)
    case atStart => exact ⟨0, by omega, rfl, Lib.hid (Below.refl _ _)⟩
    case round =>
      obtain ⟨i, hi, rfl, hb⟩ := hrel
      have p0 := cell_below hb.out hlw q0
      have hbw := Lib.hid (hb1.trans (hb.out.mono (Nat.le_of_lt hlw)))
      by_cases hlt : i < m
      · have hne : ¬ (i : Int) = p := by have := HP.out; omega
        have r2 : (i : Int) < (m : Int) := by omega
        go_wp2
        exact ⟨⟨i + 1, by omega, rfl, hb⟩, by simp only [intOf]; omega⟩
      · go_wp2
        go_ret
        exact ⟨by rw [HZ.out]; rfl, hbw.out⟩

theorem veq_step {l m : List Int} {k : Nat} (hl : k < l.length) (hm : k < m.length) (h : l.take k = m.take k) (he : l.getD k 0 = m.getD k 0) : l.take (k + 1) = m.take (k + 1) := by
  rw [vtake_one hl rfl, vtake_one hm rfl, h, he]

set_option maxRecDepth 100000 in
set_option maxHeartbeats 1000000 in
theorem vsame_any (A A' : Option Addr) (c c' n n' : Nat) (l m : List Int) (hn : l.length = n) (hn' : m.length = n') (w : World) (hr : Ns .i64 w w.heap.size A l) (hr' : Ns .i64 w w.heap.size A' m) (hbig : n ≤ 140737488355328) (hbig' : n' ≤ 140737488355328) :
    Calls Try.prog 25 #[.slice A n c, .slice A' n' c'] w fun e w' => e = .returned (.bool (decide (l = m))) ∧ Below w.heap.size w w' := by
  by_cases hlen : n = n'
  · subst hlen
    go_enter Try.func25, Try.ntmps25
    go_wp2
    go_loopw [5] (fun q wr => ∃ k : Nat, k ≤ n ∧ q = .int .i64 k ∧ Below w.heap.size w wr ∧ Hid (l.take k = m.take k)) (fun q _ => n - (intOf q).toNat)
    case atStart => exact ⟨0, by omega, rfl, Below.refl _ _, rfl⟩
    case round =>
      obtain ⟨k, hk, rfl, hb, hst⟩ := hrel
      by_cases hlt : k < n
      · have hy := veq_step (l := l) (m := m) (by omega) (by omega) hst.out
        have hz : l.getD k 0 ≠ m.getD k 0 → ¬ l = m := fun h e => h (by rw [e])
        obtain ⟨x, hx⟩ : ∃ x, l.getD k 0 = x := ⟨_, rfl⟩
        obtain ⟨y, hx'⟩ : ∃ x, m.getD k 0 = x := ⟨_, rfl⟩
        obtain ⟨b, off, rfl, hbB, d0⟩ := ns_cell hr hn hb hlt hx
        obtain ⟨b', off', rfl, hbB', d0'⟩ := ns_cell hr' hn' hb hlt hx'
        rw [hx, hx'] at hy hz
        have r0 : (0 : Int) ≤ (k : Int) := by omega
        have r1 : (k : Int) < (n : Int) := by omega
        by_cases he : x = y
        · have HY := Lib.hid (hy he)
          subst he
          clear hr hr' hst hy hz hx hx' hn hn'
          go_wp2
          go_quiet (fail)
          go_wp2
          exact ⟨⟨k + 1, by omega, rfl, hb.trans (below_drewN _ _ _), HY⟩, by simp only [intOf]; omega⟩
        · have HZ := Lib.hid (decide_eq_false (hz he))
          have g0 : (x == y) = false := by simp [he]
          clear hr hr' hst hy hz hx hx' hn hn' he
          go_wp2
          go_quiet (fail)
          go_wp2
          go_ret
          exact ⟨by rw [HZ.out]; rfl, hb.trans (below_drewN _ _ _)⟩
      · have hres := hst.out
        rw [List.take_of_length_le (by omega), List.take_of_length_le (by omega)] at hres
        have HR := Lib.hid (decide_eq_true hres)
        have hk0 : k = n := by omega
        clear hst hr hr' hn hn' hres
        go_wp2
        go_ret
        exact ⟨by rw [HR.out]; rfl, hb⟩
  · have hne : ¬ l = m := fun h => hlen (by rw [← hn, ← hn', h])
    have HR := Lib.hid (decide_eq_false hne)
    clear hr hr' hn hn' hne
    go_enter Try.func25, Try.ntmps25
    go_wp2
    go_ret
    exact ⟨by rw [HR.out]; rfl, Below.refl _ _⟩

def HoldsV (v : List Int) (l : List Sp) : Prop := ∀ x ∈ l, CoversV v x.1 x.2.2
instance (v : List Int) (l : List Sp) : Decidable (HoldsV v l) := by unfold HoldsV; infer_instance
def BelowV (a b : List Int) : Prop := RightV a ∧ RightV b ∧ a.length = b.length ∧ ∀ k, k < a.length → a.getD k 0 ≤ b.getD k 0

set_option maxRecDepth 100000 in
set_option maxHeartbeats 1000000 in
theorem holds_any (A A' : Option Addr) (c c' m n : Nat) (v : List Int) (l : List Sp) (hm : v.length = m) (hn : l.length = n) (w : World) (hr : Ns .i64 w w.heap.size A v) (hr' : Ss w w.heap.size A' l) (hbig : m ≤ 140737488355328) (hbig' : n ≤ 140737488355328) :
    Calls Try.prog 48 #[.slice A m c, .slice A' n c'] w fun e w' => e = .returned (.bool (decide (HoldsV v l))) ∧ Below w.heap.size w w' := by
  obtain ⟨Q, hQ⟩ : ∃ Q, decide (HoldsV v l) = Q := ⟨_, rfl⟩
  rw [hQ]
  have HC := Lib.hid (fun s k W hW => covers_any A c m v hm s k W hW hbig)
  have HQ := Lib.hid hQ
  have HN := Lib.hid hn
  have HR := Lib.hid hr
  have HR' := Lib.hid hr'
  skip
  clear hQ hn hr hr' hm
  go_enter Try.func48, Try.ntmps48
  go_wp2
  go_loopw [9] (fun q wr => ∃ k : Nat, k ≤ n ∧ q = .int .i64 k ∧ Hid (Below w.heap.size w wr) ∧ Hid (∀ x ∈ l.take k, CoversV v x.1 x.2.2)) (fun q _ => n - (intOf q).toNat)
  case atStart => exact ⟨0, by omega, rfl, Lib.hid (Below.refl _ _), Lib.hid (by simp)⟩
  case round =>
    obtain ⟨k, hk, rfl, hb, hst⟩ := hrel
    by_cases hlt : k < n
    · obtain ⟨⟨x0, x1, x2⟩, hx⟩ : ∃ x, l.getD k (0, 0, 0) = x := ⟨_, rfl⟩
      have hl : k < l.length := by rw [HN.out]; exact hlt
      obtain ⟨b, off, rfl, hbB, d0, d1, d2⟩ := ss_at HR'.out HN.out hb.out hlt hx
      simp only at d0 d1 d2
      have hbs := hb.out.size
      have hbl : b < wr.heap.size := by omega
      have hC := fun W hW => HC.out x0 x2 W hW
      obtain ⟨q, hq⟩ : ∃ q, decide (CoversV v x0 x2) = q := ⟨_, rfl⟩
      rw [hq] at hC
      have HX := Lib.hid hC
      have HY : Hid (q = true → ∀ x ∈ l.take (k + 1), CoversV v x.1 x.2.2) := Lib.hid fun h => by
        rw [take_one hl hx]
        intro z hz
        rcases List.mem_append.1 hz with hz | hz
        · exact hst.out z hz
        · rw [List.mem_singleton.1 hz]; exact of_decide_eq_true (hq.trans h)
      have HZ : Hid (q = false → Q = false) := Lib.hid fun h => HQ.out.symm.trans (decide_eq_false fun h' => of_decide_eq_false (hq.trans h) (h' _ (getD_mem hl hx)))
      have hb1 := hb.out.alloc hbs (.cells #[.int .i64 x0, .int .i64 x1, .int .i64 x2] 69)
      have e0 : (wr.alloc (.cells #[.int .i64 x0, .int .i64 x1, .int .i64 x2] 69)).cell? ⟨wr.heap.size, 0, none⟩ = some (.int .i64 x0) := by simp
      have e2 : (wr.alloc (.cells #[.int .i64 x0, .int .i64 x1, .int .i64 x2] 69)).cell? ⟨wr.heap.size, 2, none⟩ = some (.int .i64 x2) := by simp
      have hrW := (HR.out.below hb1).more hb1.size
      obtain ⟨W, hW⟩ : ∃ W, wr.alloc (.cells #[.int .i64 x0, .int .i64 x1, .int .i64 x2] 69) = W := ⟨_, rfl⟩
      rw [hW] at hb1 e0 e2 hrW
      clear hC hq hx hl hst HC HQ HN
      go_wp2_with fail
      refine (HX.out W hrW).mono ?_
      rintro e w1 ⟨rfl, b1⟩
      have hb2 := Lib.hid (hb1.trans (b1.mono hb1.size))
      clear b1 HX d0 d1 d2
      cases q
      · have HW := Lib.hid (HZ.out rfl)
        clear HY HZ
        go_wp2
        go_ret
        exact ⟨by rw [HW.out]; rfl, hb2.out⟩
      · have HW := Lib.hid (HY.out rfl)
        clear HY HZ
        go_wp2
        exact ⟨⟨k + 1, by omega, rfl, hb2, HW⟩, by simp only [intOf]; omega⟩
    · have HW := Lib.hid (HQ.out.symm.trans (decide_eq_true (by have := hst.out; rwa [List.take_of_length_le (by rw [HN.out]; omega)] at this)))
      clear hst HQ HN
      go_wp2
      go_ret
      exact ⟨by rw [HW.out]; rfl, hb.out⟩

set_option maxRecDepth 100000 in
set_option maxHeartbeats 1000000 in
theorem ref_holds_any (A A' : Option Addr) (c c' m n : Nat) (v : List Int) (l : List Sp) (hm : v.length = m) (hn : l.length = n) (hwf : ∀ x ∈ l, -9223372036854775808 ≤ x.1 ∧ x.1 ≤ 9223372036854775807) (w : World) (hr : Ns .i64 w w.heap.size A v) (hr' : Ss w w.heap.size A' l) (hbig : m ≤ 140737488355328) (hbig' : n ≤ 140737488355328) :
    Calls Try.prog 22 #[.slice A m c, .slice A' n c'] w fun e w' => e = .returned (.bool (decide (HoldsV v l))) ∧ Below w.heap.size w w' := by
  obtain ⟨Q, hQ⟩ : ∃ Q, decide (HoldsV v l) = Q := ⟨_, rfl⟩
  rw [hQ]
  have HC := Lib.hid (fun s k (hs : -9223372036854775808 ≤ s ∧ s ≤ 9223372036854775807) W hW => ref_covers_any A c m v hm s k hs W hW hbig)
  have HQ := Lib.hid hQ
  have HN := Lib.hid hn
  have HR := Lib.hid hr
  have HR' := Lib.hid hr'
  have HF := Lib.hid hwf
  clear hQ hn hr hr' hm hwf
  go_enter Try.func22, Try.ntmps22
  go_wp2
  go_loopw [5] (fun q wr => ∃ k : Nat, k ≤ n ∧ q = .int .i64 k ∧ Hid (Below w.heap.size w wr) ∧ Hid (∀ x ∈ l.take k, CoversV v x.1 x.2.2)) (fun q _ => n - (intOf q).toNat)
  case atStart => exact ⟨0, by omega, rfl, Lib.hid (Below.refl _ _), Lib.hid (by simp)⟩
  case round =>
    obtain ⟨k, hk, rfl, hb, hst⟩ := hrel
    by_cases hlt : k < n
    · obtain ⟨⟨x0, x1, x2⟩, hx⟩ : ∃ x, l.getD k (0, 0, 0) = x := ⟨_, rfl⟩
      have hl : k < l.length := by rw [HN.out]; exact hlt
      obtain ⟨b, off, rfl, hbB, d0, d1, d2⟩ := ss_at HR'.out HN.out hb.out hlt hx
      simp only at d0 d1 d2
      have hbs := hb.out.size
      have hbl : b < wr.heap.size := by omega
      have hC := fun W hW => HC.out x0 x2 (by have := HF.out _ (getD_mem hl hx); exact this) W hW
      obtain ⟨q, hq⟩ : ∃ q, decide (CoversV v x0 x2) = q := ⟨_, rfl⟩
      rw [hq] at hC
      have HX := Lib.hid hC
      have HY : Hid (q = true → ∀ x ∈ l.take (k + 1), CoversV v x.1 x.2.2) := Lib.hid fun h => by
        rw [take_one hl hx]
        intro z hz
        rcases List.mem_append.1 hz with hz | hz
        · exact hst.out z hz
        · rw [List.mem_singleton.1 hz]; exact of_decide_eq_true (hq.trans h)
      have HZ : Hid (q = false → Q = false) := Lib.hid fun h => HQ.out.symm.trans (decide_eq_false fun h' => of_decide_eq_false (hq.trans h) (h' _ (getD_mem hl hx)))
      have r0 : (0 : Int) ≤ (k : Int) := by omega
      have r1 : (k : Int) < (n : Int) := by omega
      have HB := Lib.hid (fun W (h : Below wr.heap.size wr W) => (HR.out.below (hb.out.trans (h.mono hbs))).more (Nat.le_trans hbs h.size))
      have hbd := hb.out
      clear hC hq hx hl hst HC HQ HN HF
      go_wp2
      go_region_held3 (fun W => W.cell? ⟨b, off + k * 3, none⟩ = some (.int .i64 x0) ∧ W.cell? ⟨b, off + k * 3 + 2, none⟩ = some (.int .i64 x2)) (first
          | exact ⟨d0, d2⟩
          | exact ⟨cell_below b1 hbl d0, cell_below b1 hbl d2⟩)
        (first | (go_at_call 23; refine (HX.out _ (HB.out _ (Below.refl _ wr).drew)).mono ?_; rintro e w1 ⟨rfl, b1⟩))
      have hb2 := Lib.hid (hbd.drew.trans (b1.mono hbs))
      clear b1 HX d0 d1 d2
      cases q
      · have HW := Lib.hid (HZ.out rfl)
        clear HY HZ
        go_wp2
        go_ret
        exact ⟨by rw [HW.out]; rfl, hb2.out⟩
      · have HW := Lib.hid (HY.out rfl)
        clear HY HZ
        go_wp2
        exact ⟨⟨k + 1, by omega, rfl, hb2, HW⟩, by simp only [intOf]; omega⟩
    · have HW := Lib.hid (HQ.out.symm.trans (decide_eq_true (by have := hst.out; rwa [List.take_of_length_le (by rw [HN.out]; omega)] at this)))
      clear hst HQ HN
      go_wp2
      go_ret
      exact ⟨by rw [HW.out]; rfl, hb.out⟩
end Vect
end Go.Proofs.Ytiempgabamheiaa

/-
  The next dot of a site: vect.Next and firthref04.Next.
-/
namespace Go.Proofs.Ytiempgabamheiaa
namespace Vect
open Go.RowKit Span
attribute [local go_sem ↓] Go.wp_at_zero Go.wp_at_succ

/-- The next dot of a site, or the error's number. -/
def nextV (v : List Int) (s : Int) : Int × Int × Int :=
  if RightV v ∧ 1 ≤ s ∧ s ≤ v.length then (if v.getD (s - 1).toNat 0 = 4611686018427387904 then (0, 0, 40) else (s, v.getD (s - 1).toNat 0 + 1, 0)) else (0, 0, 1)
def NextPost (r : Int × Int × Int) (w : World) (e : Ending) (w' : World) : Prop := e = .returned (.tuple #[.agg #[.int .i64 r.1, .int .i64 r.2.1], .int .i64 r.2.2]) ∧ Below w.heap.size w w'
theorem next_wrong {v : List Int} {s a b e : Int} (h : ¬ (RightV v ∧ 1 ≤ s ∧ s ≤ v.length)) (hQ : nextV v s = (a, b, e)) : a = 0 ∧ b = 0 ∧ e = 1 := by
  unfold nextV at hQ
  rw [if_neg h] at hQ
  simp only [Prod.mk.injEq] at hQ
  exact ⟨hQ.1.symm, hQ.2.1.symm, hQ.2.2.symm⟩
theorem next_right {v : List Int} {k : Nat} {x a b e : Int} (hR : RightV v) (hk : k < v.length) (hx : v.getD k 0 = x) (hQ : nextV v ((k : Int) + 1) = (a, b, e)) :
    (x = 4611686018427387904 → a = 0 ∧ b = 0 ∧ e = 40) ∧ (¬ x = 4611686018427387904 → a = (k : Int) + 1 ∧ b = x + 1 ∧ e = 0) := by
  unfold nextV at hQ
  rw [if_pos ⟨hR, by omega, by omega⟩, show ((k : Int) + 1 - 1).toNat = k by omega, hx] at hQ
  constructor
  · intro h
    rw [if_pos h] at hQ
    simp only [Prod.mk.injEq] at hQ
    exact ⟨hQ.1.symm, hQ.2.1.symm, hQ.2.2.symm⟩
  · intro h
    rw [if_neg h] at hQ
    simp only [Prod.mk.injEq] at hQ
    exact ⟨hQ.1.symm, hQ.2.1.symm, hQ.2.2.symm⟩
theorem frozen_below {B : Nat} {w w' : World} {p : Addr} {b : Bool} (h : Below B w w') (hp : p.block < B) (hc : w.frozen? p = b) : w'.frozen? p = b := (World.frozen?_of_block (h.block p.block hp)).trans hc

set_option maxHeartbeats 1000000 in
theorem next_any (A : Option Addr) (c m : Nat) (v : List Int) (hm : v.length = m) (s : Int) (hs : -9223372036854775808 ≤ s ∧ s ≤ 9223372036854775807) (w : World) (hr : Ns .i64 w w.heap.size A v) (hbig : m ≤ 140737488355328) :
    Calls Try.prog 47 #[.slice A m c, .int .i64 s] w (NextPost (nextV v s) w) := by
  have h1 := fun W hW => right_v A c m v hm W hW hbig
  skip
  obtain ⟨q, hq⟩ : ∃ q, decide (RightV v) = q := ⟨_, rfl⟩
  rw [hq] at h1
  obtain ⟨⟨d1, d2, E⟩, hQ⟩ : ∃ Q, nextV v s = Q := ⟨_, rfl⟩
  rw [hQ]
  have hb1 := (Below.refl w.heap.size w).alloc (Nat.le_refl _) (.cells #[.int .i64 0, .int .i64 0] 56)
  have q0 : (w.alloc (.cells #[.int .i64 0, .int .i64 0] 56)).cell? ⟨w.heap.size, 0, none⟩ = some (.int .i64 0) := by simp
  have q1 : (w.alloc (.cells #[.int .i64 0, .int .i64 0] 56)).cell? ⟨w.heap.size, 1, none⟩ = some (.int .i64 0) := by simp
  have q2 : (w.alloc (.cells #[.int .i64 0, .int .i64 0] 56)).frozen? ⟨w.heap.size, 0, none⟩ = false := by simp
  have q3 : (w.alloc (.cells #[.int .i64 0, .int .i64 0] 56)).frozen? ⟨w.heap.size, 1, none⟩ = false := by simp
  have sA : (w.alloc (.cells #[.int .i64 0, .int .i64 0] 56)).heap.size = w.heap.size + 1 := by simp
  obtain ⟨W, hW⟩ : ∃ W, w.alloc (.cells #[.int .i64 0, .int .i64 0] 56) = W := ⟨_, rfl⟩
  rw [hW] at hb1 q0 q1 q2 q3 sA
  have hlw : w.heap.size < W.heap.size := by omega
  have hrW := (hr.below hb1).more hb1.size
  have H1 := Lib.hid (h1 W hrW)
  skip
  cases q
  · have HZ : Hid (d1 = 0 ∧ d2 = 0 ∧ E = 1) := Lib.hid (next_wrong (fun h => of_decide_eq_false hq h.1) hQ)
    clear h1 hr hm hQ hq hrW
    go_enter Try.func47, Try.ntmps47
    go_wp2_with fail
    refine H1.out.mono ?_
    rintro e w1 ⟨rfl, b1⟩
    have p0 := cell_below b1 hlw q0
    have p1 := cell_below b1 hlw q1
    have p2 := frozen_below b1 hlw q2
    have p3 := frozen_below b1 hlw q3
    have hb2 := Lib.hid (hb1.trans (b1.mono hb1.size))
    clear b1
    go_wp2
    (try simp only [Exit.inBlock, Exit.then])
    refine bodyPost_ret (v := .tuple #[.agg #[.int .i64 d1, .int .i64 d2], .int .i64 E]) ?_ rfl ⟨rfl, ?_⟩
    · rw [results_cell_tmp rfl]
      obtain ⟨rfl, rfl, rfl⟩ := HZ.out
      go_simp
    · exact (hb2.out.setCell (p := ⟨w.heap.size, 0, none⟩) (Nat.le_refl _) _).setCell (p := ⟨w.heap.size, 1, none⟩) (Nat.le_refl _) _
  · have hR := of_decide_eq_true hq
    have hm16 : m ≤ 16 := by rw [← hm]; exact hR.2.1
    by_cases hs1 : s < 1
    · have HZ : Hid (d1 = 0 ∧ d2 = 0 ∧ E = 1) := Lib.hid (next_wrong (fun h => by omega) hQ)
      clear h1 hr hm hQ hq hrW hR
      go_enter Try.func47, Try.ntmps47
      go_wp2_with fail
      refine H1.out.mono ?_
      rintro e w1 ⟨rfl, b1⟩
      have p0 := cell_below b1 hlw q0
      have p1 := cell_below b1 hlw q1
      have p2 := frozen_below b1 hlw q2
      have p3 := frozen_below b1 hlw q3
      have hb2 := Lib.hid (hb1.trans (b1.mono hb1.size))
      clear b1
      go_wp2
      (try simp only [Exit.inBlock, Exit.then])
      refine bodyPost_ret (v := .tuple #[.agg #[.int .i64 d1, .int .i64 d2], .int .i64 E]) ?_ rfl ⟨rfl, ?_⟩
      · rw [results_cell_tmp rfl]
        obtain ⟨rfl, rfl, rfl⟩ := HZ.out
        go_simp
      · exact (hb2.out.setCell (p := ⟨w.heap.size, 0, none⟩) (Nat.le_refl _) _).setCell (p := ⟨w.heap.size, 1, none⟩) (Nat.le_refl _) _
    · by_cases hs2 : (m : Int) < s
      · have HZ : Hid (d1 = 0 ∧ d2 = 0 ∧ E = 1) := Lib.hid (next_wrong (fun h => by omega) hQ)
        clear h1 hr hm hQ hq hrW hR
        go_enter Try.func47, Try.ntmps47
        go_wp2_with fail
        refine H1.out.mono ?_
        rintro e w1 ⟨rfl, b1⟩
        have p0 := cell_below b1 hlw q0
        have p1 := cell_below b1 hlw q1
        have p2 := frozen_below b1 hlw q2
        have p3 := frozen_below b1 hlw q3
        have hb2 := Lib.hid (hb1.trans (b1.mono hb1.size))
        clear b1
        go_wp2
        (try simp only [Exit.inBlock, Exit.then])
        refine bodyPost_ret (v := .tuple #[.agg #[.int .i64 d1, .int .i64 d2], .int .i64 E]) ?_ rfl ⟨rfl, ?_⟩
        · rw [results_cell_tmp rfl]
          obtain ⟨rfl, rfl, rfl⟩ := HZ.out
          go_simp
        · exact (hb2.out.setCell (p := ⟨w.heap.size, 0, none⟩) (Nat.le_refl _) _).setCell (p := ⟨w.heap.size, 1, none⟩) (Nat.le_refl _) _
      · obtain ⟨k, rfl⟩ : ∃ k : Nat, s = (k : Int) + 1 := ⟨(s - 1).toNat, by omega⟩
        have hk : k < m := by omega
        obtain ⟨x, hx⟩ : ∃ x, v.getD k 0 = x := ⟨_, rfl⟩
        have hxb := hR.2.2 x (vget_mem (by omega) hx)
        obtain ⟨b, off, rfl, hbB, d0⟩ := ns_cell hrW hm (Below.refl _ _) hk hx
        have hn := next_right hR (by omega) hx hQ
        have e0 : ((k : Int) + 1 - 1).toNat = k := by omega
        obtain ⟨x0, x1⟩ := hxb
        by_cases hmax : x = 4611686018427387904
        · have HZ : Hid (d1 = 0 ∧ d2 = 0 ∧ E = 40) := Lib.hid (hn.1 hmax)
          clear h1 hr hm hQ hq hrW hR hx hn
          subst hmax
          go_enter Try.func47, Try.ntmps47
          go_wp2_with fail
          refine H1.out.mono ?_
          rintro e w1 ⟨rfl, b1⟩
          have p0 := cell_below b1 hlw q0
          have p1 := cell_below b1 hlw q1
          have p2 := frozen_below b1 hlw q2
          have p3 := frozen_below b1 hlw q3
          have hb2 := Lib.hid (hb1.trans (b1.mono hb1.size))
          have d0' := cell_below b1 hbB d0
          clear b1
          go_wp2
          (try simp only [Exit.inBlock, Exit.then])
          refine bodyPost_ret (v := .tuple #[.agg #[.int .i64 d1, .int .i64 d2], .int .i64 E]) ?_ rfl ⟨rfl, ?_⟩
          · rw [results_cell_tmp rfl]
            obtain ⟨rfl, rfl, rfl⟩ := HZ.out
            go_simp
          · exact (hb2.out.setCell (p := ⟨w.heap.size, 0, none⟩) (Nat.le_refl _) _).setCell (p := ⟨w.heap.size, 1, none⟩) (Nat.le_refl _) _
        · have HZ : Hid (d1 = (k : Int) + 1 ∧ d2 = x + 1 ∧ E = 0) := Lib.hid (hn.2 hmax)
          clear h1 hr hm hQ hq hrW hR hx hn
          go_enter Try.func47, Try.ntmps47
          go_wp2_with fail
          refine H1.out.mono ?_
          rintro e w1 ⟨rfl, b1⟩
          have p0 := cell_below b1 hlw q0
          have p1 := cell_below b1 hlw q1
          have p2 := frozen_below b1 hlw q2
          have p3 := frozen_below b1 hlw q3
          have hb2 := Lib.hid (hb1.trans (b1.mono hb1.size))
          have d0' := cell_below b1 hbB d0
          clear b1
          go_wp2
          (try simp only [Exit.inBlock, Exit.then])
          refine bodyPost_ret (v := .tuple #[.agg #[.int .i64 d1, .int .i64 d2], .int .i64 E]) ?_ rfl ⟨rfl, ?_⟩
          · rw [results_cell_tmp rfl]
            obtain ⟨rfl, rfl, rfl⟩ := HZ.out
            go_simp
          · exact (hb2.out.setCell (p := ⟨w.heap.size, 0, none⟩) (Nat.le_refl _) _).setCell (p := ⟨w.heap.size, 1, none⟩) (Nat.le_refl _) _

set_option maxHeartbeats 1000000 in
theorem ref_next_any (A : Option Addr) (c m : Nat) (v : List Int) (hm : v.length = m) (s : Int) (hs : -9223372036854775808 ≤ s ∧ s ≤ 9223372036854775807) (w : World) (hr : Ns .i64 w w.heap.size A v) (hbig : m ≤ 140737488355328) :
    Calls Try.prog 24 #[.slice A m c, .int .i64 s] w (NextPost (nextV v s) w) := by
  have h1 := fun W hW => ref_right_v A c m v hm W hW hbig
  have h2 := fun W hW => ref_at_any A c m v hm s hs W hW hbig
  obtain ⟨q, hq⟩ : ∃ q, decide (RightV v) = q := ⟨_, rfl⟩
  rw [hq] at h1
  obtain ⟨⟨d1, d2, E⟩, hQ⟩ : ∃ Q, nextV v s = Q := ⟨_, rfl⟩
  rw [hQ]
  have hb1 := (Below.refl w.heap.size w).alloc (Nat.le_refl _) (.cells #[.int .i64 0, .int .i64 0] 56)
  have q0 : (w.alloc (.cells #[.int .i64 0, .int .i64 0] 56)).cell? ⟨w.heap.size, 0, none⟩ = some (.int .i64 0) := by simp
  have q1 : (w.alloc (.cells #[.int .i64 0, .int .i64 0] 56)).cell? ⟨w.heap.size, 1, none⟩ = some (.int .i64 0) := by simp
  have q2 : (w.alloc (.cells #[.int .i64 0, .int .i64 0] 56)).frozen? ⟨w.heap.size, 0, none⟩ = false := by simp
  have q3 : (w.alloc (.cells #[.int .i64 0, .int .i64 0] 56)).frozen? ⟨w.heap.size, 1, none⟩ = false := by simp
  have sA : (w.alloc (.cells #[.int .i64 0, .int .i64 0] 56)).heap.size = w.heap.size + 1 := by simp
  obtain ⟨W, hW⟩ : ∃ W, w.alloc (.cells #[.int .i64 0, .int .i64 0] 56) = W := ⟨_, rfl⟩
  rw [hW] at hb1 q0 q1 q2 q3 sA
  have hlw : w.heap.size < W.heap.size := by omega
  have hrW := (hr.below hb1).more hb1.size
  have H1 := Lib.hid (h1 W hrW)
  have H2 := Lib.hid h2
  cases q
  · have HZ : Hid (d1 = 0 ∧ d2 = 0 ∧ E = 1) := Lib.hid (next_wrong (fun h => of_decide_eq_false hq h.1) hQ)
    clear h1 hr hm hQ hq hrW h2 H2
    go_enter Try.func24, Try.ntmps24
    go_wp2_with fail
    refine H1.out.mono ?_
    rintro e w1 ⟨rfl, b1⟩
    have p0 := cell_below b1 hlw q0
    have p1 := cell_below b1 hlw q1
    have p2 := frozen_below b1 hlw q2
    have p3 := frozen_below b1 hlw q3
    have hb2 := Lib.hid (hb1.trans (b1.mono hb1.size))
    clear b1
    go_wp2
    (try simp only [Exit.inBlock, Exit.then])
    refine bodyPost_ret (v := .tuple #[.agg #[.int .i64 d1, .int .i64 d2], .int .i64 E]) ?_ rfl ⟨rfl, ?_⟩
    · rw [results_cell_tmp rfl]
      obtain ⟨rfl, rfl, rfl⟩ := HZ.out
      go_simp
    · exact (hb2.out.setCell (p := ⟨w.heap.size, 0, none⟩) (Nat.le_refl _) _).setCell (p := ⟨w.heap.size, 1, none⟩) (Nat.le_refl _) _
  · have hR := of_decide_eq_true hq
    have hm16 : m ≤ 16 := by rw [← hm]; exact hR.2.1
    by_cases hs1 : s < 1
    · have HZ : Hid (d1 = 0 ∧ d2 = 0 ∧ E = 1) := Lib.hid (next_wrong (fun h => by omega) hQ)
      clear h1 hr hm hQ hq hrW hR h2 H2
      go_enter Try.func24, Try.ntmps24
      go_wp2_with fail
      refine H1.out.mono ?_
      rintro e w1 ⟨rfl, b1⟩
      have p0 := cell_below b1 hlw q0
      have p1 := cell_below b1 hlw q1
      have p2 := frozen_below b1 hlw q2
      have p3 := frozen_below b1 hlw q3
      have hb2 := Lib.hid (hb1.trans (b1.mono hb1.size))
      clear b1
      go_wp2
      (try simp only [Exit.inBlock, Exit.then])
      refine bodyPost_ret (v := .tuple #[.agg #[.int .i64 d1, .int .i64 d2], .int .i64 E]) ?_ rfl ⟨rfl, ?_⟩
      · rw [results_cell_tmp rfl]
        obtain ⟨rfl, rfl, rfl⟩ := HZ.out
        go_simp
      · exact (hb2.out.setCell (p := ⟨w.heap.size, 0, none⟩) (Nat.le_refl _) _).setCell (p := ⟨w.heap.size, 1, none⟩) (Nat.le_refl _) _
    · by_cases hs2 : (m : Int) < s
      · have HZ : Hid (d1 = 0 ∧ d2 = 0 ∧ E = 1) := Lib.hid (next_wrong (fun h => by omega) hQ)
        clear h1 hr hm hQ hq hrW hR h2 H2
        go_enter Try.func24, Try.ntmps24
        go_wp2_with fail
        refine H1.out.mono ?_
        rintro e w1 ⟨rfl, b1⟩
        have p0 := cell_below b1 hlw q0
        have p1 := cell_below b1 hlw q1
        have p2 := frozen_below b1 hlw q2
        have p3 := frozen_below b1 hlw q3
        have hb2 := Lib.hid (hb1.trans (b1.mono hb1.size))
        clear b1
        go_wp2
        (try simp only [Exit.inBlock, Exit.then])
        refine bodyPost_ret (v := .tuple #[.agg #[.int .i64 d1, .int .i64 d2], .int .i64 E]) ?_ rfl ⟨rfl, ?_⟩
        · rw [results_cell_tmp rfl]
          obtain ⟨rfl, rfl, rfl⟩ := HZ.out
          go_simp
        · exact (hb2.out.setCell (p := ⟨w.heap.size, 0, none⟩) (Nat.le_refl _) _).setCell (p := ⟨w.heap.size, 1, none⟩) (Nat.le_refl _) _
      · obtain ⟨k, rfl⟩ : ∃ k : Nat, s = (k : Int) + 1 := ⟨(s - 1).toNat, by omega⟩
        have hk : k < m := by omega
        obtain ⟨x, hx⟩ : ∃ x, v.getD k 0 = x := ⟨_, rfl⟩
        have hxb := hR.2.2 x (vget_mem (by omega) hx)
        obtain ⟨b, off, rfl, hbB, d0⟩ := ns_cell hrW hm (Below.refl _ _) hk hx
        have hn := next_right hR (by omega) hx hQ
        have e0 : ((k : Int) + 1 - 1).toNat = k := by omega
        obtain ⟨x0, x1⟩ := hxb
        have hat : atV v ((k : Int) + 1) = x := by
          unfold atV
          rw [if_pos (by omega), show ((k : Int) + 1 - 1).toNat = k by omega]
          exact hx
        rw [hat] at H2
        have HR := Lib.hid hrW
        by_cases hmax : x = 4611686018427387904
        · have HZ : Hid (d1 = 0 ∧ d2 = 0 ∧ E = 40) := Lib.hid (hn.1 hmax)
          clear h1 hr hm hQ hq hrW hR hx hn h2 hat
          subst hmax
          go_enter Try.func24, Try.ntmps24
          go_wp2_with fail
          refine H1.out.mono ?_
          rintro e w1 ⟨rfl, b1⟩
          have p0 := cell_below b1 hlw q0
          have p1 := cell_below b1 hlw q1
          have p2 := frozen_below b1 hlw q2
          have p3 := frozen_below b1 hlw q3
          have hb2 := Lib.hid (hb1.trans (b1.mono hb1.size))
          have hlw1 := Nat.lt_of_lt_of_le hlw b1.size
          have hrw1 := (HR.out.below b1).more b1.size
          clear b1
          go_wp2_with fail
          refine (H2.out w1 hrw1).mono ?_
          rintro e w2 ⟨rfl, b1⟩
          have r0 := cell_below b1 hlw1 p0
          have r1 := cell_below b1 hlw1 p1
          have r2 := frozen_below b1 hlw1 p2
          have r3 := frozen_below b1 hlw1 p3
          have hb3 := Lib.hid (hb2.out.trans (b1.mono hb2.out.size))
          clear p0 p1 p2 p3 H2
          clear b1
          go_wp2
          (try simp only [Exit.inBlock, Exit.then])
          refine bodyPost_ret (v := .tuple #[.agg #[.int .i64 d1, .int .i64 d2], .int .i64 E]) ?_ rfl ⟨rfl, ?_⟩
          · rw [results_cell_tmp rfl]
            obtain ⟨rfl, rfl, rfl⟩ := HZ.out
            go_simp
          · exact (hb3.out.setCell (p := ⟨w.heap.size, 0, none⟩) (Nat.le_refl _) _).setCell (p := ⟨w.heap.size, 1, none⟩) (Nat.le_refl _) _
        · have HZ : Hid (d1 = (k : Int) + 1 ∧ d2 = x + 1 ∧ E = 0) := Lib.hid (hn.2 hmax)
          clear h1 hr hm hQ hq hrW hR hx hn h2 hat
          go_enter Try.func24, Try.ntmps24
          go_wp2_with fail
          refine H1.out.mono ?_
          rintro e w1 ⟨rfl, b1⟩
          have p0 := cell_below b1 hlw q0
          have p1 := cell_below b1 hlw q1
          have p2 := frozen_below b1 hlw q2
          have p3 := frozen_below b1 hlw q3
          have hb2 := Lib.hid (hb1.trans (b1.mono hb1.size))
          have hlw1 := Nat.lt_of_lt_of_le hlw b1.size
          have hrw1 := (HR.out.below b1).more b1.size
          clear b1
          go_wp2_with fail
          refine (H2.out w1 hrw1).mono ?_
          rintro e w2 ⟨rfl, b1⟩
          have r0 := cell_below b1 hlw1 p0
          have r1 := cell_below b1 hlw1 p1
          have r2 := frozen_below b1 hlw1 p2
          have r3 := frozen_below b1 hlw1 p3
          have hb3 := Lib.hid (hb2.out.trans (b1.mono hb2.out.size))
          clear p0 p1 p2 p3 H2
          clear b1
          go_wp2
          (try simp only [Exit.inBlock, Exit.then])
          refine bodyPost_ret (v := .tuple #[.agg #[.int .i64 d1, .int .i64 d2], .int .i64 E]) ?_ rfl ⟨rfl, ?_⟩
          · rw [results_cell_tmp rfl]
            obtain ⟨rfl, rfl, rfl⟩ := HZ.out
            go_simp
          · exact (hb3.out.setCell (p := ⟨w.heap.size, 0, none⟩) (Nat.le_refl _) _).setCell (p := ⟨w.heap.size, 1, none⟩) (Nat.le_refl _) _
end Vect
end Go.Proofs.Ytiempgabamheiaa

/-
  A row of bytes of the call's own, written at will: it stays a row of bytes.
-/
namespace Go.Proofs.Ytiempgabamheiaa
open Go.RowKit

/-- Block g is a row of n numbers at least, whatever they are. -/
def Rw (k : IntKind) (w : World) (g n : Nat) : Prop := ∃ cur e, w.heap[g]? = some (.cells cur e (0, 0)) ∧ ∀ j, j < n → ∃ z, cur[j]? = some (.int k z)
theorem Rw.cell {k : IntKind} {w : World} {g n : Nat} (h : Rw k w g n) (j : Nat) (hj : j < n) : ∃ z, w.cell? ⟨g, j, none⟩ = some (.int k z) := by
  obtain ⟨cur, e, h1, h2⟩ := h
  obtain ⟨z, hz⟩ := h2 j hj
  exact ⟨z, by rw [cell_of_row w g j cur e (0, 0) h1]; exact hz⟩
theorem Rw.frozen {k : IntKind} {w : World} {g n : Nat} (h : Rw k w g n) (j : Nat) : w.frozen? ⟨g, j, none⟩ = false := by
  obtain ⟨cur, e, h1, _⟩ := h
  simp [World.frozen?, h1]
theorem Rw.set {k : IntKind} {w : World} {g n : Nat} (h : Rw k w g n) (i : Nat) (x : Int) : Rw k (w.setCell ⟨g, i, none⟩ (.int k x)) g n := by
  obtain ⟨cur, e, h1, h2⟩ := h
  refine ⟨cur.setIfInBounds i (.int k x), e, ?_, fun j hj => ?_⟩
  · simp [World.setCell, Array.getElem?_modify, h1]
  · obtain ⟨z, hz⟩ := h2 j hj
    by_cases hij : i = j
    · subst hij
      exact ⟨x, by rw [Array.getElem?_setIfInBounds_self_of_lt (Array.getElem?_eq_some_iff.1 hz).1]⟩
    · exact ⟨z, by rw [Array.getElem?_setIfInBounds_ne hij]; exact hz⟩
theorem Rw.keep {k : IntKind} {w w' : World} {g n : Nat} (h : Rw k w g n) (hk : w'.heap[g]? = w.heap[g]?) : Rw k w' g n := by
  obtain ⟨cur, e, h1, h2⟩ := h
  exact ⟨cur, e, hk.trans h1, h2⟩
/-- A row of the call's own that isn't empty lies in a block of the call's own. -/
theorem own_rw {k : IntKind} {w : World} {base : Nat} {e : TypeId} {A : Option Addr} {c : Nat} {zs : List Int} (h : w.ownsRow base e 1 (.slice A zs.length c) zs.length (nums k zs)) (hp : 0 < zs.length) :
    ∃ g, A = some ⟨g, 0, none⟩ ∧ base ≤ g ∧ g < w.heap.size ∧ Rw k w g zs.length := by
  rcases h.2 with ⟨_, h0⟩ | ⟨g, cap, cur, hv, hbg, hg, hn, hcm, hcs, htake⟩
  · omega
  · injection hv with h1 h2 h3
    refine ⟨g, h1, hbg, (Array.getElem?_eq_some_iff.1 hg).1, cur, e, hg, fun j hj => ⟨zs[j], ?_⟩⟩
    have h4 : (cur.toList.take (zs.length * 1))[j]? = (nums k zs)[j]? := by rw [htake]
    rw [List.getElem?_take_of_lt (by omega), Array.getElem?_toList] at h4
    rw [h4]
    simp [nums, List.getElem?_map, List.getElem?_eq_getElem hj]
/-- A slice of numbers reads as it did when its block stays. -/
theorem Ns.other {k : IntKind} {w w' : World} {B b off : Nat} {zs : List Int} (h : Ns k w B (some ⟨b, off, none⟩) zs) (hk : w'.heap[b]? = w.heap[b]?) : Ns k w' B (some ⟨b, off, none⟩) zs := fun hp => by
  obtain ⟨b', off', e, hb, hc⟩ := h hp
  injection e with e
  injection e with e1 e2
  subst e1
  subst e2
  exact ⟨b, off, rfl, hb, fun j hj => (World.cell?_of_block (w := w) (w' := w') (a := ⟨b, off + j, none⟩) hk).trans (hc j hj)⟩
theorem grown_set (w : World) (g i : Nat) (u : Value) : w.grownBy (w.setCell ⟨g, i, none⟩ u) (some g) :=
  ⟨rfl, rfl, rfl, by simp [World.setCell], fun k _ hne => Below.heap_setCell w ⟨g, i, none⟩ u k (fun e => hne (by rw [e]))⟩
end Go.Proofs.Ytiempgabamheiaa

/-
  Two vectors joined: vect.Join and firthref04.Join.
-/
namespace Go.Proofs.Ytiempgabamheiaa
namespace Vect
open Go.RowKit Span
attribute [local go_sem ↓] Go.wp_at_zero Go.wp_at_succ

def maxV (a b : List Int) : List Int := (List.range a.length).map fun k => max (a.getD k 0) (b.getD k 0)
theorem max_len (a b : List Int) : (maxV a b).length = a.length := by simp [maxV]
theorem max_at (a b : List Int) {k : Nat} (hk : k < a.length) : (maxV a b).getD k 0 = max (a.getD k 0) (b.getD k 0) := by
  simp [maxV, List.getD_eq_getElem?_getD, hk]
def vjE (a b : List Int) : Int := if RightV a ∧ RightV b ∧ a.length = b.length then 0 else 1
def vjL (a b : List Int) : List Int := if RightV a ∧ RightV b ∧ a.length = b.length then maxV a b else []
theorem vj_wrong {a b : List Int} (h : ¬ (RightV a ∧ RightV b ∧ a.length = b.length)) : vjE a b = 1 ∧ vjL a b = [] := ⟨if_neg h, if_neg h⟩
theorem vj_good {a b : List Int} (h : RightV a ∧ RightV b ∧ a.length = b.length) : vjE a b = 0 ∧ vjL a b = maxV a b := ⟨if_pos h, if_pos h⟩

/-- The answer of Join: a vector, or the error's number; new memory. -/
def VJPost (l : List Int) (f : Int) (w : World) (e : Ending) (w' : World) : Prop :=
  ∃ A c, e = .returned (.tuple #[.slice A l.length c, .int .i64 f]) ∧ w'.ownsRow w.heap.size 2 1 (.slice A l.length c) l.length (nums .i64 l) ∧ Below w.heap.size w w'
theorem vj_nil (f : Int) (w w' : World) (hb : Below w.heap.size w w') (e : Ending) (he : e = .returned (.tuple #[.slice none 0 0, .int .i64 f])) : VJPost [] f w e w' :=
  ⟨none, 0, he, World.ownsRow_nil _ _ _ _, hb⟩

theorem info_int64 : ∃ i, Try.prog.info? 2 = some i ∧ i.zero = some (.int .i64 0) ∧ i.size = 1 ∧ i.bytes = 8 := by
  have h : (Try.prog.info? 2).map (fun i => (i.zero, i.size, i.bytes)) = some (some (.int .i64 0), 1, 8) := by kernel_rfl
  obtain ⟨i, h1, h2⟩ := Option.map_eq_some_iff.1 h
  simp only [Prod.mk.injEq] at h2
  exact ⟨i, h1, h2.1, h2.2.1, h2.2.2⟩

end Vect
end Go.Proofs.Ytiempgabamheiaa

/-
  firthref04.Join, and whether one vector is below another: vect.Below, firthref04.Below.
-/
namespace Go.Proofs.Ytiempgabamheiaa
namespace Vect
open Go.RowKit Span
attribute [local go_sem ↓] Go.wp_at_zero Go.wp_at_succ

instance (a b : List Int) : Decidable (BelowV a b) := by unfold BelowV; infer_instance

end Vect
end Go.Proofs.Ytiempgabamheiaa

/-
  A step on by a dot: vect.Bump and firthref04.Bump.
-/
namespace Go.Proofs.Ytiempgabamheiaa
namespace Vect
open Go.RowKit Span
attribute [local go_sem ↓] Go.wp_at_zero Go.wp_at_succ

/-- Is it the next dot of its site? -/
def IsNext (v : List Int) (s n : Int) : Prop := nextV v s = (s, n, 0)
instance (v : List Int) (s n : Int) : Decidable (IsNext v s n) := by unfold IsNext; infer_instance
def bumpE (v : List Int) (s n : Int) : Int := if IsNext v s n then 0 else 1
def bumpL (v : List Int) (s n : Int) : List Int := if IsNext v s n then v.set (s - 1).toNat n else []
theorem bump_no {v : List Int} {s n : Int} (h : ¬ IsNext v s n) : bumpE v s n = 1 ∧ bumpL v s n = [] := ⟨if_neg h, if_neg h⟩
theorem bump_yes {v : List Int} {s n : Int} (h : IsNext v s n) : bumpE v s n = 0 ∧ bumpL v s n = v.set (s - 1).toNat n := ⟨if_pos h, if_pos h⟩
theorem bumpL_len (v : List Int) (s n : Int) : (bumpL v s n).length ≤ v.length := by
  unfold bumpL
  split
  · simp
  · simp
theorem own_addr {w : World} {base : Nat} {e : TypeId} {size : Nat} {A : Option Addr} {n c : Nat} {xs : List Value} (h : w.ownsRow base e size (.slice A n c) n xs) (hp : 0 < n) : ∃ g, A = some ⟨g, 0, none⟩ ∧ base ≤ g := by
  rcases h.2 with ⟨_, h0⟩ | ⟨g, cap, cur, hv, hbg, _⟩
  · omega
  · injection hv with h1 _ _
    exact ⟨g, h1, hbg⟩
/-- What a site's next dot tells of the vector. -/
theorem next_zero {v : List Int} {s a b : Int} (h : nextV v s = (a, b, 0)) : RightV v ∧ 1 ≤ s ∧ s ≤ v.length ∧ a = s ∧ b = v.getD (s - 1).toNat 0 + 1 ∧ ¬ v.getD (s - 1).toNat 0 = 4611686018427387904 := by
  unfold nextV at h
  split at h
  case isTrue hR =>
    split at h
    case isTrue => simp at h
    case isFalse hm =>
      simp only [Prod.mk.injEq] at h
      exact ⟨hR.1, hR.2.1, hR.2.2, h.1.symm, h.2.1.symm, hm⟩
  case isFalse => simp at h
theorem next_fst {v : List Int} {s a b e : Int} (h : nextV v s = (a, b, e)) (he : e = 0) : a = s := by
  subst he
  exact (next_zero h).2.2.2.1

set_option maxHeartbeats 2000000 in
set_option maxRecDepth 100000 in
theorem ref_bump_any (A : Option Addr) (c m : Nat) (v : List Int) (hm : v.length = m) (s n : Int) (hs : -9223372036854775808 ≤ s ∧ s ≤ 9223372036854775807) (w : World) (hr : Ns .i64 w w.heap.size A v) (hbig : m ≤ 140737488355328) :
    Calls Try.prog 21 #[.slice A m c, .agg #[.int .i64 s, .int .i64 n]] w (VJPost (bumpL v s n) (bumpE v s n) w) := by
  have h1 := fun W hW => ref_next_any A c m v hm s hs W hW hbig
  obtain ⟨⟨d1, d2, E⟩, hQ⟩ : ∃ Q, nextV v s = Q := ⟨_, rfl⟩
  rw [hQ] at h1
  obtain ⟨L, hL⟩ : ∃ L, bumpL v s n = L := ⟨_, rfl⟩
  obtain ⟨F, hF⟩ : ∃ F, bumpE v s n = F := ⟨_, rfl⟩
  rw [hL, hF]
  have hb1 := (Below.refl w.heap.size w).alloc (Nat.le_refl _) (.cells #[.int .i64 s, .int .i64 n] 56)
  have q0 : (w.alloc (.cells #[.int .i64 s, .int .i64 n] 56)).cell? ⟨w.heap.size, 0, none⟩ = some (.int .i64 s) := by simp
  have q1 : (w.alloc (.cells #[.int .i64 s, .int .i64 n] 56)).cell? ⟨w.heap.size, 1, none⟩ = some (.int .i64 n) := by simp
  have sA : (w.alloc (.cells #[.int .i64 s, .int .i64 n] 56)).heap.size = w.heap.size + 1 := by simp
  obtain ⟨W, hW⟩ : ∃ W, w.alloc (.cells #[.int .i64 s, .int .i64 n] 56) = W := ⟨_, rfl⟩
  rw [hW] at hb1 q0 q1 sA
  have hlw : w.heap.size < W.heap.size := by omega
  have H1 := Lib.hid (h1 W ((hr.below hb1).more hb1.size))
  have HR := Lib.hid hr
  have HM := Lib.hid hm
  by_cases he : E = 0
  · have hd1 := next_fst hQ he
    by_cases hd2 : d2 = n
    · subst he
      have hz := next_zero hQ
      subst hd1
      subst hd2
      have hb := bump_yes (v := v) (s := d1) (n := d2) hQ
      have HW := Lib.hid (And.intro (hL.symm.trans hb.2) (hF.symm.trans hb.1))
      obtain ⟨hR, h1s, h2s, _, hx, _⟩ := hz
      have hm16 : m ≤ 16 := by rw [← hm]; exact hR.2.1
      obtain ⟨k, rfl⟩ : ∃ k : Nat, d1 = (k : Int) + 1 := ⟨(d1 - 1).toNat, by omega⟩
      have hk : k < m := by omega
      have e0 : ((k : Int) + 1 - 1).toNat = k := by omega
      rw [e0] at HW
      obtain ⟨info, hi, hz, hsize, hby⟩ := info_int64
      have HI := Lib.hid (And.intro hi (And.intro hz (And.intro hsize hby)))
      clear h1 hQ hL hF hr hm hb hR h1s h2s hx hi hz hsize hby
      go_enter Try.func21, Try.ntmps21
      go_wp2_with fail
      refine H1.out.mono ?_
      rintro e w1 ⟨rfl, b1⟩
      have p0 := cell_below b1 hlw q0
      have p1 := cell_below b1 hlw q1
      have hb2 := hb1.trans (b1.mono hb1.size)
      have hl1 : w.heap.size < w1.heap.size := Nat.lt_of_lt_of_le hlw b1.size
      have o0 : (w1.alloc (.cells #[.int .i64 ((k : Int) + 1), .int .i64 d2] 56)).cell? ⟨w1.heap.size, 0, none⟩ = some (.int .i64 ((k : Int) + 1)) := by simp
      have o1 : (w1.alloc (.cells #[.int .i64 ((k : Int) + 1), .int .i64 d2] 56)).cell? ⟨w1.heap.size, 1, none⟩ = some (.int .i64 d2) := by simp
      have r0 := (World.cell?_alloc_lt w1 (.cells #[.int .i64 ((k : Int) + 1), .int .i64 d2] 56) ⟨w.heap.size, 0, none⟩ hl1).trans p0
      have r1 := (World.cell?_alloc_lt w1 (.cells #[.int .i64 ((k : Int) + 1), .int .i64 d2] 56) ⟨w.heap.size, 1, none⟩ hl1).trans p1
      have hb3 := hb2.alloc hb2.size (.cells #[.int .i64 ((k : Int) + 1), .int .i64 d2] 56)
      have s3 : w1.heap.size < (w1.alloc (.cells #[.int .i64 ((k : Int) + 1), .int .i64 d2] 56)).heap.size := by simp
      obtain ⟨W2, hW2⟩ : ∃ W2, w1.alloc (.cells #[.int .i64 ((k : Int) + 1), .int .i64 d2] 56) = W2 := ⟨_, rfl⟩
      rw [hW2] at o0 o1 r0 r1 hb3 s3
      clear b1 p0 p1 hb2
      have HB3 := Lib.hid hb3
      have hws : w.heap.size < W2.heap.size := Nat.lt_trans hl1 s3
      clear hb3
      go_wp2
      go_loopw [8, 9] (fun u q wr => ∃ (i : Nat) (Ao : Option Addr) (co : Nat), i ≤ m ∧ q = .int .i64 i ∧ u = .slice Ao i co ∧ Hid (wr.ownsRow (w.heap.size + 1) 2 1 (.slice Ao i co) i (nums .i64 ((v.set k d2).take i))) ∧ Hid (Below (w.heap.size + 1) W2 wr)) (fun _ q _ => m - (intOf q).toNat)
      case atStart => exact ⟨0, none, 0, by omega, rfl, rfl, World.ownsRow_nil _ _ _ _, Below.refl _ _⟩
      case round =>
        obtain ⟨i, Ao, co, hi1, rfl, rfl, ho, hb⟩ := hrel
        have y0 := cell_below hb.out (by simp) r0
        have y1 := cell_below hb.out (by simp) r1
        have hsz : w.heap.size + 1 ≤ wr.heap.size := Nat.le_trans hws hb.out.size
        have hbw := Lib.hid (HB3.out.trans (hb.out.mono (Nat.le_succ _)))
        by_cases hlt : i < m
        · obtain ⟨x, hx⟩ : ∃ x, v.getD i 0 = x := ⟨_, rfl⟩
          obtain ⟨b, off, rfl, hbB, d0⟩ := ns_cell HR.out HM.out hbw.out hlt hx
          by_cases hik : i = k
          · have HT := Lib.hid (vtake_one (l := v.set k d2) (i := i) (y := d2) (by rw [List.length_set, HM.out]; exact hlt) (by rw [List.getD_eq_getElem?_getD, hik, List.getElem?_set_self (by rw [HM.out]; exact hk)]; rfl))
            subst hik
            clear hx HW HR HM
            go_wp2_with (at_builtin; refine wpList_append_one _ rfl _ _ _ rfl (w.heap.size + 1) 2 info (.int .i64 0) 8 Try.underlying36 HI.out.1 HI.out.2.1 HI.out.2.2.1 HI.out.2.2.2 rfl _ i (nums .i64 ((v.set i d2).take i)) rfl ho.out (.int .i64 d2) 1 rfl rfl (by omega) (by omega) hsz ?_; intro v5 w5 o5 g5 _; obtain ⟨A5, c5, rfl⟩ := own_form o5)
            exact ⟨⟨i + 1, A5, c5, by omega, rfl, rfl, Lib.hid (by rw [HT.out]; simpa [nums] using o5), Lib.hid (hb.out.grown g5 hsz (fun g hg => (ho.out.lt g hg).1))⟩, by simp only [intOf]; omega⟩
          · have HT := Lib.hid (vtake_one (l := v.set k d2) (i := i) (y := x) (by rw [List.length_set, HM.out]; exact hlt) (by rw [List.getD_eq_getElem?_getD, List.getElem?_set_ne (by omega), ← List.getD_eq_getElem?_getD]; exact hx))
            have he : ((i : Int) == (k : Int)) = false := by simp; omega
            have he2 : ¬ (i : Int) = (k : Int) := by omega
            clear hx hik HW HR HM
            go_wp2_with (at_builtin; refine wpList_append_one _ rfl _ _ _ rfl (w.heap.size + 1) 2 info (.int .i64 0) 8 Try.underlying36 HI.out.1 HI.out.2.1 HI.out.2.2.1 HI.out.2.2.2 rfl _ i (nums .i64 ((v.set k d2).take i)) rfl ho.out (.int .i64 x) 1 rfl rfl (by omega) (by omega) hsz ?_; intro v5 w5 o5 g5 _; obtain ⟨A5, c5, rfl⟩ := own_form o5)
            exact ⟨⟨i + 1, A5, c5, by omega, rfl, rfl, Lib.hid (by rw [HT.out]; simpa [nums] using o5), Lib.hid (hb.out.grown g5 hsz (fun g hg => (ho.out.lt g hg).1))⟩, by simp only [intOf]; omega⟩
        · have hie : i = m := by omega
          have hl : (v.set k d2).length = i := by rw [List.length_set, hie]; exact HM.out
          have ho' := ho.out
          rw [List.take_of_length_le (by omega)] at ho'
          have HO := Lib.hid ho'
          have HLn := Lib.hid hl
          clear ho ho' hl HR HM
          go_wp2
          go_ret2
          rw [HW.out.1, HW.out.2]
          exact ⟨Ao, co, by rw [HLn.out]; rfl, by rw [HLn.out]; exact own_base HO.out (Nat.le_succ _), hbw.out⟩
    · have hb := bump_no (v := v) (s := s) (n := n) (fun h => hd2 (by have h' : nextV v s = (s, n, 0) := h; rw [hQ] at h'; simp only [Prod.mk.injEq] at h'; exact h'.2.1))
      have HW := Lib.hid (And.intro (hL.symm.trans hb.2) (hF.symm.trans hb.1))
      have g0 : (d2 == n) = false := by simp [hd2]
      subst he
      subst hd1
      clear h1 hQ hL hF hr hm hb hd2
      go_enter Try.func21, Try.ntmps21
      go_wp2_with fail
      refine H1.out.mono ?_
      rintro e w1 ⟨rfl, b1⟩
      have p0 := cell_below b1 hlw q0
      have p1 := cell_below b1 hlw q1
      have hb2 := hb1.trans (b1.mono hb1.size)
      have hl1 : w.heap.size < w1.heap.size := Nat.lt_of_lt_of_le hlw b1.size
      have o0 : (w1.alloc (.cells #[.int .i64 d1, .int .i64 d2] 56)).cell? ⟨w1.heap.size, 0, none⟩ = some (.int .i64 d1) := by simp
      have o1 : (w1.alloc (.cells #[.int .i64 d1, .int .i64 d2] 56)).cell? ⟨w1.heap.size, 1, none⟩ = some (.int .i64 d2) := by simp
      have r0 := (World.cell?_alloc_lt w1 (.cells #[.int .i64 d1, .int .i64 d2] 56) ⟨w.heap.size, 0, none⟩ hl1).trans p0
      have r1 := (World.cell?_alloc_lt w1 (.cells #[.int .i64 d1, .int .i64 d2] 56) ⟨w.heap.size, 1, none⟩ hl1).trans p1
      have hb3 := hb2.alloc hb2.size (.cells #[.int .i64 d1, .int .i64 d2] 56)
      have s3 : w1.heap.size < (w1.alloc (.cells #[.int .i64 d1, .int .i64 d2] 56)).heap.size := by simp
      obtain ⟨W2, hW2⟩ : ∃ W2, w1.alloc (.cells #[.int .i64 d1, .int .i64 d2] 56) = W2 := ⟨_, rfl⟩
      rw [hW2] at o0 o1 r0 r1 hb3 s3
      clear b1 p0 p1 hb2
      go_wp2
      go_ret2
      rw [HW.out.1, HW.out.2]
      exact vj_nil _ _ _ hb3 _ rfl
  · have hb := bump_no (v := v) (s := s) (n := n) (fun h => he (by have h' : nextV v s = (s, n, 0) := h; rw [hQ] at h'; simp only [Prod.mk.injEq] at h'; exact h'.2.2))
    have HW := Lib.hid (And.intro (hL.symm.trans hb.2) (hF.symm.trans hb.1))
    have g0 : (E == 0) = false := by simp [he]
    clear h1 hQ hL hF hr hm hb
    go_enter Try.func21, Try.ntmps21
    go_wp2_with fail
    refine H1.out.mono ?_
    rintro e w1 ⟨rfl, b1⟩
    have p0 := cell_below b1 hlw q0
    have p1 := cell_below b1 hlw q1
    have hb2 := hb1.trans (b1.mono hb1.size)
    have hl1 : w.heap.size < w1.heap.size := Nat.lt_of_lt_of_le hlw b1.size
    have o0 : (w1.alloc (.cells #[.int .i64 d1, .int .i64 d2] 56)).cell? ⟨w1.heap.size, 0, none⟩ = some (.int .i64 d1) := by simp
    have o1 : (w1.alloc (.cells #[.int .i64 d1, .int .i64 d2] 56)).cell? ⟨w1.heap.size, 1, none⟩ = some (.int .i64 d2) := by simp
    have r0 := (World.cell?_alloc_lt w1 (.cells #[.int .i64 d1, .int .i64 d2] 56) ⟨w.heap.size, 0, none⟩ hl1).trans p0
    have r1 := (World.cell?_alloc_lt w1 (.cells #[.int .i64 d1, .int .i64 d2] 56) ⟨w.heap.size, 1, none⟩ hl1).trans p1
    have hb3 := hb2.alloc hb2.size (.cells #[.int .i64 d1, .int .i64 d2] 56)
    have s3 : w1.heap.size < (w1.alloc (.cells #[.int .i64 d1, .int .i64 d2] 56)).heap.size := by simp
    obtain ⟨W2, hW2⟩ : ∃ W2, w1.alloc (.cells #[.int .i64 d1, .int .i64 d2] 56) = W2 := ⟨_, rfl⟩
    rw [hW2] at o0 o1 r0 r1 hb3 s3
    clear b1 p0 p1 hb2
    go_wp2
    go_ret2
    rw [HW.out.1, HW.out.2]
    exact vj_nil _ _ _ hb3 _ rfl
end Vect
end Go.Proofs.Ytiempgabamheiaa
