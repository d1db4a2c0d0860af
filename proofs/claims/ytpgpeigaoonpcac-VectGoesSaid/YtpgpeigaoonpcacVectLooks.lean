/-
  Vectors: what they cover, hold, whether two are the same, or one below another.
-/
import Derived.Test.YtpgpeigaoonpcacVectReads
import Derived.Test.YtpgpeigaoonpcacSpanJoin
namespace Go.Proofs.Ytpgpeigaoonpcac
namespace Vect
open Go.RowKit Span
attribute [local go_sem ↓] Go.wp_at_zero Go.wp_at_succ

set_option maxHeartbeats 1000000 in
theorem covers_any (A : Option Addr) (c m : Nat) (v : List Int) (hm : v.length = m) (s n : Int) (w : World) (hr : Ns .i64 w w.heap.size A v) (hbig : m ≤ 140737488355328) :
    Calls Try.prog 12 #[.slice A m c, .agg #[.int .i64 s, .int .i64 n]] w fun e w' => e = .returned (.bool (decide (CoversV v s n))) ∧ Below w.heap.size w w' := by
  obtain ⟨Q, hQ⟩ : ∃ Q, decide (CoversV v s n) = Q := ⟨_, rfl⟩
  rw [hQ]
  have hb1 := (Below.refl w.heap.size w).alloc (Nat.le_refl _) (.cells #[.int .i64 s, .int .i64 n] 24)
  have q0 : (w.alloc (.cells #[.int .i64 s, .int .i64 n] 24)).cell? ⟨w.heap.size, 0, none⟩ = some (.int .i64 s) := by simp
  have q1 : (w.alloc (.cells #[.int .i64 s, .int .i64 n] 24)).cell? ⟨w.heap.size, 1, none⟩ = some (.int .i64 n) := by simp
  have hr1 := hr.below hb1
  obtain ⟨W, hW⟩ : ∃ W, w.alloc (.cells #[.int .i64 s, .int .i64 n] 24) = W := ⟨_, rfl⟩
  rw [hW] at hb1 q0 q1 hr1
  by_cases h0 : 0 < n
  · have g0 : decide (0 < n) = true := decide_eq_true h0
    by_cases h1 : 1 ≤ s
    · have g1 : decide (1 ≤ s) = true := decide_eq_true h1
      by_cases h2 : s ≤ m
      · have g2 : decide (s ≤ (m : Int)) = true := decide_eq_true h2
        obtain ⟨k, rfl⟩ : ∃ k : Nat, s = (k : Int) + 1 := ⟨(s - 1).toNat, by omega⟩
        have hk : k < m := by omega
        obtain ⟨x, hx⟩ : ∃ x, v.getD k 0 = x := ⟨_, rfl⟩
        obtain ⟨b, off, rfl, hbB, d0⟩ := ns_cell hr1 hm (Below.refl _ _) hk hx
        have hv : CoversV v ((k : Int) + 1) n ↔ n ≤ x := by
          unfold CoversV
          rw [show ((k : Int) + 1 - 1).toNat = k by omega, hx, hm]
          exact ⟨fun h => h.2.2.2, fun h => ⟨h0, h1, h2, h⟩⟩
        have e0 : ((k : Int) + 1 - 1).toNat = k := by omega
        have e1 : (k : Int) + 1 - 1 = (k : Int) := by omega
        have e2 : IntKind.i64.wrap ((k : Int) + 1 - 1) = (k : Int) := by rw [e1]; exact IntWalk.i64_in _ (by omega)
        have e3 : (0 : Int) ≤ (k : Int) := by omega
        have e4 : (k : Int) < (m : Int) := by omega
        have e5 : decide ((1 : Int) ≤ (k : Int) + 1) = true := decide_eq_true (by omega)
        have e6 : decide ((k : Int) + 1 ≤ (m : Int)) = true := decide_eq_true (by omega)
        by_cases h3 : n ≤ x
        · have g3 : decide (n ≤ x) = true := decide_eq_true h3
          have HZ := Lib.hid (hQ.symm.trans (decide_eq_true (hv.2 h3)))
          clear hr hr1 hm hQ hx hv h0 h1 h2 h3
          go_enter Try.func12, Try.ntmps12
          go_wp2
          go_quiet (fail)
          go_wp2
          go_ret
          exact ⟨by rw [HZ.out]; rfl, hb1.trans (below_drewN _ _ _)⟩
        · have g3 : decide (n ≤ x) = false := decide_eq_false h3
          have HZ := Lib.hid (hQ.symm.trans (decide_eq_false fun h => h3 (hv.1 h)))
          clear hr hr1 hm hQ hx hv h0 h1 h2 h3
          go_enter Try.func12, Try.ntmps12
          go_wp2
          go_quiet (fail)
          go_wp2
          go_ret
          exact ⟨by rw [HZ.out]; rfl, hb1.trans (below_drewN _ _ _)⟩
      · have g2 : decide (s ≤ (m : Int)) = false := decide_eq_false h2
        have HZ := Lib.hid (hQ.symm.trans (decide_eq_false fun h => h2 (by have := h.2.2.1; rwa [hm] at this)))
        clear hr hr1 hm hQ h0 h1 h2
        go_enter Try.func12, Try.ntmps12
        go_wp2
        go_quiet (fail)
        go_wp2
        go_ret
        exact ⟨by rw [HZ.out]; rfl, hb1.trans (below_drewN _ _ _)⟩
    · have g1 : decide (1 ≤ s) = false := decide_eq_false h1
      have HZ := Lib.hid (hQ.symm.trans (decide_eq_false fun h => h1 h.2.1))
      clear hr hr1 hm hQ h0 h1
      go_enter Try.func12, Try.ntmps12
      go_wp2
      go_quiet (fail)
      go_wp2
      go_ret
      exact ⟨by rw [HZ.out]; rfl, hb1.trans (below_drewN _ _ _)⟩
  · have g0 : decide (0 < n) = false := decide_eq_false h0
    have HZ := Lib.hid (hQ.symm.trans (decide_eq_false fun h => h0 h.1))
    clear hr hr1 hm hQ h0
    go_enter Try.func12, Try.ntmps12
    go_wp2
    go_quiet (fail)
    go_wp2
    go_ret
    exact ⟨by rw [HZ.out]; rfl, hb1.trans (below_drewN _ _ _)⟩

theorem veq_step {l m : List Int} {k : Nat} (hl : k < l.length) (hm : k < m.length) (h : l.take k = m.take k) (he : l.getD k 0 = m.getD k 0) : l.take (k + 1) = m.take (k + 1) := by
  rw [vtake_one hl rfl, vtake_one hm rfl, h, he]

set_option maxHeartbeats 1000000 in
theorem vsame_any (A A' : Option Addr) (c c' n n' : Nat) (l m : List Int) (hn : l.length = n) (hn' : m.length = n') (w : World) (hr : Ns .i64 w w.heap.size A l) (hr' : Ns .i64 w w.heap.size A' m) (hbig : n ≤ 140737488355328) (hbig' : n' ≤ 140737488355328) :
    Calls Try.prog 22 #[.slice A n c, .slice A' n' c'] w fun e w' => e = .returned (.bool (decide (l = m))) ∧ Below w.heap.size w w' := by
  by_cases hlen : n = n'
  · subst hlen
    go_enter Try.func22, Try.ntmps22
    go_wp2
    go_loopw [5] (fun q wr => ∃ k : Nat, k ≤ n ∧ q = .int .i64 k ∧ Below w.heap.size w wr ∧ Hid (l.take k = m.take k)) (fun q _ => n - (intOf q).toNat)
    case atStart => exact ⟨0, by omega, rfl, Below.refl _ _, rfl⟩
    case round =>
      obtain ⟨k, hk, rfl, hb, hst⟩ := hrel
      by_cases hlt : k < n
      · have hy := veq_step (l := l) (m := m) (by omega) (by omega) hst.out
        have hz : l.getD k 0 ≠ m.getD k 0 → ¬ l = m := fun h e => h (by rw [e])
        obtain ⟨x, hx⟩ : ∃ x, l.getD k 0 = x := ⟨_, rfl⟩
        obtain ⟨y, hx'⟩ : ∃ x, m.getD k 0 = x := ⟨_, rfl⟩
        obtain ⟨b, off, rfl, hbB, d0⟩ := ns_cell hr hn hb hlt hx
        obtain ⟨b', off', rfl, hbB', d0'⟩ := ns_cell hr' hn' hb hlt hx'
        rw [hx, hx'] at hy hz
        have r0 : (0 : Int) ≤ (k : Int) := by omega
        have r1 : (k : Int) < (n : Int) := by omega
        by_cases he : x = y
        · have HY := Lib.hid (hy he)
          subst he
          clear hr hr' hst hy hz hx hx' hn hn'
          go_wp2
          go_quiet (fail)
          go_wp2
          exact ⟨⟨k + 1, by omega, rfl, hb.trans (below_drewN _ _ _), HY⟩, by simp only [intOf]; omega⟩
        · have HZ := Lib.hid (decide_eq_false (hz he))
          have g0 : (x == y) = false := by simp [he]
          clear hr hr' hst hy hz hx hx' hn hn' he
          go_wp2
          go_quiet (fail)
          go_wp2
          go_ret
          exact ⟨by rw [HZ.out]; rfl, hb.trans (below_drewN _ _ _)⟩
      · have hres := hst.out
        rw [List.take_of_length_le (by omega), List.take_of_length_le (by omega)] at hres
        have HR := Lib.hid (decide_eq_true hres)
        have hk0 : k = n := by omega
        clear hst hr hr' hn hn' hres
        go_wp2
        go_ret
        exact ⟨by rw [HR.out]; rfl, hb⟩
  · have hne : ¬ l = m := fun h => hlen (by rw [← hn, ← hn', h])
    have HR := Lib.hid (decide_eq_false hne)
    clear hr hr' hn hn' hne
    go_enter Try.func22, Try.ntmps22
    go_wp2
    go_ret
    exact ⟨by rw [HR.out]; rfl, Below.refl _ _⟩

def HoldsV (v : List Int) (l : List Sp) : Prop := ∀ x ∈ l, CoversV v x.1 x.2.2
instance (v : List Int) (l : List Sp) : Decidable (HoldsV v l) := by unfold HoldsV; infer_instance
def BelowV (a b : List Int) : Prop := RightV a ∧ RightV b ∧ a.length = b.length ∧ ∀ k, k < a.length → a.getD k 0 ≤ b.getD k 0

set_option maxHeartbeats 1000000 in
theorem holds_any (A A' : Option Addr) (c c' m n : Nat) (v : List Int) (l : List Sp) (hm : v.length = m) (hn : l.length = n) (w : World) (hr : Ns .i64 w w.heap.size A v) (hr' : Ss w w.heap.size A' l) (hbig : m ≤ 140737488355328) (hbig' : n ≤ 140737488355328) :
    Calls Try.prog 15 #[.slice A m c, .slice A' n c'] w fun e w' => e = .returned (.bool (decide (HoldsV v l))) ∧ Below w.heap.size w w' := by
  obtain ⟨Q, hQ⟩ : ∃ Q, decide (HoldsV v l) = Q := ⟨_, rfl⟩
  rw [hQ]
  have HC := Lib.hid (fun s k W hW => covers_any A c m v hm s k W hW hbig)
  have HQ := Lib.hid hQ
  have HN := Lib.hid hn
  have HR := Lib.hid hr
  have HR' := Lib.hid hr'
  skip
  clear hQ hn hr hr' hm
  go_enter Try.func15, Try.ntmps15
  go_wp2
  go_loopw [9] (fun q wr => ∃ k : Nat, k ≤ n ∧ q = .int .i64 k ∧ Hid (Below w.heap.size w wr) ∧ Hid (∀ x ∈ l.take k, CoversV v x.1 x.2.2)) (fun q _ => n - (intOf q).toNat)
  case atStart => exact ⟨0, by omega, rfl, Lib.hid (Below.refl _ _), Lib.hid (by simp)⟩
  case round =>
    obtain ⟨k, hk, rfl, hb, hst⟩ := hrel
    by_cases hlt : k < n
    · obtain ⟨⟨x0, x1, x2⟩, hx⟩ : ∃ x, l.getD k (0, 0, 0) = x := ⟨_, rfl⟩
      have hl : k < l.length := by rw [HN.out]; exact hlt
      obtain ⟨b, off, rfl, hbB, d0, d1, d2⟩ := ss_at HR'.out HN.out hb.out hlt hx
      simp only at d0 d1 d2
      have hbs := hb.out.size
      have hbl : b < wr.heap.size := by omega
      have hC := fun W hW => HC.out x0 x2 W hW
      obtain ⟨q, hq⟩ : ∃ q, decide (CoversV v x0 x2) = q := ⟨_, rfl⟩
      rw [hq] at hC
      have HX := Lib.hid hC
      have HY : Hid (q = true → ∀ x ∈ l.take (k + 1), CoversV v x.1 x.2.2) := Lib.hid fun h => by
        rw [take_one hl hx]
        intro z hz
        rcases List.mem_append.1 hz with hz | hz
        · exact hst.out z hz
        · rw [List.mem_singleton.1 hz]; exact of_decide_eq_true (hq.trans h)
      have HZ : Hid (q = false → Q = false) := Lib.hid fun h => HQ.out.symm.trans (decide_eq_false fun h' => of_decide_eq_false (hq.trans h) (h' _ (getD_mem hl hx)))
      have hb1 := hb.out.alloc hbs (.cells #[.int .i64 x0, .int .i64 x1, .int .i64 x2] 50)
      have e0 : (wr.alloc (.cells #[.int .i64 x0, .int .i64 x1, .int .i64 x2] 50)).cell? ⟨wr.heap.size, 0, none⟩ = some (.int .i64 x0) := by simp
      have e2 : (wr.alloc (.cells #[.int .i64 x0, .int .i64 x1, .int .i64 x2] 50)).cell? ⟨wr.heap.size, 2, none⟩ = some (.int .i64 x2) := by simp
      have hrW := (HR.out.below hb1).more hb1.size
      obtain ⟨W, hW⟩ : ∃ W, wr.alloc (.cells #[.int .i64 x0, .int .i64 x1, .int .i64 x2] 50) = W := ⟨_, rfl⟩
      rw [hW] at hb1 e0 e2 hrW
      clear hC hq hx hl hst HC HQ HN
      go_wp2_with fail
      refine (HX.out W hrW).mono ?_
      rintro e w1 ⟨rfl, b1⟩
      have hb2 := Lib.hid (hb1.trans (b1.mono hb1.size))
      clear b1 HX d0 d1 d2
      cases q
      · have HW := Lib.hid (HZ.out rfl)
        clear HY HZ
        go_wp2
        go_ret
        exact ⟨by rw [HW.out]; rfl, hb2.out⟩
      · have HW := Lib.hid (HY.out rfl)
        clear HY HZ
        go_wp2
        exact ⟨⟨k + 1, by omega, rfl, hb2, HW⟩, by simp only [intOf]; omega⟩
    · have HW := Lib.hid (HQ.out.symm.trans (decide_eq_true (by have := hst.out; rwa [List.take_of_length_le (by rw [HN.out]; omega)] at this)))
      clear hst HQ HN
      go_wp2
      go_ret
      exact ⟨by rw [HW.out]; rfl, hb.out⟩

end Vect
end Go.Proofs.Ytpgpeigaoonpcac
