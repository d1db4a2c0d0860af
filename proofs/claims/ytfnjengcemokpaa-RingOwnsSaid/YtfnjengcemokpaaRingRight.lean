/-
  Which members are right (both), and where a point lies.
-/
import Derived.Test.YtfnjengcemokpaaRingSort
namespace Go.Proofs.Ytfnjengcemokpaa
namespace Ring
open Go.RowKit
attribute [local go_sem ↓] Go.wp_at_zero Go.wp_at_succ

theorem below_drewN (B : Nat) (w : World) (n : Nat) : Below B w (w.drewN n) := ⟨rfl, rfl, rfl, Nat.le_refl _, fun _ _ => rfl⟩
/-- The first k are right. -/
def PreR (ms : List Int) (k : Nat) : Prop := ∀ j, j < k → (1 ≤ ms.getD j 0 ∧ ms.getD j 0 ≤ 8) ∧ (0 < j → ms.getD (j - 1) 0 < ms.getD j 0)
theorem preR_zero (ms : List Int) : PreR ms 0 := fun j hj => absurd hj (by omega)
theorem preR_step {ms : List Int} {k : Nat} (h : PreR ms k) (h1 : 1 ≤ ms.getD k 0 ∧ ms.getD k 0 ≤ 8) (h2 : 0 < k → ms.getD (k - 1) 0 < ms.getD k 0) : PreR ms (k + 1) := fun j hj => by
  rcases Nat.lt_or_ge j k with hlt | hge
  · exact h j hlt
  · obtain rfl : j = k := by omega
    exact ⟨h1, h2⟩
theorem rise_all {ms : List Int} {n : Nat} (h : PreR ms n) : ∀ d i, i + d + 1 < n → ms.getD i 0 < ms.getD (i + d + 1) 0 := by
  intro d
  induction d with
  | zero => intro i hi; have := (h (i + 1) hi).2 (by omega); simpa using this
  | succ d ih =>
    intro i hi
    have h1 := ih i (by omega)
    have h2 := (h (i + (d + 1) + 1) hi).2 (by omega)
    rw [show i + (d + 1) + 1 - 1 = i + d + 1 by omega] at h2
    omega
theorem preR_end {ms : List Int} (h : PreR ms ms.length) (h1 : 1 ≤ ms.length) (h8 : ms.length ≤ 8) : RightM ms := by
  refine ⟨h1, h8, fun m hm => ?_, ?_⟩
  · obtain ⟨j, hj, rfl⟩ := List.getElem_of_mem hm
    have := (h j hj).1
    simpa [List.getD_eq_getElem?_getD, hj] using this
  · rw [List.pairwise_iff_getElem]
    intro i j hi hj hij
    have := rise_all h (j - i - 1) i (by omega)
    rw [show i + (j - i - 1) + 1 = j by omega] at this
    simpa [List.getD_eq_getElem?_getD, hi, hj] using this
theorem right_get {ms : List Int} (h : RightM ms) {k : Nat} (hk : k < ms.length) : (1 ≤ ms.getD k 0 ∧ ms.getD k 0 ≤ 8) ∧ (0 < k → ms.getD (k - 1) 0 < ms.getD k 0) := by
  have e : ∀ j (hj : j < ms.length), ms.getD j 0 = ms[j] := fun j hj => by simp [List.getD_eq_getElem?_getD, hj]
  refine ⟨by rw [e k hk]; exact h.2.2.1 _ (List.getElem_mem _), fun h0 => ?_⟩
  rw [e k hk, e (k - 1) (by omega)]
  exact List.pairwise_iff_getElem.1 h.2.2.2 (k - 1) k (by omega) hk (by omega)

set_option maxRecDepth 100000 in
set_option maxHeartbeats 1000000 in
theorem rightM_any (A : Option Addr) (c n : Nat) (ms : List Int) (hn : ms.length = n) (w : World) (hr : Ns .i64 w w.heap.size A ms) (hbig : n ≤ 140737488355328) :
    Calls Try.prog 10 #[.slice A n c] w fun e w' => e = .returned (.bool (decide (RightM ms))) ∧ Below w.heap.size w w' := by
  obtain ⟨R, hR⟩ : ∃ R, decide (RightM ms) = R := ⟨_, rfl⟩
  rw [hR]
  by_cases h1 : n < 1
  · have HF := Lib.hid (show R = false by rw [← hR]; exact decide_eq_false fun h => by have := h.1; omega)
    have e1 : (n : Int) < 1 := by omega
    clear hR hr hn h1
    go_enter Try.func10, Try.ntmps10
    go_wp2_with fail
    go_ret
    exact ⟨by rw [HF.out]; rfl, Below.refl _ _⟩
  by_cases h8 : 8 < n
  · have HF := Lib.hid (show R = false by rw [← hR]; exact decide_eq_false fun h => by have := h.2.1; omega)
    have e1 : ¬ (n : Int) < 1 := by omega
    have e2 : (8 : Int) < (n : Int) := by omega
    clear hR hr hn h1 h8
    go_enter Try.func10, Try.ntmps10
    go_wp2_with fail
    go_ret
    exact ⟨by rw [HF.out]; rfl, Below.refl _ _⟩
  have e1 : ¬ (n : Int) < 1 := by omega
  have e2 : ¬ (8 : Int) < (n : Int) := by omega
  have HV := Lib.hid (And.intro hr (And.intro hn hR))
  clear hr hn hR
  go_enter Try.func10, Try.ntmps10
  go_wp2_with fail
  go_loop [15] (fun iv => ∃ k : Nat, iv = .int .i64 k ∧ k ≤ n ∧ Hid (PreR ms k)) (fun iv => n - (intOf iv).toNat)
  case atStart => exact ⟨0, rfl, by omega, Lib.hid (preR_zero _)⟩
  case round =>
    obtain ⟨k, rfl, hk, hp⟩ := hrel
    by_cases hlt : k < n
    · obtain ⟨b, off, rfl, _, hc⟩ := HV.out.1 (by have := HV.out.2.1; omega)
      have c0 := hc k (by have := HV.out.2.1; omega)
      have cp := hc (k - 1) (by have := HV.out.2.1; omega)
      have hbad : ¬ ((1 ≤ ms.getD k 0 ∧ ms.getD k 0 ≤ 8) ∧ (0 < k → ms.getD (k - 1) 0 < ms.getD k 0)) → R = false := fun h => by
        rw [← HV.out.2.2]
        exact decide_eq_false fun hr => h (right_get hr (by have := HV.out.2.1; omega))
      have hstep := fun h1 h2 => preR_step (ms := ms) (k := k) hp.out h1 h2
      obtain ⟨z, hz⟩ : ∃ z, ms.getD k 0 = z := ⟨_, rfl⟩
      obtain ⟨y, hy⟩ : ∃ y, ms.getD (k - 1) 0 = y := ⟨_, rfl⟩
      rw [hz] at c0 hbad hstep
      rw [hy] at cp hbad hstep
      have HB := Lib.hid hbad
      have HS := Lib.hid hstep
      clear hc hz hy hbad hstep hp
      have d1 : (0 : Int) ≤ (k : Int) := by omega
      have d2 : (k : Int) < (n : Int) := by omega
      by_cases c1 : z < 1
      · have HF := Lib.hid (HB.out (by omega))
        go_wp2_with fail
        go_ret
        exact ⟨by rw [HF.out]; rfl, Below.refl _ _⟩
      by_cases c2 : 8 < z
      · have HF := Lib.hid (HB.out (by omega))
        go_wp2_with fail
        go_ret
        exact ⟨by rw [HF.out]; rfl, Below.refl _ _⟩
      by_cases hk0 : k = 0
      · subst hk0
        rw [Nat.add_zero] at c0
        clear cp
        have HF := Lib.hid (HS.out (by omega) (by omega))
        go_wp2_with fail
        exact ⟨⟨1, rfl, by omega, HF⟩, by simp only [intOf]; omega⟩
      · have q0 : ((k : Int) - 1).toNat = k - 1 := by omega
        have q1 : (0 : Int) ≤ (k : Int) - 1 := by omega
        have q2 : (k : Int) - 1 < (n : Int) := by omega
        have q5 : (1 : Int) ≤ (k : Int) := by omega
        have q6 : (k : Int) ≤ (n : Int) := by omega
        have q7 : 1 ≤ k := by omega
        have q8 : 0 < k := by omega
        have q3 : (0 : Int) < (k : Int) := by omega
        by_cases c4 : z ≤ y
        · have HF := Lib.hid (HB.out (by omega))
          go_wp2_with fail
          go_ret
          exact ⟨by rw [HF.out]; rfl, Below.refl _ _⟩
        · have HF := Lib.hid (HS.out (by omega) (by omega))
          go_wp2_with fail
          exact ⟨⟨k + 1, rfl, by omega, HF⟩, by simp only [intOf]; omega⟩
    · have hkn : k = n := by omega
      subst hkn
      have HF := Lib.hid (show R = true by rw [← HV.out.2.2]; exact decide_eq_true (preR_end (by rw [HV.out.2.1]; exact hp.out) (by have := HV.out.2.1; omega) (by have := HV.out.2.1; omega)))
      clear hp
      go_wp2_with fail
      go_ret
      exact ⟨by rw [HF.out]; rfl, Below.refl _ _⟩

set_option maxRecDepth 100000 in
set_option maxHeartbeats 1000000 in
theorem ref_rightM_any (A : Option Addr) (c n : Nat) (ms : List Int) (hn : ms.length = n) (w : World) (hr : Ns .i64 w w.heap.size A ms) (hbig : n ≤ 140737488355328) :
    Calls Try.prog 11 #[.slice A n c] w fun e w' => e = .returned (.bool (decide (RightM ms))) ∧ Below w.heap.size w w' := by
  obtain ⟨R, hR⟩ : ∃ R, decide (RightM ms) = R := ⟨_, rfl⟩
  rw [hR]
  by_cases h1 : n < 1
  · have HF := Lib.hid (show R = false by rw [← hR]; exact decide_eq_false fun h => by have := h.1; omega)
    have e1 : (n : Int) < 1 := by omega
    clear hR hr hn h1
    go_enter Try.func11, Try.ntmps11
    go_wp2_with fail
    go_ret
    exact ⟨by rw [HF.out]; rfl, Below.refl _ _⟩
  by_cases h8 : 8 < n
  · have HF := Lib.hid (show R = false by rw [← hR]; exact decide_eq_false fun h => by have := h.2.1; omega)
    have e1 : ¬ (n : Int) < 1 := by omega
    have e2 : (8 : Int) < (n : Int) := by omega
    clear hR hr hn h1 h8
    go_enter Try.func11, Try.ntmps11
    go_wp2_with fail
    go_ret
    exact ⟨by rw [HF.out]; rfl, Below.refl _ _⟩
  have e1 : ¬ (n : Int) < 1 := by omega
  have e2 : ¬ (8 : Int) < (n : Int) := by omega
  have HV := Lib.hid (And.intro hr (And.intro hn hR))
  clear hr hn hR
  go_enter Try.func11, Try.ntmps11
  go_wp2_with fail
  go_loopw [3] (fun iv wr => ∃ k : Nat, iv = .int .i64 k ∧ k ≤ n ∧ Hid (PreR ms k) ∧ Below w.heap.size w wr) (fun iv _ => n - (intOf iv).toNat)
  case atStart => exact ⟨0, rfl, by omega, Lib.hid (preR_zero _), Below.refl _ _⟩
  case round =>
    obtain ⟨k, rfl, hk, hp, hb⟩ := hrel
    by_cases hlt : k < n
    · obtain ⟨b, off, rfl, _, hc⟩ := (HV.out.1.below hb) (by have := HV.out.2.1; omega)
      have c0 := hc k (by have := HV.out.2.1; omega)
      have cp := hc (k - 1) (by have := HV.out.2.1; omega)
      have hbad : ¬ ((1 ≤ ms.getD k 0 ∧ ms.getD k 0 ≤ 8) ∧ (0 < k → ms.getD (k - 1) 0 < ms.getD k 0)) → R = false := fun h => by
        rw [← HV.out.2.2]
        exact decide_eq_false fun hr => h (right_get hr (by have := HV.out.2.1; omega))
      have hstep := fun h1 h2 => preR_step (ms := ms) (k := k) hp.out h1 h2
      obtain ⟨z, hz⟩ : ∃ z, ms.getD k 0 = z := ⟨_, rfl⟩
      obtain ⟨y, hy⟩ : ∃ y, ms.getD (k - 1) 0 = y := ⟨_, rfl⟩
      rw [hz] at c0 hbad hstep
      rw [hy] at cp hbad hstep
      have HB := Lib.hid hbad
      have HS := Lib.hid hstep
      have HBW := Lib.hid (fun j => hb.trans (below_drewN w.heap.size wr j))
      clear hc hz hy hbad hstep hp
      have d1 : (0 : Int) ≤ (k : Int) := by omega
      have d2 : (k : Int) < (n : Int) := by omega
      by_cases c1 : z < 1
      · have HF := Lib.hid (HB.out (by omega))
        go_wp2_with fail
        go_ret
        exact ⟨by rw [HF.out]; rfl, hb⟩
      by_cases c2 : 8 < z
      · have HF := Lib.hid (HB.out (by omega))
        go_wp2_with fail
        go_ret
        exact ⟨by rw [HF.out]; rfl, hb⟩
      by_cases hk0 : k = 0
      · subst hk0
        rw [Nat.add_zero] at c0
        clear cp
        have HF := Lib.hid (HS.out (by omega) (by omega))
        have e3 : decide ((0 : Int) < ((0 : Nat) : Int)) = false := decide_eq_false (by omega)
        clear hb
        go_wp2_with fail
        go_quiet (fail)
        go_wp2_with fail
        exact ⟨⟨1, rfl, by omega, HF, HBW.out _⟩, by simp only [intOf]; omega⟩
      · have q0 : ((k : Int) - 1).toNat = k - 1 := by omega
        have q1 : (0 : Int) ≤ (k : Int) - 1 := by omega
        have q2 : (k : Int) - 1 < (n : Int) := by omega
        have q5 : (1 : Int) ≤ (k : Int) := by omega
        have q6 : (k : Int) ≤ (n : Int) := by omega
        have q7 : 1 ≤ k := by omega
        have q9 : ((k : Int) - 1 < (n : Int)) = True := eq_true (by omega)
        have q10 : (0 ≤ (k : Int) - 1) = True := eq_true (by omega)
        have q3 : decide ((0 : Int) < (k : Int)) = true := decide_eq_true (by omega)
        have q12 : decide (0 < k) = true := decide_eq_true (by omega)
        have q4 : IntKind.i64.wrap ((k : Int) - 1) = (k : Int) - 1 := IntWalk.i64_in _ (by omega)
        by_cases c4 : z ≤ y
        · have HF := Lib.hid (HB.out (by omega))
          have q11 : decide (z ≤ y) = true := decide_eq_true c4
          clear hb
          go_wp2_with fail
          go_quiet (fail)
          go_wp2_with fail
          go_ret
          exact ⟨by rw [HF.out]; rfl, HBW.out _⟩
        · have HF := Lib.hid (HS.out (by omega) (by omega))
          have q11 : decide (z ≤ y) = false := decide_eq_false c4
          clear hb
          go_wp2_with fail
          go_quiet (fail)
          go_wp2_with fail
          exact ⟨⟨k + 1, rfl, by omega, HF, HBW.out _⟩, by simp only [intOf]; omega⟩
    · have hkn : k = n := by omega
      subst hkn
      have HF := Lib.hid (show R = true by rw [← HV.out.2.2]; exact decide_eq_true (preR_end (by rw [HV.out.2.1]; exact hp.out) (by have := HV.out.2.1; omega) (by have := HV.out.2.1; omega)))
      clear hp
      go_wp2_with fail
      go_ret
      exact ⟨by rw [HF.out]; rfl, hb⟩

/-- Where the point of two bytes lies. -/
def hp (a b : Int) : Int := hashL [a, b]
theorem two_ns (w : World) (a b : Int) : Ns .u8 (w.alloc (.cells #[.int .u8 a, .int .u8 b] 5)) (w.alloc (.cells #[.int .u8 a, .int .u8 b] 5)).heap.size (some ⟨w.heap.size, 0, none⟩) [a, b] := fun _ =>
  ⟨w.heap.size, 0, rfl, by simp, fun j hj => by
    obtain rfl | rfl : j = 0 ∨ j = 1 := by simp at hj; omega
    · simp
    · simp⟩
theorem point_any (a b : Int) (ha : 0 ≤ a ∧ a ≤ 255) (hb : 0 ≤ b ∧ b ≤ 255) (w : World) :
    Calls Try.prog 33 #[.int .i64 a, .int .i64 b] w fun e w' => e = .returned (.int .u64 (hp a b)) ∧ Below w.heap.size w w' := by
  have h1 := hash_any (some ⟨w.heap.size, 0, none⟩) 2 2 [a, b] rfl (fun z hz => by simp at hz; omega) _ (two_ns w a b) (by omega)
  have H1 := Lib.hid h1
  have HB := Lib.hid ((Below.refl w.heap.size w).alloc (Nat.le_refl _) (.cells #[.int .u8 a, .int .u8 b] 5))
  obtain ⟨a0, a1⟩ := ha
  obtain ⟨b0, b1⟩ := hb
  clear h1
  go_enter Try.func33, Try.ntmps33
  go_wp2_with fail
  refine H1.out.mono ?_
  rintro e w1 ⟨rfl, rfl⟩
  go_wp2_with fail
  go_ret
  exact ⟨rfl, HB.out⟩
end Ring
end Go.Proofs.Ytfnjengcemokpaa
