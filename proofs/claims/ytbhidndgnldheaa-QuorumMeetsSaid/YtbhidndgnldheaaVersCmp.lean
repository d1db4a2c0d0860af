/-
  How dots are compared: vers.compare, firthref05.Less; the list of one dot.
-/
import Derived.Test.YtbhidndgnldheaaVersBase
import Derived.Deep.RegionHeld3
import Derived.Deep.DrawnRows
import Derived.IntWalk
namespace Go.Proofs.Ytbhidndgnldheaa
namespace Vers
open Go.RowKit Span
attribute [local go_sem ↓] Go.wp_at_zero Go.wp_at_succ

def cmpI (x y : Int) : Int := if x < y then -1 else if y < x then 1 else 0
def cmpD (s n s' n' : Int) : Int := if cmpI s s' = 0 then cmpI n n' else cmpI s s'
theorem cmpD_lt (s n s' n' : Int) : cmpD s n s' n' < 0 ↔ s < s' ∨ (s = s' ∧ n < n') := by
  unfold cmpD cmpI
  repeat' split
  all_goals omega
theorem cmpD_le (s n s' n' : Int) : cmpD s n s' n' ≤ 0 ↔ s < s' ∨ (s = s' ∧ n ≤ n') := by
  unfold cmpD cmpI
  repeat' split
  all_goals omega

theorem cmp_int (x y : Int) (w : World) : Calls Try.prog 71 #[.int .i64 x, .int .i64 y] w fun e w' => e = .returned (.int .i64 (cmpI x y)) ∧ w = w' := by
  have hN : ∀ (z : Int) (W : World), Calls Try.prog 80 #[.int .i64 z] W fun e w' => e = .returned (.bool false) ∧ W = w' := by
    intro z W
    go_enter Try.func80, Try.ntmps80
    go_wp2
    go_ret
    exact ⟨by simp, rfl⟩
  have H := Lib.hid hN
  clear hN
  rcases Int.lt_trichotomy x y with h | rfl | h
  · have h1 : decide (x < y) = true := decide_eq_true h
    have hr : cmpI x y = -1 := by unfold cmpI; rw [if_pos h]
    have HR := Lib.hid hr
    clear hr h
    go_enter Try.func71, Try.ntmps71
    go_wp2_with (go_at_call 80; refine (H.out _ _).mono ?_; rintro e w' ⟨rfl, rfl⟩)
    go_ret
    exact ⟨by rw [HR.out]; rfl, rfl⟩
  · have h1 : decide (x < x) = false := decide_eq_false (by omega)
    have hr : cmpI x x = 0 := by unfold cmpI; rw [if_neg (by omega), if_neg (by omega)]
    have HR := Lib.hid hr
    clear hr
    go_enter Try.func71, Try.ntmps71
    go_wp2_with (go_at_call 80; refine (H.out _ _).mono ?_; rintro e w' ⟨rfl, rfl⟩)
    go_ret
    exact ⟨by rw [HR.out]; rfl, rfl⟩
  · have h1 : decide (x < y) = false := decide_eq_false (by omega)
    have h2 : decide (y < x) = true := decide_eq_true h
    have hr : cmpI x y = 1 := by unfold cmpI; rw [if_neg (by omega), if_pos h]
    have HR := Lib.hid hr
    clear hr h
    go_enter Try.func71, Try.ntmps71
    go_wp2_with (go_at_call 80; refine (H.out _ _).mono ?_; rintro e w' ⟨rfl, rfl⟩)
    go_ret
    exact ⟨by rw [HR.out]; rfl, rfl⟩

theorem cmp_int64 (x y : Int) (w : World) : Calls Try.prog 72 #[.int .i64 x, .int .i64 y] w fun e w' => e = .returned (.int .i64 (cmpI x y)) ∧ w = w' := by
  have hN : ∀ (z : Int) (W : World), Calls Try.prog 81 #[.int .i64 z] W fun e w' => e = .returned (.bool false) ∧ W = w' := by
    intro z W
    go_enter Try.func81, Try.ntmps81
    go_wp2
    go_ret
    exact ⟨by simp, rfl⟩
  have H := Lib.hid hN
  clear hN
  rcases Int.lt_trichotomy x y with h | rfl | h
  · have h1 : decide (x < y) = true := decide_eq_true h
    have hr : cmpI x y = -1 := by unfold cmpI; rw [if_pos h]
    have HR := Lib.hid hr
    clear hr h
    go_enter Try.func72, Try.ntmps72
    go_wp2_with (go_at_call 81; refine (H.out _ _).mono ?_; rintro e w' ⟨rfl, rfl⟩)
    go_ret
    exact ⟨by rw [HR.out]; rfl, rfl⟩
  · have h1 : decide (x < x) = false := decide_eq_false (by omega)
    have hr : cmpI x x = 0 := by unfold cmpI; rw [if_neg (by omega), if_neg (by omega)]
    have HR := Lib.hid hr
    clear hr
    go_enter Try.func72, Try.ntmps72
    go_wp2_with (go_at_call 81; refine (H.out _ _).mono ?_; rintro e w' ⟨rfl, rfl⟩)
    go_ret
    exact ⟨by rw [HR.out]; rfl, rfl⟩
  · have h1 : decide (x < y) = false := decide_eq_false (by omega)
    have h2 : decide (y < x) = true := decide_eq_true h
    have hr : cmpI x y = 1 := by unfold cmpI; rw [if_neg (by omega), if_pos h]
    have HR := Lib.hid hr
    clear hr h
    go_enter Try.func72, Try.ntmps72
    go_wp2_with (go_at_call 81; refine (H.out _ _).mono ?_; rintro e w' ⟨rfl, rfl⟩)
    go_ret
    exact ⟨by rw [HR.out]; rfl, rfl⟩

/-- cmp.Or of two numbers that lie in a block. -/
theorem or_two (p q : Int) (b : Nat) (w : World) (h0 : w.cell? ⟨b, 0, none⟩ = some (.int .i64 p)) (h1 : w.cell? ⟨b, 1, none⟩ = some (.int .i64 q)) :
    Calls Try.prog 70 #[.slice (some ⟨b, 0, none⟩) 2 2] w fun e w' => e = .returned (.int .i64 (if p = 0 then q else p)) ∧ w = w' := by
  by_cases hp : p = 0
  · subst hp
    rw [if_pos rfl]
    by_cases hq : q = 0
    · subst hq
      go_enter Try.func70, Try.ntmps70
      go_wp2
      go_loopw [5, 8] (fun _ q wr => ∃ k : Nat, q = .int .i64 k ∧ k ≤ 2 ∧ w = wr) (fun _ q _ => 2 - (intOf q).toNat)
      case atStart => exact ⟨0, rfl, by omega, rfl⟩
      case round =>
        obtain ⟨k, rfl, hk, rfl⟩ := hrel
        match k, hk with
        | 0, _ =>
          go_wp2
          exact ⟨⟨1, rfl, by omega, trivial⟩, by simp only [intOf]; omega⟩
        | 1, _ =>
          go_wp2
          exact ⟨⟨2, rfl, by omega, trivial⟩, by simp only [intOf]; omega⟩
        | 2, _ =>
          go_wp2
          go_ret
          exact ⟨rfl, rfl⟩
    · have g1 : (q == 0) = false := by simpa using hq
      have g2 : ¬ (q = 0) := hq
      go_enter Try.func70, Try.ntmps70
      go_wp2
      go_loopw [5, 8] (fun _ q wr => ∃ k : Nat, q = .int .i64 k ∧ k ≤ 1 ∧ w = wr) (fun _ q _ => 2 - (intOf q).toNat)
      case atStart => exact ⟨0, rfl, by omega, rfl⟩
      case round =>
        obtain ⟨k, rfl, hk, rfl⟩ := hrel
        match k, hk with
        | 0, _ =>
          go_wp2
          exact ⟨⟨1, rfl, by omega, trivial⟩, by simp only [intOf]; omega⟩
        | 1, _ =>
          go_wp2
          go_ret
          exact ⟨rfl, rfl⟩
  · rw [if_neg hp]
    have g1 : (p == 0) = false := by simpa using hp
    go_enter Try.func70, Try.ntmps70
    go_wp2
    go_loopw [5, 8] (fun _ q wr => q = .int .i64 0 ∧ w = wr) (fun _ q _ => 2 - (intOf q).toNat)
    case atStart => exact ⟨rfl, rfl⟩
    case round =>
      obtain ⟨rfl, rfl⟩ := hrel
      go_wp2
      go_ret
      exact ⟨rfl, rfl⟩

set_option maxHeartbeats 1000000 in
theorem compare_any (s n s' n' : Int) (w : World) : Calls Try.prog 59 #[.agg #[.int .i64 s, .int .i64 n], .agg #[.int .i64 s', .int .i64 n']] w fun e w' => e = .returned (.int .i64 (cmpD s n s' n')) ∧ Below w.heap.size w w' := by
  have H1 := Lib.hid (fun W => cmp_int s s' W)
  have H2 := Lib.hid (fun W => cmp_int64 n n' W)
  have hr : (if cmpI s s' = 0 then cmpI n n' else cmpI s s') = cmpD s n s' n' := rfl
  obtain ⟨p, hp⟩ : ∃ p, cmpI s s' = p := ⟨_, rfl⟩
  obtain ⟨q, hq⟩ : ∃ q, cmpI n n' = q := ⟨_, rfl⟩
  rw [hp, hq] at hr
  have H1' : Hid (∀ W, Calls Try.prog 71 #[.int .i64 s, .int .i64 s'] W fun e w' => e = .returned (.int .i64 p) ∧ W = w') := by rw [← hp]; exact H1
  have H2' : Hid (∀ W, Calls Try.prog 72 #[.int .i64 n, .int .i64 n'] W fun e w' => e = .returned (.int .i64 q) ∧ W = w') := by rw [← hq]; exact H2
  obtain ⟨r, hr'⟩ : ∃ r, (if p = 0 then q else p) = r := ⟨_, rfl⟩
  have H3 := Lib.hid (fun b W h0 h1 => hr' ▸ or_two p q b W h0 h1)
  have HR := Lib.hid (hr'.symm.trans hr)
  clear H1 H2 hp hq hr hr'
  go_enter Try.func59, Try.ntmps59
  go_wp2
  obtain ⟨W, hW⟩ : ∃ W, (w.alloc (.cells #[.int .i64 s, .int .i64 n] 66)).alloc (.cells #[.int .i64 s', .int .i64 n'] 66) = W := ⟨_, rfl⟩
  have a0 : W.cell? ⟨w.heap.size, 0, none⟩ = some (.int .i64 s) := by rw [← hW]; simp
  have a1 : W.cell? ⟨w.heap.size, 1, none⟩ = some (.int .i64 n) := by rw [← hW]; simp
  have a2 : W.cell? ⟨w.heap.size + 1, 0, none⟩ = some (.int .i64 s') := by rw [← hW]; simp
  have a3 : W.cell? ⟨w.heap.size + 1, 1, none⟩ = some (.int .i64 n') := by rw [← hW]; simp
  have b0 : Below w.heap.size w W := by rw [← hW]; exact ((Below.refl _ w).alloc (Nat.le_refl _) _).alloc (by simp) _
  have hs : W.heap.size = w.heap.size + 2 := by rw [← hW]; simp
  rw [hW]
  clear hW
  have HB := Lib.hid (b0.alloc (by rw [hs]; omega) (.cells #[.int .i64 p, .int .i64 q] 3))
  obtain ⟨m, hm⟩ : ∃ m, w.heap.size = m := ⟨_, rfl⟩
  rw [hm] at a0 a1 a2 a3 hs ⊢
  clear hm b0
  have l0 : m < W.heap.size := by omega
  have l1 : m + 1 < W.heap.size := by omega
  clear hs
  go_region_held3 (fun V => V.cell? ⟨m, 0, none⟩ = some (.int .i64 s) ∧ V.cell? ⟨m, 1, none⟩ = some (.int .i64 n) ∧ V.cell? ⟨m + 1, 0, none⟩ = some (.int .i64 s') ∧ V.cell? ⟨m + 1, 1, none⟩ = some (.int .i64 n'))
    (first | exact ⟨a0, a1, a2, a3⟩ | exact ⟨(World.cell?_alloc_lt _ _ _ l0).trans a0, (World.cell?_alloc_lt _ _ _ l0).trans a1, (World.cell?_alloc_lt _ _ _ l1).trans a2, (World.cell?_alloc_lt _ _ _ l1).trans a3⟩)
    (first
      | (go_at_call 71; refine (H1'.out _).mono ?_; rintro e w1 ⟨rfl, rfl⟩)
      | (go_at_call 72; refine (H2'.out _).mono ?_; rintro e w1 ⟨rfl, rfl⟩)
      | (go_at_call 70; refine (H3.out _ _ (by simp) (by simp)).mono ?_; rintro e w1 ⟨rfl, rfl⟩))
  all_goals
    go_wp2
    go_ret
    exact ⟨by rw [HR.out]; rfl, HB.out.drew⟩

theorem less_any (s n s' n' : Int) (w : World) : Calls Try.prog 49 #[.agg #[.int .i64 s, .int .i64 n], .agg #[.int .i64 s', .int .i64 n']] w fun e w' => e = .returned (.bool (decide (s < s' ∨ (s = s' ∧ n < n')))) ∧ Below w.heap.size w w' := by
  obtain ⟨R, hR⟩ : ∃ R, decide (s < s' ∨ (s = s' ∧ n < n')) = R := ⟨_, rfl⟩
  rw [hR]
  by_cases h : s = s'
  · have HR := Lib.hid (show R = decide (n < n') by rw [← hR]; simp [h])
    subst h
    have g : (s == s) = true := by simp
    clear hR
    go_enter Try.func49, Try.ntmps49
    go_wp2
    go_ret
    exact ⟨by rw [HR.out]; rfl, ((Below.refl _ w).alloc (Nat.le_refl _) _).alloc (by simp) _⟩
  · have HR := Lib.hid (show R = decide (s < s') by rw [← hR]; simp [h])
    have g : (s == s') = false := by simp [h]
    clear h hR
    go_enter Try.func49, Try.ntmps49
    go_wp2
    go_ret
    exact ⟨by rw [HR.out]; rfl, ((Below.refl _ w).alloc (Nat.le_refl _) _).alloc (by simp) _⟩

/-- The list of one dot. -/
def DotList (s n : Int) (w : World) (e : Ending) (w' : World) : Prop := ∃ A, e = .returned (.slice A 1 1) ∧ Ss w' w'.heap.size A [(s, n, n)] ∧ Below w.heap.size w w'
theorem dotlist_any (s n : Int) (w : World) : Calls Try.prog 68 #[.agg #[.int .i64 s, .int .i64 n]] w (DotList s n w) := by
  go_enter Try.func68, Try.ntmps68
  go_wp2
  go_ret
  refine ⟨_, rfl, fun _ => ⟨_, _, rfl, by simp, fun j hj => ?_⟩, ((Below.refl _ w).alloc (Nat.le_refl _) _).alloc (by simp) _⟩
  match j, hj with
  | 0, _ => simp
end Vers
end Go.Proofs.Ytbhidndgnldheaa
