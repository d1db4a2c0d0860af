/-
 Several texts of this family in one: VersCmp, VersRightOne, VersMark, VersPassed.
-/
import Derived.Test.YtekhaejhmlebbaaGreatRGVect
import Derived.Deep.RegionHeld3
import Derived.Deep.DrawnRows
import Derived.IntWalk
import Derived.Lib.Strings
import Derived.Deep.QuietTactic
import Derived.BigQuiet
import Derived.Deep.DeepCutAuto
import Derived.Deep.CutBlock
/-
 How dots are compared: vers.compare, firthref05.Less; the list of one dot.
-/
namespace Go.Proofs.YtekhaejhmlebbaaGreat
namespace Vers
open Go.RowKit Span
attribute [local go_sem ↓] Go.wp_at_zero Go.wp_at_succ

def cmpI (x y : Int) : Int := if x < y then -1 else if y < x then 1 else 0
def cmpD (s n s' n' : Int) : Int := if cmpI s s' = 0 then cmpI n n' else cmpI s s'
theorem cmpD_lt (s n s' n' : Int) : cmpD s n s' n' < 0 ↔ s < s' ∨ (s = s' ∧ n < n') := by
 unfold cmpD cmpI
 repeat' split
 all_goals omega
theorem cmpD_le (s n s' n' : Int) : cmpD s n s' n' ≤ 0 ↔ s < s' ∨ (s = s' ∧ n ≤ n') := by
 unfold cmpD cmpI
 repeat' split
 all_goals omega

theorem cmp_int (x y : Int) (w : World) : Calls Tryz.prog 128 #[.int .i64 x, .int .i64 y] w fun e w' => e = .returned (.int .i64 (cmpI x y)) ∧ w = w' := by
 have hN : ∀ (z : Int) (W : World), Calls Tryz.prog 143 #[.int .i64 z] W fun e w' => e = .returned (.bool false) ∧ W = w' := by
  intro z W
  go_enter Tryz.func143, Tryz.ntmps143
  go_wp2
  go_ret
  exact ⟨by simp, rfl⟩
 have H := Lib.hid hN
 clear hN
 rcases Int.lt_trichotomy x y with h | rfl | h
 ·have h1 : decide (x < y) = true := decide_eq_true h
  have hr : cmpI x y = -1 := by unfold cmpI; rw [if_pos h]
  have HR := Lib.hid hr
  clear hr h
  go_enter Tryz.func128, Tryz.ntmps128
  go_wp2_with (go_at_call 143; refine (H.out _ _).mono ?_; rintro e w' ⟨rfl, rfl⟩)
  go_ret
  exact ⟨by rw [HR.out]; rfl, rfl⟩
 ·have h1 : decide (x < x) = false := decide_eq_false (by omega)
  have hr : cmpI x x = 0 := by unfold cmpI; rw [if_neg (by omega), if_neg (by omega)]
  have HR := Lib.hid hr
  clear hr
  go_enter Tryz.func128, Tryz.ntmps128
  go_wp2_with (go_at_call 143; refine (H.out _ _).mono ?_; rintro e w' ⟨rfl, rfl⟩)
  go_ret
  exact ⟨by rw [HR.out]; rfl, rfl⟩
 ·have h1 : decide (x < y) = false := decide_eq_false (by omega)
  have h2 : decide (y < x) = true := decide_eq_true h
  have hr : cmpI x y = 1 := by unfold cmpI; rw [if_neg (by omega), if_pos h]
  have HR := Lib.hid hr
  clear hr h
  go_enter Tryz.func128, Tryz.ntmps128
  go_wp2_with (go_at_call 143; refine (H.out _ _).mono ?_; rintro e w' ⟨rfl, rfl⟩)
  go_ret
  exact ⟨by rw [HR.out]; rfl, rfl⟩

theorem cmp_int64 (x y : Int) (w : World) : Calls Tryz.prog 129 #[.int .i64 x, .int .i64 y] w fun e w' => e = .returned (.int .i64 (cmpI x y)) ∧ w = w' := by
 have hN : ∀ (z : Int) (W : World), Calls Tryz.prog 144 #[.int .i64 z] W fun e w' => e = .returned (.bool false) ∧ W = w' := by
  intro z W
  go_enter Tryz.func144, Tryz.ntmps144
  go_wp2
  go_ret
  exact ⟨by simp, rfl⟩
 have H := Lib.hid hN
 clear hN
 rcases Int.lt_trichotomy x y with h | rfl | h
 ·have h1 : decide (x < y) = true := decide_eq_true h
  have hr : cmpI x y = -1 := by unfold cmpI; rw [if_pos h]
  have HR := Lib.hid hr
  clear hr h
  go_enter Tryz.func129, Tryz.ntmps129
  go_wp2_with (go_at_call 144; refine (H.out _ _).mono ?_; rintro e w' ⟨rfl, rfl⟩)
  go_ret
  exact ⟨by rw [HR.out]; rfl, rfl⟩
 ·have h1 : decide (x < x) = false := decide_eq_false (by omega)
  have hr : cmpI x x = 0 := by unfold cmpI; rw [if_neg (by omega), if_neg (by omega)]
  have HR := Lib.hid hr
  clear hr
  go_enter Tryz.func129, Tryz.ntmps129
  go_wp2_with (go_at_call 144; refine (H.out _ _).mono ?_; rintro e w' ⟨rfl, rfl⟩)
  go_ret
  exact ⟨by rw [HR.out]; rfl, rfl⟩
 ·have h1 : decide (x < y) = false := decide_eq_false (by omega)
  have h2 : decide (y < x) = true := decide_eq_true h
  have hr : cmpI x y = 1 := by unfold cmpI; rw [if_neg (by omega), if_pos h]
  have HR := Lib.hid hr
  clear hr h
  go_enter Tryz.func129, Tryz.ntmps129
  go_wp2_with (go_at_call 144; refine (H.out _ _).mono ?_; rintro e w' ⟨rfl, rfl⟩)
  go_ret
  exact ⟨by rw [HR.out]; rfl, rfl⟩

theorem or_two (p q : Int) (b : Nat) (w : World) (h0 : w.cell? ⟨b, 0, none⟩ = some (.int .i64 p)) (h1 : w.cell? ⟨b, 1, none⟩ = some (.int .i64 q)) :
  Calls Tryz.prog 127 #[.slice (some ⟨b, 0, none⟩) 2 2] w fun e w' => e = .returned (.int .i64 (if p = 0 then q else p)) ∧ w = w' := by
 by_cases hp : p = 0
 ·subst hp
  rw [if_pos rfl]
  by_cases hq : q = 0
  ·subst hq
   go_enter Tryz.func127, Tryz.ntmps127
   go_wp2
   go_loopw [5, 8] (fun _ q wr => ∃ k : Nat, q = .int .i64 k ∧ k ≤ 2 ∧ w = wr) (fun _ q _ => 2 - (intOf q).toNat)
   case atStart => exact ⟨0, rfl, by omega, rfl⟩
   case round =>
    obtain ⟨k, rfl, hk, rfl⟩ := hrel
    match k, hk with
    | 0, _ =>
     go_wp2
     exact ⟨⟨1, rfl, by omega, trivial⟩, by simp only [intOf]; omega⟩
    | 1, _ =>
     go_wp2
     exact ⟨⟨2, rfl, by omega, trivial⟩, by simp only [intOf]; omega⟩
    | 2, _ =>
     go_wp2
     go_ret
     exact ⟨rfl, rfl⟩
  ·have g1 : (q == 0) = false := by simpa using hq
   have g2 : ¬ (q = 0) := hq
   go_enter Tryz.func127, Tryz.ntmps127
   go_wp2
   go_loopw [5, 8] (fun _ q wr => ∃ k : Nat, q = .int .i64 k ∧ k ≤ 1 ∧ w = wr) (fun _ q _ => 2 - (intOf q).toNat)
   case atStart => exact ⟨0, rfl, by omega, rfl⟩
   case round =>
    obtain ⟨k, rfl, hk, rfl⟩ := hrel
    match k, hk with
    | 0, _ =>
     go_wp2
     exact ⟨⟨1, rfl, by omega, trivial⟩, by simp only [intOf]; omega⟩
    | 1, _ =>
     go_wp2
     go_ret
     exact ⟨rfl, rfl⟩
 ·rw [if_neg hp]
  have g1 : (p == 0) = false := by simpa using hp
  go_enter Tryz.func127, Tryz.ntmps127
  go_wp2
  go_loopw [5, 8] (fun _ q wr => q = .int .i64 0 ∧ w = wr) (fun _ q _ => 2 - (intOf q).toNat)
  case atStart => exact ⟨rfl, rfl⟩
  case round =>
   obtain ⟨rfl, rfl⟩ := hrel
   go_wp2
   go_ret
   exact ⟨rfl, rfl⟩

set_option maxHeartbeats 1000000 in
theorem compare_any (s n s' n' : Int) (w : World) : Calls Tryz.prog 95 #[.agg #[.int .i64 s, .int .i64 n], .agg #[.int .i64 s', .int .i64 n']] w fun e w' => e = .returned (.int .i64 (cmpD s n s' n')) ∧ Below w.heap.size w w' := by
 have H1 := Lib.hid (fun W => cmp_int s s' W)
 have H2 := Lib.hid (fun W => cmp_int64 n n' W)
 have hr : (if cmpI s s' = 0 then cmpI n n' else cmpI s s') = cmpD s n s' n' := rfl
 obtain ⟨p, hp⟩ : ∃ p, cmpI s s' = p := ⟨_, rfl⟩
 obtain ⟨q, hq⟩ : ∃ q, cmpI n n' = q := ⟨_, rfl⟩
 rw [hp, hq] at hr
 have H1' : Hid (∀ W, Calls Tryz.prog 128 #[.int .i64 s, .int .i64 s'] W fun e w' => e = .returned (.int .i64 p) ∧ W = w') := by rw [← hp]; exact H1
 have H2' : Hid (∀ W, Calls Tryz.prog 129 #[.int .i64 n, .int .i64 n'] W fun e w' => e = .returned (.int .i64 q) ∧ W = w') := by rw [← hq]; exact H2
 obtain ⟨r, hr'⟩ : ∃ r, (if p = 0 then q else p) = r := ⟨_, rfl⟩
 have H3 := Lib.hid (fun b W h0 h1 => hr' ▸ or_two p q b W h0 h1)
 have HR := Lib.hid (hr'.symm.trans hr)
 clear H1 H2 hp hq hr hr'
 go_enter Tryz.func95, Tryz.ntmps95
 go_wp2
 obtain ⟨W, hW⟩ : ∃ W, (w.alloc (.cells #[.int .i64 s, .int .i64 n] 56)).alloc (.cells #[.int .i64 s', .int .i64 n'] 56) = W := ⟨_, rfl⟩
 have a0 : W.cell? ⟨w.heap.size, 0, none⟩ = some (.int .i64 s) := by rw [← hW]; simp
 have a1 : W.cell? ⟨w.heap.size, 1, none⟩ = some (.int .i64 n) := by rw [← hW]; simp
 have a2 : W.cell? ⟨w.heap.size + 1, 0, none⟩ = some (.int .i64 s') := by rw [← hW]; simp
 have a3 : W.cell? ⟨w.heap.size + 1, 1, none⟩ = some (.int .i64 n') := by rw [← hW]; simp
 have b0 : Below w.heap.size w W := by rw [← hW]; exact ((Below.refl _ w).alloc (Nat.le_refl _) _).alloc (by simp) _
 have hs : W.heap.size = w.heap.size + 2 := by rw [← hW]; simp
 rw [hW]
 clear hW
 have HB := Lib.hid (b0.alloc (by rw [hs]; omega) (.cells #[.int .i64 p, .int .i64 q] 3))
 obtain ⟨m, hm⟩ : ∃ m, w.heap.size = m := ⟨_, rfl⟩
 rw [hm] at a0 a1 a2 a3 hs ⊢
 clear hm b0
 have l0 : m < W.heap.size := by omega
 have l1 : m + 1 < W.heap.size := by omega
 clear hs
 go_region_held3 (fun V => V.cell? ⟨m, 0, none⟩ = some (.int .i64 s) ∧ V.cell? ⟨m, 1, none⟩ = some (.int .i64 n) ∧ V.cell? ⟨m + 1, 0, none⟩ = some (.int .i64 s') ∧ V.cell? ⟨m + 1, 1, none⟩ = some (.int .i64 n'))
  (first | exact ⟨a0, a1, a2, a3⟩ | exact ⟨(World.cell?_alloc_lt _ _ _ l0).trans a0, (World.cell?_alloc_lt _ _ _ l0).trans a1, (World.cell?_alloc_lt _ _ _ l1).trans a2, (World.cell?_alloc_lt _ _ _ l1).trans a3⟩)
  (first
   | (go_at_call 128; refine (H1'.out _).mono ?_; rintro e w1 ⟨rfl, rfl⟩)
   | (go_at_call 129; refine (H2'.out _).mono ?_; rintro e w1 ⟨rfl, rfl⟩)
   | (go_at_call 127; refine (H3.out _ _ (by simp) (by simp)).mono ?_; rintro e w1 ⟨rfl, rfl⟩))
 all_goals
  go_wp2
  go_ret
  exact ⟨by rw [HR.out]; rfl, HB.out.drew⟩

theorem less_any (s n s' n' : Int) (w : World) : Calls Tryz.prog 86 #[.agg #[.int .i64 s, .int .i64 n], .agg #[.int .i64 s', .int .i64 n']] w fun e w' => e = .returned (.bool (decide (s < s' ∨ (s = s' ∧ n < n')))) ∧ Below w.heap.size w w' := by
 obtain ⟨R, hR⟩ : ∃ R, decide (s < s' ∨ (s = s' ∧ n < n')) = R := ⟨_, rfl⟩
 rw [hR]
 by_cases h : s = s'
 ·have HR := Lib.hid (show R = decide (n < n') by rw [← hR]; simp [h])
  subst h
  have g : (s == s) = true := by simp
  clear hR
  go_enter Tryz.func86, Tryz.ntmps86
  go_wp2
  go_ret
  exact ⟨by rw [HR.out]; rfl, ((Below.refl _ w).alloc (Nat.le_refl _) _).alloc (by simp) _⟩
 ·have HR := Lib.hid (show R = decide (s < s') by rw [← hR]; simp [h])
  have g : (s == s') = false := by simp [h]
  clear h hR
  go_enter Tryz.func86, Tryz.ntmps86
  go_wp2
  go_ret
  exact ⟨by rw [HR.out]; rfl, ((Below.refl _ w).alloc (Nat.le_refl _) _).alloc (by simp) _⟩

def DotList (s n : Int) (w : World) (e : Ending) (w' : World) : Prop := ∃ A, e = .returned (.slice A 1 1) ∧ Ss w' w'.heap.size A [(s, n, n)] ∧ Below w.heap.size w w'
theorem dotlist_any (s n : Int) (w : World) : Calls Tryz.prog 125 #[.agg #[.int .i64 s, .int .i64 n]] w (DotList s n w) := by
 go_enter Tryz.func125, Tryz.ntmps125
 go_wp2
 go_ret
 refine ⟨_, rfl, fun _ => ⟨_, _, rfl, by simp, fun j hj => ?_⟩, ((Below.refl _ w).alloc (Nat.le_refl _) _).alloc (by simp) _⟩
 match j, hj with
 | 0, _ => simp
end Vers
end Go.Proofs.YtekhaejhmlebbaaGreat

/-
 vers.RightOne tells whether a version is right.
-/
namespace Go.Proofs.YtekhaejhmlebbaaGreat
namespace Vers
open Go.RowKit Span
attribute [local go_sem ↓] Go.wp_at_zero Go.wp_at_succ

theorem five_below {V V' : World} {m : Nat} {x0 x1 x2 x3 x4 : Option Value} (hl : m < V.heap.size) (b : Below V.heap.size V V')
  (h : V.cell? ⟨m, 0, none⟩ = x0 ∧ V.cell? ⟨m, 1, none⟩ = x1 ∧ V.cell? ⟨m, 2, none⟩ = x2 ∧ V.cell? ⟨m, 3, none⟩ = x3 ∧ V.cell? ⟨m, 4, none⟩ = x4) :
  V'.cell? ⟨m, 0, none⟩ = x0 ∧ V'.cell? ⟨m, 1, none⟩ = x1 ∧ V'.cell? ⟨m, 2, none⟩ = x2 ∧ V'.cell? ⟨m, 3, none⟩ = x3 ∧ V'.cell? ⟨m, 4, none⟩ = x4 :=
 ⟨(b.cell (p := ⟨m, 0, none⟩) hl).trans h.1, (b.cell (p := ⟨m, 1, none⟩) hl).trans h.2.1, (b.cell (p := ⟨m, 2, none⟩) hl).trans h.2.2.1, (b.cell (p := ⟨m, 3, none⟩) hl).trans h.2.2.2.1, (b.cell (p := ⟨m, 4, none⟩) hl).trans h.2.2.2.2⟩
theorem right_dot (s n : Int) : decide (Right [(s, n, n)]) = decide (okD s n) := by
 congr 1
 refine propext ⟨fun h => ?_, fun h => ?_⟩
 ·have := h.2.1 (s, n, n) (by simp)
  unfold okSp at this
  unfold okD
  simp only at this
  omega
 ·refine ⟨by simp, fine_one ?_⟩
  unfold okD at h
  unfold okSp
  simp only
  omega
theorem val_empty (v : ByteArray) : v.toList.isEmpty = decide (v = ⟨#[]⟩) := by
 rw [Lib.toList_data]
 by_cases h : v = ⟨#[]⟩
 ·subst h; simp
 ·rw [decide_eq_false h]
  have h2 : ¬ v.data.toList = [] := fun e => h (ByteArray.ext (Array.toList_inj.1 e))
  simpa using h2

set_option maxRecDepth 100000 in
set_option maxHeartbeats 4000000 in
theorem rightone_any (A : Option Addr) (c k : Nat) (s n : Int) (past : List Sp) (gone : Bool) (val : ByteArray) (hk : past.length = k) (w : World) (hp : Ss w w.heap.size A past) (hbig : k ≤ 140737488355328) (hvb : val.size ≤ 140737488355328) :
  Calls Tryz.prog 94 #[.agg #[.int .i64 s, .int .i64 n, .slice A k c, .bool gone, .string val]] w fun e w' => e = .returned (.bool (decide (okV ⟨s, n, past, gone, val⟩))) ∧ Below w.heap.size w w' := by
 obtain ⟨R, hR⟩ : ∃ R, decide (okV ⟨s, n, past, gone, val⟩) = R := ⟨_, rfl⟩
 rw [hR]
 have h1 := fun A' W h => right_any A' 1 1 [(s, n, n)] rfl W h (by omega)
 have h2 := fun W h => right_any A c k past hk W h hbig
 have h3 := fun W h => top_any A c k past hk s W h hbig
 rw [right_dot] at h1
 have hok : okV ⟨s, n, past, gone, val⟩ ↔ okD s n ∧ Right past ∧ topF past s < n ∧ val.size ≤ 256 ∧ (gone = true → val = ⟨#[]⟩) := Iff.rfl
 obtain ⟨t, ht⟩ : ∃ t, topF past s = t := ⟨_, rfl⟩
 rw [ht] at h3 hok
 obtain ⟨m, hm⟩ : ∃ m, w.heap.size = m := ⟨_, rfl⟩
 have HP : Hid (∀ V, Below m w V → Ss V V.heap.size A past) := Lib.hid fun V hb => by rw [← hm] at hb; exact (hp.below hb).more hb.size
 have H3 := Lib.hid h3
 have HD := Lib.hid (fun W => dotlist_any s n W)
 have HK := Lib.hid hm
 clear h3 hp hk ht
 have finish : ∀ (V : World), Below m w V → Below w.heap.size w V := fun V h => by rw [HK.out]; exact h
 have FI := Lib.hid finish
 clear finish
 go_enter Tryz.func94, Tryz.ntmps94
 go_wp2
 obtain ⟨W, hW⟩ : ∃ W, w.alloc (.cells #[.int .i64 s, .int .i64 n, .slice A k c, .bool gone, .string val] 59) = W := ⟨_, rfl⟩
 have d0 : W.cell? ⟨m, 0, none⟩ = some (.int .i64 s) ∧ W.cell? ⟨m, 1, none⟩ = some (.int .i64 n) ∧ W.cell? ⟨m, 2, none⟩ = some (.slice A k c) ∧ W.cell? ⟨m, 3, none⟩ = some (.bool gone) ∧ W.cell? ⟨m, 4, none⟩ = some (.string val) := by
  rw [← hW, ← hm]; exact ⟨by simp, by simp, by simp, by simp, by simp⟩
 have hl : m < W.heap.size := by rw [← hW, ← hm]; simp
 have B0 : Below m w W := by rw [← hW, ← hm]; exact (Below.refl _ w).alloc (Nat.le_refl _) _
 rw [hW]
 clear hW hm
 by_cases cA : okD s n
 ·rw [decide_eq_true cA] at h1
  by_cases cB : Right past
  ·rw [decide_eq_true cB] at h2
   have H1 := Lib.hid h1
   have H2 := Lib.hid h2
   by_cases cC : t < n
   ·have g1 : decide (t < n) = true := decide_eq_true cC
    by_cases cD : val.size ≤ 256
    ·have g2 : decide ((val.size : Int) ≤ 256) = true := decide_eq_true (by omega)
     have g2' : decide (val.size ≤ 256) = true := decide_eq_true cD
     cases gone
     ·have HF := Lib.hid (show R = true by rw [← hR]; exact decide_eq_true (hok.2 ⟨cA, cB, cC, cD, by simp⟩))
      clear h1 h2 hok hR cA cB cC cD
      refine wp_region_held_drew (S := (fun V => V.cell? ⟨m, 0, none⟩ = some (.int .i64 s) ∧ V.cell? ⟨m, 1, none⟩ = some (.int .i64 n) ∧ V.cell? ⟨m, 2, none⟩ = some (.slice A k c) ∧ V.cell? ⟨m, 3, none⟩ = some (.bool false) ∧ V.cell? ⟨m, 4, none⟩ = some (.string val))) (by kernel_rfl) d0 (fun hHeld => ?_)
      refine wpAnyH_take (i := 0) (oi := { dst := some 3, op := Op.fieldAddr 59 (Operand.tmp 1) 0, type := 0, pos := "vers.go:17", after := #[], guard := none }) (v := ?va1) rfl (by kernel_rfl) (by kernel_rfl) (by kernel_rfl) (fun _ _ _ h => h) (Or.inl ⟨by rfl, ?hya1⟩) (by assumption) ?resta1
      case hya1 =>
       intro w hSw
       (try dsimp only at hSw)
       go_simp
       (try with_reducible rfl)
      (try simp only [Act.put, List.setIfInBounds_toArray, List.set_cons_zero, List.set_cons_succ])
      refine wpAnyH_take (i := 1) (oi := { dst := some 4, op := Op.load 56 (Operand.tmp 3), type := 56, pos := "vers.go:17", after := #[{ on := 0, ground := Ground.data }], guard := none }) (v := ?va2) rfl (by kernel_rfl) (by kernel_rfl) (by kernel_rfl) (fun _ _ _ h => h) (Or.inl ⟨by rfl, ?hya2⟩) (by assumption) ?resta2
      case hya2 =>
       intro w hSw
       (try dsimp only at hSw)
       go_simp
       (try with_reducible rfl)
      (try simp only [Act.put, List.setIfInBounds_toArray, List.set_cons_zero, List.set_cons_succ])
      refine wpAnyH_ready (rs := [2]) (by kernel_rfl) (by simp) ?_
      refine AllReadyH.cons (o := { dst := some 5, op := Op.call { callee := Callee.value (Operand.func 125), args := #[Operand.tmp 4], argTypes := #[56] }, type := 57, pos := "vers.go:17", after := #[{ on := 1, ground := Ground.data }], guard := none }) rfl (fun K hK => ?_) AllReadyH.nil
      go_simp
      (go_at_call 125; refine (HD.out _).mono ?_; rintro e w1 ⟨A1, rfl, n1, b1⟩)
      go_wp2_with fail
      refine hK.out _ _ (five_below (by exact hl) b1 hHeld) (fun hHeld => ?_)
      clear hK K
      (try simp only [Act.put, List.setIfInBounds_toArray, List.set_cons_zero, List.set_cons_succ])
      refine wpAnyH_ready (rs := [3]) (by kernel_rfl) (by simp) ?_
      refine AllReadyH.cons (o := { dst := some 6, op := Op.call { callee := Callee.value (Operand.func 124), args := #[Operand.tmp 5], argTypes := #[57] }, type := 4, pos := "vers.go:17", after := #[{ on := 2, ground := Ground.data }, { on := 2, ground := Ground.chain }], guard := none }) rfl (fun K hK => ?_) AllReadyH.nil
      go_simp
      (go_at_call 124; refine (H1.out _ _ n1).mono ?_; rintro e w2 ⟨rfl, b2⟩)
      go_wp2_with fail
      refine hK.out _ _ (five_below (Nat.lt_of_lt_of_le hl b1.size) b2 hHeld) (fun hHeld => ?_)
      clear hK K
      (try simp only [Act.put, List.setIfInBounds_toArray, List.set_cons_zero, List.set_cons_succ])
      refine wpAnyH_take (i := 4) (oi := { dst := some 7, op := Op.move (Operand.tmp 6), type := 4, pos := "vers.go:17", after := #[{ on := 3, ground := Ground.data }, { on := 3, ground := Ground.chain }], guard := none }) (v := ?va3) rfl (by kernel_rfl) (by kernel_rfl) (by kernel_rfl) (fun _ _ _ h => h) (Or.inl ⟨by rfl, ?hya3⟩) (by assumption) ?resta3
      case hya3 =>
       intro w hSw
       (try dsimp only at hSw)
       go_simp
       (try with_reducible rfl)
      (try simp only [Act.put, List.setIfInBounds_toArray, List.set_cons_zero, List.set_cons_succ])
      refine wpAnyH_take (i := 5) (oi := { dst := some 8, op := Op.fieldAddr 59 (Operand.tmp 1) 1, type := 0, pos := "vers.go:17", after := #[{ on := 4, ground := Ground.guard }], guard := some (4, true) }) (v := ?va4) rfl (by kernel_rfl) (by kernel_rfl) (by kernel_rfl) (fun _ _ _ h => h) (Or.inl ⟨by rfl, ?hya4⟩) (by assumption) ?resta4
      case hya4 =>
       intro w hSw
       (try dsimp only at hSw)
       go_simp
       (try with_reducible rfl)
      (try simp only [Act.put, List.setIfInBounds_toArray, List.set_cons_zero, List.set_cons_succ])
      refine wpAnyH_take (i := 6) (oi := { dst := some 9, op := Op.load 57 (Operand.tmp 8), type := 57, pos := "vers.go:17", after := #[{ on := 5, ground := Ground.data }, { on := 4, ground := Ground.guard }], guard := some (4, true) }) (v := ?va5) rfl (by kernel_rfl) (by kernel_rfl) (by kernel_rfl) (fun _ _ _ h => h) (Or.inl ⟨by rfl, ?hya5⟩) (by assumption) ?resta5
      case hya5 =>
       intro w hSw
       (try dsimp only at hSw)
       go_simp
       (try with_reducible rfl)
      (try simp only [Act.put, List.setIfInBounds_toArray, List.set_cons_zero, List.set_cons_succ])
      refine wpAnyH_ready (rs := [7]) (by kernel_rfl) (by simp) ?_
      refine AllReadyH.cons (o := { dst := some 10, op := Op.call { callee := Callee.value (Operand.func 124), args := #[Operand.tmp 9], argTypes := #[57] }, type := 4, pos := "vers.go:18", after := #[{ on := 6, ground := Ground.data }, { on := 4, ground := Ground.chain }, { on := 4, ground := Ground.guard }], guard := some (4, true) }) rfl (fun K hK => ?_) AllReadyH.nil
      go_simp
      (go_at_call 124; refine (H2.out _ (HP.out _ (B0.drew.trans ((b1.trans (b2.mono b1.size)).mono (Nat.le_of_lt hl))))).mono ?_; rintro e w3 ⟨rfl, b3⟩)
      go_wp2_with fail
      refine hK.out _ _ (five_below (Nat.lt_of_lt_of_le hl (Nat.le_trans b1.size b2.size)) b3 hHeld) (fun hHeld => ?_)
      clear hK K
      (try simp only [Act.put, List.setIfInBounds_toArray, List.set_cons_zero, List.set_cons_succ])
      refine wpAnyH_take (i := 8) (oi := { dst := some 11, op := Op.pick (Operand.tmp 7) (Operand.tmp 10) (Operand.const (Value.bool false)), type := 4, pos := "vers.go:17", after := #[{ on := 4, ground := Ground.data }, { on := 7, ground := Ground.data }], guard := none }) (v := ?va6) rfl (by kernel_rfl) (by kernel_rfl) (by kernel_rfl) (fun _ _ _ h => h) (Or.inl ⟨by rfl, ?hya6⟩) (by assumption) ?resta6
      case hya6 =>
       intro w hSw
       (try dsimp only at hSw)
       go_simp
       (try with_reducible rfl)
      (try simp only [Act.put, List.setIfInBounds_toArray, List.set_cons_zero, List.set_cons_succ])
      refine wpAnyH_take (i := 9) (oi := { dst := some 12, op := Op.move (Operand.tmp 11), type := 4, pos := "vers.go:17", after := #[{ on := 8, ground := Ground.data }, { on := 7, ground := Ground.chain }], guard := none }) (v := ?va7) rfl (by kernel_rfl) (by kernel_rfl) (by kernel_rfl) (fun _ _ _ h => h) (Or.inl ⟨by rfl, ?hya7⟩) (by assumption) ?resta7
      case hya7 =>
       intro w hSw
       (try dsimp only at hSw)
       go_simp
       (try with_reducible rfl)
      (try simp only [Act.put, List.setIfInBounds_toArray, List.set_cons_zero, List.set_cons_succ])
      refine wpAnyH_take (i := 10) (oi := { dst := some 13, op := Op.fieldAddr 59 (Operand.tmp 1) 1, type := 0, pos := "vers.go:17", after := #[{ on := 9, ground := Ground.guard }], guard := some (9, true) }) (v := ?va8) rfl (by kernel_rfl) (by kernel_rfl) (by kernel_rfl) (fun _ _ _ h => h) (Or.inl ⟨by rfl, ?hya8⟩) (by assumption) ?resta8
      case hya8 =>
       intro w hSw
       (try dsimp only at hSw)
       go_simp
       (try with_reducible rfl)
      (try simp only [Act.put, List.setIfInBounds_toArray, List.set_cons_zero, List.set_cons_succ])
      refine wpAnyH_take (i := 11) (oi := { dst := some 14, op := Op.load 57 (Operand.tmp 13), type := 57, pos := "vers.go:17", after := #[{ on := 10, ground := Ground.data }, { on := 9, ground := Ground.guard }], guard := some (9, true) }) (v := ?va9) rfl (by kernel_rfl) (by kernel_rfl) (by kernel_rfl) (fun _ _ _ h => h) (Or.inl ⟨by rfl, ?hya9⟩) (by assumption) ?resta9
      case hya9 =>
       intro w hSw
       (try dsimp only at hSw)
       go_simp
       (try with_reducible rfl)
      (try simp only [Act.put, List.setIfInBounds_toArray, List.set_cons_zero, List.set_cons_succ])
      refine wpAnyH_take (i := 12) (oi := { dst := some 15, op := Op.fieldAddr 59 (Operand.tmp 1) 0, type := 0, pos := "vers.go:17", after := #[{ on := 9, ground := Ground.guard }], guard := some (9, true) }) (v := ?va10) rfl (by kernel_rfl) (by kernel_rfl) (by kernel_rfl) (fun _ _ _ h => h) (Or.inl ⟨by rfl, ?hya10⟩) (by assumption) ?resta10
      case hya10 =>
       intro w hSw
       (try dsimp only at hSw)
       go_simp
       (try with_reducible rfl)
      (try simp only [Act.put, List.setIfInBounds_toArray, List.set_cons_zero, List.set_cons_succ])
      refine wpAnyH_take (i := 13) (oi := { dst := some 16, op := Op.fieldAddr 56 (Operand.tmp 15) 0, type := 0, pos := "vers.go:17", after := #[{ on := 12, ground := Ground.data }, { on := 9, ground := Ground.guard }], guard := some (9, true) }) (v := ?va11) rfl (by kernel_rfl) (by kernel_rfl) (by kernel_rfl) (fun _ _ _ h => h) (Or.inl ⟨by rfl, ?hya11⟩) (by assumption) ?resta11
      case hya11 =>
       intro w hSw
       (try dsimp only at hSw)
       go_simp
       (try with_reducible rfl)
      (try simp only [Act.put, List.setIfInBounds_toArray, List.set_cons_zero, List.set_cons_succ])
      refine wpAnyH_take (i := 14) (oi := { dst := some 17, op := Op.load 3 (Operand.tmp 16), type := 3, pos := "vers.go:17", after := #[{ on := 13, ground := Ground.data }, { on := 9, ground := Ground.guard }], guard := some (9, true) }) (v := ?va12) rfl (by kernel_rfl) (by kernel_rfl) (by kernel_rfl) (fun _ _ _ h => h) (Or.inl ⟨by rfl, ?hya12⟩) (by assumption) ?resta12
      case hya12 =>
       intro w hSw
       (try dsimp only at hSw)
       go_simp
       (try with_reducible rfl)
      (try simp only [Act.put, List.setIfInBounds_toArray, List.set_cons_zero, List.set_cons_succ])
      refine wpAnyH_take (i := 16) (oi := { dst := some 19, op := Op.fieldAddr 59 (Operand.tmp 1) 0, type := 0, pos := "vers.go:17", after := #[{ on := 9, ground := Ground.guard }], guard := some (9, true) }) (v := ?va13) rfl (by kernel_rfl) (by kernel_rfl) (by kernel_rfl) (fun _ _ _ h => h) (Or.inl ⟨by rfl, ?hya13⟩) (by assumption) ?resta13
      case hya13 =>
       intro w hSw
       (try dsimp only at hSw)
       go_simp
       (try with_reducible rfl)
      (try simp only [Act.put, List.setIfInBounds_toArray, List.set_cons_zero, List.set_cons_succ])
      refine wpAnyH_take (i := 17) (oi := { dst := some 20, op := Op.fieldAddr 56 (Operand.tmp 19) 1, type := 0, pos := "vers.go:17", after := #[{ on := 16, ground := Ground.data }, { on := 9, ground := Ground.guard }], guard := some (9, true) }) (v := ?va14) rfl (by kernel_rfl) (by kernel_rfl) (by kernel_rfl) (fun _ _ _ h => h) (Or.inl ⟨by rfl, ?hya14⟩) (by assumption) ?resta14
      case hya14 =>
       intro w hSw
       (try dsimp only at hSw)
       go_simp
       (try with_reducible rfl)
      (try simp only [Act.put, List.setIfInBounds_toArray, List.set_cons_zero, List.set_cons_succ])
      refine wpAnyH_take (i := 18) (oi := { dst := some 21, op := Op.load 2 (Operand.tmp 20), type := 2, pos := "vers.go:17", after := #[{ on := 17, ground := Ground.data }, { on := 9, ground := Ground.guard }], guard := some (9, true) }) (v := ?va15) rfl (by kernel_rfl) (by kernel_rfl) (by kernel_rfl) (fun _ _ _ h => h) (Or.inl ⟨by rfl, ?hya15⟩) (by assumption) ?resta15
      case hya15 =>
       intro w hSw
       (try dsimp only at hSw)
       go_simp
       (try with_reducible rfl)
      (try simp only [Act.put, List.setIfInBounds_toArray, List.set_cons_zero, List.set_cons_succ])
      refine wpAnyH_ready (rs := [15]) (by kernel_rfl) (by simp) ?_
      refine AllReadyH.cons (o := { dst := some 18, op := Op.call { callee := Callee.value (Operand.func 126), args := #[Operand.tmp 14, Operand.tmp 17], argTypes := #[57, 3] }, type := 2, pos := "vers.go:18", after := #[{ on := 11, ground := Ground.data }, { on := 14, ground := Ground.data }, { on := 9, ground := Ground.chain }, { on := 9, ground := Ground.guard }], guard := some (9, true) }) rfl (fun K hK => ?_) AllReadyH.nil
      go_simp
      (go_at_call 126; refine (H3.out _ (HP.out _ (B0.drew.trans ((b1.trans ((b2.trans (b3.mono b2.size)).mono b1.size)).mono (Nat.le_of_lt hl))))).mono ?_; rintro e w4 ⟨rfl, b4⟩)
      go_wp2_with fail
      refine hK.out _ _ (five_below (Nat.lt_of_lt_of_le hl (Nat.le_trans b1.size (Nat.le_trans b2.size b3.size))) b4 hHeld) (fun hHeld => ?_)
      clear hK K
      (try simp only [Act.put, List.setIfInBounds_toArray, List.set_cons_zero, List.set_cons_succ])
      refine wpAnyH_take (i := 19) (oi := { dst := some 22, op := Op.binOp BinOp.lss 2 (Operand.tmp 18) (Operand.tmp 21) 2, type := 4, pos := "vers.go:17", after := #[{ on := 15, ground := Ground.data }, { on := 18, ground := Ground.data }, { on := 9, ground := Ground.guard }], guard := some (9, true) }) (v := ?va16) rfl (by kernel_rfl) (by kernel_rfl) (by kernel_rfl) (fun _ _ _ h => h) (Or.inl ⟨by rfl, ?hya16⟩) (by assumption) ?resta16
      case hya16 =>
       intro w hSw
       (try dsimp only at hSw)
       go_simp
       (try with_reducible rfl)
      (try simp only [Act.put, List.setIfInBounds_toArray, List.set_cons_zero, List.set_cons_succ])
      refine wpAnyH_take (i := 20) (oi := { dst := some 23, op := Op.pick (Operand.tmp 12) (Operand.tmp 22) (Operand.const (Value.bool false)), type := 4, pos := "vers.go:17", after := #[{ on := 9, ground := Ground.data }, { on := 19, ground := Ground.data }], guard := none }) (v := ?va17) rfl (by kernel_rfl) (by kernel_rfl) (by kernel_rfl) (fun _ _ _ h => h) (Or.inl ⟨by rfl, ?hya17⟩) (by assumption) ?resta17
      case hya17 =>
       intro w hSw
       (try dsimp only at hSw)
       go_simp
       (try with_reducible rfl)
      (try simp only [Act.put, List.setIfInBounds_toArray, List.set_cons_zero, List.set_cons_succ])
      refine wpAnyH_take (i := 21) (oi := { dst := some 24, op := Op.move (Operand.tmp 23), type := 4, pos := "vers.go:17", after := #[{ on := 20, ground := Ground.data }, { on := 15, ground := Ground.chain }], guard := none }) (v := ?va18) rfl (by kernel_rfl) (by kernel_rfl) (by kernel_rfl) (fun _ _ _ h => h) (Or.inl ⟨by rfl, ?hya18⟩) (by assumption) ?resta18
      case hya18 =>
       intro w hSw
       (try dsimp only at hSw)
       go_simp
       (try with_reducible rfl)
      (try simp only [Act.put, List.setIfInBounds_toArray, List.set_cons_zero, List.set_cons_succ])
      refine wpAnyH_take (i := 22) (oi := { dst := some 25, op := Op.fieldAddr 59 (Operand.tmp 1) 3, type := 0, pos := "vers.go:17", after := #[{ on := 21, ground := Ground.guard }], guard := some (21, true) }) (v := ?va19) rfl (by kernel_rfl) (by kernel_rfl) (by kernel_rfl) (fun _ _ _ h => h) (Or.inl ⟨by rfl, ?hya19⟩) (by assumption) ?resta19
      case hya19 =>
       intro w hSw
       (try dsimp only at hSw)
       go_simp
       (try with_reducible rfl)
      (try simp only [Act.put, List.setIfInBounds_toArray, List.set_cons_zero, List.set_cons_succ])
      refine wpAnyH_take (i := 23) (oi := { dst := some 26, op := Op.load 9 (Operand.tmp 25), type := 9, pos := "vers.go:17", after := #[{ on := 22, ground := Ground.data }, { on := 21, ground := Ground.guard }], guard := some (21, true) }) (v := ?va20) rfl (by kernel_rfl) (by kernel_rfl) (by kernel_rfl) (fun _ _ _ h => h) (Or.inl ⟨by rfl, ?hya20⟩) (by assumption) ?resta20
      case hya20 =>
       intro w hSw
       (try dsimp only at hSw)
       go_simp
       (try with_reducible rfl)
      (try simp only [Act.put, List.setIfInBounds_toArray, List.set_cons_zero, List.set_cons_succ])
      refine wpAnyH_take (i := 24) (oi := { dst := some 27, op := Op.call { callee := Callee.builtin Builtin.len, args := #[Operand.tmp 26], argTypes := #[9] }, type := 3, pos := "vers.go:17", after := #[{ on := 23, ground := Ground.data }, { on := 21, ground := Ground.guard }], guard := some (21, true) }) (v := ?va21) rfl (by kernel_rfl) (by kernel_rfl) (by kernel_rfl) (fun _ _ _ h => h) (Or.inl ⟨by rfl, ?hya21⟩) (by assumption) ?resta21
      case hya21 =>
       intro w hSw
       (try dsimp only at hSw)
       go_simp
       (try with_reducible rfl)
      (try simp only [Act.put, List.setIfInBounds_toArray, List.set_cons_zero, List.set_cons_succ])
      refine wpAnyH_take (i := 25) (oi := { dst := some 28, op := Op.binOp BinOp.leq 3 (Operand.tmp 27) (Operand.const (Value.int IntKind.i64 256)) 3, type := 4, pos := "vers.go:17", after := #[{ on := 24, ground := Ground.data }, { on := 21, ground := Ground.guard }], guard := some (21, true) }) (v := ?va22) rfl (by kernel_rfl) (by kernel_rfl) (by kernel_rfl) (fun _ _ _ h => h) (Or.inl ⟨by rfl, ?hya22⟩) (by assumption) ?resta22
      case hya22 =>
       intro w hSw
       (try dsimp only at hSw)
       go_simp
       (try with_reducible rfl)
      (try simp only [Act.put, List.setIfInBounds_toArray, List.set_cons_zero, List.set_cons_succ])
      refine wpAnyH_take (i := 26) (oi := { dst := some 29, op := Op.pick (Operand.tmp 24) (Operand.tmp 28) (Operand.const (Value.bool false)), type := 4, pos := "vers.go:17", after := #[{ on := 21, ground := Ground.data }, { on := 25, ground := Ground.data }], guard := none }) (v := ?va23) rfl (by kernel_rfl) (by kernel_rfl) (by kernel_rfl) (fun _ _ _ h => h) (Or.inl ⟨by rfl, ?hya23⟩) (by assumption) ?resta23
      case hya23 =>
       intro w hSw
       (try dsimp only at hSw)
       go_simp
       (try with_reducible rfl)
      (try simp only [Act.put, List.setIfInBounds_toArray, List.set_cons_zero, List.set_cons_succ])
      refine wpAnyH_take (i := 27) (oi := { dst := some 30, op := Op.move (Operand.tmp 29), type := 4, pos := "vers.go:17", after := #[{ on := 26, ground := Ground.data }, { on := 21, ground := Ground.chain }], guard := none }) (v := ?va24) rfl (by kernel_rfl) (by kernel_rfl) (by kernel_rfl) (fun _ _ _ h => h) (Or.inl ⟨by rfl, ?hya24⟩) (by assumption) ?resta24
      case hya24 =>
       intro w hSw
       (try dsimp only at hSw)
       go_simp
       (try with_reducible rfl)
      (try simp only [Act.put, List.setIfInBounds_toArray, List.set_cons_zero, List.set_cons_succ])
      refine wpAnyH_take (i := 28) (oi := { dst := some 31, op := Op.fieldAddr 59 (Operand.tmp 1) 2, type := 0, pos := "vers.go:17", after := #[{ on := 27, ground := Ground.guard }], guard := some (27, true) }) (v := ?va25) rfl (by kernel_rfl) (by kernel_rfl) (by kernel_rfl) (fun _ _ _ h => h) (Or.inl ⟨by rfl, ?hya25⟩) (by assumption) ?resta25
      case hya25 =>
       intro w hSw
       (try dsimp only at hSw)
       go_simp
       (try with_reducible rfl)
      (try simp only [Act.put, List.setIfInBounds_toArray, List.set_cons_zero, List.set_cons_succ])
      refine wpAnyH_take (i := 29) (oi := { dst := some 32, op := Op.load 4 (Operand.tmp 31), type := 4, pos := "vers.go:17", after := #[{ on := 28, ground := Ground.data }, { on := 27, ground := Ground.guard }], guard := some (27, true) }) (v := ?va26) rfl (by kernel_rfl) (by kernel_rfl) (by kernel_rfl) (fun _ _ _ h => h) (Or.inl ⟨by rfl, ?hya26⟩) (by assumption) ?resta26
      case hya26 =>
       intro w hSw
       (try dsimp only at hSw)
       go_simp
       (try with_reducible rfl)
      (try simp only [Act.put, List.setIfInBounds_toArray, List.set_cons_zero, List.set_cons_succ])
      refine wpAnyH_take (i := 30) (oi := { dst := some 33, op := Op.unOp UnOp.not 4 (Operand.tmp 32), type := 4, pos := "vers.go:17", after := #[{ on := 29, ground := Ground.data }, { on := 27, ground := Ground.guard }], guard := some (27, true) }) (v := ?va27) rfl (by kernel_rfl) (by kernel_rfl) (by kernel_rfl) (fun _ _ _ h => h) (Or.inl ⟨by rfl, ?hya27⟩) (by assumption) ?resta27
      case hya27 =>
       intro w hSw
       (try dsimp only at hSw)
       go_simp
       (try with_reducible rfl)
      (try simp only [Act.put, List.setIfInBounds_toArray, List.set_cons_zero, List.set_cons_succ])
      refine wpAnyH_take (i := 31) (oi := { dst := some 34, op := Op.move (Operand.tmp 33), type := 4, pos := "vers.go:17", after := #[{ on := 30, ground := Ground.data }, { on := 27, ground := Ground.chain }, { on := 27, ground := Ground.guard }], guard := some (27, true) }) (v := ?va28) rfl (by kernel_rfl) (by kernel_rfl) (by kernel_rfl) (fun _ _ _ h => h) (Or.inl ⟨by rfl, ?hya28⟩) (by assumption) ?resta28
      case hya28 =>
       intro w hSw
       (try dsimp only at hSw)
       go_simp
       (try with_reducible rfl)
      (try simp only [Act.put, List.setIfInBounds_toArray, List.set_cons_zero, List.set_cons_succ])
      refine wpAnyH_take (i := 32) (oi := { dst := some 35, op := Op.fieldAddr 59 (Operand.tmp 1) 3, type := 0, pos := "vers.go:17", after := #[{ on := 31, ground := Ground.guard }], guard := some (31, false) }) (v := undef) rfl (by kernel_rfl) (by kernel_rfl) (by kernel_rfl) (fun _ _ _ h => h) (Or.inr ⟨by rfl, rfl⟩) (by assumption) ?_
      (try simp only [Act.put, List.setIfInBounds_toArray, List.set_cons_zero, List.set_cons_succ])
      refine wpAnyH_take (i := 33) (oi := { dst := some 36, op := Op.load 9 (Operand.tmp 35), type := 9, pos := "vers.go:17", after := #[{ on := 32, ground := Ground.data }, { on := 31, ground := Ground.guard }], guard := some (31, false) }) (v := undef) rfl (by kernel_rfl) (by kernel_rfl) (by kernel_rfl) (fun _ _ _ h => h) (Or.inr ⟨by rfl, rfl⟩) (by assumption) ?_
      (try simp only [Act.put, List.setIfInBounds_toArray, List.set_cons_zero, List.set_cons_succ])
      refine wpAnyH_take (i := 34) (oi := { dst := some 37, op := Op.binOp BinOp.eql 9 (Operand.tmp 36) (Operand.const (Value.string { data := #[] })) 9, type := 4, pos := "vers.go:17", after := #[{ on := 33, ground := Ground.data }, { on := 31, ground := Ground.guard }], guard := some (31, false) }) (v := undef) rfl (by kernel_rfl) (by kernel_rfl) (by kernel_rfl) (fun _ _ _ h => h) (Or.inr ⟨by rfl, rfl⟩) (by assumption) ?_
      (try simp only [Act.put, List.setIfInBounds_toArray, List.set_cons_zero, List.set_cons_succ])
      refine wpAnyH_take (i := 35) (oi := { dst := some 38, op := Op.pick (Operand.tmp 34) (Operand.const (Value.bool true)) (Operand.tmp 37), type := 4, pos := "vers.go:17", after := #[{ on := 31, ground := Ground.data }, { on := 34, ground := Ground.data }, { on := 27, ground := Ground.guard }], guard := some (27, true) }) (v := ?va32) rfl (by kernel_rfl) (by kernel_rfl) (by kernel_rfl) (fun _ _ _ h => h) (Or.inl ⟨by rfl, ?hya32⟩) (by assumption) ?resta32
      case hya32 =>
       intro w hSw
       (try dsimp only at hSw)
       go_simp
       (try with_reducible rfl)
      (try simp only [Act.put, List.setIfInBounds_toArray, List.set_cons_zero, List.set_cons_succ])
      refine wpAnyH_take (i := 36) (oi := { dst := some 39, op := Op.pick (Operand.tmp 30) (Operand.tmp 38) (Operand.const (Value.bool false)), type := 4, pos := "vers.go:17", after := #[{ on := 27, ground := Ground.data }, { on := 35, ground := Ground.data }], guard := none }) (v := ?va33) rfl (by kernel_rfl) (by kernel_rfl) (by kernel_rfl) (fun _ _ _ h => h) (Or.inl ⟨by rfl, ?hya33⟩) (by assumption) ?resta33
      case hya33 =>
       intro w hSw
       (try dsimp only at hSw)
       go_simp
       (try with_reducible rfl)
      (try simp only [Act.put, List.setIfInBounds_toArray, List.set_cons_zero, List.set_cons_succ])
      refine wpAnyH_take (i := 37) (oi := { dst := some 2, op := Op.assign (Operand.tmp 39), type := 4, pos := "vers.go:17", after := #[{ on := 36, ground := Ground.data }, { on := 31, ground := Ground.chain }, { on := 0, ground := Ground.phase }, { on := 1, ground := Ground.phase }, { on := 2, ground := Ground.phase }, { on := 3, ground := Ground.phase }, { on := 4, ground := Ground.phase }, { on := 5, ground := Ground.phase }, { on := 6, ground := Ground.phase }, { on := 7, ground := Ground.phase }, { on := 8, ground := Ground.phase }, { on := 9, ground := Ground.phase }, { on := 10, ground := Ground.phase }, { on := 11, ground := Ground.phase }, { on := 12, ground := Ground.phase }, { on := 13, ground := Ground.phase }, { on := 14, ground := Ground.phase }, { on := 15, ground := Ground.phase }, { on := 16, ground := Ground.phase }, { on := 17, ground := Ground.phase }, { on := 18, ground := Ground.phase }, { on := 19, ground := Ground.phase }, { on := 20, ground := Ground.phase }, { on := 21, ground := Ground.phase }, { on := 22, ground := Ground.phase }, { on := 23, ground := Ground.phase }, { on := 24, ground := Ground.phase }, { on := 25, ground := Ground.phase }, { on := 26, ground := Ground.phase }, { on := 27, ground := Ground.phase }, { on := 28, ground := Ground.phase }, { on := 29, ground := Ground.phase }, { on := 30, ground := Ground.phase }, { on := 31, ground := Ground.phase }, { on := 32, ground := Ground.phase }, { on := 33, ground := Ground.phase }, { on := 34, ground := Ground.phase }, { on := 35, ground := Ground.phase }, { on := 36, ground := Ground.phase }], guard := none }) (v := ?va34) rfl (by kernel_rfl) (by kernel_rfl) (by kernel_rfl) (fun _ _ _ h => h) (Or.inl ⟨by rfl, ?hya34⟩) (by assumption) ?resta34
      case hya34 =>
       intro w hSw
       (try dsimp only at hSw)
       go_simp
       (try with_reducible rfl)
      (try simp only [Act.put, List.setIfInBounds_toArray, List.set_cons_zero, List.set_cons_succ])
      refine wpAnyH_done (by kernel_rfl) ?_ _
      have BE := FI.out _ (B0.drew.trans ((b1.trans ((b2.trans ((b3.trans (b4.mono b3.size)).mono b2.size)).mono b1.size)).mono (Nat.le_of_lt hl)))
      clear b1 b2 b3 b4 B0 FI HP
      go_wp2
      go_ret
      exact ⟨by rw [HF.out]; rfl, BE⟩
     ·obtain ⟨E, hE⟩ : ∃ E, val.toList.isEmpty = E := ⟨_, rfl⟩
      have HF := Lib.hid (show R = E by
       rw [← hR, ← hE, val_empty]
       by_cases h : val = ⟨#[]⟩
       ·rw [decide_eq_true h]; exact decide_eq_true (hok.2 ⟨cA, cB, cC, cD, fun _ => h⟩)
       ·rw [decide_eq_false h]; exact decide_eq_false fun k => h ((hok.1 k).2.2.2.2 rfl))
      clear h1 h2 hok hR cA cB cC cD
      refine wp_region_held_drew (S := (fun V => V.cell? ⟨m, 0, none⟩ = some (.int .i64 s) ∧ V.cell? ⟨m, 1, none⟩ = some (.int .i64 n) ∧ V.cell? ⟨m, 2, none⟩ = some (.slice A k c) ∧ V.cell? ⟨m, 3, none⟩ = some (.bool true) ∧ V.cell? ⟨m, 4, none⟩ = some (.string val))) (by kernel_rfl) d0 (fun hHeld => ?_)
      refine wpAnyH_take (i := 0) (oi := { dst := some 3, op := Op.fieldAddr 59 (Operand.tmp 1) 0, type := 0, pos := "vers.go:17", after := #[], guard := none }) (v := ?vb1) rfl (by kernel_rfl) (by kernel_rfl) (by kernel_rfl) (fun _ _ _ h => h) (Or.inl ⟨by rfl, ?hyb1⟩) (by assumption) ?restb1
      case hyb1 =>
       intro w hSw
       (try dsimp only at hSw)
       go_simp
       (try with_reducible rfl)
      (try simp only [Act.put, List.setIfInBounds_toArray, List.set_cons_zero, List.set_cons_succ])
      refine wpAnyH_take (i := 1) (oi := { dst := some 4, op := Op.load 56 (Operand.tmp 3), type := 56, pos := "vers.go:17", after := #[{ on := 0, ground := Ground.data }], guard := none }) (v := ?vb2) rfl (by kernel_rfl) (by kernel_rfl) (by kernel_rfl) (fun _ _ _ h => h) (Or.inl ⟨by rfl, ?hyb2⟩) (by assumption) ?restb2
      case hyb2 =>
       intro w hSw
       (try dsimp only at hSw)
       go_simp
       (try with_reducible rfl)
      (try simp only [Act.put, List.setIfInBounds_toArray, List.set_cons_zero, List.set_cons_succ])
      refine wpAnyH_ready (rs := [2]) (by kernel_rfl) (by simp) ?_
      refine AllReadyH.cons (o := { dst := some 5, op := Op.call { callee := Callee.value (Operand.func 125), args := #[Operand.tmp 4], argTypes := #[56] }, type := 57, pos := "vers.go:17", after := #[{ on := 1, ground := Ground.data }], guard := none }) rfl (fun K hK => ?_) AllReadyH.nil
      go_simp
      (go_at_call 125; refine (HD.out _).mono ?_; rintro e w1 ⟨A1, rfl, n1, b1⟩)
      go_wp2_with fail
      refine hK.out _ _ (five_below (by exact hl) b1 hHeld) (fun hHeld => ?_)
      clear hK K
      (try simp only [Act.put, List.setIfInBounds_toArray, List.set_cons_zero, List.set_cons_succ])
      refine wpAnyH_ready (rs := [3]) (by kernel_rfl) (by simp) ?_
      refine AllReadyH.cons (o := { dst := some 6, op := Op.call { callee := Callee.value (Operand.func 124), args := #[Operand.tmp 5], argTypes := #[57] }, type := 4, pos := "vers.go:17", after := #[{ on := 2, ground := Ground.data }, { on := 2, ground := Ground.chain }], guard := none }) rfl (fun K hK => ?_) AllReadyH.nil
      go_simp
      (go_at_call 124; refine (H1.out _ _ n1).mono ?_; rintro e w2 ⟨rfl, b2⟩)
      go_wp2_with fail
      refine hK.out _ _ (five_below (Nat.lt_of_lt_of_le hl b1.size) b2 hHeld) (fun hHeld => ?_)
      clear hK K
      (try simp only [Act.put, List.setIfInBounds_toArray, List.set_cons_zero, List.set_cons_succ])
      refine wpAnyH_take (i := 4) (oi := { dst := some 7, op := Op.move (Operand.tmp 6), type := 4, pos := "vers.go:17", after := #[{ on := 3, ground := Ground.data }, { on := 3, ground := Ground.chain }], guard := none }) (v := ?vb3) rfl (by kernel_rfl) (by kernel_rfl) (by kernel_rfl) (fun _ _ _ h => h) (Or.inl ⟨by rfl, ?hyb3⟩) (by assumption) ?restb3
      case hyb3 =>
       intro w hSw
       (try dsimp only at hSw)
       go_simp
       (try with_reducible rfl)
      (try simp only [Act.put, List.setIfInBounds_toArray, List.set_cons_zero, List.set_cons_succ])
      refine wpAnyH_take (i := 5) (oi := { dst := some 8, op := Op.fieldAddr 59 (Operand.tmp 1) 1, type := 0, pos := "vers.go:17", after := #[{ on := 4, ground := Ground.guard }], guard := some (4, true) }) (v := ?vb4) rfl (by kernel_rfl) (by kernel_rfl) (by kernel_rfl) (fun _ _ _ h => h) (Or.inl ⟨by rfl, ?hyb4⟩) (by assumption) ?restb4
      case hyb4 =>
       intro w hSw
       (try dsimp only at hSw)
       go_simp
       (try with_reducible rfl)
      (try simp only [Act.put, List.setIfInBounds_toArray, List.set_cons_zero, List.set_cons_succ])
      refine wpAnyH_take (i := 6) (oi := { dst := some 9, op := Op.load 57 (Operand.tmp 8), type := 57, pos := "vers.go:17", after := #[{ on := 5, ground := Ground.data }, { on := 4, ground := Ground.guard }], guard := some (4, true) }) (v := ?vb5) rfl (by kernel_rfl) (by kernel_rfl) (by kernel_rfl) (fun _ _ _ h => h) (Or.inl ⟨by rfl, ?hyb5⟩) (by assumption) ?restb5
      case hyb5 =>
       intro w hSw
       (try dsimp only at hSw)
       go_simp
       (try with_reducible rfl)
      (try simp only [Act.put, List.setIfInBounds_toArray, List.set_cons_zero, List.set_cons_succ])
      refine wpAnyH_ready (rs := [7]) (by kernel_rfl) (by simp) ?_
      refine AllReadyH.cons (o := { dst := some 10, op := Op.call { callee := Callee.value (Operand.func 124), args := #[Operand.tmp 9], argTypes := #[57] }, type := 4, pos := "vers.go:18", after := #[{ on := 6, ground := Ground.data }, { on := 4, ground := Ground.chain }, { on := 4, ground := Ground.guard }], guard := some (4, true) }) rfl (fun K hK => ?_) AllReadyH.nil
      go_simp
      (go_at_call 124; refine (H2.out _ (HP.out _ (B0.drew.trans ((b1.trans (b2.mono b1.size)).mono (Nat.le_of_lt hl))))).mono ?_; rintro e w3 ⟨rfl, b3⟩)
      go_wp2_with fail
      refine hK.out _ _ (five_below (Nat.lt_of_lt_of_le hl (Nat.le_trans b1.size b2.size)) b3 hHeld) (fun hHeld => ?_)
      clear hK K
      (try simp only [Act.put, List.setIfInBounds_toArray, List.set_cons_zero, List.set_cons_succ])
      refine wpAnyH_take (i := 8) (oi := { dst := some 11, op := Op.pick (Operand.tmp 7) (Operand.tmp 10) (Operand.const (Value.bool false)), type := 4, pos := "vers.go:17", after := #[{ on := 4, ground := Ground.data }, { on := 7, ground := Ground.data }], guard := none }) (v := ?vb6) rfl (by kernel_rfl) (by kernel_rfl) (by kernel_rfl) (fun _ _ _ h => h) (Or.inl ⟨by rfl, ?hyb6⟩) (by assumption) ?restb6
      case hyb6 =>
       intro w hSw
       (try dsimp only at hSw)
       go_simp
       (try with_reducible rfl)
      (try simp only [Act.put, List.setIfInBounds_toArray, List.set_cons_zero, List.set_cons_succ])
      refine wpAnyH_take (i := 9) (oi := { dst := some 12, op := Op.move (Operand.tmp 11), type := 4, pos := "vers.go:17", after := #[{ on := 8, ground := Ground.data }, { on := 7, ground := Ground.chain }], guard := none }) (v := ?vb7) rfl (by kernel_rfl) (by kernel_rfl) (by kernel_rfl) (fun _ _ _ h => h) (Or.inl ⟨by rfl, ?hyb7⟩) (by assumption) ?restb7
      case hyb7 =>
       intro w hSw
       (try dsimp only at hSw)
       go_simp
       (try with_reducible rfl)
      (try simp only [Act.put, List.setIfInBounds_toArray, List.set_cons_zero, List.set_cons_succ])
      refine wpAnyH_take (i := 10) (oi := { dst := some 13, op := Op.fieldAddr 59 (Operand.tmp 1) 1, type := 0, pos := "vers.go:17", after := #[{ on := 9, ground := Ground.guard }], guard := some (9, true) }) (v := ?vb8) rfl (by kernel_rfl) (by kernel_rfl) (by kernel_rfl) (fun _ _ _ h => h) (Or.inl ⟨by rfl, ?hyb8⟩) (by assumption) ?restb8
      case hyb8 =>
       intro w hSw
       (try dsimp only at hSw)
       go_simp
       (try with_reducible rfl)
      (try simp only [Act.put, List.setIfInBounds_toArray, List.set_cons_zero, List.set_cons_succ])
      refine wpAnyH_take (i := 11) (oi := { dst := some 14, op := Op.load 57 (Operand.tmp 13), type := 57, pos := "vers.go:17", after := #[{ on := 10, ground := Ground.data }, { on := 9, ground := Ground.guard }], guard := some (9, true) }) (v := ?vb9) rfl (by kernel_rfl) (by kernel_rfl) (by kernel_rfl) (fun _ _ _ h => h) (Or.inl ⟨by rfl, ?hyb9⟩) (by assumption) ?restb9
      case hyb9 =>
       intro w hSw
       (try dsimp only at hSw)
       go_simp
       (try with_reducible rfl)
      (try simp only [Act.put, List.setIfInBounds_toArray, List.set_cons_zero, List.set_cons_succ])
      refine wpAnyH_take (i := 12) (oi := { dst := some 15, op := Op.fieldAddr 59 (Operand.tmp 1) 0, type := 0, pos := "vers.go:17", after := #[{ on := 9, ground := Ground.guard }], guard := some (9, true) }) (v := ?vb10) rfl (by kernel_rfl) (by kernel_rfl) (by kernel_rfl) (fun _ _ _ h => h) (Or.inl ⟨by rfl, ?hyb10⟩) (by assumption) ?restb10
      case hyb10 =>
       intro w hSw
       (try dsimp only at hSw)
       go_simp
       (try with_reducible rfl)
      (try simp only [Act.put, List.setIfInBounds_toArray, List.set_cons_zero, List.set_cons_succ])
      refine wpAnyH_take (i := 13) (oi := { dst := some 16, op := Op.fieldAddr 56 (Operand.tmp 15) 0, type := 0, pos := "vers.go:17", after := #[{ on := 12, ground := Ground.data }, { on := 9, ground := Ground.guard }], guard := some (9, true) }) (v := ?vb11) rfl (by kernel_rfl) (by kernel_rfl) (by kernel_rfl) (fun _ _ _ h => h) (Or.inl ⟨by rfl, ?hyb11⟩) (by assumption) ?restb11
      case hyb11 =>
       intro w hSw
       (try dsimp only at hSw)
       go_simp
       (try with_reducible rfl)
      (try simp only [Act.put, List.setIfInBounds_toArray, List.set_cons_zero, List.set_cons_succ])
      refine wpAnyH_take (i := 14) (oi := { dst := some 17, op := Op.load 3 (Operand.tmp 16), type := 3, pos := "vers.go:17", after := #[{ on := 13, ground := Ground.data }, { on := 9, ground := Ground.guard }], guard := some (9, true) }) (v := ?vb12) rfl (by kernel_rfl) (by kernel_rfl) (by kernel_rfl) (fun _ _ _ h => h) (Or.inl ⟨by rfl, ?hyb12⟩) (by assumption) ?restb12
      case hyb12 =>
       intro w hSw
       (try dsimp only at hSw)
       go_simp
       (try with_reducible rfl)
      (try simp only [Act.put, List.setIfInBounds_toArray, List.set_cons_zero, List.set_cons_succ])
      refine wpAnyH_take (i := 16) (oi := { dst := some 19, op := Op.fieldAddr 59 (Operand.tmp 1) 0, type := 0, pos := "vers.go:17", after := #[{ on := 9, ground := Ground.guard }], guard := some (9, true) }) (v := ?vb13) rfl (by kernel_rfl) (by kernel_rfl) (by kernel_rfl) (fun _ _ _ h => h) (Or.inl ⟨by rfl, ?hyb13⟩) (by assumption) ?restb13
      case hyb13 =>
       intro w hSw
       (try dsimp only at hSw)
       go_simp
       (try with_reducible rfl)
      (try simp only [Act.put, List.setIfInBounds_toArray, List.set_cons_zero, List.set_cons_succ])
      refine wpAnyH_take (i := 17) (oi := { dst := some 20, op := Op.fieldAddr 56 (Operand.tmp 19) 1, type := 0, pos := "vers.go:17", after := #[{ on := 16, ground := Ground.data }, { on := 9, ground := Ground.guard }], guard := some (9, true) }) (v := ?vb14) rfl (by kernel_rfl) (by kernel_rfl) (by kernel_rfl) (fun _ _ _ h => h) (Or.inl ⟨by rfl, ?hyb14⟩) (by assumption) ?restb14
      case hyb14 =>
       intro w hSw
       (try dsimp only at hSw)
       go_simp
       (try with_reducible rfl)
      (try simp only [Act.put, List.setIfInBounds_toArray, List.set_cons_zero, List.set_cons_succ])
      refine wpAnyH_take (i := 18) (oi := { dst := some 21, op := Op.load 2 (Operand.tmp 20), type := 2, pos := "vers.go:17", after := #[{ on := 17, ground := Ground.data }, { on := 9, ground := Ground.guard }], guard := some (9, true) }) (v := ?vb15) rfl (by kernel_rfl) (by kernel_rfl) (by kernel_rfl) (fun _ _ _ h => h) (Or.inl ⟨by rfl, ?hyb15⟩) (by assumption) ?restb15
      case hyb15 =>
       intro w hSw
       (try dsimp only at hSw)
       go_simp
       (try with_reducible rfl)
      (try simp only [Act.put, List.setIfInBounds_toArray, List.set_cons_zero, List.set_cons_succ])
      refine wpAnyH_ready (rs := [15]) (by kernel_rfl) (by simp) ?_
      refine AllReadyH.cons (o := { dst := some 18, op := Op.call { callee := Callee.value (Operand.func 126), args := #[Operand.tmp 14, Operand.tmp 17], argTypes := #[57, 3] }, type := 2, pos := "vers.go:18", after := #[{ on := 11, ground := Ground.data }, { on := 14, ground := Ground.data }, { on := 9, ground := Ground.chain }, { on := 9, ground := Ground.guard }], guard := some (9, true) }) rfl (fun K hK => ?_) AllReadyH.nil
      go_simp
      (go_at_call 126; refine (H3.out _ (HP.out _ (B0.drew.trans ((b1.trans ((b2.trans (b3.mono b2.size)).mono b1.size)).mono (Nat.le_of_lt hl))))).mono ?_; rintro e w4 ⟨rfl, b4⟩)
      go_wp2_with fail
      refine hK.out _ _ (five_below (Nat.lt_of_lt_of_le hl (Nat.le_trans b1.size (Nat.le_trans b2.size b3.size))) b4 hHeld) (fun hHeld => ?_)
      clear hK K
      (try simp only [Act.put, List.setIfInBounds_toArray, List.set_cons_zero, List.set_cons_succ])
      refine wpAnyH_take (i := 19) (oi := { dst := some 22, op := Op.binOp BinOp.lss 2 (Operand.tmp 18) (Operand.tmp 21) 2, type := 4, pos := "vers.go:17", after := #[{ on := 15, ground := Ground.data }, { on := 18, ground := Ground.data }, { on := 9, ground := Ground.guard }], guard := some (9, true) }) (v := ?vb16) rfl (by kernel_rfl) (by kernel_rfl) (by kernel_rfl) (fun _ _ _ h => h) (Or.inl ⟨by rfl, ?hyb16⟩) (by assumption) ?restb16
      case hyb16 =>
       intro w hSw
       (try dsimp only at hSw)
       go_simp
       (try with_reducible rfl)
      (try simp only [Act.put, List.setIfInBounds_toArray, List.set_cons_zero, List.set_cons_succ])
      refine wpAnyH_take (i := 20) (oi := { dst := some 23, op := Op.pick (Operand.tmp 12) (Operand.tmp 22) (Operand.const (Value.bool false)), type := 4, pos := "vers.go:17", after := #[{ on := 9, ground := Ground.data }, { on := 19, ground := Ground.data }], guard := none }) (v := ?vb17) rfl (by kernel_rfl) (by kernel_rfl) (by kernel_rfl) (fun _ _ _ h => h) (Or.inl ⟨by rfl, ?hyb17⟩) (by assumption) ?restb17
      case hyb17 =>
       intro w hSw
       (try dsimp only at hSw)
       go_simp
       (try with_reducible rfl)
      (try simp only [Act.put, List.setIfInBounds_toArray, List.set_cons_zero, List.set_cons_succ])
      refine wpAnyH_take (i := 21) (oi := { dst := some 24, op := Op.move (Operand.tmp 23), type := 4, pos := "vers.go:17", after := #[{ on := 20, ground := Ground.data }, { on := 15, ground := Ground.chain }], guard := none }) (v := ?vb18) rfl (by kernel_rfl) (by kernel_rfl) (by kernel_rfl) (fun _ _ _ h => h) (Or.inl ⟨by rfl, ?hyb18⟩) (by assumption) ?restb18
      case hyb18 =>
       intro w hSw
       (try dsimp only at hSw)
       go_simp
       (try with_reducible rfl)
      (try simp only [Act.put, List.setIfInBounds_toArray, List.set_cons_zero, List.set_cons_succ])
      refine wpAnyH_take (i := 22) (oi := { dst := some 25, op := Op.fieldAddr 59 (Operand.tmp 1) 3, type := 0, pos := "vers.go:17", after := #[{ on := 21, ground := Ground.guard }], guard := some (21, true) }) (v := ?vb19) rfl (by kernel_rfl) (by kernel_rfl) (by kernel_rfl) (fun _ _ _ h => h) (Or.inl ⟨by rfl, ?hyb19⟩) (by assumption) ?restb19
      case hyb19 =>
       intro w hSw
       (try dsimp only at hSw)
       go_simp
       (try with_reducible rfl)
      (try simp only [Act.put, List.setIfInBounds_toArray, List.set_cons_zero, List.set_cons_succ])
      refine wpAnyH_take (i := 23) (oi := { dst := some 26, op := Op.load 9 (Operand.tmp 25), type := 9, pos := "vers.go:17", after := #[{ on := 22, ground := Ground.data }, { on := 21, ground := Ground.guard }], guard := some (21, true) }) (v := ?vb20) rfl (by kernel_rfl) (by kernel_rfl) (by kernel_rfl) (fun _ _ _ h => h) (Or.inl ⟨by rfl, ?hyb20⟩) (by assumption) ?restb20
      case hyb20 =>
       intro w hSw
       (try dsimp only at hSw)
       go_simp
       (try with_reducible rfl)
      (try simp only [Act.put, List.setIfInBounds_toArray, List.set_cons_zero, List.set_cons_succ])
      refine wpAnyH_take (i := 24) (oi := { dst := some 27, op := Op.call { callee := Callee.builtin Builtin.len, args := #[Operand.tmp 26], argTypes := #[9] }, type := 3, pos := "vers.go:17", after := #[{ on := 23, ground := Ground.data }, { on := 21, ground := Ground.guard }], guard := some (21, true) }) (v := ?vb21) rfl (by kernel_rfl) (by kernel_rfl) (by kernel_rfl) (fun _ _ _ h => h) (Or.inl ⟨by rfl, ?hyb21⟩) (by assumption) ?restb21
      case hyb21 =>
       intro w hSw
       (try dsimp only at hSw)
       go_simp
       (try with_reducible rfl)
      (try simp only [Act.put, List.setIfInBounds_toArray, List.set_cons_zero, List.set_cons_succ])
      refine wpAnyH_take (i := 25) (oi := { dst := some 28, op := Op.binOp BinOp.leq 3 (Operand.tmp 27) (Operand.const (Value.int IntKind.i64 256)) 3, type := 4, pos := "vers.go:17", after := #[{ on := 24, ground := Ground.data }, { on := 21, ground := Ground.guard }], guard := some (21, true) }) (v := ?vb22) rfl (by kernel_rfl) (by kernel_rfl) (by kernel_rfl) (fun _ _ _ h => h) (Or.inl ⟨by rfl, ?hyb22⟩) (by assumption) ?restb22
      case hyb22 =>
       intro w hSw
       (try dsimp only at hSw)
       go_simp
       (try with_reducible rfl)
      (try simp only [Act.put, List.setIfInBounds_toArray, List.set_cons_zero, List.set_cons_succ])
      refine wpAnyH_take (i := 26) (oi := { dst := some 29, op := Op.pick (Operand.tmp 24) (Operand.tmp 28) (Operand.const (Value.bool false)), type := 4, pos := "vers.go:17", after := #[{ on := 21, ground := Ground.data }, { on := 25, ground := Ground.data }], guard := none }) (v := ?vb23) rfl (by kernel_rfl) (by kernel_rfl) (by kernel_rfl) (fun _ _ _ h => h) (Or.inl ⟨by rfl, ?hyb23⟩) (by assumption) ?restb23
      case hyb23 =>
       intro w hSw
       (try dsimp only at hSw)
       go_simp
       (try with_reducible rfl)
      (try simp only [Act.put, List.setIfInBounds_toArray, List.set_cons_zero, List.set_cons_succ])
      refine wpAnyH_take (i := 27) (oi := { dst := some 30, op := Op.move (Operand.tmp 29), type := 4, pos := "vers.go:17", after := #[{ on := 26, ground := Ground.data }, { on := 21, ground := Ground.chain }], guard := none }) (v := ?vb24) rfl (by kernel_rfl) (by kernel_rfl) (by kernel_rfl) (fun _ _ _ h => h) (Or.inl ⟨by rfl, ?hyb24⟩) (by assumption) ?restb24
      case hyb24 =>
       intro w hSw
       (try dsimp only at hSw)
       go_simp
       (try with_reducible rfl)
      (try simp only [Act.put, List.setIfInBounds_toArray, List.set_cons_zero, List.set_cons_succ])
      refine wpAnyH_take (i := 28) (oi := { dst := some 31, op := Op.fieldAddr 59 (Operand.tmp 1) 2, type := 0, pos := "vers.go:17", after := #[{ on := 27, ground := Ground.guard }], guard := some (27, true) }) (v := ?vb25) rfl (by kernel_rfl) (by kernel_rfl) (by kernel_rfl) (fun _ _ _ h => h) (Or.inl ⟨by rfl, ?hyb25⟩) (by assumption) ?restb25
      case hyb25 =>
       intro w hSw
       (try dsimp only at hSw)
       go_simp
       (try with_reducible rfl)
      (try simp only [Act.put, List.setIfInBounds_toArray, List.set_cons_zero, List.set_cons_succ])
      refine wpAnyH_take (i := 29) (oi := { dst := some 32, op := Op.load 4 (Operand.tmp 31), type := 4, pos := "vers.go:17", after := #[{ on := 28, ground := Ground.data }, { on := 27, ground := Ground.guard }], guard := some (27, true) }) (v := ?vb26) rfl (by kernel_rfl) (by kernel_rfl) (by kernel_rfl) (fun _ _ _ h => h) (Or.inl ⟨by rfl, ?hyb26⟩) (by assumption) ?restb26
      case hyb26 =>
       intro w hSw
       (try dsimp only at hSw)
       go_simp
       (try with_reducible rfl)
      (try simp only [Act.put, List.setIfInBounds_toArray, List.set_cons_zero, List.set_cons_succ])
      refine wpAnyH_take (i := 30) (oi := { dst := some 33, op := Op.unOp UnOp.not 4 (Operand.tmp 32), type := 4, pos := "vers.go:17", after := #[{ on := 29, ground := Ground.data }, { on := 27, ground := Ground.guard }], guard := some (27, true) }) (v := ?vb27) rfl (by kernel_rfl) (by kernel_rfl) (by kernel_rfl) (fun _ _ _ h => h) (Or.inl ⟨by rfl, ?hyb27⟩) (by assumption) ?restb27
      case hyb27 =>
       intro w hSw
       (try dsimp only at hSw)
       go_simp
       (try with_reducible rfl)
      (try simp only [Act.put, List.setIfInBounds_toArray, List.set_cons_zero, List.set_cons_succ])
      refine wpAnyH_take (i := 31) (oi := { dst := some 34, op := Op.move (Operand.tmp 33), type := 4, pos := "vers.go:17", after := #[{ on := 30, ground := Ground.data }, { on := 27, ground := Ground.chain }, { on := 27, ground := Ground.guard }], guard := some (27, true) }) (v := ?vb28) rfl (by kernel_rfl) (by kernel_rfl) (by kernel_rfl) (fun _ _ _ h => h) (Or.inl ⟨by rfl, ?hyb28⟩) (by assumption) ?restb28
      case hyb28 =>
       intro w hSw
       (try dsimp only at hSw)
       go_simp
       (try with_reducible rfl)
      (try simp only [Act.put, List.setIfInBounds_toArray, List.set_cons_zero, List.set_cons_succ])
      refine wpAnyH_take (i := 32) (oi := { dst := some 35, op := Op.fieldAddr 59 (Operand.tmp 1) 3, type := 0, pos := "vers.go:17", after := #[{ on := 31, ground := Ground.guard }], guard := some (31, false) }) (v := ?vb29) rfl (by kernel_rfl) (by kernel_rfl) (by kernel_rfl) (fun _ _ _ h => h) (Or.inl ⟨by rfl, ?hyb29⟩) (by assumption) ?restb29
      case hyb29 =>
       intro w hSw
       (try dsimp only at hSw)
       go_simp
       (try with_reducible rfl)
      (try simp only [Act.put, List.setIfInBounds_toArray, List.set_cons_zero, List.set_cons_succ])
      refine wpAnyH_take (i := 33) (oi := { dst := some 36, op := Op.load 9 (Operand.tmp 35), type := 9, pos := "vers.go:17", after := #[{ on := 32, ground := Ground.data }, { on := 31, ground := Ground.guard }], guard := some (31, false) }) (v := ?vb30) rfl (by kernel_rfl) (by kernel_rfl) (by kernel_rfl) (fun _ _ _ h => h) (Or.inl ⟨by rfl, ?hyb30⟩) (by assumption) ?restb30
      case hyb30 =>
       intro w hSw
       (try dsimp only at hSw)
       go_simp
       (try with_reducible rfl)
      (try simp only [Act.put, List.setIfInBounds_toArray, List.set_cons_zero, List.set_cons_succ])
      refine wpAnyH_take (i := 34) (oi := { dst := some 37, op := Op.binOp BinOp.eql 9 (Operand.tmp 36) (Operand.const (Value.string { data := #[] })) 9, type := 4, pos := "vers.go:17", after := #[{ on := 33, ground := Ground.data }, { on := 31, ground := Ground.guard }], guard := some (31, false) }) (v := ?vb31) rfl (by kernel_rfl) (by kernel_rfl) (by kernel_rfl) (fun _ _ _ h => h) (Or.inl ⟨by rfl, ?hyb31⟩) (by assumption) ?restb31
      case hyb31 =>
       intro w hSw
       (try dsimp only at hSw)
       go_simp
       (try with_reducible rfl)
      (try simp only [Act.put, List.setIfInBounds_toArray, List.set_cons_zero, List.set_cons_succ])
      refine wpAnyH_take (i := 35) (oi := { dst := some 38, op := Op.pick (Operand.tmp 34) (Operand.const (Value.bool true)) (Operand.tmp 37), type := 4, pos := "vers.go:17", after := #[{ on := 31, ground := Ground.data }, { on := 34, ground := Ground.data }, { on := 27, ground := Ground.guard }], guard := some (27, true) }) (v := ?vb32) rfl (by kernel_rfl) (by kernel_rfl) (by kernel_rfl) (fun _ _ _ h => h) (Or.inl ⟨by rfl, ?hyb32⟩) (by assumption) ?restb32
      case hyb32 =>
       intro w hSw
       (try dsimp only at hSw)
       go_simp
       (try with_reducible rfl)
      (try simp only [Act.put, List.setIfInBounds_toArray, List.set_cons_zero, List.set_cons_succ])
      refine wpAnyH_take (i := 36) (oi := { dst := some 39, op := Op.pick (Operand.tmp 30) (Operand.tmp 38) (Operand.const (Value.bool false)), type := 4, pos := "vers.go:17", after := #[{ on := 27, ground := Ground.data }, { on := 35, ground := Ground.data }], guard := none }) (v := ?vb33) rfl (by kernel_rfl) (by kernel_rfl) (by kernel_rfl) (fun _ _ _ h => h) (Or.inl ⟨by rfl, ?hyb33⟩) (by assumption) ?restb33
      case hyb33 =>
       intro w hSw
       (try dsimp only at hSw)
       go_simp
       (try with_reducible rfl)
      (try simp only [Act.put, List.setIfInBounds_toArray, List.set_cons_zero, List.set_cons_succ])
      refine wpAnyH_take (i := 37) (oi := { dst := some 2, op := Op.assign (Operand.tmp 39), type := 4, pos := "vers.go:17", after := #[{ on := 36, ground := Ground.data }, { on := 31, ground := Ground.chain }, { on := 0, ground := Ground.phase }, { on := 1, ground := Ground.phase }, { on := 2, ground := Ground.phase }, { on := 3, ground := Ground.phase }, { on := 4, ground := Ground.phase }, { on := 5, ground := Ground.phase }, { on := 6, ground := Ground.phase }, { on := 7, ground := Ground.phase }, { on := 8, ground := Ground.phase }, { on := 9, ground := Ground.phase }, { on := 10, ground := Ground.phase }, { on := 11, ground := Ground.phase }, { on := 12, ground := Ground.phase }, { on := 13, ground := Ground.phase }, { on := 14, ground := Ground.phase }, { on := 15, ground := Ground.phase }, { on := 16, ground := Ground.phase }, { on := 17, ground := Ground.phase }, { on := 18, ground := Ground.phase }, { on := 19, ground := Ground.phase }, { on := 20, ground := Ground.phase }, { on := 21, ground := Ground.phase }, { on := 22, ground := Ground.phase }, { on := 23, ground := Ground.phase }, { on := 24, ground := Ground.phase }, { on := 25, ground := Ground.phase }, { on := 26, ground := Ground.phase }, { on := 27, ground := Ground.phase }, { on := 28, ground := Ground.phase }, { on := 29, ground := Ground.phase }, { on := 30, ground := Ground.phase }, { on := 31, ground := Ground.phase }, { on := 32, ground := Ground.phase }, { on := 33, ground := Ground.phase }, { on := 34, ground := Ground.phase }, { on := 35, ground := Ground.phase }, { on := 36, ground := Ground.phase }], guard := none }) (v := ?vb34) rfl (by kernel_rfl) (by kernel_rfl) (by kernel_rfl) (fun _ _ _ h => h) (Or.inl ⟨by rfl, ?hyb34⟩) (by assumption) ?restb34
      case hyb34 =>
       intro w hSw
       (try dsimp only at hSw)
       go_simp
       (try with_reducible rfl)
      (try simp only [Act.put, List.setIfInBounds_toArray, List.set_cons_zero, List.set_cons_succ])
      refine wpAnyH_done (by kernel_rfl) ?_ _
      have BE := FI.out _ (B0.drew.trans ((b1.trans ((b2.trans ((b3.trans (b4.mono b3.size)).mono b2.size)).mono b1.size)).mono (Nat.le_of_lt hl)))
      clear b1 b2 b3 b4 B0 FI HP
      go_wp2
      go_ret
      exact ⟨by rw [HF.out]; rfl, BE⟩
    ·have g2 : decide ((val.size : Int) ≤ 256) = false := decide_eq_false (by omega)
     have g2' : decide (val.size ≤ 256) = false := decide_eq_false cD
     have HF := Lib.hid (show R = false by rw [← hR]; exact decide_eq_false fun h => cD (hok.1 h).2.2.2.1)
     clear h1 h2 hok hR cA cB cC cD
     refine wp_region_held_drew (S := (fun V => V.cell? ⟨m, 0, none⟩ = some (.int .i64 s) ∧ V.cell? ⟨m, 1, none⟩ = some (.int .i64 n) ∧ V.cell? ⟨m, 2, none⟩ = some (.slice A k c) ∧ V.cell? ⟨m, 3, none⟩ = some (.bool gone) ∧ V.cell? ⟨m, 4, none⟩ = some (.string val))) (by kernel_rfl) d0 (fun hHeld => ?_)
     refine wpAnyH_take (i := 0) (oi := { dst := some 3, op := Op.fieldAddr 59 (Operand.tmp 1) 0, type := 0, pos := "vers.go:17", after := #[], guard := none }) (v := ?vc1) rfl (by kernel_rfl) (by kernel_rfl) (by kernel_rfl) (fun _ _ _ h => h) (Or.inl ⟨by rfl, ?hyc1⟩) (by assumption) ?restc1
     case hyc1 =>
      intro w hSw
      (try dsimp only at hSw)
      go_simp
      (try with_reducible rfl)
     (try simp only [Act.put, List.setIfInBounds_toArray, List.set_cons_zero, List.set_cons_succ])
     refine wpAnyH_take (i := 1) (oi := { dst := some 4, op := Op.load 56 (Operand.tmp 3), type := 56, pos := "vers.go:17", after := #[{ on := 0, ground := Ground.data }], guard := none }) (v := ?vc2) rfl (by kernel_rfl) (by kernel_rfl) (by kernel_rfl) (fun _ _ _ h => h) (Or.inl ⟨by rfl, ?hyc2⟩) (by assumption) ?restc2
     case hyc2 =>
      intro w hSw
      (try dsimp only at hSw)
      go_simp
      (try with_reducible rfl)
     (try simp only [Act.put, List.setIfInBounds_toArray, List.set_cons_zero, List.set_cons_succ])
     refine wpAnyH_ready (rs := [2]) (by kernel_rfl) (by simp) ?_
     refine AllReadyH.cons (o := { dst := some 5, op := Op.call { callee := Callee.value (Operand.func 125), args := #[Operand.tmp 4], argTypes := #[56] }, type := 57, pos := "vers.go:17", after := #[{ on := 1, ground := Ground.data }], guard := none }) rfl (fun K hK => ?_) AllReadyH.nil
     go_simp
     (go_at_call 125; refine (HD.out _).mono ?_; rintro e w1 ⟨A1, rfl, n1, b1⟩)
     go_wp2_with fail
     refine hK.out _ _ (five_below (by exact hl) b1 hHeld) (fun hHeld => ?_)
     clear hK K
     (try simp only [Act.put, List.setIfInBounds_toArray, List.set_cons_zero, List.set_cons_succ])
     refine wpAnyH_ready (rs := [3]) (by kernel_rfl) (by simp) ?_
     refine AllReadyH.cons (o := { dst := some 6, op := Op.call { callee := Callee.value (Operand.func 124), args := #[Operand.tmp 5], argTypes := #[57] }, type := 4, pos := "vers.go:17", after := #[{ on := 2, ground := Ground.data }, { on := 2, ground := Ground.chain }], guard := none }) rfl (fun K hK => ?_) AllReadyH.nil
     go_simp
     (go_at_call 124; refine (H1.out _ _ n1).mono ?_; rintro e w2 ⟨rfl, b2⟩)
     go_wp2_with fail
     refine hK.out _ _ (five_below (Nat.lt_of_lt_of_le hl b1.size) b2 hHeld) (fun hHeld => ?_)
     clear hK K
     (try simp only [Act.put, List.setIfInBounds_toArray, List.set_cons_zero, List.set_cons_succ])
     refine wpAnyH_take (i := 4) (oi := { dst := some 7, op := Op.move (Operand.tmp 6), type := 4, pos := "vers.go:17", after := #[{ on := 3, ground := Ground.data }, { on := 3, ground := Ground.chain }], guard := none }) (v := ?vc3) rfl (by kernel_rfl) (by kernel_rfl) (by kernel_rfl) (fun _ _ _ h => h) (Or.inl ⟨by rfl, ?hyc3⟩) (by assumption) ?restc3
     case hyc3 =>
      intro w hSw
      (try dsimp only at hSw)
      go_simp
      (try with_reducible rfl)
     (try simp only [Act.put, List.setIfInBounds_toArray, List.set_cons_zero, List.set_cons_succ])
     refine wpAnyH_take (i := 5) (oi := { dst := some 8, op := Op.fieldAddr 59 (Operand.tmp 1) 1, type := 0, pos := "vers.go:17", after := #[{ on := 4, ground := Ground.guard }], guard := some (4, true) }) (v := ?vc4) rfl (by kernel_rfl) (by kernel_rfl) (by kernel_rfl) (fun _ _ _ h => h) (Or.inl ⟨by rfl, ?hyc4⟩) (by assumption) ?restc4
     case hyc4 =>
      intro w hSw
      (try dsimp only at hSw)
      go_simp
      (try with_reducible rfl)
     (try simp only [Act.put, List.setIfInBounds_toArray, List.set_cons_zero, List.set_cons_succ])
     refine wpAnyH_take (i := 6) (oi := { dst := some 9, op := Op.load 57 (Operand.tmp 8), type := 57, pos := "vers.go:17", after := #[{ on := 5, ground := Ground.data }, { on := 4, ground := Ground.guard }], guard := some (4, true) }) (v := ?vc5) rfl (by kernel_rfl) (by kernel_rfl) (by kernel_rfl) (fun _ _ _ h => h) (Or.inl ⟨by rfl, ?hyc5⟩) (by assumption) ?restc5
     case hyc5 =>
      intro w hSw
      (try dsimp only at hSw)
      go_simp
      (try with_reducible rfl)
     (try simp only [Act.put, List.setIfInBounds_toArray, List.set_cons_zero, List.set_cons_succ])
     refine wpAnyH_ready (rs := [7]) (by kernel_rfl) (by simp) ?_
     refine AllReadyH.cons (o := { dst := some 10, op := Op.call { callee := Callee.value (Operand.func 124), args := #[Operand.tmp 9], argTypes := #[57] }, type := 4, pos := "vers.go:18", after := #[{ on := 6, ground := Ground.data }, { on := 4, ground := Ground.chain }, { on := 4, ground := Ground.guard }], guard := some (4, true) }) rfl (fun K hK => ?_) AllReadyH.nil
     go_simp
     (go_at_call 124; refine (H2.out _ (HP.out _ (B0.drew.trans ((b1.trans (b2.mono b1.size)).mono (Nat.le_of_lt hl))))).mono ?_; rintro e w3 ⟨rfl, b3⟩)
     go_wp2_with fail
     refine hK.out _ _ (five_below (Nat.lt_of_lt_of_le hl (Nat.le_trans b1.size b2.size)) b3 hHeld) (fun hHeld => ?_)
     clear hK K
     (try simp only [Act.put, List.setIfInBounds_toArray, List.set_cons_zero, List.set_cons_succ])
     refine wpAnyH_take (i := 8) (oi := { dst := some 11, op := Op.pick (Operand.tmp 7) (Operand.tmp 10) (Operand.const (Value.bool false)), type := 4, pos := "vers.go:17", after := #[{ on := 4, ground := Ground.data }, { on := 7, ground := Ground.data }], guard := none }) (v := ?vc6) rfl (by kernel_rfl) (by kernel_rfl) (by kernel_rfl) (fun _ _ _ h => h) (Or.inl ⟨by rfl, ?hyc6⟩) (by assumption) ?restc6
     case hyc6 =>
      intro w hSw
      (try dsimp only at hSw)
      go_simp
      (try with_reducible rfl)
     (try simp only [Act.put, List.setIfInBounds_toArray, List.set_cons_zero, List.set_cons_succ])
     refine wpAnyH_take (i := 9) (oi := { dst := some 12, op := Op.move (Operand.tmp 11), type := 4, pos := "vers.go:17", after := #[{ on := 8, ground := Ground.data }, { on := 7, ground := Ground.chain }], guard := none }) (v := ?vc7) rfl (by kernel_rfl) (by kernel_rfl) (by kernel_rfl) (fun _ _ _ h => h) (Or.inl ⟨by rfl, ?hyc7⟩) (by assumption) ?restc7
     case hyc7 =>
      intro w hSw
      (try dsimp only at hSw)
      go_simp
      (try with_reducible rfl)
     (try simp only [Act.put, List.setIfInBounds_toArray, List.set_cons_zero, List.set_cons_succ])
     refine wpAnyH_take (i := 10) (oi := { dst := some 13, op := Op.fieldAddr 59 (Operand.tmp 1) 1, type := 0, pos := "vers.go:17", after := #[{ on := 9, ground := Ground.guard }], guard := some (9, true) }) (v := ?vc8) rfl (by kernel_rfl) (by kernel_rfl) (by kernel_rfl) (fun _ _ _ h => h) (Or.inl ⟨by rfl, ?hyc8⟩) (by assumption) ?restc8
     case hyc8 =>
      intro w hSw
      (try dsimp only at hSw)
      go_simp
      (try with_reducible rfl)
     (try simp only [Act.put, List.setIfInBounds_toArray, List.set_cons_zero, List.set_cons_succ])
     refine wpAnyH_take (i := 11) (oi := { dst := some 14, op := Op.load 57 (Operand.tmp 13), type := 57, pos := "vers.go:17", after := #[{ on := 10, ground := Ground.data }, { on := 9, ground := Ground.guard }], guard := some (9, true) }) (v := ?vc9) rfl (by kernel_rfl) (by kernel_rfl) (by kernel_rfl) (fun _ _ _ h => h) (Or.inl ⟨by rfl, ?hyc9⟩) (by assumption) ?restc9
     case hyc9 =>
      intro w hSw
      (try dsimp only at hSw)
      go_simp
      (try with_reducible rfl)
     (try simp only [Act.put, List.setIfInBounds_toArray, List.set_cons_zero, List.set_cons_succ])
     refine wpAnyH_take (i := 12) (oi := { dst := some 15, op := Op.fieldAddr 59 (Operand.tmp 1) 0, type := 0, pos := "vers.go:17", after := #[{ on := 9, ground := Ground.guard }], guard := some (9, true) }) (v := ?vc10) rfl (by kernel_rfl) (by kernel_rfl) (by kernel_rfl) (fun _ _ _ h => h) (Or.inl ⟨by rfl, ?hyc10⟩) (by assumption) ?restc10
     case hyc10 =>
      intro w hSw
      (try dsimp only at hSw)
      go_simp
      (try with_reducible rfl)
     (try simp only [Act.put, List.setIfInBounds_toArray, List.set_cons_zero, List.set_cons_succ])
     refine wpAnyH_take (i := 13) (oi := { dst := some 16, op := Op.fieldAddr 56 (Operand.tmp 15) 0, type := 0, pos := "vers.go:17", after := #[{ on := 12, ground := Ground.data }, { on := 9, ground := Ground.guard }], guard := some (9, true) }) (v := ?vc11) rfl (by kernel_rfl) (by kernel_rfl) (by kernel_rfl) (fun _ _ _ h => h) (Or.inl ⟨by rfl, ?hyc11⟩) (by assumption) ?restc11
     case hyc11 =>
      intro w hSw
      (try dsimp only at hSw)
      go_simp
      (try with_reducible rfl)
     (try simp only [Act.put, List.setIfInBounds_toArray, List.set_cons_zero, List.set_cons_succ])
     refine wpAnyH_take (i := 14) (oi := { dst := some 17, op := Op.load 3 (Operand.tmp 16), type := 3, pos := "vers.go:17", after := #[{ on := 13, ground := Ground.data }, { on := 9, ground := Ground.guard }], guard := some (9, true) }) (v := ?vc12) rfl (by kernel_rfl) (by kernel_rfl) (by kernel_rfl) (fun _ _ _ h => h) (Or.inl ⟨by rfl, ?hyc12⟩) (by assumption) ?restc12
     case hyc12 =>
      intro w hSw
      (try dsimp only at hSw)
      go_simp
      (try with_reducible rfl)
     (try simp only [Act.put, List.setIfInBounds_toArray, List.set_cons_zero, List.set_cons_succ])
     refine wpAnyH_take (i := 16) (oi := { dst := some 19, op := Op.fieldAddr 59 (Operand.tmp 1) 0, type := 0, pos := "vers.go:17", after := #[{ on := 9, ground := Ground.guard }], guard := some (9, true) }) (v := ?vc13) rfl (by kernel_rfl) (by kernel_rfl) (by kernel_rfl) (fun _ _ _ h => h) (Or.inl ⟨by rfl, ?hyc13⟩) (by assumption) ?restc13
     case hyc13 =>
      intro w hSw
      (try dsimp only at hSw)
      go_simp
      (try with_reducible rfl)
     (try simp only [Act.put, List.setIfInBounds_toArray, List.set_cons_zero, List.set_cons_succ])
     refine wpAnyH_take (i := 17) (oi := { dst := some 20, op := Op.fieldAddr 56 (Operand.tmp 19) 1, type := 0, pos := "vers.go:17", after := #[{ on := 16, ground := Ground.data }, { on := 9, ground := Ground.guard }], guard := some (9, true) }) (v := ?vc14) rfl (by kernel_rfl) (by kernel_rfl) (by kernel_rfl) (fun _ _ _ h => h) (Or.inl ⟨by rfl, ?hyc14⟩) (by assumption) ?restc14
     case hyc14 =>
      intro w hSw
      (try dsimp only at hSw)
      go_simp
      (try with_reducible rfl)
     (try simp only [Act.put, List.setIfInBounds_toArray, List.set_cons_zero, List.set_cons_succ])
     refine wpAnyH_take (i := 18) (oi := { dst := some 21, op := Op.load 2 (Operand.tmp 20), type := 2, pos := "vers.go:17", after := #[{ on := 17, ground := Ground.data }, { on := 9, ground := Ground.guard }], guard := some (9, true) }) (v := ?vc15) rfl (by kernel_rfl) (by kernel_rfl) (by kernel_rfl) (fun _ _ _ h => h) (Or.inl ⟨by rfl, ?hyc15⟩) (by assumption) ?restc15
     case hyc15 =>
      intro w hSw
      (try dsimp only at hSw)
      go_simp
      (try with_reducible rfl)
     (try simp only [Act.put, List.setIfInBounds_toArray, List.set_cons_zero, List.set_cons_succ])
     refine wpAnyH_ready (rs := [15]) (by kernel_rfl) (by simp) ?_
     refine AllReadyH.cons (o := { dst := some 18, op := Op.call { callee := Callee.value (Operand.func 126), args := #[Operand.tmp 14, Operand.tmp 17], argTypes := #[57, 3] }, type := 2, pos := "vers.go:18", after := #[{ on := 11, ground := Ground.data }, { on := 14, ground := Ground.data }, { on := 9, ground := Ground.chain }, { on := 9, ground := Ground.guard }], guard := some (9, true) }) rfl (fun K hK => ?_) AllReadyH.nil
     go_simp
     (go_at_call 126; refine (H3.out _ (HP.out _ (B0.drew.trans ((b1.trans ((b2.trans (b3.mono b2.size)).mono b1.size)).mono (Nat.le_of_lt hl))))).mono ?_; rintro e w4 ⟨rfl, b4⟩)
     go_wp2_with fail
     refine hK.out _ _ (five_below (Nat.lt_of_lt_of_le hl (Nat.le_trans b1.size (Nat.le_trans b2.size b3.size))) b4 hHeld) (fun hHeld => ?_)
     clear hK K
     (try simp only [Act.put, List.setIfInBounds_toArray, List.set_cons_zero, List.set_cons_succ])
     refine wpAnyH_take (i := 19) (oi := { dst := some 22, op := Op.binOp BinOp.lss 2 (Operand.tmp 18) (Operand.tmp 21) 2, type := 4, pos := "vers.go:17", after := #[{ on := 15, ground := Ground.data }, { on := 18, ground := Ground.data }, { on := 9, ground := Ground.guard }], guard := some (9, true) }) (v := ?vc16) rfl (by kernel_rfl) (by kernel_rfl) (by kernel_rfl) (fun _ _ _ h => h) (Or.inl ⟨by rfl, ?hyc16⟩) (by assumption) ?restc16
     case hyc16 =>
      intro w hSw
      (try dsimp only at hSw)
      go_simp
      (try with_reducible rfl)
     (try simp only [Act.put, List.setIfInBounds_toArray, List.set_cons_zero, List.set_cons_succ])
     refine wpAnyH_take (i := 20) (oi := { dst := some 23, op := Op.pick (Operand.tmp 12) (Operand.tmp 22) (Operand.const (Value.bool false)), type := 4, pos := "vers.go:17", after := #[{ on := 9, ground := Ground.data }, { on := 19, ground := Ground.data }], guard := none }) (v := ?vc17) rfl (by kernel_rfl) (by kernel_rfl) (by kernel_rfl) (fun _ _ _ h => h) (Or.inl ⟨by rfl, ?hyc17⟩) (by assumption) ?restc17
     case hyc17 =>
      intro w hSw
      (try dsimp only at hSw)
      go_simp
      (try with_reducible rfl)
     (try simp only [Act.put, List.setIfInBounds_toArray, List.set_cons_zero, List.set_cons_succ])
     refine wpAnyH_take (i := 21) (oi := { dst := some 24, op := Op.move (Operand.tmp 23), type := 4, pos := "vers.go:17", after := #[{ on := 20, ground := Ground.data }, { on := 15, ground := Ground.chain }], guard := none }) (v := ?vc18) rfl (by kernel_rfl) (by kernel_rfl) (by kernel_rfl) (fun _ _ _ h => h) (Or.inl ⟨by rfl, ?hyc18⟩) (by assumption) ?restc18
     case hyc18 =>
      intro w hSw
      (try dsimp only at hSw)
      go_simp
      (try with_reducible rfl)
     (try simp only [Act.put, List.setIfInBounds_toArray, List.set_cons_zero, List.set_cons_succ])
     refine wpAnyH_take (i := 22) (oi := { dst := some 25, op := Op.fieldAddr 59 (Operand.tmp 1) 3, type := 0, pos := "vers.go:17", after := #[{ on := 21, ground := Ground.guard }], guard := some (21, true) }) (v := ?vc19) rfl (by kernel_rfl) (by kernel_rfl) (by kernel_rfl) (fun _ _ _ h => h) (Or.inl ⟨by rfl, ?hyc19⟩) (by assumption) ?restc19
     case hyc19 =>
      intro w hSw
      (try dsimp only at hSw)
      go_simp
      (try with_reducible rfl)
     (try simp only [Act.put, List.setIfInBounds_toArray, List.set_cons_zero, List.set_cons_succ])
     refine wpAnyH_take (i := 23) (oi := { dst := some 26, op := Op.load 9 (Operand.tmp 25), type := 9, pos := "vers.go:17", after := #[{ on := 22, ground := Ground.data }, { on := 21, ground := Ground.guard }], guard := some (21, true) }) (v := ?vc20) rfl (by kernel_rfl) (by kernel_rfl) (by kernel_rfl) (fun _ _ _ h => h) (Or.inl ⟨by rfl, ?hyc20⟩) (by assumption) ?restc20
     case hyc20 =>
      intro w hSw
      (try dsimp only at hSw)
      go_simp
      (try with_reducible rfl)
     (try simp only [Act.put, List.setIfInBounds_toArray, List.set_cons_zero, List.set_cons_succ])
     refine wpAnyH_take (i := 24) (oi := { dst := some 27, op := Op.call { callee := Callee.builtin Builtin.len, args := #[Operand.tmp 26], argTypes := #[9] }, type := 3, pos := "vers.go:17", after := #[{ on := 23, ground := Ground.data }, { on := 21, ground := Ground.guard }], guard := some (21, true) }) (v := ?vc21) rfl (by kernel_rfl) (by kernel_rfl) (by kernel_rfl) (fun _ _ _ h => h) (Or.inl ⟨by rfl, ?hyc21⟩) (by assumption) ?restc21
     case hyc21 =>
      intro w hSw
      (try dsimp only at hSw)
      go_simp
      (try with_reducible rfl)
     (try simp only [Act.put, List.setIfInBounds_toArray, List.set_cons_zero, List.set_cons_succ])
     refine wpAnyH_take (i := 25) (oi := { dst := some 28, op := Op.binOp BinOp.leq 3 (Operand.tmp 27) (Operand.const (Value.int IntKind.i64 256)) 3, type := 4, pos := "vers.go:17", after := #[{ on := 24, ground := Ground.data }, { on := 21, ground := Ground.guard }], guard := some (21, true) }) (v := ?vc22) rfl (by kernel_rfl) (by kernel_rfl) (by kernel_rfl) (fun _ _ _ h => h) (Or.inl ⟨by rfl, ?hyc22⟩) (by assumption) ?restc22
     case hyc22 =>
      intro w hSw
      (try dsimp only at hSw)
      go_simp
      (try with_reducible rfl)
     (try simp only [Act.put, List.setIfInBounds_toArray, List.set_cons_zero, List.set_cons_succ])
     refine wpAnyH_take (i := 26) (oi := { dst := some 29, op := Op.pick (Operand.tmp 24) (Operand.tmp 28) (Operand.const (Value.bool false)), type := 4, pos := "vers.go:17", after := #[{ on := 21, ground := Ground.data }, { on := 25, ground := Ground.data }], guard := none }) (v := ?vc23) rfl (by kernel_rfl) (by kernel_rfl) (by kernel_rfl) (fun _ _ _ h => h) (Or.inl ⟨by rfl, ?hyc23⟩) (by assumption) ?restc23
     case hyc23 =>
      intro w hSw
      (try dsimp only at hSw)
      go_simp
      (try with_reducible rfl)
     (try simp only [Act.put, List.setIfInBounds_toArray, List.set_cons_zero, List.set_cons_succ])
     refine wpAnyH_take (i := 27) (oi := { dst := some 30, op := Op.move (Operand.tmp 29), type := 4, pos := "vers.go:17", after := #[{ on := 26, ground := Ground.data }, { on := 21, ground := Ground.chain }], guard := none }) (v := ?vc24) rfl (by kernel_rfl) (by kernel_rfl) (by kernel_rfl) (fun _ _ _ h => h) (Or.inl ⟨by rfl, ?hyc24⟩) (by assumption) ?restc24
     case hyc24 =>
      intro w hSw
      (try dsimp only at hSw)
      go_simp
      (try with_reducible rfl)
     (try simp only [Act.put, List.setIfInBounds_toArray, List.set_cons_zero, List.set_cons_succ])
     refine wpAnyH_take (i := 28) (oi := { dst := some 31, op := Op.fieldAddr 59 (Operand.tmp 1) 2, type := 0, pos := "vers.go:17", after := #[{ on := 27, ground := Ground.guard }], guard := some (27, true) }) (v := undef) rfl (by kernel_rfl) (by kernel_rfl) (by kernel_rfl) (fun _ _ _ h => h) (Or.inr ⟨by rfl, rfl⟩) (by assumption) ?_
     (try simp only [Act.put, List.setIfInBounds_toArray, List.set_cons_zero, List.set_cons_succ])
     refine wpAnyH_take (i := 29) (oi := { dst := some 32, op := Op.load 4 (Operand.tmp 31), type := 4, pos := "vers.go:17", after := #[{ on := 28, ground := Ground.data }, { on := 27, ground := Ground.guard }], guard := some (27, true) }) (v := undef) rfl (by kernel_rfl) (by kernel_rfl) (by kernel_rfl) (fun _ _ _ h => h) (Or.inr ⟨by rfl, rfl⟩) (by assumption) ?_
     (try simp only [Act.put, List.setIfInBounds_toArray, List.set_cons_zero, List.set_cons_succ])
     refine wpAnyH_take (i := 30) (oi := { dst := some 33, op := Op.unOp UnOp.not 4 (Operand.tmp 32), type := 4, pos := "vers.go:17", after := #[{ on := 29, ground := Ground.data }, { on := 27, ground := Ground.guard }], guard := some (27, true) }) (v := undef) rfl (by kernel_rfl) (by kernel_rfl) (by kernel_rfl) (fun _ _ _ h => h) (Or.inr ⟨by rfl, rfl⟩) (by assumption) ?_
     (try simp only [Act.put, List.setIfInBounds_toArray, List.set_cons_zero, List.set_cons_succ])
     refine wpAnyH_take (i := 31) (oi := { dst := some 34, op := Op.move (Operand.tmp 33), type := 4, pos := "vers.go:17", after := #[{ on := 30, ground := Ground.data }, { on := 27, ground := Ground.chain }, { on := 27, ground := Ground.guard }], guard := some (27, true) }) (v := undef) rfl (by kernel_rfl) (by kernel_rfl) (by kernel_rfl) (fun _ _ _ h => h) (Or.inr ⟨by rfl, rfl⟩) (by assumption) ?_
     (try simp only [Act.put, List.setIfInBounds_toArray, List.set_cons_zero, List.set_cons_succ])
     refine wpAnyH_take (i := 32) (oi := { dst := some 35, op := Op.fieldAddr 59 (Operand.tmp 1) 3, type := 0, pos := "vers.go:17", after := #[{ on := 31, ground := Ground.guard }], guard := some (31, false) }) (v := undef) rfl (by kernel_rfl) (by kernel_rfl) (by kernel_rfl) (fun _ _ _ h => h) (Or.inr ⟨by rfl, rfl⟩) (by assumption) ?_
     (try simp only [Act.put, List.setIfInBounds_toArray, List.set_cons_zero, List.set_cons_succ])
     refine wpAnyH_take (i := 33) (oi := { dst := some 36, op := Op.load 9 (Operand.tmp 35), type := 9, pos := "vers.go:17", after := #[{ on := 32, ground := Ground.data }, { on := 31, ground := Ground.guard }], guard := some (31, false) }) (v := undef) rfl (by kernel_rfl) (by kernel_rfl) (by kernel_rfl) (fun _ _ _ h => h) (Or.inr ⟨by rfl, rfl⟩) (by assumption) ?_
     (try simp only [Act.put, List.setIfInBounds_toArray, List.set_cons_zero, List.set_cons_succ])
     refine wpAnyH_take (i := 34) (oi := { dst := some 37, op := Op.binOp BinOp.eql 9 (Operand.tmp 36) (Operand.const (Value.string { data := #[] })) 9, type := 4, pos := "vers.go:17", after := #[{ on := 33, ground := Ground.data }, { on := 31, ground := Ground.guard }], guard := some (31, false) }) (v := undef) rfl (by kernel_rfl) (by kernel_rfl) (by kernel_rfl) (fun _ _ _ h => h) (Or.inr ⟨by rfl, rfl⟩) (by assumption) ?_
     (try simp only [Act.put, List.setIfInBounds_toArray, List.set_cons_zero, List.set_cons_succ])
     refine wpAnyH_take (i := 35) (oi := { dst := some 38, op := Op.pick (Operand.tmp 34) (Operand.const (Value.bool true)) (Operand.tmp 37), type := 4, pos := "vers.go:17", after := #[{ on := 31, ground := Ground.data }, { on := 34, ground := Ground.data }, { on := 27, ground := Ground.guard }], guard := some (27, true) }) (v := undef) rfl (by kernel_rfl) (by kernel_rfl) (by kernel_rfl) (fun _ _ _ h => h) (Or.inr ⟨by rfl, rfl⟩) (by assumption) ?_
     (try simp only [Act.put, List.setIfInBounds_toArray, List.set_cons_zero, List.set_cons_succ])
     refine wpAnyH_take (i := 36) (oi := { dst := some 39, op := Op.pick (Operand.tmp 30) (Operand.tmp 38) (Operand.const (Value.bool false)), type := 4, pos := "vers.go:17", after := #[{ on := 27, ground := Ground.data }, { on := 35, ground := Ground.data }], guard := none }) (v := ?vc33) rfl (by kernel_rfl) (by kernel_rfl) (by kernel_rfl) (fun _ _ _ h => h) (Or.inl ⟨by rfl, ?hyc33⟩) (by assumption) ?restc33
     case hyc33 =>
      intro w hSw
      (try dsimp only at hSw)
      go_simp
      (try with_reducible rfl)
     (try simp only [Act.put, List.setIfInBounds_toArray, List.set_cons_zero, List.set_cons_succ])
     refine wpAnyH_take (i := 37) (oi := { dst := some 2, op := Op.assign (Operand.tmp 39), type := 4, pos := "vers.go:17", after := #[{ on := 36, ground := Ground.data }, { on := 31, ground := Ground.chain }, { on := 0, ground := Ground.phase }, { on := 1, ground := Ground.phase }, { on := 2, ground := Ground.phase }, { on := 3, ground := Ground.phase }, { on := 4, ground := Ground.phase }, { on := 5, ground := Ground.phase }, { on := 6, ground := Ground.phase }, { on := 7, ground := Ground.phase }, { on := 8, ground := Ground.phase }, { on := 9, ground := Ground.phase }, { on := 10, ground := Ground.phase }, { on := 11, ground := Ground.phase }, { on := 12, ground := Ground.phase }, { on := 13, ground := Ground.phase }, { on := 14, ground := Ground.phase }, { on := 15, ground := Ground.phase }, { on := 16, ground := Ground.phase }, { on := 17, ground := Ground.phase }, { on := 18, ground := Ground.phase }, { on := 19, ground := Ground.phase }, { on := 20, ground := Ground.phase }, { on := 21, ground := Ground.phase }, { on := 22, ground := Ground.phase }, { on := 23, ground := Ground.phase }, { on := 24, ground := Ground.phase }, { on := 25, ground := Ground.phase }, { on := 26, ground := Ground.phase }, { on := 27, ground := Ground.phase }, { on := 28, ground := Ground.phase }, { on := 29, ground := Ground.phase }, { on := 30, ground := Ground.phase }, { on := 31, ground := Ground.phase }, { on := 32, ground := Ground.phase }, { on := 33, ground := Ground.phase }, { on := 34, ground := Ground.phase }, { on := 35, ground := Ground.phase }, { on := 36, ground := Ground.phase }], guard := none }) (v := ?vc34) rfl (by kernel_rfl) (by kernel_rfl) (by kernel_rfl) (fun _ _ _ h => h) (Or.inl ⟨by rfl, ?hyc34⟩) (by assumption) ?restc34
     case hyc34 =>
      intro w hSw
      (try dsimp only at hSw)
      go_simp
      (try with_reducible rfl)
     (try simp only [Act.put, List.setIfInBounds_toArray, List.set_cons_zero, List.set_cons_succ])
     refine wpAnyH_done (by kernel_rfl) ?_ _
     have BE := FI.out _ (B0.drew.trans ((b1.trans ((b2.trans ((b3.trans (b4.mono b3.size)).mono b2.size)).mono b1.size)).mono (Nat.le_of_lt hl)))
     clear b1 b2 b3 b4 B0 FI HP
     go_wp2
     go_ret
     exact ⟨by rw [HF.out]; rfl, BE⟩
   ·have g1 : decide (t < n) = false := decide_eq_false cC
    have HF := Lib.hid (show R = false by rw [← hR]; exact decide_eq_false fun h => cC (hok.1 h).2.2.1)
    clear h1 h2 hok hR cA cB cC
    refine wp_region_held_drew (S := (fun V => V.cell? ⟨m, 0, none⟩ = some (.int .i64 s) ∧ V.cell? ⟨m, 1, none⟩ = some (.int .i64 n) ∧ V.cell? ⟨m, 2, none⟩ = some (.slice A k c) ∧ V.cell? ⟨m, 3, none⟩ = some (.bool gone) ∧ V.cell? ⟨m, 4, none⟩ = some (.string val))) (by kernel_rfl) d0 (fun hHeld => ?_)
    refine wpAnyH_take (i := 0) (oi := { dst := some 3, op := Op.fieldAddr 59 (Operand.tmp 1) 0, type := 0, pos := "vers.go:17", after := #[], guard := none }) (v := ?vd1) rfl (by kernel_rfl) (by kernel_rfl) (by kernel_rfl) (fun _ _ _ h => h) (Or.inl ⟨by rfl, ?hyd1⟩) (by assumption) ?restd1
    case hyd1 =>
     intro w hSw
     (try dsimp only at hSw)
     go_simp
     (try with_reducible rfl)
    (try simp only [Act.put, List.setIfInBounds_toArray, List.set_cons_zero, List.set_cons_succ])
    refine wpAnyH_take (i := 1) (oi := { dst := some 4, op := Op.load 56 (Operand.tmp 3), type := 56, pos := "vers.go:17", after := #[{ on := 0, ground := Ground.data }], guard := none }) (v := ?vd2) rfl (by kernel_rfl) (by kernel_rfl) (by kernel_rfl) (fun _ _ _ h => h) (Or.inl ⟨by rfl, ?hyd2⟩) (by assumption) ?restd2
    case hyd2 =>
     intro w hSw
     (try dsimp only at hSw)
     go_simp
     (try with_reducible rfl)
    (try simp only [Act.put, List.setIfInBounds_toArray, List.set_cons_zero, List.set_cons_succ])
    refine wpAnyH_ready (rs := [2]) (by kernel_rfl) (by simp) ?_
    refine AllReadyH.cons (o := { dst := some 5, op := Op.call { callee := Callee.value (Operand.func 125), args := #[Operand.tmp 4], argTypes := #[56] }, type := 57, pos := "vers.go:17", after := #[{ on := 1, ground := Ground.data }], guard := none }) rfl (fun K hK => ?_) AllReadyH.nil
    go_simp
    (go_at_call 125; refine (HD.out _).mono ?_; rintro e w1 ⟨A1, rfl, n1, b1⟩)
    go_wp2_with fail
    refine hK.out _ _ (five_below (by exact hl) b1 hHeld) (fun hHeld => ?_)
    clear hK K
    (try simp only [Act.put, List.setIfInBounds_toArray, List.set_cons_zero, List.set_cons_succ])
    refine wpAnyH_ready (rs := [3]) (by kernel_rfl) (by simp) ?_
    refine AllReadyH.cons (o := { dst := some 6, op := Op.call { callee := Callee.value (Operand.func 124), args := #[Operand.tmp 5], argTypes := #[57] }, type := 4, pos := "vers.go:17", after := #[{ on := 2, ground := Ground.data }, { on := 2, ground := Ground.chain }], guard := none }) rfl (fun K hK => ?_) AllReadyH.nil
    go_simp
    (go_at_call 124; refine (H1.out _ _ n1).mono ?_; rintro e w2 ⟨rfl, b2⟩)
    go_wp2_with fail
    refine hK.out _ _ (five_below (Nat.lt_of_lt_of_le hl b1.size) b2 hHeld) (fun hHeld => ?_)
    clear hK K
    (try simp only [Act.put, List.setIfInBounds_toArray, List.set_cons_zero, List.set_cons_succ])
    refine wpAnyH_take (i := 4) (oi := { dst := some 7, op := Op.move (Operand.tmp 6), type := 4, pos := "vers.go:17", after := #[{ on := 3, ground := Ground.data }, { on := 3, ground := Ground.chain }], guard := none }) (v := ?vd3) rfl (by kernel_rfl) (by kernel_rfl) (by kernel_rfl) (fun _ _ _ h => h) (Or.inl ⟨by rfl, ?hyd3⟩) (by assumption) ?restd3
    case hyd3 =>
     intro w hSw
     (try dsimp only at hSw)
     go_simp
     (try with_reducible rfl)
    (try simp only [Act.put, List.setIfInBounds_toArray, List.set_cons_zero, List.set_cons_succ])
    refine wpAnyH_take (i := 5) (oi := { dst := some 8, op := Op.fieldAddr 59 (Operand.tmp 1) 1, type := 0, pos := "vers.go:17", after := #[{ on := 4, ground := Ground.guard }], guard := some (4, true) }) (v := ?vd4) rfl (by kernel_rfl) (by kernel_rfl) (by kernel_rfl) (fun _ _ _ h => h) (Or.inl ⟨by rfl, ?hyd4⟩) (by assumption) ?restd4
    case hyd4 =>
     intro w hSw
     (try dsimp only at hSw)
     go_simp
     (try with_reducible rfl)
    (try simp only [Act.put, List.setIfInBounds_toArray, List.set_cons_zero, List.set_cons_succ])
    refine wpAnyH_take (i := 6) (oi := { dst := some 9, op := Op.load 57 (Operand.tmp 8), type := 57, pos := "vers.go:17", after := #[{ on := 5, ground := Ground.data }, { on := 4, ground := Ground.guard }], guard := some (4, true) }) (v := ?vd5) rfl (by kernel_rfl) (by kernel_rfl) (by kernel_rfl) (fun _ _ _ h => h) (Or.inl ⟨by rfl, ?hyd5⟩) (by assumption) ?restd5
    case hyd5 =>
     intro w hSw
     (try dsimp only at hSw)
     go_simp
     (try with_reducible rfl)
    (try simp only [Act.put, List.setIfInBounds_toArray, List.set_cons_zero, List.set_cons_succ])
    refine wpAnyH_ready (rs := [7]) (by kernel_rfl) (by simp) ?_
    refine AllReadyH.cons (o := { dst := some 10, op := Op.call { callee := Callee.value (Operand.func 124), args := #[Operand.tmp 9], argTypes := #[57] }, type := 4, pos := "vers.go:18", after := #[{ on := 6, ground := Ground.data }, { on := 4, ground := Ground.chain }, { on := 4, ground := Ground.guard }], guard := some (4, true) }) rfl (fun K hK => ?_) AllReadyH.nil
    go_simp
    (go_at_call 124; refine (H2.out _ (HP.out _ (B0.drew.trans ((b1.trans (b2.mono b1.size)).mono (Nat.le_of_lt hl))))).mono ?_; rintro e w3 ⟨rfl, b3⟩)
    go_wp2_with fail
    refine hK.out _ _ (five_below (Nat.lt_of_lt_of_le hl (Nat.le_trans b1.size b2.size)) b3 hHeld) (fun hHeld => ?_)
    clear hK K
    (try simp only [Act.put, List.setIfInBounds_toArray, List.set_cons_zero, List.set_cons_succ])
    refine wpAnyH_take (i := 8) (oi := { dst := some 11, op := Op.pick (Operand.tmp 7) (Operand.tmp 10) (Operand.const (Value.bool false)), type := 4, pos := "vers.go:17", after := #[{ on := 4, ground := Ground.data }, { on := 7, ground := Ground.data }], guard := none }) (v := ?vd6) rfl (by kernel_rfl) (by kernel_rfl) (by kernel_rfl) (fun _ _ _ h => h) (Or.inl ⟨by rfl, ?hyd6⟩) (by assumption) ?restd6
    case hyd6 =>
     intro w hSw
     (try dsimp only at hSw)
     go_simp
     (try with_reducible rfl)
    (try simp only [Act.put, List.setIfInBounds_toArray, List.set_cons_zero, List.set_cons_succ])
    refine wpAnyH_take (i := 9) (oi := { dst := some 12, op := Op.move (Operand.tmp 11), type := 4, pos := "vers.go:17", after := #[{ on := 8, ground := Ground.data }, { on := 7, ground := Ground.chain }], guard := none }) (v := ?vd7) rfl (by kernel_rfl) (by kernel_rfl) (by kernel_rfl) (fun _ _ _ h => h) (Or.inl ⟨by rfl, ?hyd7⟩) (by assumption) ?restd7
    case hyd7 =>
     intro w hSw
     (try dsimp only at hSw)
     go_simp
     (try with_reducible rfl)
    (try simp only [Act.put, List.setIfInBounds_toArray, List.set_cons_zero, List.set_cons_succ])
    refine wpAnyH_take (i := 10) (oi := { dst := some 13, op := Op.fieldAddr 59 (Operand.tmp 1) 1, type := 0, pos := "vers.go:17", after := #[{ on := 9, ground := Ground.guard }], guard := some (9, true) }) (v := ?vd8) rfl (by kernel_rfl) (by kernel_rfl) (by kernel_rfl) (fun _ _ _ h => h) (Or.inl ⟨by rfl, ?hyd8⟩) (by assumption) ?restd8
    case hyd8 =>
     intro w hSw
     (try dsimp only at hSw)
     go_simp
     (try with_reducible rfl)
    (try simp only [Act.put, List.setIfInBounds_toArray, List.set_cons_zero, List.set_cons_succ])
    refine wpAnyH_take (i := 11) (oi := { dst := some 14, op := Op.load 57 (Operand.tmp 13), type := 57, pos := "vers.go:17", after := #[{ on := 10, ground := Ground.data }, { on := 9, ground := Ground.guard }], guard := some (9, true) }) (v := ?vd9) rfl (by kernel_rfl) (by kernel_rfl) (by kernel_rfl) (fun _ _ _ h => h) (Or.inl ⟨by rfl, ?hyd9⟩) (by assumption) ?restd9
    case hyd9 =>
     intro w hSw
     (try dsimp only at hSw)
     go_simp
     (try with_reducible rfl)
    (try simp only [Act.put, List.setIfInBounds_toArray, List.set_cons_zero, List.set_cons_succ])
    refine wpAnyH_take (i := 12) (oi := { dst := some 15, op := Op.fieldAddr 59 (Operand.tmp 1) 0, type := 0, pos := "vers.go:17", after := #[{ on := 9, ground := Ground.guard }], guard := some (9, true) }) (v := ?vd10) rfl (by kernel_rfl) (by kernel_rfl) (by kernel_rfl) (fun _ _ _ h => h) (Or.inl ⟨by rfl, ?hyd10⟩) (by assumption) ?restd10
    case hyd10 =>
     intro w hSw
     (try dsimp only at hSw)
     go_simp
     (try with_reducible rfl)
    (try simp only [Act.put, List.setIfInBounds_toArray, List.set_cons_zero, List.set_cons_succ])
    refine wpAnyH_take (i := 13) (oi := { dst := some 16, op := Op.fieldAddr 56 (Operand.tmp 15) 0, type := 0, pos := "vers.go:17", after := #[{ on := 12, ground := Ground.data }, { on := 9, ground := Ground.guard }], guard := some (9, true) }) (v := ?vd11) rfl (by kernel_rfl) (by kernel_rfl) (by kernel_rfl) (fun _ _ _ h => h) (Or.inl ⟨by rfl, ?hyd11⟩) (by assumption) ?restd11
    case hyd11 =>
     intro w hSw
     (try dsimp only at hSw)
     go_simp
     (try with_reducible rfl)
    (try simp only [Act.put, List.setIfInBounds_toArray, List.set_cons_zero, List.set_cons_succ])
    refine wpAnyH_take (i := 14) (oi := { dst := some 17, op := Op.load 3 (Operand.tmp 16), type := 3, pos := "vers.go:17", after := #[{ on := 13, ground := Ground.data }, { on := 9, ground := Ground.guard }], guard := some (9, true) }) (v := ?vd12) rfl (by kernel_rfl) (by kernel_rfl) (by kernel_rfl) (fun _ _ _ h => h) (Or.inl ⟨by rfl, ?hyd12⟩) (by assumption) ?restd12
    case hyd12 =>
     intro w hSw
     (try dsimp only at hSw)
     go_simp
     (try with_reducible rfl)
    (try simp only [Act.put, List.setIfInBounds_toArray, List.set_cons_zero, List.set_cons_succ])
    refine wpAnyH_take (i := 16) (oi := { dst := some 19, op := Op.fieldAddr 59 (Operand.tmp 1) 0, type := 0, pos := "vers.go:17", after := #[{ on := 9, ground := Ground.guard }], guard := some (9, true) }) (v := ?vd13) rfl (by kernel_rfl) (by kernel_rfl) (by kernel_rfl) (fun _ _ _ h => h) (Or.inl ⟨by rfl, ?hyd13⟩) (by assumption) ?restd13
    case hyd13 =>
     intro w hSw
     (try dsimp only at hSw)
     go_simp
     (try with_reducible rfl)
    (try simp only [Act.put, List.setIfInBounds_toArray, List.set_cons_zero, List.set_cons_succ])
    refine wpAnyH_take (i := 17) (oi := { dst := some 20, op := Op.fieldAddr 56 (Operand.tmp 19) 1, type := 0, pos := "vers.go:17", after := #[{ on := 16, ground := Ground.data }, { on := 9, ground := Ground.guard }], guard := some (9, true) }) (v := ?vd14) rfl (by kernel_rfl) (by kernel_rfl) (by kernel_rfl) (fun _ _ _ h => h) (Or.inl ⟨by rfl, ?hyd14⟩) (by assumption) ?restd14
    case hyd14 =>
     intro w hSw
     (try dsimp only at hSw)
     go_simp
     (try with_reducible rfl)
    (try simp only [Act.put, List.setIfInBounds_toArray, List.set_cons_zero, List.set_cons_succ])
    refine wpAnyH_take (i := 18) (oi := { dst := some 21, op := Op.load 2 (Operand.tmp 20), type := 2, pos := "vers.go:17", after := #[{ on := 17, ground := Ground.data }, { on := 9, ground := Ground.guard }], guard := some (9, true) }) (v := ?vd15) rfl (by kernel_rfl) (by kernel_rfl) (by kernel_rfl) (fun _ _ _ h => h) (Or.inl ⟨by rfl, ?hyd15⟩) (by assumption) ?restd15
    case hyd15 =>
     intro w hSw
     (try dsimp only at hSw)
     go_simp
     (try with_reducible rfl)
    (try simp only [Act.put, List.setIfInBounds_toArray, List.set_cons_zero, List.set_cons_succ])
    refine wpAnyH_ready (rs := [15]) (by kernel_rfl) (by simp) ?_
    refine AllReadyH.cons (o := { dst := some 18, op := Op.call { callee := Callee.value (Operand.func 126), args := #[Operand.tmp 14, Operand.tmp 17], argTypes := #[57, 3] }, type := 2, pos := "vers.go:18", after := #[{ on := 11, ground := Ground.data }, { on := 14, ground := Ground.data }, { on := 9, ground := Ground.chain }, { on := 9, ground := Ground.guard }], guard := some (9, true) }) rfl (fun K hK => ?_) AllReadyH.nil
    go_simp
    (go_at_call 126; refine (H3.out _ (HP.out _ (B0.drew.trans ((b1.trans ((b2.trans (b3.mono b2.size)).mono b1.size)).mono (Nat.le_of_lt hl))))).mono ?_; rintro e w4 ⟨rfl, b4⟩)
    go_wp2_with fail
    refine hK.out _ _ (five_below (Nat.lt_of_lt_of_le hl (Nat.le_trans b1.size (Nat.le_trans b2.size b3.size))) b4 hHeld) (fun hHeld => ?_)
    clear hK K
    (try simp only [Act.put, List.setIfInBounds_toArray, List.set_cons_zero, List.set_cons_succ])
    refine wpAnyH_take (i := 19) (oi := { dst := some 22, op := Op.binOp BinOp.lss 2 (Operand.tmp 18) (Operand.tmp 21) 2, type := 4, pos := "vers.go:17", after := #[{ on := 15, ground := Ground.data }, { on := 18, ground := Ground.data }, { on := 9, ground := Ground.guard }], guard := some (9, true) }) (v := ?vd16) rfl (by kernel_rfl) (by kernel_rfl) (by kernel_rfl) (fun _ _ _ h => h) (Or.inl ⟨by rfl, ?hyd16⟩) (by assumption) ?restd16
    case hyd16 =>
     intro w hSw
     (try dsimp only at hSw)
     go_simp
     (try with_reducible rfl)
    (try simp only [Act.put, List.setIfInBounds_toArray, List.set_cons_zero, List.set_cons_succ])
    refine wpAnyH_take (i := 20) (oi := { dst := some 23, op := Op.pick (Operand.tmp 12) (Operand.tmp 22) (Operand.const (Value.bool false)), type := 4, pos := "vers.go:17", after := #[{ on := 9, ground := Ground.data }, { on := 19, ground := Ground.data }], guard := none }) (v := ?vd17) rfl (by kernel_rfl) (by kernel_rfl) (by kernel_rfl) (fun _ _ _ h => h) (Or.inl ⟨by rfl, ?hyd17⟩) (by assumption) ?restd17
    case hyd17 =>
     intro w hSw
     (try dsimp only at hSw)
     go_simp
     (try with_reducible rfl)
    (try simp only [Act.put, List.setIfInBounds_toArray, List.set_cons_zero, List.set_cons_succ])
    refine wpAnyH_take (i := 21) (oi := { dst := some 24, op := Op.move (Operand.tmp 23), type := 4, pos := "vers.go:17", after := #[{ on := 20, ground := Ground.data }, { on := 15, ground := Ground.chain }], guard := none }) (v := ?vd18) rfl (by kernel_rfl) (by kernel_rfl) (by kernel_rfl) (fun _ _ _ h => h) (Or.inl ⟨by rfl, ?hyd18⟩) (by assumption) ?restd18
    case hyd18 =>
     intro w hSw
     (try dsimp only at hSw)
     go_simp
     (try with_reducible rfl)
    (try simp only [Act.put, List.setIfInBounds_toArray, List.set_cons_zero, List.set_cons_succ])
    refine wpAnyH_take (i := 22) (oi := { dst := some 25, op := Op.fieldAddr 59 (Operand.tmp 1) 3, type := 0, pos := "vers.go:17", after := #[{ on := 21, ground := Ground.guard }], guard := some (21, true) }) (v := undef) rfl (by kernel_rfl) (by kernel_rfl) (by kernel_rfl) (fun _ _ _ h => h) (Or.inr ⟨by rfl, rfl⟩) (by assumption) ?_
    (try simp only [Act.put, List.setIfInBounds_toArray, List.set_cons_zero, List.set_cons_succ])
    refine wpAnyH_take (i := 23) (oi := { dst := some 26, op := Op.load 9 (Operand.tmp 25), type := 9, pos := "vers.go:17", after := #[{ on := 22, ground := Ground.data }, { on := 21, ground := Ground.guard }], guard := some (21, true) }) (v := undef) rfl (by kernel_rfl) (by kernel_rfl) (by kernel_rfl) (fun _ _ _ h => h) (Or.inr ⟨by rfl, rfl⟩) (by assumption) ?_
    (try simp only [Act.put, List.setIfInBounds_toArray, List.set_cons_zero, List.set_cons_succ])
    refine wpAnyH_take (i := 24) (oi := { dst := some 27, op := Op.call { callee := Callee.builtin Builtin.len, args := #[Operand.tmp 26], argTypes := #[9] }, type := 3, pos := "vers.go:17", after := #[{ on := 23, ground := Ground.data }, { on := 21, ground := Ground.guard }], guard := some (21, true) }) (v := undef) rfl (by kernel_rfl) (by kernel_rfl) (by kernel_rfl) (fun _ _ _ h => h) (Or.inr ⟨by rfl, rfl⟩) (by assumption) ?_
    (try simp only [Act.put, List.setIfInBounds_toArray, List.set_cons_zero, List.set_cons_succ])
    refine wpAnyH_take (i := 25) (oi := { dst := some 28, op := Op.binOp BinOp.leq 3 (Operand.tmp 27) (Operand.const (Value.int IntKind.i64 256)) 3, type := 4, pos := "vers.go:17", after := #[{ on := 24, ground := Ground.data }, { on := 21, ground := Ground.guard }], guard := some (21, true) }) (v := undef) rfl (by kernel_rfl) (by kernel_rfl) (by kernel_rfl) (fun _ _ _ h => h) (Or.inr ⟨by rfl, rfl⟩) (by assumption) ?_
    (try simp only [Act.put, List.setIfInBounds_toArray, List.set_cons_zero, List.set_cons_succ])
    refine wpAnyH_take (i := 26) (oi := { dst := some 29, op := Op.pick (Operand.tmp 24) (Operand.tmp 28) (Operand.const (Value.bool false)), type := 4, pos := "vers.go:17", after := #[{ on := 21, ground := Ground.data }, { on := 25, ground := Ground.data }], guard := none }) (v := ?vd23) rfl (by kernel_rfl) (by kernel_rfl) (by kernel_rfl) (fun _ _ _ h => h) (Or.inl ⟨by rfl, ?hyd23⟩) (by assumption) ?restd23
    case hyd23 =>
     intro w hSw
     (try dsimp only at hSw)
     go_simp
     (try with_reducible rfl)
    (try simp only [Act.put, List.setIfInBounds_toArray, List.set_cons_zero, List.set_cons_succ])
    refine wpAnyH_take (i := 27) (oi := { dst := some 30, op := Op.move (Operand.tmp 29), type := 4, pos := "vers.go:17", after := #[{ on := 26, ground := Ground.data }, { on := 21, ground := Ground.chain }], guard := none }) (v := ?vd24) rfl (by kernel_rfl) (by kernel_rfl) (by kernel_rfl) (fun _ _ _ h => h) (Or.inl ⟨by rfl, ?hyd24⟩) (by assumption) ?restd24
    case hyd24 =>
     intro w hSw
     (try dsimp only at hSw)
     go_simp
     (try with_reducible rfl)
    (try simp only [Act.put, List.setIfInBounds_toArray, List.set_cons_zero, List.set_cons_succ])
    refine wpAnyH_take (i := 28) (oi := { dst := some 31, op := Op.fieldAddr 59 (Operand.tmp 1) 2, type := 0, pos := "vers.go:17", after := #[{ on := 27, ground := Ground.guard }], guard := some (27, true) }) (v := undef) rfl (by kernel_rfl) (by kernel_rfl) (by kernel_rfl) (fun _ _ _ h => h) (Or.inr ⟨by rfl, rfl⟩) (by assumption) ?_
    (try simp only [Act.put, List.setIfInBounds_toArray, List.set_cons_zero, List.set_cons_succ])
    refine wpAnyH_take (i := 29) (oi := { dst := some 32, op := Op.load 4 (Operand.tmp 31), type := 4, pos := "vers.go:17", after := #[{ on := 28, ground := Ground.data }, { on := 27, ground := Ground.guard }], guard := some (27, true) }) (v := undef) rfl (by kernel_rfl) (by kernel_rfl) (by kernel_rfl) (fun _ _ _ h => h) (Or.inr ⟨by rfl, rfl⟩) (by assumption) ?_
    (try simp only [Act.put, List.setIfInBounds_toArray, List.set_cons_zero, List.set_cons_succ])
    refine wpAnyH_take (i := 30) (oi := { dst := some 33, op := Op.unOp UnOp.not 4 (Operand.tmp 32), type := 4, pos := "vers.go:17", after := #[{ on := 29, ground := Ground.data }, { on := 27, ground := Ground.guard }], guard := some (27, true) }) (v := undef) rfl (by kernel_rfl) (by kernel_rfl) (by kernel_rfl) (fun _ _ _ h => h) (Or.inr ⟨by rfl, rfl⟩) (by assumption) ?_
    (try simp only [Act.put, List.setIfInBounds_toArray, List.set_cons_zero, List.set_cons_succ])
    refine wpAnyH_take (i := 31) (oi := { dst := some 34, op := Op.move (Operand.tmp 33), type := 4, pos := "vers.go:17", after := #[{ on := 30, ground := Ground.data }, { on := 27, ground := Ground.chain }, { on := 27, ground := Ground.guard }], guard := some (27, true) }) (v := undef) rfl (by kernel_rfl) (by kernel_rfl) (by kernel_rfl) (fun _ _ _ h => h) (Or.inr ⟨by rfl, rfl⟩) (by assumption) ?_
    (try simp only [Act.put, List.setIfInBounds_toArray, List.set_cons_zero, List.set_cons_succ])
    refine wpAnyH_take (i := 32) (oi := { dst := some 35, op := Op.fieldAddr 59 (Operand.tmp 1) 3, type := 0, pos := "vers.go:17", after := #[{ on := 31, ground := Ground.guard }], guard := some (31, false) }) (v := undef) rfl (by kernel_rfl) (by kernel_rfl) (by kernel_rfl) (fun _ _ _ h => h) (Or.inr ⟨by rfl, rfl⟩) (by assumption) ?_
    (try simp only [Act.put, List.setIfInBounds_toArray, List.set_cons_zero, List.set_cons_succ])
    refine wpAnyH_take (i := 33) (oi := { dst := some 36, op := Op.load 9 (Operand.tmp 35), type := 9, pos := "vers.go:17", after := #[{ on := 32, ground := Ground.data }, { on := 31, ground := Ground.guard }], guard := some (31, false) }) (v := undef) rfl (by kernel_rfl) (by kernel_rfl) (by kernel_rfl) (fun _ _ _ h => h) (Or.inr ⟨by rfl, rfl⟩) (by assumption) ?_
    (try simp only [Act.put, List.setIfInBounds_toArray, List.set_cons_zero, List.set_cons_succ])
    refine wpAnyH_take (i := 34) (oi := { dst := some 37, op := Op.binOp BinOp.eql 9 (Operand.tmp 36) (Operand.const (Value.string { data := #[] })) 9, type := 4, pos := "vers.go:17", after := #[{ on := 33, ground := Ground.data }, { on := 31, ground := Ground.guard }], guard := some (31, false) }) (v := undef) rfl (by kernel_rfl) (by kernel_rfl) (by kernel_rfl) (fun _ _ _ h => h) (Or.inr ⟨by rfl, rfl⟩) (by assumption) ?_
    (try simp only [Act.put, List.setIfInBounds_toArray, List.set_cons_zero, List.set_cons_succ])
    refine wpAnyH_take (i := 35) (oi := { dst := some 38, op := Op.pick (Operand.tmp 34) (Operand.const (Value.bool true)) (Operand.tmp 37), type := 4, pos := "vers.go:17", after := #[{ on := 31, ground := Ground.data }, { on := 34, ground := Ground.data }, { on := 27, ground := Ground.guard }], guard := some (27, true) }) (v := undef) rfl (by kernel_rfl) (by kernel_rfl) (by kernel_rfl) (fun _ _ _ h => h) (Or.inr ⟨by rfl, rfl⟩) (by assumption) ?_
    (try simp only [Act.put, List.setIfInBounds_toArray, List.set_cons_zero, List.set_cons_succ])
    refine wpAnyH_take (i := 36) (oi := { dst := some 39, op := Op.pick (Operand.tmp 30) (Operand.tmp 38) (Operand.const (Value.bool false)), type := 4, pos := "vers.go:17", after := #[{ on := 27, ground := Ground.data }, { on := 35, ground := Ground.data }], guard := none }) (v := ?vd33) rfl (by kernel_rfl) (by kernel_rfl) (by kernel_rfl) (fun _ _ _ h => h) (Or.inl ⟨by rfl, ?hyd33⟩) (by assumption) ?restd33
    case hyd33 =>
     intro w hSw
     (try dsimp only at hSw)
     go_simp
     (try with_reducible rfl)
    (try simp only [Act.put, List.setIfInBounds_toArray, List.set_cons_zero, List.set_cons_succ])
    refine wpAnyH_take (i := 37) (oi := { dst := some 2, op := Op.assign (Operand.tmp 39), type := 4, pos := "vers.go:17", after := #[{ on := 36, ground := Ground.data }, { on := 31, ground := Ground.chain }, { on := 0, ground := Ground.phase }, { on := 1, ground := Ground.phase }, { on := 2, ground := Ground.phase }, { on := 3, ground := Ground.phase }, { on := 4, ground := Ground.phase }, { on := 5, ground := Ground.phase }, { on := 6, ground := Ground.phase }, { on := 7, ground := Ground.phase }, { on := 8, ground := Ground.phase }, { on := 9, ground := Ground.phase }, { on := 10, ground := Ground.phase }, { on := 11, ground := Ground.phase }, { on := 12, ground := Ground.phase }, { on := 13, ground := Ground.phase }, { on := 14, ground := Ground.phase }, { on := 15, ground := Ground.phase }, { on := 16, ground := Ground.phase }, { on := 17, ground := Ground.phase }, { on := 18, ground := Ground.phase }, { on := 19, ground := Ground.phase }, { on := 20, ground := Ground.phase }, { on := 21, ground := Ground.phase }, { on := 22, ground := Ground.phase }, { on := 23, ground := Ground.phase }, { on := 24, ground := Ground.phase }, { on := 25, ground := Ground.phase }, { on := 26, ground := Ground.phase }, { on := 27, ground := Ground.phase }, { on := 28, ground := Ground.phase }, { on := 29, ground := Ground.phase }, { on := 30, ground := Ground.phase }, { on := 31, ground := Ground.phase }, { on := 32, ground := Ground.phase }, { on := 33, ground := Ground.phase }, { on := 34, ground := Ground.phase }, { on := 35, ground := Ground.phase }, { on := 36, ground := Ground.phase }], guard := none }) (v := ?vd34) rfl (by kernel_rfl) (by kernel_rfl) (by kernel_rfl) (fun _ _ _ h => h) (Or.inl ⟨by rfl, ?hyd34⟩) (by assumption) ?restd34
    case hyd34 =>
     intro w hSw
     (try dsimp only at hSw)
     go_simp
     (try with_reducible rfl)
    (try simp only [Act.put, List.setIfInBounds_toArray, List.set_cons_zero, List.set_cons_succ])
    refine wpAnyH_done (by kernel_rfl) ?_ _
    have BE := FI.out _ (B0.drew.trans ((b1.trans ((b2.trans ((b3.trans (b4.mono b3.size)).mono b2.size)).mono b1.size)).mono (Nat.le_of_lt hl)))
    clear b1 b2 b3 b4 B0 FI HP
    go_wp2
    go_ret
    exact ⟨by rw [HF.out]; rfl, BE⟩
  ·rw [decide_eq_false cB] at h2
   have H1 := Lib.hid h1
   have H2 := Lib.hid h2
   have HF := Lib.hid (show R = false by rw [← hR]; exact decide_eq_false fun h => cB (hok.1 h).2.1)
   clear h1 h2 hok hR cA cB
   refine wp_region_held_drew (S := (fun V => V.cell? ⟨m, 0, none⟩ = some (.int .i64 s) ∧ V.cell? ⟨m, 1, none⟩ = some (.int .i64 n) ∧ V.cell? ⟨m, 2, none⟩ = some (.slice A k c) ∧ V.cell? ⟨m, 3, none⟩ = some (.bool gone) ∧ V.cell? ⟨m, 4, none⟩ = some (.string val))) (by kernel_rfl) d0 (fun hHeld => ?_)
   refine wpAnyH_take (i := 0) (oi := { dst := some 3, op := Op.fieldAddr 59 (Operand.tmp 1) 0, type := 0, pos := "vers.go:17", after := #[], guard := none }) (v := ?ve1) rfl (by kernel_rfl) (by kernel_rfl) (by kernel_rfl) (fun _ _ _ h => h) (Or.inl ⟨by rfl, ?hye1⟩) (by assumption) ?reste1
   case hye1 =>
    intro w hSw
    (try dsimp only at hSw)
    go_simp
    (try with_reducible rfl)
   (try simp only [Act.put, List.setIfInBounds_toArray, List.set_cons_zero, List.set_cons_succ])
   refine wpAnyH_take (i := 1) (oi := { dst := some 4, op := Op.load 56 (Operand.tmp 3), type := 56, pos := "vers.go:17", after := #[{ on := 0, ground := Ground.data }], guard := none }) (v := ?ve2) rfl (by kernel_rfl) (by kernel_rfl) (by kernel_rfl) (fun _ _ _ h => h) (Or.inl ⟨by rfl, ?hye2⟩) (by assumption) ?reste2
   case hye2 =>
    intro w hSw
    (try dsimp only at hSw)
    go_simp
    (try with_reducible rfl)
   (try simp only [Act.put, List.setIfInBounds_toArray, List.set_cons_zero, List.set_cons_succ])
   refine wpAnyH_ready (rs := [2]) (by kernel_rfl) (by simp) ?_
   refine AllReadyH.cons (o := { dst := some 5, op := Op.call { callee := Callee.value (Operand.func 125), args := #[Operand.tmp 4], argTypes := #[56] }, type := 57, pos := "vers.go:17", after := #[{ on := 1, ground := Ground.data }], guard := none }) rfl (fun K hK => ?_) AllReadyH.nil
   go_simp
   (go_at_call 125; refine (HD.out _).mono ?_; rintro e w1 ⟨A1, rfl, n1, b1⟩)
   go_wp2_with fail
   refine hK.out _ _ (five_below (by exact hl) b1 hHeld) (fun hHeld => ?_)
   clear hK K
   (try simp only [Act.put, List.setIfInBounds_toArray, List.set_cons_zero, List.set_cons_succ])
   refine wpAnyH_ready (rs := [3]) (by kernel_rfl) (by simp) ?_
   refine AllReadyH.cons (o := { dst := some 6, op := Op.call { callee := Callee.value (Operand.func 124), args := #[Operand.tmp 5], argTypes := #[57] }, type := 4, pos := "vers.go:17", after := #[{ on := 2, ground := Ground.data }, { on := 2, ground := Ground.chain }], guard := none }) rfl (fun K hK => ?_) AllReadyH.nil
   go_simp
   (go_at_call 124; refine (H1.out _ _ n1).mono ?_; rintro e w2 ⟨rfl, b2⟩)
   go_wp2_with fail
   refine hK.out _ _ (five_below (Nat.lt_of_lt_of_le hl b1.size) b2 hHeld) (fun hHeld => ?_)
   clear hK K
   (try simp only [Act.put, List.setIfInBounds_toArray, List.set_cons_zero, List.set_cons_succ])
   refine wpAnyH_take (i := 4) (oi := { dst := some 7, op := Op.move (Operand.tmp 6), type := 4, pos := "vers.go:17", after := #[{ on := 3, ground := Ground.data }, { on := 3, ground := Ground.chain }], guard := none }) (v := ?ve3) rfl (by kernel_rfl) (by kernel_rfl) (by kernel_rfl) (fun _ _ _ h => h) (Or.inl ⟨by rfl, ?hye3⟩) (by assumption) ?reste3
   case hye3 =>
    intro w hSw
    (try dsimp only at hSw)
    go_simp
    (try with_reducible rfl)
   (try simp only [Act.put, List.setIfInBounds_toArray, List.set_cons_zero, List.set_cons_succ])
   refine wpAnyH_take (i := 5) (oi := { dst := some 8, op := Op.fieldAddr 59 (Operand.tmp 1) 1, type := 0, pos := "vers.go:17", after := #[{ on := 4, ground := Ground.guard }], guard := some (4, true) }) (v := ?ve4) rfl (by kernel_rfl) (by kernel_rfl) (by kernel_rfl) (fun _ _ _ h => h) (Or.inl ⟨by rfl, ?hye4⟩) (by assumption) ?reste4
   case hye4 =>
    intro w hSw
    (try dsimp only at hSw)
    go_simp
    (try with_reducible rfl)
   (try simp only [Act.put, List.setIfInBounds_toArray, List.set_cons_zero, List.set_cons_succ])
   refine wpAnyH_take (i := 6) (oi := { dst := some 9, op := Op.load 57 (Operand.tmp 8), type := 57, pos := "vers.go:17", after := #[{ on := 5, ground := Ground.data }, { on := 4, ground := Ground.guard }], guard := some (4, true) }) (v := ?ve5) rfl (by kernel_rfl) (by kernel_rfl) (by kernel_rfl) (fun _ _ _ h => h) (Or.inl ⟨by rfl, ?hye5⟩) (by assumption) ?reste5
   case hye5 =>
    intro w hSw
    (try dsimp only at hSw)
    go_simp
    (try with_reducible rfl)
   (try simp only [Act.put, List.setIfInBounds_toArray, List.set_cons_zero, List.set_cons_succ])
   refine wpAnyH_ready (rs := [7]) (by kernel_rfl) (by simp) ?_
   refine AllReadyH.cons (o := { dst := some 10, op := Op.call { callee := Callee.value (Operand.func 124), args := #[Operand.tmp 9], argTypes := #[57] }, type := 4, pos := "vers.go:18", after := #[{ on := 6, ground := Ground.data }, { on := 4, ground := Ground.chain }, { on := 4, ground := Ground.guard }], guard := some (4, true) }) rfl (fun K hK => ?_) AllReadyH.nil
   go_simp
   (go_at_call 124; refine (H2.out _ (HP.out _ (B0.drew.trans ((b1.trans (b2.mono b1.size)).mono (Nat.le_of_lt hl))))).mono ?_; rintro e w3 ⟨rfl, b3⟩)
   go_wp2_with fail
   refine hK.out _ _ (five_below (Nat.lt_of_lt_of_le hl (Nat.le_trans b1.size b2.size)) b3 hHeld) (fun hHeld => ?_)
   clear hK K
   (try simp only [Act.put, List.setIfInBounds_toArray, List.set_cons_zero, List.set_cons_succ])
   refine wpAnyH_take (i := 8) (oi := { dst := some 11, op := Op.pick (Operand.tmp 7) (Operand.tmp 10) (Operand.const (Value.bool false)), type := 4, pos := "vers.go:17", after := #[{ on := 4, ground := Ground.data }, { on := 7, ground := Ground.data }], guard := none }) (v := ?ve6) rfl (by kernel_rfl) (by kernel_rfl) (by kernel_rfl) (fun _ _ _ h => h) (Or.inl ⟨by rfl, ?hye6⟩) (by assumption) ?reste6
   case hye6 =>
    intro w hSw
    (try dsimp only at hSw)
    go_simp
    (try with_reducible rfl)
   (try simp only [Act.put, List.setIfInBounds_toArray, List.set_cons_zero, List.set_cons_succ])
   refine wpAnyH_take (i := 9) (oi := { dst := some 12, op := Op.move (Operand.tmp 11), type := 4, pos := "vers.go:17", after := #[{ on := 8, ground := Ground.data }, { on := 7, ground := Ground.chain }], guard := none }) (v := ?ve7) rfl (by kernel_rfl) (by kernel_rfl) (by kernel_rfl) (fun _ _ _ h => h) (Or.inl ⟨by rfl, ?hye7⟩) (by assumption) ?reste7
   case hye7 =>
    intro w hSw
    (try dsimp only at hSw)
    go_simp
    (try with_reducible rfl)
   (try simp only [Act.put, List.setIfInBounds_toArray, List.set_cons_zero, List.set_cons_succ])
   refine wpAnyH_take (i := 10) (oi := { dst := some 13, op := Op.fieldAddr 59 (Operand.tmp 1) 1, type := 0, pos := "vers.go:17", after := #[{ on := 9, ground := Ground.guard }], guard := some (9, true) }) (v := undef) rfl (by kernel_rfl) (by kernel_rfl) (by kernel_rfl) (fun _ _ _ h => h) (Or.inr ⟨by rfl, rfl⟩) (by assumption) ?_
   (try simp only [Act.put, List.setIfInBounds_toArray, List.set_cons_zero, List.set_cons_succ])
   refine wpAnyH_take (i := 11) (oi := { dst := some 14, op := Op.load 57 (Operand.tmp 13), type := 57, pos := "vers.go:17", after := #[{ on := 10, ground := Ground.data }, { on := 9, ground := Ground.guard }], guard := some (9, true) }) (v := undef) rfl (by kernel_rfl) (by kernel_rfl) (by kernel_rfl) (fun _ _ _ h => h) (Or.inr ⟨by rfl, rfl⟩) (by assumption) ?_
   (try simp only [Act.put, List.setIfInBounds_toArray, List.set_cons_zero, List.set_cons_succ])
   refine wpAnyH_take (i := 12) (oi := { dst := some 15, op := Op.fieldAddr 59 (Operand.tmp 1) 0, type := 0, pos := "vers.go:17", after := #[{ on := 9, ground := Ground.guard }], guard := some (9, true) }) (v := undef) rfl (by kernel_rfl) (by kernel_rfl) (by kernel_rfl) (fun _ _ _ h => h) (Or.inr ⟨by rfl, rfl⟩) (by assumption) ?_
   (try simp only [Act.put, List.setIfInBounds_toArray, List.set_cons_zero, List.set_cons_succ])
   refine wpAnyH_take (i := 13) (oi := { dst := some 16, op := Op.fieldAddr 56 (Operand.tmp 15) 0, type := 0, pos := "vers.go:17", after := #[{ on := 12, ground := Ground.data }, { on := 9, ground := Ground.guard }], guard := some (9, true) }) (v := undef) rfl (by kernel_rfl) (by kernel_rfl) (by kernel_rfl) (fun _ _ _ h => h) (Or.inr ⟨by rfl, rfl⟩) (by assumption) ?_
   (try simp only [Act.put, List.setIfInBounds_toArray, List.set_cons_zero, List.set_cons_succ])
   refine wpAnyH_take (i := 14) (oi := { dst := some 17, op := Op.load 3 (Operand.tmp 16), type := 3, pos := "vers.go:17", after := #[{ on := 13, ground := Ground.data }, { on := 9, ground := Ground.guard }], guard := some (9, true) }) (v := undef) rfl (by kernel_rfl) (by kernel_rfl) (by kernel_rfl) (fun _ _ _ h => h) (Or.inr ⟨by rfl, rfl⟩) (by assumption) ?_
   (try simp only [Act.put, List.setIfInBounds_toArray, List.set_cons_zero, List.set_cons_succ])
   refine wpAnyH_take (i := 15) (oi := { dst := some 18, op := Op.call { callee := Callee.value (Operand.func 126), args := #[Operand.tmp 14, Operand.tmp 17], argTypes := #[57, 3] }, type := 2, pos := "vers.go:18", after := #[{ on := 11, ground := Ground.data }, { on := 14, ground := Ground.data }, { on := 9, ground := Ground.chain }, { on := 9, ground := Ground.guard }], guard := some (9, true) }) (v := undef) rfl (by kernel_rfl) (by kernel_rfl) (by kernel_rfl) (fun _ _ _ h => h) (Or.inr ⟨by rfl, rfl⟩) (by assumption) ?_
   (try simp only [Act.put, List.setIfInBounds_toArray, List.set_cons_zero, List.set_cons_succ])
   refine wpAnyH_take (i := 16) (oi := { dst := some 19, op := Op.fieldAddr 59 (Operand.tmp 1) 0, type := 0, pos := "vers.go:17", after := #[{ on := 9, ground := Ground.guard }], guard := some (9, true) }) (v := undef) rfl (by kernel_rfl) (by kernel_rfl) (by kernel_rfl) (fun _ _ _ h => h) (Or.inr ⟨by rfl, rfl⟩) (by assumption) ?_
   (try simp only [Act.put, List.setIfInBounds_toArray, List.set_cons_zero, List.set_cons_succ])
   refine wpAnyH_take (i := 17) (oi := { dst := some 20, op := Op.fieldAddr 56 (Operand.tmp 19) 1, type := 0, pos := "vers.go:17", after := #[{ on := 16, ground := Ground.data }, { on := 9, ground := Ground.guard }], guard := some (9, true) }) (v := undef) rfl (by kernel_rfl) (by kernel_rfl) (by kernel_rfl) (fun _ _ _ h => h) (Or.inr ⟨by rfl, rfl⟩) (by assumption) ?_
   (try simp only [Act.put, List.setIfInBounds_toArray, List.set_cons_zero, List.set_cons_succ])
   refine wpAnyH_take (i := 18) (oi := { dst := some 21, op := Op.load 2 (Operand.tmp 20), type := 2, pos := "vers.go:17", after := #[{ on := 17, ground := Ground.data }, { on := 9, ground := Ground.guard }], guard := some (9, true) }) (v := undef) rfl (by kernel_rfl) (by kernel_rfl) (by kernel_rfl) (fun _ _ _ h => h) (Or.inr ⟨by rfl, rfl⟩) (by assumption) ?_
   (try simp only [Act.put, List.setIfInBounds_toArray, List.set_cons_zero, List.set_cons_succ])
   refine wpAnyH_take (i := 19) (oi := { dst := some 22, op := Op.binOp BinOp.lss 2 (Operand.tmp 18) (Operand.tmp 21) 2, type := 4, pos := "vers.go:17", after := #[{ on := 15, ground := Ground.data }, { on := 18, ground := Ground.data }, { on := 9, ground := Ground.guard }], guard := some (9, true) }) (v := undef) rfl (by kernel_rfl) (by kernel_rfl) (by kernel_rfl) (fun _ _ _ h => h) (Or.inr ⟨by rfl, rfl⟩) (by assumption) ?_
   (try simp only [Act.put, List.setIfInBounds_toArray, List.set_cons_zero, List.set_cons_succ])
   refine wpAnyH_take (i := 20) (oi := { dst := some 23, op := Op.pick (Operand.tmp 12) (Operand.tmp 22) (Operand.const (Value.bool false)), type := 4, pos := "vers.go:17", after := #[{ on := 9, ground := Ground.data }, { on := 19, ground := Ground.data }], guard := none }) (v := ?ve18) rfl (by kernel_rfl) (by kernel_rfl) (by kernel_rfl) (fun _ _ _ h => h) (Or.inl ⟨by rfl, ?hye18⟩) (by assumption) ?reste18
   case hye18 =>
    intro w hSw
    (try dsimp only at hSw)
    go_simp
    (try with_reducible rfl)
   (try simp only [Act.put, List.setIfInBounds_toArray, List.set_cons_zero, List.set_cons_succ])
   refine wpAnyH_take (i := 21) (oi := { dst := some 24, op := Op.move (Operand.tmp 23), type := 4, pos := "vers.go:17", after := #[{ on := 20, ground := Ground.data }, { on := 15, ground := Ground.chain }], guard := none }) (v := ?ve19) rfl (by kernel_rfl) (by kernel_rfl) (by kernel_rfl) (fun _ _ _ h => h) (Or.inl ⟨by rfl, ?hye19⟩) (by assumption) ?reste19
   case hye19 =>
    intro w hSw
    (try dsimp only at hSw)
    go_simp
    (try with_reducible rfl)
   (try simp only [Act.put, List.setIfInBounds_toArray, List.set_cons_zero, List.set_cons_succ])
   refine wpAnyH_take (i := 22) (oi := { dst := some 25, op := Op.fieldAddr 59 (Operand.tmp 1) 3, type := 0, pos := "vers.go:17", after := #[{ on := 21, ground := Ground.guard }], guard := some (21, true) }) (v := undef) rfl (by kernel_rfl) (by kernel_rfl) (by kernel_rfl) (fun _ _ _ h => h) (Or.inr ⟨by rfl, rfl⟩) (by assumption) ?_
   (try simp only [Act.put, List.setIfInBounds_toArray, List.set_cons_zero, List.set_cons_succ])
   refine wpAnyH_take (i := 23) (oi := { dst := some 26, op := Op.load 9 (Operand.tmp 25), type := 9, pos := "vers.go:17", after := #[{ on := 22, ground := Ground.data }, { on := 21, ground := Ground.guard }], guard := some (21, true) }) (v := undef) rfl (by kernel_rfl) (by kernel_rfl) (by kernel_rfl) (fun _ _ _ h => h) (Or.inr ⟨by rfl, rfl⟩) (by assumption) ?_
   (try simp only [Act.put, List.setIfInBounds_toArray, List.set_cons_zero, List.set_cons_succ])
   refine wpAnyH_take (i := 24) (oi := { dst := some 27, op := Op.call { callee := Callee.builtin Builtin.len, args := #[Operand.tmp 26], argTypes := #[9] }, type := 3, pos := "vers.go:17", after := #[{ on := 23, ground := Ground.data }, { on := 21, ground := Ground.guard }], guard := some (21, true) }) (v := undef) rfl (by kernel_rfl) (by kernel_rfl) (by kernel_rfl) (fun _ _ _ h => h) (Or.inr ⟨by rfl, rfl⟩) (by assumption) ?_
   (try simp only [Act.put, List.setIfInBounds_toArray, List.set_cons_zero, List.set_cons_succ])
   refine wpAnyH_take (i := 25) (oi := { dst := some 28, op := Op.binOp BinOp.leq 3 (Operand.tmp 27) (Operand.const (Value.int IntKind.i64 256)) 3, type := 4, pos := "vers.go:17", after := #[{ on := 24, ground := Ground.data }, { on := 21, ground := Ground.guard }], guard := some (21, true) }) (v := undef) rfl (by kernel_rfl) (by kernel_rfl) (by kernel_rfl) (fun _ _ _ h => h) (Or.inr ⟨by rfl, rfl⟩) (by assumption) ?_
   (try simp only [Act.put, List.setIfInBounds_toArray, List.set_cons_zero, List.set_cons_succ])
   refine wpAnyH_take (i := 26) (oi := { dst := some 29, op := Op.pick (Operand.tmp 24) (Operand.tmp 28) (Operand.const (Value.bool false)), type := 4, pos := "vers.go:17", after := #[{ on := 21, ground := Ground.data }, { on := 25, ground := Ground.data }], guard := none }) (v := ?ve24) rfl (by kernel_rfl) (by kernel_rfl) (by kernel_rfl) (fun _ _ _ h => h) (Or.inl ⟨by rfl, ?hye24⟩) (by assumption) ?reste24
   case hye24 =>
    intro w hSw
    (try dsimp only at hSw)
    go_simp
    (try with_reducible rfl)
   (try simp only [Act.put, List.setIfInBounds_toArray, List.set_cons_zero, List.set_cons_succ])
   refine wpAnyH_take (i := 27) (oi := { dst := some 30, op := Op.move (Operand.tmp 29), type := 4, pos := "vers.go:17", after := #[{ on := 26, ground := Ground.data }, { on := 21, ground := Ground.chain }], guard := none }) (v := ?ve25) rfl (by kernel_rfl) (by kernel_rfl) (by kernel_rfl) (fun _ _ _ h => h) (Or.inl ⟨by rfl, ?hye25⟩) (by assumption) ?reste25
   case hye25 =>
    intro w hSw
    (try dsimp only at hSw)
    go_simp
    (try with_reducible rfl)
   (try simp only [Act.put, List.setIfInBounds_toArray, List.set_cons_zero, List.set_cons_succ])
   refine wpAnyH_take (i := 28) (oi := { dst := some 31, op := Op.fieldAddr 59 (Operand.tmp 1) 2, type := 0, pos := "vers.go:17", after := #[{ on := 27, ground := Ground.guard }], guard := some (27, true) }) (v := undef) rfl (by kernel_rfl) (by kernel_rfl) (by kernel_rfl) (fun _ _ _ h => h) (Or.inr ⟨by rfl, rfl⟩) (by assumption) ?_
   (try simp only [Act.put, List.setIfInBounds_toArray, List.set_cons_zero, List.set_cons_succ])
   refine wpAnyH_take (i := 29) (oi := { dst := some 32, op := Op.load 4 (Operand.tmp 31), type := 4, pos := "vers.go:17", after := #[{ on := 28, ground := Ground.data }, { on := 27, ground := Ground.guard }], guard := some (27, true) }) (v := undef) rfl (by kernel_rfl) (by kernel_rfl) (by kernel_rfl) (fun _ _ _ h => h) (Or.inr ⟨by rfl, rfl⟩) (by assumption) ?_
   (try simp only [Act.put, List.setIfInBounds_toArray, List.set_cons_zero, List.set_cons_succ])
   refine wpAnyH_take (i := 30) (oi := { dst := some 33, op := Op.unOp UnOp.not 4 (Operand.tmp 32), type := 4, pos := "vers.go:17", after := #[{ on := 29, ground := Ground.data }, { on := 27, ground := Ground.guard }], guard := some (27, true) }) (v := undef) rfl (by kernel_rfl) (by kernel_rfl) (by kernel_rfl) (fun _ _ _ h => h) (Or.inr ⟨by rfl, rfl⟩) (by assumption) ?_
   (try simp only [Act.put, List.setIfInBounds_toArray, List.set_cons_zero, List.set_cons_succ])
   refine wpAnyH_take (i := 31) (oi := { dst := some 34, op := Op.move (Operand.tmp 33), type := 4, pos := "vers.go:17", after := #[{ on := 30, ground := Ground.data }, { on := 27, ground := Ground.chain }, { on := 27, ground := Ground.guard }], guard := some (27, true) }) (v := undef) rfl (by kernel_rfl) (by kernel_rfl) (by kernel_rfl) (fun _ _ _ h => h) (Or.inr ⟨by rfl, rfl⟩) (by assumption) ?_
   (try simp only [Act.put, List.setIfInBounds_toArray, List.set_cons_zero, List.set_cons_succ])
   refine wpAnyH_take (i := 32) (oi := { dst := some 35, op := Op.fieldAddr 59 (Operand.tmp 1) 3, type := 0, pos := "vers.go:17", after := #[{ on := 31, ground := Ground.guard }], guard := some (31, false) }) (v := undef) rfl (by kernel_rfl) (by kernel_rfl) (by kernel_rfl) (fun _ _ _ h => h) (Or.inr ⟨by rfl, rfl⟩) (by assumption) ?_
   (try simp only [Act.put, List.setIfInBounds_toArray, List.set_cons_zero, List.set_cons_succ])
   refine wpAnyH_take (i := 33) (oi := { dst := some 36, op := Op.load 9 (Operand.tmp 35), type := 9, pos := "vers.go:17", after := #[{ on := 32, ground := Ground.data }, { on := 31, ground := Ground.guard }], guard := some (31, false) }) (v := undef) rfl (by kernel_rfl) (by kernel_rfl) (by kernel_rfl) (fun _ _ _ h => h) (Or.inr ⟨by rfl, rfl⟩) (by assumption) ?_
   (try simp only [Act.put, List.setIfInBounds_toArray, List.set_cons_zero, List.set_cons_succ])
   refine wpAnyH_take (i := 34) (oi := { dst := some 37, op := Op.binOp BinOp.eql 9 (Operand.tmp 36) (Operand.const (Value.string { data := #[] })) 9, type := 4, pos := "vers.go:17", after := #[{ on := 33, ground := Ground.data }, { on := 31, ground := Ground.guard }], guard := some (31, false) }) (v := undef) rfl (by kernel_rfl) (by kernel_rfl) (by kernel_rfl) (fun _ _ _ h => h) (Or.inr ⟨by rfl, rfl⟩) (by assumption) ?_
   (try simp only [Act.put, List.setIfInBounds_toArray, List.set_cons_zero, List.set_cons_succ])
   refine wpAnyH_take (i := 35) (oi := { dst := some 38, op := Op.pick (Operand.tmp 34) (Operand.const (Value.bool true)) (Operand.tmp 37), type := 4, pos := "vers.go:17", after := #[{ on := 31, ground := Ground.data }, { on := 34, ground := Ground.data }, { on := 27, ground := Ground.guard }], guard := some (27, true) }) (v := undef) rfl (by kernel_rfl) (by kernel_rfl) (by kernel_rfl) (fun _ _ _ h => h) (Or.inr ⟨by rfl, rfl⟩) (by assumption) ?_
   (try simp only [Act.put, List.setIfInBounds_toArray, List.set_cons_zero, List.set_cons_succ])
   refine wpAnyH_take (i := 36) (oi := { dst := some 39, op := Op.pick (Operand.tmp 30) (Operand.tmp 38) (Operand.const (Value.bool false)), type := 4, pos := "vers.go:17", after := #[{ on := 27, ground := Ground.data }, { on := 35, ground := Ground.data }], guard := none }) (v := ?ve34) rfl (by kernel_rfl) (by kernel_rfl) (by kernel_rfl) (fun _ _ _ h => h) (Or.inl ⟨by rfl, ?hye34⟩) (by assumption) ?reste34
   case hye34 =>
    intro w hSw
    (try dsimp only at hSw)
    go_simp
    (try with_reducible rfl)
   (try simp only [Act.put, List.setIfInBounds_toArray, List.set_cons_zero, List.set_cons_succ])
   refine wpAnyH_take (i := 37) (oi := { dst := some 2, op := Op.assign (Operand.tmp 39), type := 4, pos := "vers.go:17", after := #[{ on := 36, ground := Ground.data }, { on := 31, ground := Ground.chain }, { on := 0, ground := Ground.phase }, { on := 1, ground := Ground.phase }, { on := 2, ground := Ground.phase }, { on := 3, ground := Ground.phase }, { on := 4, ground := Ground.phase }, { on := 5, ground := Ground.phase }, { on := 6, ground := Ground.phase }, { on := 7, ground := Ground.phase }, { on := 8, ground := Ground.phase }, { on := 9, ground := Ground.phase }, { on := 10, ground := Ground.phase }, { on := 11, ground := Ground.phase }, { on := 12, ground := Ground.phase }, { on := 13, ground := Ground.phase }, { on := 14, ground := Ground.phase }, { on := 15, ground := Ground.phase }, { on := 16, ground := Ground.phase }, { on := 17, ground := Ground.phase }, { on := 18, ground := Ground.phase }, { on := 19, ground := Ground.phase }, { on := 20, ground := Ground.phase }, { on := 21, ground := Ground.phase }, { on := 22, ground := Ground.phase }, { on := 23, ground := Ground.phase }, { on := 24, ground := Ground.phase }, { on := 25, ground := Ground.phase }, { on := 26, ground := Ground.phase }, { on := 27, ground := Ground.phase }, { on := 28, ground := Ground.phase }, { on := 29, ground := Ground.phase }, { on := 30, ground := Ground.phase }, { on := 31, ground := Ground.phase }, { on := 32, ground := Ground.phase }, { on := 33, ground := Ground.phase }, { on := 34, ground := Ground.phase }, { on := 35, ground := Ground.phase }, { on := 36, ground := Ground.phase }], guard := none }) (v := ?ve35) rfl (by kernel_rfl) (by kernel_rfl) (by kernel_rfl) (fun _ _ _ h => h) (Or.inl ⟨by rfl, ?hye35⟩) (by assumption) ?reste35
   case hye35 =>
    intro w hSw
    (try dsimp only at hSw)
    go_simp
    (try with_reducible rfl)
   (try simp only [Act.put, List.setIfInBounds_toArray, List.set_cons_zero, List.set_cons_succ])
   refine wpAnyH_done (by kernel_rfl) ?_ _
   have BE := FI.out _ (B0.drew.trans ((b1.trans ((b2.trans (b3.mono b2.size)).mono b1.size)).mono (Nat.le_of_lt hl)))
   clear b1 b2 b3 B0 FI HP
   go_wp2
   go_ret
   exact ⟨by rw [HF.out]; rfl, BE⟩
 ·rw [decide_eq_false cA] at h1
  have H1 := Lib.hid h1
  have HF := Lib.hid (show R = false by rw [← hR]; exact decide_eq_false fun h => cA (hok.1 h).1)
  clear h1 h2 hok hR cA
  refine wp_region_held_drew (S := (fun V => V.cell? ⟨m, 0, none⟩ = some (.int .i64 s) ∧ V.cell? ⟨m, 1, none⟩ = some (.int .i64 n) ∧ V.cell? ⟨m, 2, none⟩ = some (.slice A k c) ∧ V.cell? ⟨m, 3, none⟩ = some (.bool gone) ∧ V.cell? ⟨m, 4, none⟩ = some (.string val))) (by kernel_rfl) d0 (fun hHeld => ?_)
  refine wpAnyH_take (i := 0) (oi := { dst := some 3, op := Op.fieldAddr 59 (Operand.tmp 1) 0, type := 0, pos := "vers.go:17", after := #[], guard := none }) (v := ?vf1) rfl (by kernel_rfl) (by kernel_rfl) (by kernel_rfl) (fun _ _ _ h => h) (Or.inl ⟨by rfl, ?hyf1⟩) (by assumption) ?restf1
  case hyf1 =>
   intro w hSw
   (try dsimp only at hSw)
   go_simp
   (try with_reducible rfl)
  (try simp only [Act.put, List.setIfInBounds_toArray, List.set_cons_zero, List.set_cons_succ])
  refine wpAnyH_take (i := 1) (oi := { dst := some 4, op := Op.load 56 (Operand.tmp 3), type := 56, pos := "vers.go:17", after := #[{ on := 0, ground := Ground.data }], guard := none }) (v := ?vf2) rfl (by kernel_rfl) (by kernel_rfl) (by kernel_rfl) (fun _ _ _ h => h) (Or.inl ⟨by rfl, ?hyf2⟩) (by assumption) ?restf2
  case hyf2 =>
   intro w hSw
   (try dsimp only at hSw)
   go_simp
   (try with_reducible rfl)
  (try simp only [Act.put, List.setIfInBounds_toArray, List.set_cons_zero, List.set_cons_succ])
  refine wpAnyH_ready (rs := [2]) (by kernel_rfl) (by simp) ?_
  refine AllReadyH.cons (o := { dst := some 5, op := Op.call { callee := Callee.value (Operand.func 125), args := #[Operand.tmp 4], argTypes := #[56] }, type := 57, pos := "vers.go:17", after := #[{ on := 1, ground := Ground.data }], guard := none }) rfl (fun K hK => ?_) AllReadyH.nil
  go_simp
  (go_at_call 125; refine (HD.out _).mono ?_; rintro e w1 ⟨A1, rfl, n1, b1⟩)
  go_wp2_with fail
  refine hK.out _ _ (five_below (by exact hl) b1 hHeld) (fun hHeld => ?_)
  clear hK K
  (try simp only [Act.put, List.setIfInBounds_toArray, List.set_cons_zero, List.set_cons_succ])
  refine wpAnyH_ready (rs := [3]) (by kernel_rfl) (by simp) ?_
  refine AllReadyH.cons (o := { dst := some 6, op := Op.call { callee := Callee.value (Operand.func 124), args := #[Operand.tmp 5], argTypes := #[57] }, type := 4, pos := "vers.go:17", after := #[{ on := 2, ground := Ground.data }, { on := 2, ground := Ground.chain }], guard := none }) rfl (fun K hK => ?_) AllReadyH.nil
  go_simp
  (go_at_call 124; refine (H1.out _ _ n1).mono ?_; rintro e w2 ⟨rfl, b2⟩)
  go_wp2_with fail
  refine hK.out _ _ (five_below (Nat.lt_of_lt_of_le hl b1.size) b2 hHeld) (fun hHeld => ?_)
  clear hK K
  (try simp only [Act.put, List.setIfInBounds_toArray, List.set_cons_zero, List.set_cons_succ])
  refine wpAnyH_take (i := 4) (oi := { dst := some 7, op := Op.move (Operand.tmp 6), type := 4, pos := "vers.go:17", after := #[{ on := 3, ground := Ground.data }, { on := 3, ground := Ground.chain }], guard := none }) (v := ?vf3) rfl (by kernel_rfl) (by kernel_rfl) (by kernel_rfl) (fun _ _ _ h => h) (Or.inl ⟨by rfl, ?hyf3⟩) (by assumption) ?restf3
  case hyf3 =>
   intro w hSw
   (try dsimp only at hSw)
   go_simp
   (try with_reducible rfl)
  (try simp only [Act.put, List.setIfInBounds_toArray, List.set_cons_zero, List.set_cons_succ])
  refine wpAnyH_take (i := 5) (oi := { dst := some 8, op := Op.fieldAddr 59 (Operand.tmp 1) 1, type := 0, pos := "vers.go:17", after := #[{ on := 4, ground := Ground.guard }], guard := some (4, true) }) (v := undef) rfl (by kernel_rfl) (by kernel_rfl) (by kernel_rfl) (fun _ _ _ h => h) (Or.inr ⟨by rfl, rfl⟩) (by assumption) ?_
  (try simp only [Act.put, List.setIfInBounds_toArray, List.set_cons_zero, List.set_cons_succ])
  refine wpAnyH_take (i := 6) (oi := { dst := some 9, op := Op.load 57 (Operand.tmp 8), type := 57, pos := "vers.go:17", after := #[{ on := 5, ground := Ground.data }, { on := 4, ground := Ground.guard }], guard := some (4, true) }) (v := undef) rfl (by kernel_rfl) (by kernel_rfl) (by kernel_rfl) (fun _ _ _ h => h) (Or.inr ⟨by rfl, rfl⟩) (by assumption) ?_
  (try simp only [Act.put, List.setIfInBounds_toArray, List.set_cons_zero, List.set_cons_succ])
  refine wpAnyH_take (i := 7) (oi := { dst := some 10, op := Op.call { callee := Callee.value (Operand.func 124), args := #[Operand.tmp 9], argTypes := #[57] }, type := 4, pos := "vers.go:18", after := #[{ on := 6, ground := Ground.data }, { on := 4, ground := Ground.chain }, { on := 4, ground := Ground.guard }], guard := some (4, true) }) (v := undef) rfl (by kernel_rfl) (by kernel_rfl) (by kernel_rfl) (fun _ _ _ h => h) (Or.inr ⟨by rfl, rfl⟩) (by assumption) ?_
  (try simp only [Act.put, List.setIfInBounds_toArray, List.set_cons_zero, List.set_cons_succ])
  refine wpAnyH_take (i := 8) (oi := { dst := some 11, op := Op.pick (Operand.tmp 7) (Operand.tmp 10) (Operand.const (Value.bool false)), type := 4, pos := "vers.go:17", after := #[{ on := 4, ground := Ground.data }, { on := 7, ground := Ground.data }], guard := none }) (v := ?vf7) rfl (by kernel_rfl) (by kernel_rfl) (by kernel_rfl) (fun _ _ _ h => h) (Or.inl ⟨by rfl, ?hyf7⟩) (by assumption) ?restf7
  case hyf7 =>
   intro w hSw
   (try dsimp only at hSw)
   go_simp
   (try with_reducible rfl)
  (try simp only [Act.put, List.setIfInBounds_toArray, List.set_cons_zero, List.set_cons_succ])
  refine wpAnyH_take (i := 9) (oi := { dst := some 12, op := Op.move (Operand.tmp 11), type := 4, pos := "vers.go:17", after := #[{ on := 8, ground := Ground.data }, { on := 7, ground := Ground.chain }], guard := none }) (v := ?vf8) rfl (by kernel_rfl) (by kernel_rfl) (by kernel_rfl) (fun _ _ _ h => h) (Or.inl ⟨by rfl, ?hyf8⟩) (by assumption) ?restf8
  case hyf8 =>
   intro w hSw
   (try dsimp only at hSw)
   go_simp
   (try with_reducible rfl)
  (try simp only [Act.put, List.setIfInBounds_toArray, List.set_cons_zero, List.set_cons_succ])
  refine wpAnyH_take (i := 10) (oi := { dst := some 13, op := Op.fieldAddr 59 (Operand.tmp 1) 1, type := 0, pos := "vers.go:17", after := #[{ on := 9, ground := Ground.guard }], guard := some (9, true) }) (v := undef) rfl (by kernel_rfl) (by kernel_rfl) (by kernel_rfl) (fun _ _ _ h => h) (Or.inr ⟨by rfl, rfl⟩) (by assumption) ?_
  (try simp only [Act.put, List.setIfInBounds_toArray, List.set_cons_zero, List.set_cons_succ])
  refine wpAnyH_take (i := 11) (oi := { dst := some 14, op := Op.load 57 (Operand.tmp 13), type := 57, pos := "vers.go:17", after := #[{ on := 10, ground := Ground.data }, { on := 9, ground := Ground.guard }], guard := some (9, true) }) (v := undef) rfl (by kernel_rfl) (by kernel_rfl) (by kernel_rfl) (fun _ _ _ h => h) (Or.inr ⟨by rfl, rfl⟩) (by assumption) ?_
  (try simp only [Act.put, List.setIfInBounds_toArray, List.set_cons_zero, List.set_cons_succ])
  refine wpAnyH_take (i := 12) (oi := { dst := some 15, op := Op.fieldAddr 59 (Operand.tmp 1) 0, type := 0, pos := "vers.go:17", after := #[{ on := 9, ground := Ground.guard }], guard := some (9, true) }) (v := undef) rfl (by kernel_rfl) (by kernel_rfl) (by kernel_rfl) (fun _ _ _ h => h) (Or.inr ⟨by rfl, rfl⟩) (by assumption) ?_
  (try simp only [Act.put, List.setIfInBounds_toArray, List.set_cons_zero, List.set_cons_succ])
  refine wpAnyH_take (i := 13) (oi := { dst := some 16, op := Op.fieldAddr 56 (Operand.tmp 15) 0, type := 0, pos := "vers.go:17", after := #[{ on := 12, ground := Ground.data }, { on := 9, ground := Ground.guard }], guard := some (9, true) }) (v := undef) rfl (by kernel_rfl) (by kernel_rfl) (by kernel_rfl) (fun _ _ _ h => h) (Or.inr ⟨by rfl, rfl⟩) (by assumption) ?_
  (try simp only [Act.put, List.setIfInBounds_toArray, List.set_cons_zero, List.set_cons_succ])
  refine wpAnyH_take (i := 14) (oi := { dst := some 17, op := Op.load 3 (Operand.tmp 16), type := 3, pos := "vers.go:17", after := #[{ on := 13, ground := Ground.data }, { on := 9, ground := Ground.guard }], guard := some (9, true) }) (v := undef) rfl (by kernel_rfl) (by kernel_rfl) (by kernel_rfl) (fun _ _ _ h => h) (Or.inr ⟨by rfl, rfl⟩) (by assumption) ?_
  (try simp only [Act.put, List.setIfInBounds_toArray, List.set_cons_zero, List.set_cons_succ])
  refine wpAnyH_take (i := 15) (oi := { dst := some 18, op := Op.call { callee := Callee.value (Operand.func 126), args := #[Operand.tmp 14, Operand.tmp 17], argTypes := #[57, 3] }, type := 2, pos := "vers.go:18", after := #[{ on := 11, ground := Ground.data }, { on := 14, ground := Ground.data }, { on := 9, ground := Ground.chain }, { on := 9, ground := Ground.guard }], guard := some (9, true) }) (v := undef) rfl (by kernel_rfl) (by kernel_rfl) (by kernel_rfl) (fun _ _ _ h => h) (Or.inr ⟨by rfl, rfl⟩) (by assumption) ?_
  (try simp only [Act.put, List.setIfInBounds_toArray, List.set_cons_zero, List.set_cons_succ])
  refine wpAnyH_take (i := 16) (oi := { dst := some 19, op := Op.fieldAddr 59 (Operand.tmp 1) 0, type := 0, pos := "vers.go:17", after := #[{ on := 9, ground := Ground.guard }], guard := some (9, true) }) (v := undef) rfl (by kernel_rfl) (by kernel_rfl) (by kernel_rfl) (fun _ _ _ h => h) (Or.inr ⟨by rfl, rfl⟩) (by assumption) ?_
  (try simp only [Act.put, List.setIfInBounds_toArray, List.set_cons_zero, List.set_cons_succ])
  refine wpAnyH_take (i := 17) (oi := { dst := some 20, op := Op.fieldAddr 56 (Operand.tmp 19) 1, type := 0, pos := "vers.go:17", after := #[{ on := 16, ground := Ground.data }, { on := 9, ground := Ground.guard }], guard := some (9, true) }) (v := undef) rfl (by kernel_rfl) (by kernel_rfl) (by kernel_rfl) (fun _ _ _ h => h) (Or.inr ⟨by rfl, rfl⟩) (by assumption) ?_
  (try simp only [Act.put, List.setIfInBounds_toArray, List.set_cons_zero, List.set_cons_succ])
  refine wpAnyH_take (i := 18) (oi := { dst := some 21, op := Op.load 2 (Operand.tmp 20), type := 2, pos := "vers.go:17", after := #[{ on := 17, ground := Ground.data }, { on := 9, ground := Ground.guard }], guard := some (9, true) }) (v := undef) rfl (by kernel_rfl) (by kernel_rfl) (by kernel_rfl) (fun _ _ _ h => h) (Or.inr ⟨by rfl, rfl⟩) (by assumption) ?_
  (try simp only [Act.put, List.setIfInBounds_toArray, List.set_cons_zero, List.set_cons_succ])
  refine wpAnyH_take (i := 19) (oi := { dst := some 22, op := Op.binOp BinOp.lss 2 (Operand.tmp 18) (Operand.tmp 21) 2, type := 4, pos := "vers.go:17", after := #[{ on := 15, ground := Ground.data }, { on := 18, ground := Ground.data }, { on := 9, ground := Ground.guard }], guard := some (9, true) }) (v := undef) rfl (by kernel_rfl) (by kernel_rfl) (by kernel_rfl) (fun _ _ _ h => h) (Or.inr ⟨by rfl, rfl⟩) (by assumption) ?_
  (try simp only [Act.put, List.setIfInBounds_toArray, List.set_cons_zero, List.set_cons_succ])
  refine wpAnyH_take (i := 20) (oi := { dst := some 23, op := Op.pick (Operand.tmp 12) (Operand.tmp 22) (Operand.const (Value.bool false)), type := 4, pos := "vers.go:17", after := #[{ on := 9, ground := Ground.data }, { on := 19, ground := Ground.data }], guard := none }) (v := ?vf19) rfl (by kernel_rfl) (by kernel_rfl) (by kernel_rfl) (fun _ _ _ h => h) (Or.inl ⟨by rfl, ?hyf19⟩) (by assumption) ?restf19
  case hyf19 =>
   intro w hSw
   (try dsimp only at hSw)
   go_simp
   (try with_reducible rfl)
  (try simp only [Act.put, List.setIfInBounds_toArray, List.set_cons_zero, List.set_cons_succ])
  refine wpAnyH_take (i := 21) (oi := { dst := some 24, op := Op.move (Operand.tmp 23), type := 4, pos := "vers.go:17", after := #[{ on := 20, ground := Ground.data }, { on := 15, ground := Ground.chain }], guard := none }) (v := ?vf20) rfl (by kernel_rfl) (by kernel_rfl) (by kernel_rfl) (fun _ _ _ h => h) (Or.inl ⟨by rfl, ?hyf20⟩) (by assumption) ?restf20
  case hyf20 =>
   intro w hSw
   (try dsimp only at hSw)
   go_simp
   (try with_reducible rfl)
  (try simp only [Act.put, List.setIfInBounds_toArray, List.set_cons_zero, List.set_cons_succ])
  refine wpAnyH_take (i := 22) (oi := { dst := some 25, op := Op.fieldAddr 59 (Operand.tmp 1) 3, type := 0, pos := "vers.go:17", after := #[{ on := 21, ground := Ground.guard }], guard := some (21, true) }) (v := undef) rfl (by kernel_rfl) (by kernel_rfl) (by kernel_rfl) (fun _ _ _ h => h) (Or.inr ⟨by rfl, rfl⟩) (by assumption) ?_
  (try simp only [Act.put, List.setIfInBounds_toArray, List.set_cons_zero, List.set_cons_succ])
  refine wpAnyH_take (i := 23) (oi := { dst := some 26, op := Op.load 9 (Operand.tmp 25), type := 9, pos := "vers.go:17", after := #[{ on := 22, ground := Ground.data }, { on := 21, ground := Ground.guard }], guard := some (21, true) }) (v := undef) rfl (by kernel_rfl) (by kernel_rfl) (by kernel_rfl) (fun _ _ _ h => h) (Or.inr ⟨by rfl, rfl⟩) (by assumption) ?_
  (try simp only [Act.put, List.setIfInBounds_toArray, List.set_cons_zero, List.set_cons_succ])
  refine wpAnyH_take (i := 24) (oi := { dst := some 27, op := Op.call { callee := Callee.builtin Builtin.len, args := #[Operand.tmp 26], argTypes := #[9] }, type := 3, pos := "vers.go:17", after := #[{ on := 23, ground := Ground.data }, { on := 21, ground := Ground.guard }], guard := some (21, true) }) (v := undef) rfl (by kernel_rfl) (by kernel_rfl) (by kernel_rfl) (fun _ _ _ h => h) (Or.inr ⟨by rfl, rfl⟩) (by assumption) ?_
  (try simp only [Act.put, List.setIfInBounds_toArray, List.set_cons_zero, List.set_cons_succ])
  refine wpAnyH_take (i := 25) (oi := { dst := some 28, op := Op.binOp BinOp.leq 3 (Operand.tmp 27) (Operand.const (Value.int IntKind.i64 256)) 3, type := 4, pos := "vers.go:17", after := #[{ on := 24, ground := Ground.data }, { on := 21, ground := Ground.guard }], guard := some (21, true) }) (v := undef) rfl (by kernel_rfl) (by kernel_rfl) (by kernel_rfl) (fun _ _ _ h => h) (Or.inr ⟨by rfl, rfl⟩) (by assumption) ?_
  (try simp only [Act.put, List.setIfInBounds_toArray, List.set_cons_zero, List.set_cons_succ])
  refine wpAnyH_take (i := 26) (oi := { dst := some 29, op := Op.pick (Operand.tmp 24) (Operand.tmp 28) (Operand.const (Value.bool false)), type := 4, pos := "vers.go:17", after := #[{ on := 21, ground := Ground.data }, { on := 25, ground := Ground.data }], guard := none }) (v := ?vf25) rfl (by kernel_rfl) (by kernel_rfl) (by kernel_rfl) (fun _ _ _ h => h) (Or.inl ⟨by rfl, ?hyf25⟩) (by assumption) ?restf25
  case hyf25 =>
   intro w hSw
   (try dsimp only at hSw)
   go_simp
   (try with_reducible rfl)
  (try simp only [Act.put, List.setIfInBounds_toArray, List.set_cons_zero, List.set_cons_succ])
  refine wpAnyH_take (i := 27) (oi := { dst := some 30, op := Op.move (Operand.tmp 29), type := 4, pos := "vers.go:17", after := #[{ on := 26, ground := Ground.data }, { on := 21, ground := Ground.chain }], guard := none }) (v := ?vf26) rfl (by kernel_rfl) (by kernel_rfl) (by kernel_rfl) (fun _ _ _ h => h) (Or.inl ⟨by rfl, ?hyf26⟩) (by assumption) ?restf26
  case hyf26 =>
   intro w hSw
   (try dsimp only at hSw)
   go_simp
   (try with_reducible rfl)
  (try simp only [Act.put, List.setIfInBounds_toArray, List.set_cons_zero, List.set_cons_succ])
  refine wpAnyH_take (i := 28) (oi := { dst := some 31, op := Op.fieldAddr 59 (Operand.tmp 1) 2, type := 0, pos := "vers.go:17", after := #[{ on := 27, ground := Ground.guard }], guard := some (27, true) }) (v := undef) rfl (by kernel_rfl) (by kernel_rfl) (by kernel_rfl) (fun _ _ _ h => h) (Or.inr ⟨by rfl, rfl⟩) (by assumption) ?_
  (try simp only [Act.put, List.setIfInBounds_toArray, List.set_cons_zero, List.set_cons_succ])
  refine wpAnyH_take (i := 29) (oi := { dst := some 32, op := Op.load 4 (Operand.tmp 31), type := 4, pos := "vers.go:17", after := #[{ on := 28, ground := Ground.data }, { on := 27, ground := Ground.guard }], guard := some (27, true) }) (v := undef) rfl (by kernel_rfl) (by kernel_rfl) (by kernel_rfl) (fun _ _ _ h => h) (Or.inr ⟨by rfl, rfl⟩) (by assumption) ?_
  (try simp only [Act.put, List.setIfInBounds_toArray, List.set_cons_zero, List.set_cons_succ])
  refine wpAnyH_take (i := 30) (oi := { dst := some 33, op := Op.unOp UnOp.not 4 (Operand.tmp 32), type := 4, pos := "vers.go:17", after := #[{ on := 29, ground := Ground.data }, { on := 27, ground := Ground.guard }], guard := some (27, true) }) (v := undef) rfl (by kernel_rfl) (by kernel_rfl) (by kernel_rfl) (fun _ _ _ h => h) (Or.inr ⟨by rfl, rfl⟩) (by assumption) ?_
  (try simp only [Act.put, List.setIfInBounds_toArray, List.set_cons_zero, List.set_cons_succ])
  refine wpAnyH_take (i := 31) (oi := { dst := some 34, op := Op.move (Operand.tmp 33), type := 4, pos := "vers.go:17", after := #[{ on := 30, ground := Ground.data }, { on := 27, ground := Ground.chain }, { on := 27, ground := Ground.guard }], guard := some (27, true) }) (v := undef) rfl (by kernel_rfl) (by kernel_rfl) (by kernel_rfl) (fun _ _ _ h => h) (Or.inr ⟨by rfl, rfl⟩) (by assumption) ?_
  (try simp only [Act.put, List.setIfInBounds_toArray, List.set_cons_zero, List.set_cons_succ])
  refine wpAnyH_take (i := 32) (oi := { dst := some 35, op := Op.fieldAddr 59 (Operand.tmp 1) 3, type := 0, pos := "vers.go:17", after := #[{ on := 31, ground := Ground.guard }], guard := some (31, false) }) (v := undef) rfl (by kernel_rfl) (by kernel_rfl) (by kernel_rfl) (fun _ _ _ h => h) (Or.inr ⟨by rfl, rfl⟩) (by assumption) ?_
  (try simp only [Act.put, List.setIfInBounds_toArray, List.set_cons_zero, List.set_cons_succ])
  refine wpAnyH_take (i := 33) (oi := { dst := some 36, op := Op.load 9 (Operand.tmp 35), type := 9, pos := "vers.go:17", after := #[{ on := 32, ground := Ground.data }, { on := 31, ground := Ground.guard }], guard := some (31, false) }) (v := undef) rfl (by kernel_rfl) (by kernel_rfl) (by kernel_rfl) (fun _ _ _ h => h) (Or.inr ⟨by rfl, rfl⟩) (by assumption) ?_
  (try simp only [Act.put, List.setIfInBounds_toArray, List.set_cons_zero, List.set_cons_succ])
  refine wpAnyH_take (i := 34) (oi := { dst := some 37, op := Op.binOp BinOp.eql 9 (Operand.tmp 36) (Operand.const (Value.string { data := #[] })) 9, type := 4, pos := "vers.go:17", after := #[{ on := 33, ground := Ground.data }, { on := 31, ground := Ground.guard }], guard := some (31, false) }) (v := undef) rfl (by kernel_rfl) (by kernel_rfl) (by kernel_rfl) (fun _ _ _ h => h) (Or.inr ⟨by rfl, rfl⟩) (by assumption) ?_
  (try simp only [Act.put, List.setIfInBounds_toArray, List.set_cons_zero, List.set_cons_succ])
  refine wpAnyH_take (i := 35) (oi := { dst := some 38, op := Op.pick (Operand.tmp 34) (Operand.const (Value.bool true)) (Operand.tmp 37), type := 4, pos := "vers.go:17", after := #[{ on := 31, ground := Ground.data }, { on := 34, ground := Ground.data }, { on := 27, ground := Ground.guard }], guard := some (27, true) }) (v := undef) rfl (by kernel_rfl) (by kernel_rfl) (by kernel_rfl) (fun _ _ _ h => h) (Or.inr ⟨by rfl, rfl⟩) (by assumption) ?_
  (try simp only [Act.put, List.setIfInBounds_toArray, List.set_cons_zero, List.set_cons_succ])
  refine wpAnyH_take (i := 36) (oi := { dst := some 39, op := Op.pick (Operand.tmp 30) (Operand.tmp 38) (Operand.const (Value.bool false)), type := 4, pos := "vers.go:17", after := #[{ on := 27, ground := Ground.data }, { on := 35, ground := Ground.data }], guard := none }) (v := ?vf35) rfl (by kernel_rfl) (by kernel_rfl) (by kernel_rfl) (fun _ _ _ h => h) (Or.inl ⟨by rfl, ?hyf35⟩) (by assumption) ?restf35
  case hyf35 =>
   intro w hSw
   (try dsimp only at hSw)
   go_simp
   (try with_reducible rfl)
  (try simp only [Act.put, List.setIfInBounds_toArray, List.set_cons_zero, List.set_cons_succ])
  refine wpAnyH_take (i := 37) (oi := { dst := some 2, op := Op.assign (Operand.tmp 39), type := 4, pos := "vers.go:17", after := #[{ on := 36, ground := Ground.data }, { on := 31, ground := Ground.chain }, { on := 0, ground := Ground.phase }, { on := 1, ground := Ground.phase }, { on := 2, ground := Ground.phase }, { on := 3, ground := Ground.phase }, { on := 4, ground := Ground.phase }, { on := 5, ground := Ground.phase }, { on := 6, ground := Ground.phase }, { on := 7, ground := Ground.phase }, { on := 8, ground := Ground.phase }, { on := 9, ground := Ground.phase }, { on := 10, ground := Ground.phase }, { on := 11, ground := Ground.phase }, { on := 12, ground := Ground.phase }, { on := 13, ground := Ground.phase }, { on := 14, ground := Ground.phase }, { on := 15, ground := Ground.phase }, { on := 16, ground := Ground.phase }, { on := 17, ground := Ground.phase }, { on := 18, ground := Ground.phase }, { on := 19, ground := Ground.phase }, { on := 20, ground := Ground.phase }, { on := 21, ground := Ground.phase }, { on := 22, ground := Ground.phase }, { on := 23, ground := Ground.phase }, { on := 24, ground := Ground.phase }, { on := 25, ground := Ground.phase }, { on := 26, ground := Ground.phase }, { on := 27, ground := Ground.phase }, { on := 28, ground := Ground.phase }, { on := 29, ground := Ground.phase }, { on := 30, ground := Ground.phase }, { on := 31, ground := Ground.phase }, { on := 32, ground := Ground.phase }, { on := 33, ground := Ground.phase }, { on := 34, ground := Ground.phase }, { on := 35, ground := Ground.phase }, { on := 36, ground := Ground.phase }], guard := none }) (v := ?vf36) rfl (by kernel_rfl) (by kernel_rfl) (by kernel_rfl) (fun _ _ _ h => h) (Or.inl ⟨by rfl, ?hyf36⟩) (by assumption) ?restf36
  case hyf36 =>
   intro w hSw
   (try dsimp only at hSw)
   go_simp
   (try with_reducible rfl)
  (try simp only [Act.put, List.setIfInBounds_toArray, List.set_cons_zero, List.set_cons_succ])
  refine wpAnyH_done (by kernel_rfl) ?_ _
  have BE := FI.out _ (B0.drew.trans ((b1.trans (b2.mono b1.size)).mono (Nat.le_of_lt hl)))
  clear b1 b2 B0 FI HP
  go_wp2
  go_ret
  exact ⟨by rw [HF.out]; rfl, BE⟩
end Vers
end Go.Proofs.YtekhaejhmlebbaaGreat

/-
 vers.passed tells of each of some rising right versions whether another one came behind it.
-/
namespace Go.Proofs.YtekhaejhmlebbaaGreat
namespace Vers
open Go.RowKit Span

def endsB (x : Sp) (s n : Int) : Prop := x.1 < s ∨ (x.1 = s ∧ x.2.2 < n)
theorem ends_more {x : Sp} {s n s' n' : Int} (h : endsB x s n) (hs : s < s' ∨ (s = s' ∧ n < n')) : endsB x s' n' := by unfold endsB at *; omega
theorem mem_index {l : List Sp} {s n : Int} : mem l s n ↔ ∃ p, p < l.length ∧ inSp (l.getD p (0, 0, 0)) s n := by
 unfold mem
 constructor
 ·rintro ⟨x, hx, h⟩
  obtain ⟨p, hp, rfl⟩ := List.getElem_of_mem hx
  exact ⟨p, hp, by simpa [List.getD_eq_getElem?_getD, hp] using h⟩
 ·rintro ⟨p, hp, h⟩
  exact ⟨l[p], List.getElem_mem hp, by simpa [List.getD_eq_getElem?_getD, hp] using h⟩
theorem fine_apart {l : List Sp} (h : Fine l) {p q : Nat} (hq : q < l.length) (hpq : p < q) : apart (l.getD p (0, 0, 0)) (l.getD q (0, 0, 0)) := by
 have := List.pairwise_iff_getElem.1 h.2 p q (by omega) hq hpq
 simpa [List.getD_eq_getElem?_getD, hq, show p < l.length by omega] using this
theorem mark_hit {past : List Sp} (hf : Fine past) {j : Nat} {s n : Int} {x : Sp} (hj : j < past.length) (hx : past.getD j (0, 0, 0) = x) (hb : ∀ p, p < j → endsB (past.getD p (0, 0, 0)) s n) (hn : ¬ endsB x s n) : mem past s n ↔ x.1 = s ∧ x.2.1 ≤ n := by
 rw [mem_index]
 constructor
 ·rintro ⟨p, hp, h⟩
  rcases Nat.lt_trichotomy p j with h1 | h1 | h1
  ·have := hb p h1
   unfold endsB at this
   unfold inSp at h
   omega
  ·subst h1
   rw [hx] at h
   exact ⟨h.1, h.2.1⟩
  ·have ha := fine_apart hf hp h1
   rw [hx] at ha
   unfold apart at ha
   unfold inSp at h
   unfold endsB at hn
   omega
 ·rintro ⟨h1, h2⟩
  refine ⟨j, hj, ?_⟩
  rw [hx]
  unfold endsB at hn
  exact ⟨h1, h2, by omega⟩
theorem mark_none {past : List Sp} {s n : Int} (hb : ∀ p, p < past.length → endsB (past.getD p (0, 0, 0)) s n) : ¬ mem past s n := by
 rw [mem_index]
 rintro ⟨p, hp, h⟩
 have := hb p hp
 unfold endsB at this
 unfold inSp at h
 omega
theorem rising_at {l : List Vr} (h : l.Pairwise dlt) {p q : Nat} (hq : q < l.length) (hpq : p < q) : dlt (l.getD p v0) (l.getD q v0) := by
 have := List.pairwise_iff_getElem.1 h p q (by omega) hq hpq
 simpa [List.getD_eq_getElem?_getD, hq, show p < l.length by omega] using this

def bools (bs : List Bool) : List Value := bs.map Value.bool
theorem bools_length (bs : List Bool) : (bools bs).length = bs.length := by simp [bools]
def hitF (l : List Vr) (past : List Sp) (q : Nat) : Bool := decide (mem past (l.getD q v0).s (l.getD q v0).n)

def Marking (l : List Vr) (past : List Sp) (bs : List Bool) (n k : Nat) (base g cap : Nat) (W0 : World) (jv iv : Value) (wr : World) : Prop :=
 ∃ (j i : Nat) (ys : List Bool), jv = .int .i64 j ∧ iv = .int .i64 i ∧ j ≤ k ∧ i ≤ n ∧ ys.length = n ∧ wr.ownsRow base 4 1 (.slice (some ⟨g, 0, none⟩) n cap) n (bools ys) ∧ Below base W0 wr ∧ W0.heap.size ≤ wr.heap.size ∧
  (∀ q, q < n → ys.getD q false = (bs.getD q false || (decide (q < i) && hitF l past q))) ∧ (∀ p, p < j → ∀ q, i ≤ q → q < n → endsB (past.getD p (0, 0, 0)) (l.getD q v0).s (l.getD q v0).n)

def Marked (l : List Vr) (past : List Sp) (bs : List Bool) (n : Nat) (base g cap : Nat) (W0 : World) (e : Ending) (wr : World) : Prop :=
 (∃ v, e = .returned v) ∧ ∃ ys : List Bool, ys.length = n ∧ wr.ownsRow base 4 1 (.slice (some ⟨g, 0, none⟩) n cap) n (bools ys) ∧ Below base W0 wr ∧ ∀ q, q < n → ys.getD q false = (bs.getD q false || hitF l past q)

theorem bools_set (ys : List Bool) (i : Nat) : (bools ys).set i (.bool true) = bools (ys.set i true) := by simp [bools, List.map_set]

set_option maxRecDepth 100000 in
set_option maxHeartbeats 4000000 in
theorem mark_any (A A' : Option Addr) (c c' n k : Nat) (l : List Vr) (past : List Sp) (hn : l.length = n) (hk : past.length = k) (hl : l.Pairwise dlt) (hf : Fine past) (L base g cap : Nat) (bs : List Bool) (hbs : bs.length = n)
  (w : World) (hbase : base ≤ w.heap.size) (hv : Vs w L base A l) (hp : Ss w base A' past) (hn2 : n ≤ 140737488355328) (hk2 : k ≤ 140737488355328) (hrow : w.ownsRow base 4 1 (.slice (some ⟨g, 0, none⟩) n cap) n (bools bs)) :
  Calls Tryz.prog 98 #[.slice A n c, .slice A' k c', .slice (some ⟨g, 0, none⟩) n cap] w (Marked l past bs n base g cap w) := by
 have HV := Lib.hid (And.intro hv (And.intro hp (And.intro hl (And.intro hf (And.intro hn hk)))))
 clear hv hp hl hf hn hk
 go_enter Tryz.func98, Tryz.ntmps98
 go_wp2
 go_loopw [6, 11] (fun jv iv wr => Marking l past bs n k base g cap w jv iv wr) (fun _ iv _ => n - (intOf iv).toNat)
 case atStart => exact ⟨0, 0, bs, rfl, rfl, by omega, by omega, hbs, hrow, Below.refl _ _, Nat.le_refl _, fun q hq => by simp, fun p hp => absurd hp (by omega)⟩
 case round =>
  obtain ⟨j, i, ys, rfl, rfl, hj, hi, hys, hown, hb, hsz, hdone, hpre⟩ := hrel
  by_cases hlt : i < n
  ·obtain ⟨b, off, A1, c1, rfl, _, hbB, a0, a1, a2, a3, a4, _⟩ := HV.out.1.at HV.out.2.2.2.2.1 hb hlt rfl
   have HD := Lib.hid (And.intro hdone (And.intro hpre hys))
   have HR : Hid (∀ q, i < q → q < n → (l.getD i v0).s < (l.getD q v0).s ∨ ((l.getD i v0).s = (l.getD q v0).s ∧ (l.getD i v0).n < (l.getD q v0).n)) := Lib.hid fun q h1 h2 => rising_at HV.out.2.2.1 (by have := HV.out.2.2.2.2.1; omega) h1
   obtain ⟨v, hvv⟩ : ∃ v, l.getD i v0 = v := ⟨_, rfl⟩
   rw [hvv] at a0 a1 a2 a3 a4
   have HVV := Lib.hid hvv
   obtain ⟨s, vn, vp, vg, vx⟩ := v
   simp only at a0 a1 a2 a3 a4
   obtain ⟨kp, hkp⟩ : ∃ kp, vp.length = kp := ⟨_, rfl⟩
   rw [hkp] at a2
   have HO := Lib.hid (And.intro hown (And.intro hb hsz))
   have d1 : (0 : Int) ≤ (i : Int) := by omega
   have d2 : (i : Int) < (n : Int) := by omega
   clear hdone hpre hys hvv hkp hown hb hrow hbs
   go_upto_block 2 with fail
   obtain ⟨W, hW⟩ : ∃ W, wr.alloc (Obj.cells #[Value.int IntKind.i64 s, Value.int IntKind.i64 vn, Value.slice A1 kp c1, Value.bool vg, Value.string vx] 59) = W := ⟨_, rfl⟩
   obtain ⟨m, hm⟩ : ∃ m, wr.heap.size = m := ⟨_, rfl⟩
   have y0 : W.cell? ⟨m, 0, none⟩ = some (.int .i64 s) := by rw [← hW, ← hm]; simp
   have y1 : W.cell? ⟨m, 1, none⟩ = some (.int .i64 vn) := by rw [← hW, ← hm]; simp
   have lm : m < W.heap.size := by rw [← hW, ← hm]; simp
   have bW : Below wr.heap.size wr W := by rw [← hW]; exact (Below.refl _ _).alloc (Nat.le_refl _) _
   have HO2 : Hid (W.ownsRow base 4 1 (.slice (some ⟨g, 0, none⟩) n cap) n (bools ys) ∧ Below base w W ∧ w.heap.size ≤ W.heap.size ∧ base ≤ W.heap.size ∧ g < W.heap.size ∧ base ≤ g) := by
    have h3 := HO.out.1.lt g rfl
    have h4 := bW.size
    have h5 := HO.out.2.2
    exact Lib.hid ⟨own_below HO.out.1 bW (Nat.le_refl _), HO.out.2.1.trans (bW.mono (by omega)), by omega, by omega, by omega, h3.1⟩
   rw [hW, hm]
   clear hW HO bW hm a0 a1 a2 a3 a4
   go_cut [6] (fun jv V => ∃ j', jv = .int .i64 (j' : Nat) ∧ Hid (j' ≤ k ∧ Below W.heap.size W V ∧ (∀ p, p < j' → endsB (past.getD p (0, 0, 0)) s vn) ∧ (j' < k → ¬ endsB (past.getD j' (0, 0, 0)) s vn)))
   case first =>
    go_wp2_with fail
    go_loopw [6] (fun jv V => ∃ j' : Nat, jv = .int .i64 j' ∧ j' ≤ k ∧ Below W.heap.size W V ∧ Hid (∀ p, p < j' → endsB (past.getD p (0, 0, 0)) s vn)) (fun jv _ => k - (intOf jv).toNat)
    case atStart => exact ⟨j, rfl, hj, Below.refl _ _, Lib.hid fun p hp => by
     have := HD.out.2.1 p hp i (Nat.le_refl _) hlt
     rwa [HVV.out] at this⟩
    case round =>
     obtain ⟨j', rfl, hj', bV, hE⟩ := hrel
     have y0' := (bV.cell (p := ⟨m, 0, none⟩) lm).trans y0
     have y1' := (bV.cell (p := ⟨m, 1, none⟩) lm).trans y1
     by_cases hjk : j' < k
     ·obtain ⟨bp, op, rfl, hbp, hcp⟩ := HV.out.2.1 (by have := HV.out.2.2.2.2.2; omega)
      obtain ⟨q0, q1, q2⟩ := hcp j' (by have := HV.out.2.2.2.2.2; omega)
      have B2 := HO2.out.2.1.trans (bV.mono (by have := HO2.out.2.2.2.1; omega))
      have q0' := (B2.cell (p := ⟨bp, op + j' * 3, none⟩) hbp).trans q0
      have q2' := (B2.cell (p := ⟨bp, op + j' * 3 + 2, none⟩) hbp).trans q2
      have hmore : endsB (past.getD j' (0, 0, 0)) s vn → ∀ p, p < j' + 1 → endsB (past.getD p (0, 0, 0)) s vn := fun h p hp => by
       rcases Nat.lt_or_ge p j' with h1 | h1
       ·exact hE.out p h1
       ·obtain rfl : p = j' := by omega
        exact h
      have hstop : ¬ endsB (past.getD j' (0, 0, 0)) s vn → (j' < k → ¬ endsB (past.getD j' (0, 0, 0)) s vn) := fun h _ => h
      obtain ⟨⟨x0, x1, x2⟩, hx⟩ : ∃ x, past.getD j' (0, 0, 0) = x := ⟨_, rfl⟩
      rw [hx] at q0' q2' hmore
      have hstop' : ¬ endsB (x0, x1, x2) s vn → (j' < k → ¬ endsB (past.getD j' (0, 0, 0)) s vn) := by rw [hx]; exact fun h _ => h
      simp only at q0' q2'
      have HM := Lib.hid hmore
      have HT := Lib.hid hstop'
      have f1 : (0 : Int) ≤ (j' : Int) := by omega
      have f2 : (j' : Int) < (k : Int) := by omega
      have f3 : decide ((j' : Int) < (k : Int)) = true := decide_eq_true f2
      have f4 : decide (j' < k) = true := decide_eq_true hjk
      clear hmore hstop hstop' hx q0 q1 q2 hcp B2 y0 y1
      rcases Int.lt_trichotomy x0 s with c0 | rfl | c0
      ·have g0 : decide (x0 < s) = true := decide_eq_true c0
       have HN := Lib.hid (HM.out (.inl c0))
       clear HM HT hE
       go_wp2_with fail
       go_quiet (fail)
       go_wp2_with fail
       exact ⟨⟨j' + 1, rfl, by omega, bV.trans (below_drewN _ _ _), HN⟩, by simp only [intOf]; omega⟩
      ·have g0 : decide (x0 < x0) = false := decide_eq_false (by omega)
       have g1 : (x0 == x0) = true := by simp
       by_cases c2 : x2 < vn
       ·have g2 : decide (x2 < vn) = true := decide_eq_true c2
        have HN := Lib.hid (HM.out (.inr ⟨rfl, c2⟩))
        clear HM HT hE
        go_wp2_with fail
        go_quiet (fail)
        go_wp2_with fail
        exact ⟨⟨j' + 1, rfl, by omega, bV.trans (below_drewN _ _ _), HN⟩, by simp only [intOf]; omega⟩
       ·have g2 : decide (x2 < vn) = false := decide_eq_false c2
        have HN := Lib.hid (HT.out (by unfold endsB; simp only; omega))
        clear HM HT
        go_wp2_with fail
        go_quiet (fail)
        go_wp2_with fail
        go_meet
        exact ⟨j', rfl, Lib.hid ⟨hj', bV.trans (below_drewN _ _ _), hE.out, HN.out⟩⟩
      ·have g0 : decide (x0 < s) = false := decide_eq_false (by omega)
       have g1 : (x0 == s) = false := by simp; omega
       have HN := Lib.hid (HT.out (by unfold endsB; simp only; omega))
       clear HM HT
       go_wp2_with fail
       go_quiet (fail)
       go_wp2_with fail
       go_meet
       exact ⟨j', rfl, Lib.hid ⟨hj', bV.trans (below_drewN _ _ _), hE.out, HN.out⟩⟩
     ·obtain rfl : j' = k := by omega
      clear y0 y1
      go_wp2_with fail
      go_quiet (fail)
      go_wp2_with fail
      go_meet
      exact ⟨j', rfl, Lib.hid ⟨hj', bV.trans (below_drewN _ _ _), hE.out, fun h => absurd h (by omega)⟩⟩
   case rest =>
    obtain ⟨j', rfl, hcut'⟩ := hcut
    obtain ⟨hj', bV, hE, hN⟩ := hcut'.out
    obtain ⟨oW, bw, sw, sb, sg, gb⟩ := HO2.out
    have oV := own_below oW bV (Nat.le_refl _)
    have BV := bw.trans (bV.mono sb)
    have sV := bV.size
    have y0' := (bV.cell (p := ⟨m, 0, none⟩) lm).trans y0
    have y1' := (bV.cell (p := ⟨m, 1, none⟩) lm).trans y1
    have later : ∀ p, p < j' → ∀ q, i ≤ q → q < n → endsB (past.getD p (0, 0, 0)) (l.getD q v0).s (l.getD q v0).n := by
     intro p hp q hq hqn
     rcases Nat.eq_or_lt_of_le hq with rfl | h1
     ·rw [HVV.out]; exact hE p hp
     ·have h2 := HR.out q h1 hqn
      rw [HVV.out] at h2
      exact ends_more (hE p hp) h2
    by_cases hjk : j' = k
    ·subst hjk
     have hnone : ∀ q, i ≤ q → q < n → hitF l past q = false := fun q hq hqn => decide_eq_false (mark_none fun p hp => later p (by have := HV.out.2.2.2.2.2; omega) q hq hqn)
     have hfin : Marked l past bs n base g cap w (.returned (.tuple #[])) wc := ⟨⟨_, rfl⟩, ys, HD.out.2.2, oV, BV, fun q hq => by
      rw [HD.out.1 q hq]
      by_cases hqi : q < i
      ·rw [decide_eq_true hqi]; simp
      ·rw [hnone q (by omega) hq]; simp⟩
     have HF := Lib.hid hfin
     have g0 : ((j' : Int) == (j' : Int)) = true := by simp
     clear hcut' oW bw oV BV hE hN later hnone hfin HV HR HD HO2
     go_wp2_with fail
     refine bodyPost_ret (results_none rfl _ _ _) rfl ?_
     exact HF.out
    ·obtain ⟨bp, op, rfl, hbp, hcp⟩ := HV.out.2.1 (by have := HV.out.2.2.2.2.2; omega)
     obtain ⟨q0, q1, q2⟩ := hcp j' (by have := HV.out.2.2.2.2.2; omega)
     have q0' := (BV.cell (p := ⟨bp, op + j' * 3, none⟩) hbp).trans q0
     have q1' := (BV.cell (p := ⟨bp, op + j' * 3 + 1, none⟩) hbp).trans q1
     obtain ⟨⟨x0, x1, x2⟩, hx⟩ : ∃ x, past.getD j' (0, 0, 0) = x := ⟨_, rfl⟩
     rw [hx] at q0' q1'
     simp only at q0' q1'
     have hhit := mark_hit HV.out.2.2.2.1 (s := s) (n := vn) (by have := HV.out.2.2.2.2.2; omega) hx hE (by rw [← hx]; exact hN (by omega))
     simp only at hhit
     have hqi : hitF l past i = decide (mem past s vn) := by unfold hitF; rw [HVV.out]
     have step0 : mem past s vn → ∀ q, q < n → (ys.set i true).getD q false = (bs.getD q false || (decide (q < i + 1) && hitF l past q)) := fun hm q hq => by
      by_cases e : q = i
      ·subst e
       rw [hqi, decide_eq_true hm]
       have : (ys.set q true).getD q false = true := by simp [List.getD_eq_getElem?_getD, HD.out.2.2, hq]
       rw [this]
       simp
      ·have h1 : (ys.set i true).getD q false = ys.getD q false := by simp [List.getD_eq_getElem?_getD, Ne.symm e]
       rw [h1, HD.out.1 q hq]
       have h2 : decide (q < i + 1) = decide (q < i) := by congr 1; exact propext ⟨fun h => by omega, fun h => by omega⟩
       rw [h2]
     have step1 : ¬ mem past s vn → ∀ q, q < n → ys.getD q false = (bs.getD q false || (decide (q < i + 1) && hitF l past q)) := fun hm q hq => by
      rw [HD.out.1 q hq]
      by_cases e : q = i
      ·subst e
       rw [hqi, decide_eq_false hm]
       simp
      ·have h2 : decide (q < i + 1) = decide (q < i) := by congr 1; exact propext ⟨fun h => by omega, fun h => by omega⟩
       rw [h2]
     have HS := Lib.hid (And.intro step0 step1)
     have HL := Lib.hid later
     have HH := Lib.hid hhit
     have HOV := Lib.hid (And.intro oV (And.intro BV sV))
     have HYL := Lib.hid HD.out.2.2
     have g0 : ((j' : Int) == (k : Int)) = false := by simp; omega
     have f1 : (0 : Int) ≤ (j' : Int) := by omega
     have f2 : (j' : Int) < (k : Int) := by omega
     clear hcut' oW bw oV BV hE hN later hhit hqi step0 step1 hx hcp q0 q1 q2 HV HR HD y0 y1
     by_cases c0 : x0 = s
     ·subst c0
      have g1 : (x0 == x0) = true := by simp
      by_cases c1 : x1 ≤ vn
      ·have g2 : decide (x1 ≤ vn) = true := decide_eq_true c1
       have hm := HH.out.2 ⟨rfl, c1⟩
       have HN := Lib.hid (HS.out.1 hm)
       have hfz := World.ownsRow.frozenAt HOV.out.1 i
       have hcell := World.ownsRow.cellAt HOV.out.1 i (by omega)
       obtain ⟨u, hu⟩ : ∃ u, (bools ys)[i]? = some u := ⟨_, List.getElem?_eq_getElem (by rw [bools_length, HYL.out]; exact hlt)⟩
       rw [hu] at hcell
       have hcd : ∀ nq, (wc.drewN nq).cell? ⟨g, i, none⟩ = some u := fun _ => hcell
       have hfd : ∀ nq, (wc.drewN nq).frozen? ⟨g, i, none⟩ = false := fun _ => hfz
       clear HH HS hm hu hcell hfz
       go_wp2_with fail
       go_quiet (fail)
       go_wp2_with fail
       have ho := own_below HOV.out.1 (below_drewN _ nq wc) (Nat.le_refl _)
       have hst := (World.ownsRow.stored ho i (.bool true)).1
       rw [bools_set] at hst
       exact ⟨⟨j', i + 1, ys.set i true, rfl, rfl, hj', by omega, by simp [HYL.out], hst, (HOV.out.2.1.trans (below_drewN _ _ _)).setCell (by exact gb) _, Nat.le_trans sw (by simpa [World.setCell, World.drewN] using HOV.out.2.2), HN.out, fun p hp q hq hqn => HL.out p hp q (by omega) hqn⟩, by simp only [intOf]; omega⟩
      ·have g2 : decide (x1 ≤ vn) = false := decide_eq_false c1
       have HN := Lib.hid (HS.out.2 fun h => c1 (HH.out.1 h).2)
       clear HH HS
       go_wp2_with fail
       go_quiet (fail)
       go_wp2_with fail
       exact ⟨⟨j', i + 1, ys, rfl, rfl, hj', by omega, HYL.out, own_below HOV.out.1 (below_drewN _ _ _) (Nat.le_refl _), HOV.out.2.1.trans (below_drewN _ _ _), Nat.le_trans sw HOV.out.2.2, HN.out, fun p hp q hq hqn => HL.out p hp q (by omega) hqn⟩, by simp only [intOf]; omega⟩
     ·have g1 : (x0 == s) = false := by simp [c0]
      have HN := Lib.hid (HS.out.2 fun h => c0 (HH.out.1 h).1)
      clear HH HS
      go_wp2_with fail
      go_quiet (fail)
      go_wp2_with fail
      exact ⟨⟨j', i + 1, ys, rfl, rfl, hj', by omega, HYL.out, own_below HOV.out.1 (below_drewN _ _ _) (Nat.le_refl _), HOV.out.2.1.trans (below_drewN _ _ _), Nat.le_trans sw HOV.out.2.2, HN.out, fun p hp q hq hqn => HL.out p hp q (by omega) hqn⟩, by simp only [intOf]; omega⟩
  ·have hin : i = n := by omega
   subst hin
   have hfin : Marked l past bs i base g cap w (.returned (.tuple #[])) wr := ⟨⟨_, rfl⟩, ys, hys, hown, hb, fun q hq => by rw [hdone q hq, decide_eq_true hq]; simp⟩
   have HF := Lib.hid hfin
   clear hdone hpre hown hb hfin HV hrow
   go_wp2_with fail
   go_end0
   exact HF.out
end Vers
end Go.Proofs.YtekhaejhmlebbaaGreat

/-
 vers.passed; and whether a true one is among some bools.
-/
namespace Go.Proofs.YtekhaejhmlebbaaGreat
namespace Vers
open Go.RowKit Span

theorem info_bool : (Tryz.prog.info? 4).map (fun i => (i.zero, i.size, i.bytes)) = some (some (.bool false), 1, 1) := by kernel_rfl

def PassedPost (l : List Vr) (n : Nat) (w : World) (e : Ending) (w' : World) : Prop :=
 ∃ (g cap : Nat) (ys : List Bool), e = .returned (.slice (some ⟨g, 0, none⟩) n cap) ∧ ys.length = n ∧ w'.ownsRow w.heap.size 4 1 (.slice (some ⟨g, 0, none⟩) n cap) n (bools ys) ∧ Below w.heap.size w w' ∧
  ∀ q, q < n → ys.getD q false = decide (behind l (l.getD q v0).s (l.getD q v0).n)

theorem behind_take {l : List Vr} {k : Nat} (h : k < l.length) (s n : Int) : behind (l.take (k + 1)) s n ↔ behind (l.take k) s n ∨ mem (l.getD k v0).past s n := by
 rw [List.take_succ_eq_append_getElem h, behind_append]
 have e : l.getD k v0 = l[k] := by simp [List.getD_eq_getElem?_getD, h]
 rw [e]
 constructor
 ·rintro (h | ⟨v, hv, h⟩)
  ·exact .inl h
  ·rw [List.mem_singleton.1 hv] at h; exact .inr h
 ·rintro (h | h)
  ·exact .inl h
  ·exact .inr ⟨_, by simp, h⟩

def Passing (l : List Vr) (n g cap : Nat) (w : World) (iv : Value) (wr : World) : Prop :=
 ∃ (k : Nat) (ys : List Bool), iv = .int .i64 k ∧ k ≤ n ∧ ys.length = n ∧ wr.ownsRow w.heap.size 4 1 (.slice (some ⟨g, 0, none⟩) n cap) n (bools ys) ∧ Below w.heap.size w wr ∧
  ∀ q, q < n → ys.getD q false = decide (behind (l.take k) (l.getD q v0).s (l.getD q v0).n)

theorem made_bools (n : Nat) : (madeCells (Value.bool false).cells (n * 1)).toList = bools (List.replicate n false) := by
 have : (Value.bool false).cells = #[Value.bool false] := rfl
 rw [this, Nat.mul_one, toList_madeCells_one]
 simp [bools]

set_option maxRecDepth 100000 in
set_option maxHeartbeats 2000000 in
theorem passed_any (A : Option Addr) (c n : Nat) (l : List Vr) (hn : l.length = n) (hl : FineV l) (w : World) (hv : Vs w 0 w.heap.size A l) (hn2 : n ≤ 1024) :
  Calls Tryz.prog 74 #[.slice A n c] w (PassedPost l n w) := by
 obtain ⟨i0, hi0, hz0, hz1, hz2⟩ := info_parts info_bool
 have HV := Lib.hid (And.intro hv (And.intro hl hn))
 clear hv hl hn
 go_enter Tryz.func74, Tryz.ntmps74
 go_wp2_with (at_make; refine wpList_make_full _ rfl _ _ 125 rfl w.heap.size 4 i0 (.bool false) 1 Tryz.underlying125 hi0 hz0 hz1 _ _ _ _ n rfl rfl rfl rfl (by rw [hz2]; omega) (by unfold maxLen; omega) (Nat.le_refl _) ?_; intro w1 o1 g1; have b1 : Below w.heap.size w w1 := (Below.refl _ _).grown g1 (Nat.le_refl _) (fun k hk => by cases hk))
 rw [made_bools] at o1
 obtain ⟨base, hbase⟩ : ∃ base, w.heap.size = base := ⟨_, rfl⟩
 have HB := Lib.hid hbase
 have HI : Hid (Passing l n base n w (.int .i64 0) w1) := Lib.hid ⟨0, List.replicate n false, rfl, by omega, by simp, by rw [← hbase]; exact o1, b1, fun q hq => by
  have : ¬ behind (l.take 0) (l.getD q v0).s (l.getD q v0).n := by simp [behind]
  rw [decide_eq_false this]
  simp [List.getD_eq_getElem?_getD, hq]⟩
 rw [hbase]
 clear hbase o1 g1 b1
 go_loopw [11] (fun iv wr => Passing l n base n w iv wr) (fun iv _ => n - (intOf iv).toNat)
 case atStart => exact HI.out
 case round =>
  obtain ⟨k, ys, rfl, hk, hys, ho, hb, hd⟩ := hrel
  clear HI
  by_cases hlt : k < n
  ·obtain ⟨b, off, A1, c1, rfl, _, hbB, a0, a1, a2, a3, a4, hpa⟩ := HV.out.1.at HV.out.2.2 hb hlt rfl
   have hkl : k < l.length := by have := HV.out.2.2; omega
   have hmem : l.getD k v0 ∈ l := by
    rw [List.getD_eq_getElem?_getD, List.getElem?_eq_getElem hkl]
    exact List.getElem_mem _
   have hfp := (HV.out.2.1.1 _ hmem).2.1
   have HQ : Hid (∀ q, hitF l (l.getD k v0).past q = decide (mem (l.getD k v0).past (l.getD q v0).s (l.getD q v0).n)) := Lib.hid fun q => rfl
   have HT : Hid (∀ s m, behind (l.take (k + 1)) s m ↔ behind (l.take k) s m ∨ mem (l.getD k v0).past s m) := Lib.hid (behind_take hkl)
   obtain ⟨v, hvv⟩ : ∃ v, l.getD k v0 = v := ⟨_, rfl⟩
   rw [hvv] at a0 a1 a2 a3 a4 hpa hfp
   have HVV := Lib.hid hvv
   obtain ⟨s, vn, vp, vg, vx⟩ := v
   simp only at a0 a1 a2 a3 a4 hfp
   obtain ⟨hps, _, hpb, _, _⟩ := hpa
   simp only at hps hpb
   obtain ⟨kp, hkp⟩ : ∃ kp, vp.length = kp := ⟨_, rfl⟩
   rw [hkp] at a2 hpb
   have hsz := hb.size
   have hbase := HB.out
   have hg := ho.lt base rfl
   have hmk := fun W (hbW : Below w.heap.size w W) (ho' : W.ownsRow w.heap.size 4 1 (.slice (some ⟨base, 0, none⟩) n n) n (bools ys)) (hsp : Ss W w.heap.size A1 vp) =>
    mark_any (some ⟨b, off, none⟩) A1 c c1 n kp l vp HV.out.2.2 hkp HV.out.2.1.2 hfp.2 0 w.heap.size base n ys hys W hbW.size (HV.out.1.below hbW) hsp (by omega) hpb ho'
   have HMK := Lib.hid hmk
   have HO := Lib.hid (And.intro ho (And.intro hb (And.intro hd (And.intro hys hps))))
   have d1 : (0 : Int) ≤ (k : Int) := by omega
   have d2 : (k : Int) < (n : Int) := by omega
   clear hmk ho hb hd hys hvv hkp hmem hfp hps hbase
   go_wp2_with fail
   have hb2 := HO.out.2.1.alloc hsz (.cells #[.int .i64 s, .int .i64 vn, .slice A1 kp c1, .bool vg, .string vx] 59)
   refine (HMK.out _ hb2 (HO.out.1.alloc _) (HO.out.2.2.2.2.alloc hsz _)).mono ?_
   rintro e w2 ⟨⟨v2, rfl⟩, ys2, hy2, ho2, hb3, hd2⟩
   have HE := Lib.hid (And.intro hy2 (And.intro ho2 (And.intro (hb2.trans hb3) hd2)))
   clear hy2 ho2 hb3 hd2 hb2 HMK
   go_wp2_with fail
   exact ⟨⟨k + 1, ys2, rfl, by omega, HE.out.1, HE.out.2.1, HE.out.2.2.1, fun q hq => by
    have h1 := HE.out.2.2.2 q hq
    rw [HO.out.2.2.1 q hq] at h1
    have h2 := HQ.out q
    rw [HVV.out] at h2
    simp only at h2
    have h3 := HT.out (l.getD q v0).s (l.getD q v0).n
    rw [HVV.out] at h3
    simp only at h3
    rw [h1, h2, ← Bool.decide_or]
    congr 1
    exact propext h3.symm⟩, by simp only [intOf]; omega⟩
  ·obtain rfl : k = n := by omega
   have hfin : PassedPost l k w (.returned (.slice (some ⟨base, 0, none⟩) k k)) wr := ⟨base, k, ys, rfl, hys, ho, hb, fun q hq => by
    rw [hd q hq, List.take_of_length_le (by have := HV.out.2.2; omega)]⟩
   have HF := Lib.hid hfin
   clear hd ho hb hys hfin HV
   go_wp2_with fail
   go_ret
   exact HF.out

theorem any_index (ys : List Bool) (k : Nat) (h : k < ys.length) : (ys.drop k).any id = (ys.getD k false || (ys.drop (k + 1)).any id) := by
 rw [List.drop_eq_getElem_cons h, List.any_cons]
 simp [List.getD_eq_getElem?_getD, h]

theorem index_any (g cap n : Nat) (ys : List Bool) (hy : ys.length = n) (base : Nat) (w : World) (ho : w.ownsRow base 4 1 (.slice (some ⟨g, 0, none⟩) n cap) n (bools ys)) (hn2 : n ≤ 140737488355328) :
  Calls Tryz.prog 130 #[.slice (some ⟨g, 0, none⟩) n cap, .bool true] w fun e w' => (∃ z : Int, e = .returned (.int .i64 z) ∧ (0 ≤ z ↔ ys.any id = true)) ∧ w = w' := by
 have HO := Lib.hid (And.intro ho hy)
 clear ho hy
 go_enter Tryz.func130, Tryz.ntmps130
 go_wp2
 go_loopw [8] (fun iv wr => ∃ k : Nat, iv = .int .i64 k ∧ k ≤ n ∧ w = wr ∧ Hid (ys.any id = (ys.drop k).any id)) (fun iv _ => n - (intOf iv).toNat)
 case atStart => exact ⟨0, rfl, by omega, rfl, Lib.hid rfl⟩
 case round =>
  obtain ⟨k, rfl, hk, rfl, hst⟩ := hrel
  by_cases hlt : k < n
  ·have hc := World.ownsRow.cellAt HO.out.1 k (by omega)
   have hyk : (bools ys)[k]? = some (.bool (ys.getD k false)) := by
    have : k < ys.length := by rw [HO.out.2]; exact hlt
    simp [bools, List.getD_eq_getElem?_getD, this]
   rw [hyk] at hc
   have hs := any_index ys k (by rw [HO.out.2]; exact hlt)
   obtain ⟨y, hyy⟩ : ∃ y, ys.getD k false = y := ⟨_, rfl⟩
   rw [hyy] at hc hs
   have HS := Lib.hid (hst.out.trans hs)
   have d1 : (0 : Int) ≤ (k : Int) := by omega
   have d2 : (k : Int) < (n : Int) := by omega
   clear hs hyk hyy hst
   cases y
   ·have HN := Lib.hid (show ys.any id = (ys.drop (k + 1)).any id by rw [HS.out]; simp)
    clear HS
    go_wp2
    exact ⟨⟨k + 1, rfl, by omega, trivial, HN⟩, by simp only [intOf]; omega⟩
   ·have HN := Lib.hid (show ys.any id = true by rw [HS.out]; simp)
    clear HS
    go_wp2
    go_ret
    exact ⟨⟨k, rfl, by rw [HN.out]; simp⟩, rfl⟩
  ·have hkn : k = n := by omega
   subst hkn
   have HN := Lib.hid (show ys.any id = false by rw [hst.out, List.drop_of_length_le (by rw [HO.out.2]; omega)]; rfl)
   clear hst
   go_wp2
   go_ret
   exact ⟨⟨-1, rfl, by rw [HN.out]; simp⟩, rfl⟩

theorem contains_any (g cap n : Nat) (ys : List Bool) (hy : ys.length = n) (base : Nat) (w : World) (ho : w.ownsRow base 4 1 (.slice (some ⟨g, 0, none⟩) n cap) n (bools ys)) (hn2 : n ≤ 140737488355328) :
  Calls Tryz.prog 96 #[.slice (some ⟨g, 0, none⟩) n cap, .bool true] w fun e w' => e = .returned (.bool (ys.any id)) ∧ w = w' := by
 have H := Lib.hid (index_any g cap n ys hy base w ho hn2)
 clear ho hy
 go_enter Tryz.func96, Tryz.ntmps96
 go_wp2_with fail
 refine H.out.mono ?_
 rintro e w' ⟨⟨z, rfl, hz⟩, rfl⟩
 have HZ := Lib.hid (show decide (0 ≤ z) = ys.any id by
  by_cases h : 0 ≤ z
  ·rw [decide_eq_true h, hz.1 h]
  ·rw [decide_eq_false h]
   exact (Bool.eq_false_iff.2 fun k => h (hz.2 k)).symm)
 clear hz H
 go_wp2_with fail
 go_ret
 exact ⟨by rw [← HZ.out]; rfl, rfl⟩
end Vers
end Go.Proofs.YtekhaejhmlebbaaGreat
