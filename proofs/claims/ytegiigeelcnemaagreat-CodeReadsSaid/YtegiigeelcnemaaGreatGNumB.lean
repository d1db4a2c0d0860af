/-
  Several texts of this family in one: NumWalk, NumRef, PutNum, SameBase, PutText, Text, TextRef, Row.
-/
import Derived.Test.YtegiigeelcnemaaGreatRows
import Derived.Test.YtegiigeelcnemaaGreatGNumA
import Derived.Lib.Strings
/-
  num.Num tells what numF tells.
-/
namespace Go.Proofs.YtegiigeelcnemaaGreat
namespace Num
open Go.RowKit

def Tells3 (r : Int × Nat × Int) (w : World) (e : Ending) (w' : World) : Prop := e = .returned (.tuple #[.int .i64 r.1, .int .i64 (r.2.1 : Nat), .int .i64 r.2.2]) ∧ w = w'

theorem num_in (A : Option Addr) (c : Nat) (zs : List Int) (i : Nat) (B : Nat) (w : World) (hr : Ns .u8 w B A zs) (hby : ∀ z ∈ zs, 0 ≤ z ∧ z ≤ 255) (hbig : zs.length ≤ 140737488355328) (hi : i ≤ zs.length) :
    Calls Tryz.prog 91 #[.slice A zs.length c, .int .i64 i] w (Tells3 (numF zs i) w) := by
  go_enter Tryz.func91, Tryz.ntmps91
  go_wp2
  go_step3
  go_wp2
  go_step3
  go_wp2
  go_loop [4, 5, 6, 7, 8] (fun _ _ _ n q => ∃ (k : Nat) (a : Int), i + k ≤ zs.length ∧ k ≤ 8 ∧ 0 ≤ a ∧ a < 128 ^ k ∧ n = .int .i64 a ∧ q = .int .i64 k ∧ Hid (numF zs i = numR (zs.drop (i + k)) (i + k) k a)) (fun _ _ _ _ q => zs.length - (intOf q).toNat)
  case atStart => exact ⟨0, 0, by omega, by omega, by omega, by simp, rfl, rfl, rfl⟩
  case round =>
    obtain ⟨k, a, hk, hk8, ha0, hak, rfl, rfl, hst⟩ := hrel
    by_cases hlt : i + k < zs.length
    · obtain ⟨b, off, rfl, hbB, hc⟩ := hr (by omega)
      have hcell := hc _ hlt
      obtain ⟨z, hz⟩ : ∃ z, zs.getD (i + k) 0 = z := ⟨_, rfl⟩
      have hb1 : 0 ≤ z ∧ z ≤ 255 := by
        rw [← hz, List.getD_eq_getElem?_getD, List.getElem?_eq_getElem hlt]; exact hby _ (List.getElem_mem hlt)
      rw [hz] at hcell
      have Hz := Lib.hid hz
      clear hz hr hc hby
      obtain ⟨hb0, hb1⟩ := hb1
      by_cases hA : (8 ≤ k ∧ 128 ≤ z) ∨ (0 < k ∧ z ≤ 0)
      · have hs := Lib.hid (hst.out.trans (numR_bad zs i k a z hlt Hz.out (by omega)))
        rcases hA with ⟨hA1, hA2⟩ | ⟨hA1, hA2⟩
        · go_wp2
          all_goals
            try rw [Exit.noGoto_ret]
            go_ret3
            rw [hs.out]
            exact ⟨ret3 rfl rfl rfl, rfl⟩
        · go_wp2
          all_goals
            try rw [Exit.noGoto_ret]
            go_ret3
            rw [hs.out]
            exact ⟨ret3 rfl rfl rfl, rfl⟩
      · have hA3 : 0 < k → 0 < z := by omega
        by_cases hB : z < 128
        · have hs := Lib.hid (hst.out.trans (numR_last zs i k a z hlt Hz.out (by omega) hB))
          have hor := Lib.hid (or_low k a z hk8 ha0 hak hb0 hB)
          go_wp2
          all_goals
            try rw [Exit.noGoto_ret]
            go_ret3
            rw [hs.out]
            first | exact ⟨ret3 hor.out rfl rfl, rfl⟩ | exact ⟨ret3 (or_low8 k a z (by omega) ha0 hak hb0 hB) (by show (i : Int) + 9 = ((i + k + 1 : Nat) : Int); omega) rfl, rfl⟩
        · have hk7 : k < 8 := by omega
          have hs := Lib.hid (hst.out.trans (numR_more zs i k a z hlt Hz.out hk7 (by omega)))
          have hor := Lib.hid (or_high k a z hk8 ha0 hak (by omega) (by omega))
          have hup := Lib.hid (acc_lt k a (z - 128) hak (by omega))
          have hge := Lib.hid (acc_ge k a (z - 128) ha0 (by omega))
          go_wp2
          all_goals
            go_round
            case rel => exact ⟨_, _, _, _, _, ⟨k + 1, by omega, by omega, _, hge.out, hup.out, rfl, rfl, hs.out⟩, rfl, rfl, rfl, congrArg (Value.int .i64) hor.out, by go_num⟩
            case measure => simp [intOf]; omega
    · have hstep := Lib.hid (numR_end zs i k a (by omega))
      go_wp2
      try rw [Exit.noGoto_ret]
      go_ret3
      rw [hst.out, hstep.out]
      exact ⟨ret3 rfl rfl rfl, rfl⟩

theorem num_out (A : Option Addr) (c n : Nat) (i : Int) (w : World) (hi : i < 0 ∨ (n : Int) < i) :
    Calls Tryz.prog 91 #[.slice A n c, .int .i64 i] w (Tells3 (0, 0, 1) w) := by
  by_cases h0 : i < 0
  · have hd : decide (i < 0) = true := decide_eq_true h0
    go_enter Tryz.func91, Tryz.ntmps91
    go_wp2
    go_step3
    go_wp2
    try rw [Exit.noGoto_ret]
    go_ret3
    exact ⟨ret3 rfl rfl rfl, rfl⟩
  · have h1 : (n : Int) < i := by omega
    have hd : decide (i < 0) = false := decide_eq_false h0
    have hd2 : decide ((n : Int) < i) = true := decide_eq_true h1
    clear hi
    go_enter Tryz.func91, Tryz.ntmps91
    go_wp2
    go_step3
    go_wp2
    try rw [Exit.noGoto_ret]
    go_ret3
    exact ⟨ret3 rfl rfl rfl, rfl⟩
theorem num_at (A : Option Addr) (c n : Nat) (zs : List Int) (hn : zs.length = n) (i : Nat) (B : Nat) (w : World) (hr : Ns .u8 w B A zs) (hby : ∀ z ∈ zs, 0 ≤ z ∧ z ≤ 255) (hbig : zs.length ≤ 140737488355328) (hi : i ≤ zs.length) :
    Calls Tryz.prog 91 #[.slice A n c, .int .i64 i] w (Tells3 (numF zs i) w) := by
  subst hn
  exact num_in A c zs i B w hr hby hbig hi
end Num
end Go.Proofs.YtegiigeelcnemaaGreat

/-
  firthref01.Num tells what numF tells.
-/
namespace Go.Proofs.YtegiigeelcnemaaGreat
namespace Num
open Go.RowKit

set_option maxRecDepth 100000 in
theorem ref_num_in (A : Option Addr) (c : Nat) (zs : List Int) (i : Nat) (B : Nat) (w : World) (hr : Ns .u8 w B A zs) (hby : ∀ z ∈ zs, 0 ≤ z ∧ z ≤ 255) (hbig : zs.length ≤ 140737488355328) (hi : i ≤ zs.length) :
    Calls Tryz.prog 102 #[.slice A zs.length c, .int .i64 i] w (Tells3 (numF zs i) w) := by
  go_enter Tryz.func102, Tryz.ntmps102
  go_wp2
  go_loop [1, 4, 5, 6, 7, 8, 9] (fun p _ _ _ n o q => ∃ (k : Nat) (a : Int), i + k ≤ zs.length ∧ k ≤ 8 ∧ 0 ≤ a ∧ a < 128 ^ k ∧ p = .int .i64 ((i + k : Nat) : Int) ∧ n = .int .i64 a ∧ o = .int .i64 (128 ^ k) ∧ q = .int .i64 k ∧ Hid (numF zs i = numR (zs.drop (i + k)) (i + k) k a)) (fun _ _ _ _ _ _ q => zs.length - (intOf q).toNat)
  case atStart => exact ⟨0, 0, by omega, by omega, by omega, by simp, rfl, rfl, rfl, rfl, rfl⟩
  case round =>
    obtain ⟨k, a, hk, hk8, ha0, hak, rfl, rfl, rfl, rfl, hst⟩ := hrel
    by_cases hlt : i + k < zs.length
    · obtain ⟨b, off, rfl, hbB, hc⟩ := hr (by omega)
      have hcell := hc _ hlt
      obtain ⟨z, hz⟩ : ∃ z, zs.getD (i + k) 0 = z := ⟨_, rfl⟩
      have hb1 : 0 ≤ z ∧ z ≤ 255 := by
        rw [← hz, List.getD_eq_getElem?_getD, List.getElem?_eq_getElem hlt]; exact hby _ (List.getElem_mem hlt)
      rw [hz] at hcell
      have Hz := Lib.hid hz
      clear hz hr hc hby
      obtain ⟨hb0, hb1⟩ := hb1
      have hpw := one_le k hk8
      have hpm : k < 8 → (128 : Int) ^ k ≤ 562949953421312 := one_more k
      have Hak := Lib.hid hak
      have Had : Hid (∀ x : Int, x = z → wrap64 (a + wrap64 (x % 128 * 128 ^ k)) = a + (if z < 128 then z else z - 128) * 128 ^ k) := by
        rintro x rfl
        by_cases hl : x < 128
        · rw [if_pos hl]; exact add_low k a x hk8 ha0 hak hb0 hl
        · rw [if_neg hl]; exact add_high k a x hk8 ha0 hak (by omega) (by omega)
      clear hak
      obtain ⟨o, ho⟩ : ∃ o : Int, (128 : Int) ^ k = o := ⟨_, rfl⟩
      rw [ho] at hpw hpm Had ⊢
      have Ho := Lib.hid ho
      clear ho
      have hk3 : 8 ≤ k ∨ (0 < k ∧ k < 8) ∨ (k ≤ 0 ∧ k < 8) := by omega
      have hz3 : z = 0 ∨ (0 < z ∧ z < 128) ∨ 128 ≤ z := by omega
      have Hp := Lib.hid hpm
      clear hpm
      have hkn : k ≤ 0 → decide ((0 : Int) < (k : Int)) = false := fun h => decide_eq_false (by omega)
      have hkm : k ≤ 0 → decide (0 < k) = false := fun h => decide_eq_false (by omega)
      have hzn : 0 < z → (z == 0) = false := fun h => by simp; omega
      have Hkn := Lib.hid hkn
      have Hkm := Lib.hid hkm
      have Hzn := Lib.hid hzn
      clear hkn hkm hzn
      rcases hk3 with h3 | ⟨h3, h3'⟩ | ⟨h3, h3'⟩ <;> rcases hz3 with rfl | ⟨h4, h4'⟩ | h4
      all_goals try have hpm := Hp.out (by assumption)
      all_goals try have hkn := Hkn.out (by assumption)
      all_goals try have hkm := Hkm.out (by assumption)
      all_goals try have hzn := Hzn.out (by first | assumption | omega)
      all_goals go_wp2
      all_goals first
        | (go_ret3
           rw [hst.out, numR_bad zs i k a _ hlt Hz.out (by omega)]
           exact ⟨ret3 rfl rfl rfl, rfl⟩)
        | (go_ret3
           rw [hst.out, numR_last zs i k a _ hlt Hz.out (by omega) (by omega)]
           refine ⟨ret3 ?_ ?_ rfl, rfl⟩
           · first
             | exact (Had.out _ rfl).trans (by rw [if_pos (by omega), Ho.out])
             | (show wrap64 a = a + 0 * 128 ^ k
                have hq := Hak.out
                rw [Ho.out] at hq
                rw [Int.zero_mul, Int.add_zero]
                exact IntWalk.wrap64_in a ⟨by omega, by omega⟩)
           · first
             | (show (i : Int) + k + 1 = ((i + k + 1 : Nat) : Int); omega)
             | (show (i : Int) + 8 + 1 = ((i + k + 1 : Nat) : Int); omega))
        | (refine ⟨⟨k + 1, a + (z - 128) * 128 ^ k, by omega, by omega, acc_ge k a (z - 128) ha0 (by omega), acc_lt k a (z - 128) Hak.out (by omega), by go_num, congrArg (Value.int .i64) ((Had.out _ rfl).trans (by rw [if_neg (by omega), Ho.out])), congrArg (Value.int .i64) (by rw [Int.pow_succ, Ho.out]), by go_num, hst.out.trans (numR_more zs i k a z hlt Hz.out (by omega) (by omega))⟩, ?_⟩
           simp [intOf]; omega)
    · have hstep := Lib.hid (numR_end zs i k a (by omega))
      go_wp2
      go_ret3
      rw [hst.out, hstep.out]
      exact ⟨ret3 rfl rfl rfl, rfl⟩
end Num
end Go.Proofs.YtegiigeelcnemaaGreat

/-
  num.PutNum and firthref01.PutNum make the bytes of the number, putL.
-/
namespace Go.Proofs.YtegiigeelcnemaaGreat
namespace Num
open Go.RowKit

theorem made_last {e : TypeId} {k : IntKind} {zs acc : List Int} {m : Int} {w w' : World} {v : Value} (h : zs = acc ++ [m]) (hown : w'.ownsRow w.heap.size e 1 v (acc.length + 1) (nums k acc ++ [.int k m])) (hb : Below w.heap.size w w') :
    MadeNs e k zs w (.returned v) w' := by
  subst h
  obtain ⟨A, c, rfl⟩ := own_form hown
  exact ⟨A, c, by simp, by simpa [nums] using hown, hb⟩

def AtPut (B : Nat) (w : World) (n : Int) (q v : Value) (wr : World) : Prop :=
  ∃ (m : Int) (acc : List Int) (f : Nat), 0 ≤ m ∧ m ≤ 9223372036854775807 ∧ q = .int .i64 m ∧ Laid n acc f m ∧ wr.ownsRow B 5 1 v acc.length (nums .u8 acc) ∧ Below B w wr

set_option maxRecDepth 100000 in
theorem putnum_from (n : Int) (hn0 : n < 0 ∨ 0 ≤ n) (hn : -9223372036854775808 ≤ n ∧ n ≤ 9223372036854775807) (w : World) :
    Calls Tryz.prog 86 #[.int .i64 n] w (MadeNs 5 .u8 (putL (max n 0)) w) := by
  obtain ⟨i0, hi0, hz0, hz1, hz2⟩ := info_parts Facts.info5
  rcases hn0 with h0 | h0
  all_goals
    go_enter Tryz.func86, Tryz.ntmps86
    go_wp2
    go_loopw [0, 3] (fun q v wr => AtPut w.heap.size w (max n 0) q v wr) (fun q _ _ => (intOf q).toNat)
    case atStart => exact ⟨_, [], 8, by omega, by omega, rfl, by first | (rw [Int.max_eq_right (by omega)]; exact laid_start _ (by omega)) | (rw [Int.max_eq_left (by omega)]; exact laid_start _ (by omega)), World.ownsRow_nil _ _ _ _, Below.refl _ _⟩
    case round =>
      obtain ⟨m, acc, f, hm0, hm1, rfl, hl, hown, hb⟩ := hrel
      have hlen := laid_len hl
      have hsz := hb.size
      have Hl := Lib.hid hl
      clear hl
      by_cases h128 : 128 ≤ m
      · go_wp2_with (at_builtin; refine wpList_append_one _ rfl (.tmp 8) (.tmp 13) 25 rfl w.heap.size 5 i0 (.int .u8 0) 1 Tryz.underlying25 hi0 hz0 hz1 hz2 rfl _ acc.length (nums .u8 acc) rfl hown (.int .u8 (m % 128 + 128)) 1 rfl rfl (by omega) (by omega) hsz ?_; intro v1 w1 hown1 hg1 hat1)
        obtain ⟨g, hg⟩ := laid_more Hl.out h128
        have hb1 : Below w.heap.size w w1 := hb.grown hg1 hsz (fun k hk => (hown.lt k hk).1)
        have ho : w1.ownsRow w.heap.size 5 1 v1 (acc ++ [m % 128 + 128]).length (nums .u8 (acc ++ [m % 128 + 128])) := by simpa [nums] using hown1
        clear hown hown1 hg1 hat1
        go_wp2
        go_roundw
        case rel => exact ⟨m / 128, _, g, by omega, by omega, by go_num, hg, ho, hb1⟩
        case measure => simp [intOf]; omega
      · go_wp2_with (at_builtin; refine wpList_append_one _ rfl (.tmp 17) (.tmp 20) 25 rfl w.heap.size 5 i0 (.int .u8 0) 1 Tryz.underlying25 hi0 hz0 hz1 hz2 rfl _ acc.length (nums .u8 acc) rfl hown (.int .u8 m) 1 rfl rfl (by omega) (by omega) hsz ?_; intro v1 w1 hown1 hg1 hat1)
        have hb1 : Below w.heap.size w w1 := hb.grown hg1 hsz (fun k hk => (hown.lt k hk).1)
        have R := made_last (laid_last Hl.out (by omega)) hown1 hb1
        clear hown hown1 hg1 hat1
        go_wp2
        go_ret
        exact R

set_option maxRecDepth 100000 in
theorem ref_putnum_from (n : Int) (hn0 : n < 0 ∨ 0 ≤ n) (hn : -9223372036854775808 ≤ n ∧ n ≤ 9223372036854775807) (w : World) :
    Calls Tryz.prog 88 #[.int .i64 n] w (MadeNs 5 .u8 (putL (max n 0)) w) := by
  obtain ⟨i0, hi0, hz0, hz1, hz2⟩ := info_parts Facts.info5
  rcases hn0 with h0 | h0
  all_goals
    go_enter Tryz.func88, Tryz.ntmps88
    go_wp2
    go_loopw [0, 3] (fun q v wr => AtPut w.heap.size w (max n 0) q v wr) (fun q _ _ => (intOf q).toNat)
    case atStart => exact ⟨_, [], 8, by omega, by omega, rfl, by first | (rw [Int.max_eq_right (by omega)]; exact laid_start _ (by omega)) | (rw [Int.max_eq_left (by omega)]; exact laid_start _ (by omega)), World.ownsRow_nil _ _ _ _, Below.refl _ _⟩
    case round =>
      obtain ⟨m, acc, f, hm0, hm1, rfl, hl, hown, hb⟩ := hrel
      have hlen := laid_len hl
      have hsz := hb.size
      have Hl := Lib.hid hl
      clear hl
      by_cases h128 : 128 ≤ m
      · go_wp2_with (at_builtin; refine wpList_append_one _ rfl (.tmp 8) (.tmp 13) 25 rfl w.heap.size 5 i0 (.int .u8 0) 1 Tryz.underlying25 hi0 hz0 hz1 hz2 rfl _ acc.length (nums .u8 acc) rfl hown (.int .u8 (m % 128 + 128)) 1 rfl rfl (by omega) (by omega) hsz ?_; intro v1 w1 hown1 hg1 hat1)
        obtain ⟨g, hg⟩ := laid_more Hl.out h128
        have hb1 : Below w.heap.size w w1 := hb.grown hg1 hsz (fun k hk => (hown.lt k hk).1)
        have ho : w1.ownsRow w.heap.size 5 1 v1 (acc ++ [m % 128 + 128]).length (nums .u8 (acc ++ [m % 128 + 128])) := by simpa [nums] using hown1
        clear hown hown1 hg1 hat1
        go_wp2
        go_roundw
        case rel => exact ⟨m / 128, _, g, by omega, by omega, by go_num, hg, ho, hb1⟩
        case measure => simp [intOf]; omega
      · go_wp2_with (at_builtin; refine wpList_append_one _ rfl (.tmp 17) (.tmp 20) 25 rfl w.heap.size 5 i0 (.int .u8 0) 1 Tryz.underlying25 hi0 hz0 hz1 hz2 rfl _ acc.length (nums .u8 acc) rfl hown (.int .u8 m) 1 rfl rfl (by omega) (by omega) hsz ?_; intro v1 w1 hown1 hg1 hat1)
        have hb1 : Below w.heap.size w w1 := hb.grown hg1 hsz (fun k hk => (hown.lt k hk).1)
        have R := made_last (laid_last Hl.out (by omega)) hown1 hb1
        clear hown hown1 hg1 hat1
        go_wp2
        go_ret
        exact R

theorem putnum (n : Int) (hn : -9223372036854775808 ≤ n ∧ n ≤ 9223372036854775807) (w : World) :
    Calls Tryz.prog 86 #[.int .i64 n] w (MadeNs 5 .u8 (putL (max n 0)) w) := putnum_from n (by omega) hn w
theorem ref_putnum (n : Int) (hn : -9223372036854775808 ≤ n ∧ n ≤ 9223372036854775807) (w : World) :
    Calls Tryz.prog 88 #[.int .i64 n] w (MadeNs 5 .u8 (putL (max n 0)) w) := ref_putnum_from n (by omega) hn w
theorem putnum_pos (n : Int) (hn : 0 ≤ n ∧ n ≤ 9223372036854775807) (w : World) :
    Calls Tryz.prog 86 #[.int .i64 n] w (MadeNs 5 .u8 (putL n) w) := by
  have h := putnum n (by omega) w
  rw [Int.max_eq_left (by omega)] at h
  exact h
theorem ref_putnum_pos (n : Int) (hn : 0 ≤ n ∧ n ≤ 9223372036854775807) (w : World) :
    Calls Tryz.prog 88 #[.int .i64 n] w (MadeNs 5 .u8 (putL n) w) := by
  have h := ref_putnum n (by omega) w
  rw [Int.max_eq_left (by omega)] at h
  exact h
end Num
end Go.Proofs.YtegiigeelcnemaaGreat

/-
  What a comparison of two rows of bytes tells.
-/
namespace Go.Proofs.YtegiigeelcnemaaGreat
namespace Num
open Go.RowKit

def IsBool (b : Bool) (w : World) (e : Ending) (w' : World) : Prop := e = .returned (.bool b) ∧ w = w'

def eqB (xs ys : List Int) : Bool := (strOfNums xs).toList == (strOfNums ys).toList

theorem eqB_eq {xs ys : List Int} (hx : ∀ z ∈ xs, 0 ≤ z ∧ z ≤ 255) (hy : ∀ z ∈ ys, 0 ≤ z ∧ z ≤ 255) : eqB xs ys = decide (xs = ys) := by
  unfold eqB
  rw [Lib.toList_data, Lib.toList_data]
  by_cases h : xs = ys
  · subst h; simp
  · have h2 : ¬ (strOfNums xs).data.toList = (strOfNums ys).data.toList := fun e => h (str_inj hx hy (ByteArray.ext (Array.toList_inj.1 e)))
    rw [decide_eq_false h]
    simpa using h2
end Num
end Go.Proofs.YtegiigeelcnemaaGreat

/-
  num.PutText and firthref01.PutText make the bytes of a text.
-/
namespace Go.Proofs.YtegiigeelcnemaaGreat
namespace Num
open Go.RowKit

def textL (s : ByteArray) : List Int := putL (s.size : Int) ++ strNums s

set_option maxRecDepth 100000 in
theorem puttext (s : ByteArray) (hs : s.size ≤ 140737488351232) (w : World) :
    Calls Tryz.prog 104 #[.string s] w (MadeNs 5 .u8 (textL s) w) := by
  obtain ⟨i0, hi0, hz0, hz1, hz2⟩ := info_parts Facts.info5
  have h1 := putnum_pos (s.size : Int) (by omega) w
  have hl : (putL (s.size : Int)).length ≤ 9 := putF_len 9 (s.size : Int)
  obtain ⟨L, hL⟩ : ∃ L, putL (s.size : Int) = L := ⟨_, rfl⟩
  have HL : Hid (textL s = L ++ strNums s) := by unfold textL; rw [hL]; exact rfl
  rw [hL] at h1 hl
  clear hL
  have H1 := Lib.hid h1
  clear h1
  go_enter Tryz.func104, Tryz.ntmps104
  go_wp2_with fail
  refine H1.out.mono ?_
  rintro e w1 ⟨A, c, rfl, hown, hb⟩
  go_wp2_with (at_builtin; refine Lib.wpList_append_own_string _ rfl (.tmp 5) (.tmp 6) 25 9 rfl w.heap.size 5 i0 Tryz.underlying25 Tryz.underlying9 hi0 hz0 hz1 hz2 _ L.length (nums .u8 L) rfl hown s rfl (by unfold maxLen; omega) (by omega) hb.size ?_; intro v2 w2 hown2 hg2 _)
  have hb2 : Below w.heap.size w w2 := hb.grown hg2 hb.size (fun k hk => (hown.lt k hk).1)
  have R : MadeNs 5 .u8 (textL s) w (.returned v2) w2 := by
    obtain ⟨A2, c2, rfl⟩ := own_form hown2
    have hlen : (textL s).length = L.length + s.size := by rw [HL.out, List.length_append, strNums_length]
    refine ⟨A2, c2, by rw [hlen], ?_, hb2⟩
    rw [hlen, HL.out]
    rw [strCells_nums] at hown2
    simpa [nums] using hown2
  clear hown hown2 hg2
  go_wp2
  go_ret
  exact R

set_option maxRecDepth 100000 in
theorem ref_puttext (s : ByteArray) (hs : s.size ≤ 140737488351232) (w : World) :
    Calls Tryz.prog 61 #[.string s] w (MadeNs 5 .u8 (textL s) w) := by
  obtain ⟨i0, hi0, hz0, hz1, hz2⟩ := info_parts Facts.info5
  have h1 := ref_putnum_pos (s.size : Int) (by omega) w
  have hl : (putL (s.size : Int)).length ≤ 9 := putF_len 9 (s.size : Int)
  obtain ⟨L, hL⟩ : ∃ L, putL (s.size : Int) = L := ⟨_, rfl⟩
  have HL : Hid (textL s = L ++ strNums s) := by unfold textL; rw [hL]; exact rfl
  rw [hL] at h1 hl
  clear hL
  have H1 := Lib.hid h1
  clear h1
  go_enter Tryz.func61, Tryz.ntmps61
  go_wp2_with fail
  refine H1.out.mono ?_
  rintro e w1 ⟨A, c, rfl, hown, hb⟩
  go_wp2
  go_loopw [3, 4] (fun v q wr => ∃ k : Nat, k ≤ s.size ∧ q = .int .i64 k ∧ wr.ownsRow w.heap.size 5 1 v (L.length + k) (nums .u8 (L ++ (strNums s).take k)) ∧ Below w.heap.size w wr) (fun _ q _ => s.size - (intOf q).toNat)
  case atStart => exact ⟨0, by omega, rfl, by simpa using hown, hb⟩
  case round =>
    obtain ⟨k, hk, rfl, hownr, hbr⟩ := hrel
    have hsz := hbr.size
    by_cases hlt : k < s.size
    · have hat := Lib.hid (strNums_at s k hlt)
      go_wp2_with (at_builtin; refine wpList_append_one _ rfl (.tmp 14) (.tmp 18) 25 rfl w.heap.size 5 i0 (.int .u8 0) 1 Tryz.underlying25 hi0 hz0 hz1 hz2 rfl _ (L.length + k) (nums .u8 (L ++ (strNums s).take k)) rfl hownr (.int .u8 ((s[k]'hlt).toNat : Int)) 1 rfl rfl (by omega) (by omega) hsz ?_; intro v1 w1 hown1 hg1 hat1)
      have hb1 : Below w.heap.size w w1 := hbr.grown hg1 hsz (fun k hk => (hownr.lt k hk).1)
      have ho : w1.ownsRow w.heap.size 5 1 v1 (L.length + (k + 1)) (nums .u8 (L ++ (strNums s).take (k + 1))) := by
        rw [hat.out]
        simpa [nums, Nat.add_assoc] using hown1
      clear hownr hown1 hg1 hat1
      go_wp2
      go_roundw
      case rel => exact ⟨k + 1, by omega, by go_num, ho, hb1⟩
      case measure => simp [intOf]; omega
    · go_wp2
      go_ret
      have hkk : k = s.size := by omega
      subst hkk
      rw [List.take_of_length_le (by rw [strNums_length]; omega)] at hownr
      obtain ⟨A2, c2, hv⟩ := own_form hownr
      subst hv
      have hlen : (textL s).length = L.length + s.size := by rw [HL.out, List.length_append, strNums_length]
      refine ⟨A2, c2, by rw [hlen]; rfl, ?_, hbr⟩
      rw [hlen, HL.out]
      exact hownr
end Num
end Go.Proofs.YtegiigeelcnemaaGreat

/-
  num.Text and firthref01.Text tell what textF tells.
-/
namespace Go.Proofs.YtegiigeelcnemaaGreat
namespace Num
open Go.RowKit

/-- What Text tells: the bytes of the text, the place behind it, the error. -/
def textF (zs : List Int) (i : Nat) (most : Int) : List Int × Nat × Int :=
  if (numF zs i).2.2 ≠ 0 then ([], 0, (numF zs i).2.2)
  else if max most 0 < (numF zs i).1 then ([], 0, 3)
  else if (zs.length : Int) - (numF zs i).2.1 < (numF zs i).1 then ([], 0, 4)
  else ((zs.drop (numF zs i).2.1).take (numF zs i).1.toNat, (numF zs i).2.1 + (numF zs i).1.toNat, 0)

def TellsT (r : List Int × Nat × Int) (w : World) (e : Ending) (w' : World) : Prop := e = .returned (.tuple #[.string (strOfNums r.1), .int .i64 (r.2.1 : Nat), .int .i64 r.2.2]) ∧ w = w'

set_option maxRecDepth 100000 in
theorem text_in (A : Option Addr) (c : Nat) (zs : List Int) (i : Nat) (most : Int) (hm : -9223372036854775808 ≤ most ∧ most ≤ 9223372036854775807) (B : Nat) (w : World) (hr : Ns .u8 w B A zs) (hby : ∀ z ∈ zs, 0 ≤ z ∧ z ≤ 255)
    (hbig : zs.length ≤ 140737488355328) (hc : zs.length ≤ c) (hi : i ≤ zs.length) :
    Calls Tryz.prog 109 #[.slice A zs.length c, .int .i64 i, .int .i64 most] w (TellsT (textF zs i most) w) := by
  have h1 := num_in A c zs i B w hr hby (by omega) hi
  obtain ⟨⟨n, p, e⟩, hF⟩ : ∃ r, numF zs i = r := ⟨_, rfl⟩
  have hT : textF zs i most = if e ≠ 0 then ([], 0, e) else if max most 0 < n then ([], 0, 3) else if (zs.length : Int) - p < n then ([], 0, 4) else ((zs.drop p).take n.toNat, p + n.toNat, 0) := by
    unfold textF; rw [hF]
  rw [hF] at h1
  by_cases he : e = 0
  · subst he
    obtain ⟨hn0, hn1, hip, hpl⟩ := numF_ok hby hF
    rw [if_neg (by simp)] at hT
    have H1 := Lib.hid h1
    by_cases hm0 : 0 ≤ most
    all_goals by_cases hb : max most 0 < n
    · rw [if_pos hb] at hT
      rw [hT]
      have hb' : most < n := by omega
      clear h1 hF hT hb
      go_enter Tryz.func109, Tryz.ntmps109
      go_wp2_with fail
      refine H1.out.mono ?_
      rintro e w' ⟨rfl, rfl⟩
      go_wp2_with fail
      go_ret3
      exact ⟨rfl, rfl⟩
    · rw [if_neg hb] at hT
      have hb' : n ≤ most := by omega
      clear hb
      by_cases hl : (zs.length : Int) - p < n
      · rw [if_pos hl] at hT
        rw [hT]
        clear h1 hF hT
        go_enter Tryz.func109, Tryz.ntmps109
        go_wp2_with fail
        refine H1.out.mono ?_
        rintro e w' ⟨rfl, rfl⟩
        go_wp2_with fail
        all_goals
          go_ret3
          exact ⟨rfl, rfl⟩
      · rw [if_neg hl] at hT
        obtain ⟨b, off, rfl, _, _⟩ := hr (by omega)
        obtain ⟨m, rfl⟩ := Int.eq_ofNat_of_zero_le hn0
        rw [Int.toNat_natCast] at hT
        have hpm : p + m ≤ zs.length := by omega
        have hS := cut_len hpm
        have hcut := hr.cut p m
        obtain ⟨S, hSe⟩ : ∃ S, (zs.drop p).take m = S := ⟨_, rfl⟩
        rw [hSe] at hS hT hcut
        rw [hT]
        have hconv := run_conv_ns (P := Tryz.prog) w 25 5 9 Tryz.underlying25 Tryz.underlying5 Tryz.underlying9 (c - p) hcut
        rw [hS] at hconv
        clear h1 hF hT hl hcut hSe
        by_cases hpc : c = p
        · obtain rfl : m = 0 := by omega
          obtain rfl : S = [] := List.eq_nil_of_length_eq_zero hS
          subst hpc
          have hconv2 := run_conv_ns (P := Tryz.prog) w (A := some ⟨b, off, none⟩) (B := B) 25 5 9 Tryz.underlying25 Tryz.underlying5 Tryz.underlying9 0 (Ns.nil _)
          rw [List.length_nil] at hconv2
          clear hconv hr hby
          go_enter Tryz.func109, Tryz.ntmps109
          go_wp2_with fail
          refine H1.out.mono ?_
          rintro e w' ⟨rfl, rfl⟩
          go_wp2_with fail
          go_ret3
          exact ⟨rfl, rfl⟩
        · have HS := Lib.hid hS
          clear hr hby hS
          go_enter Tryz.func109, Tryz.ntmps109
          go_wp2_with fail
          refine H1.out.mono ?_
          rintro e w' ⟨rfl, rfl⟩
          go_wp2_with fail
          go_ret3
          exact ⟨rfl, rfl⟩
    · rw [if_pos hb] at hT
      rw [hT]
      have hb' : 0 < n := by omega
      have hm1 : most < 0 := by omega
      clear h1 hF hT hb hm0
      go_enter Tryz.func109, Tryz.ntmps109
      go_wp2_with fail
      refine H1.out.mono ?_
      rintro e w' ⟨rfl, rfl⟩
      go_wp2_with fail
      go_ret3
      exact ⟨rfl, rfl⟩
    · rw [if_neg hb] at hT
      have hb' : n ≤ 0 := by omega
      have hm1 : most < 0 := by omega
      clear hb hm0
      by_cases hl : (zs.length : Int) - p < n
      · rw [if_pos hl] at hT
        rw [hT]
        clear h1 hF hT
        go_enter Tryz.func109, Tryz.ntmps109
        go_wp2_with fail
        refine H1.out.mono ?_
        rintro e w' ⟨rfl, rfl⟩
        go_wp2_with fail
        all_goals
          go_ret3
          exact ⟨rfl, rfl⟩
      · rw [if_neg hl] at hT
        obtain ⟨b, off, rfl, _, _⟩ := hr (by omega)
        obtain ⟨m, rfl⟩ := Int.eq_ofNat_of_zero_le hn0
        rw [Int.toNat_natCast] at hT
        have hpm : p + m ≤ zs.length := by omega
        have hS := cut_len hpm
        have hcut := hr.cut p m
        obtain ⟨S, hSe⟩ : ∃ S, (zs.drop p).take m = S := ⟨_, rfl⟩
        rw [hSe] at hS hT hcut
        rw [hT]
        have hconv := run_conv_ns (P := Tryz.prog) w 25 5 9 Tryz.underlying25 Tryz.underlying5 Tryz.underlying9 (c - p) hcut
        rw [hS] at hconv
        clear h1 hF hT hl hcut hSe
        by_cases hpc : c = p
        · obtain rfl : m = 0 := by omega
          obtain rfl : S = [] := List.eq_nil_of_length_eq_zero hS
          subst hpc
          have hconv2 := run_conv_ns (P := Tryz.prog) w (A := some ⟨b, off, none⟩) (B := B) 25 5 9 Tryz.underlying25 Tryz.underlying5 Tryz.underlying9 0 (Ns.nil _)
          rw [List.length_nil] at hconv2
          clear hconv hr hby
          go_enter Tryz.func109, Tryz.ntmps109
          go_wp2_with fail
          refine H1.out.mono ?_
          rintro e w' ⟨rfl, rfl⟩
          go_wp2_with fail
          go_ret3
          exact ⟨rfl, rfl⟩
        · have HS := Lib.hid hS
          clear hr hby hS
          go_enter Tryz.func109, Tryz.ntmps109
          go_wp2_with fail
          refine H1.out.mono ?_
          rintro e w' ⟨rfl, rfl⟩
          go_wp2_with fail
          go_ret3
          exact ⟨rfl, rfl⟩
  · have heb : (e == 0) = false := by simpa using he
    have heb2 : (e != 0) = true := by simpa using he
    rw [hT, if_pos he]
    have H1 := Lib.hid h1
    clear h1 hF hT he
    go_enter Tryz.func109, Tryz.ntmps109
    go_wp2_with fail
    refine H1.out.mono ?_
    rintro e' w' ⟨rfl, rfl⟩
    go_wp2_with fail
    go_ret3
    exact ⟨rfl, rfl⟩

end Num
end Go.Proofs.YtegiigeelcnemaaGreat

/-
  firthref01.Text tells what textF tells.
-/
namespace Go.Proofs.YtegiigeelcnemaaGreat
namespace Num
open Go.RowKit

set_option maxRecDepth 100000 in
theorem ref_text_in (A : Option Addr) (c : Nat) (zs : List Int) (i : Nat) (most : Int) (hm : -9223372036854775808 ≤ most ∧ most ≤ 9223372036854775807) (B : Nat) (w : World) (hr : Ns .u8 w B A zs) (hby : ∀ z ∈ zs, 0 ≤ z ∧ z ≤ 255)
    (hbig : zs.length ≤ 140737488355328) (hc : zs.length ≤ c) (hi : i ≤ zs.length) :
    Calls Tryz.prog 103 #[.slice A zs.length c, .int .i64 i, .int .i64 most] w (TellsT (textF zs i most) w) := by
  have h1 := ref_num_in A c zs i B w hr hby (by omega) hi
  obtain ⟨⟨n, p, e⟩, hF⟩ : ∃ r, numF zs i = r := ⟨_, rfl⟩
  have hT : textF zs i most = if e ≠ 0 then ([], 0, e) else if max most 0 < n then ([], 0, 3) else if (zs.length : Int) - p < n then ([], 0, 4) else ((zs.drop p).take n.toNat, p + n.toNat, 0) := by
    unfold textF; rw [hF]
  rw [hF] at h1
  by_cases he : e = 0
  · subst he
    obtain ⟨hn0, hn1, hip, hpl⟩ := numF_ok hby hF
    rw [if_neg (by simp)] at hT
    have H1 := Lib.hid h1
    by_cases hm0 : 0 ≤ most
    all_goals by_cases hb : max most 0 < n
    · rw [if_pos hb] at hT
      rw [hT]
      have hb' : most < n := by omega
      clear h1 hF hT hb
      go_enter Tryz.func103, Tryz.ntmps103
      go_wp2_with fail
      refine H1.out.mono ?_
      rintro e w' ⟨rfl, rfl⟩
      go_wp2_with fail
      go_ret3
      exact ⟨rfl, rfl⟩
    · rw [if_neg hb] at hT
      have hb' : n ≤ most := by omega
      clear hb
      by_cases hl : (zs.length : Int) - p < n
      · rw [if_pos hl] at hT
        rw [hT]
        clear h1 hF hT
        go_enter Tryz.func103, Tryz.ntmps103
        go_wp2_with fail
        refine H1.out.mono ?_
        rintro e w' ⟨rfl, rfl⟩
        go_wp2_with fail
        all_goals
          go_ret3
          exact ⟨rfl, rfl⟩
      · rw [if_neg hl] at hT
        obtain ⟨b, off, rfl, _, _⟩ := hr (by omega)
        obtain ⟨m, rfl⟩ := Int.eq_ofNat_of_zero_le hn0
        rw [Int.toNat_natCast] at hT
        have hpm : p + m ≤ zs.length := by omega
        have hS := cut_len hpm
        have hcut := hr.cut p m
        obtain ⟨S, hSe⟩ : ∃ S, (zs.drop p).take m = S := ⟨_, rfl⟩
        rw [hSe] at hS hT hcut
        rw [hT]
        have hconv := run_conv_ns (P := Tryz.prog) w 25 5 9 Tryz.underlying25 Tryz.underlying5 Tryz.underlying9 (c - p) hcut
        rw [hS] at hconv
        clear h1 hF hT hl hcut hSe
        by_cases hpc : c = p
        · obtain rfl : m = 0 := by omega
          obtain rfl : S = [] := List.eq_nil_of_length_eq_zero hS
          subst hpc
          have hconv2 := run_conv_ns (P := Tryz.prog) w (A := some ⟨b, off, none⟩) (B := B) 25 5 9 Tryz.underlying25 Tryz.underlying5 Tryz.underlying9 0 (Ns.nil _)
          rw [List.length_nil] at hconv2
          clear hconv hr hby
          go_enter Tryz.func103, Tryz.ntmps103
          go_wp2_with fail
          refine H1.out.mono ?_
          rintro e w' ⟨rfl, rfl⟩
          go_wp2_with fail
          go_ret3
          exact ⟨rfl, rfl⟩
        · have HS := Lib.hid hS
          clear hr hby hS
          go_enter Tryz.func103, Tryz.ntmps103
          go_wp2_with fail
          refine H1.out.mono ?_
          rintro e w' ⟨rfl, rfl⟩
          go_wp2_with fail
          go_ret3
          exact ⟨rfl, rfl⟩
    · rw [if_pos hb] at hT
      rw [hT]
      have hb' : 0 < n := by omega
      have hm1 : most < 0 := by omega
      clear h1 hF hT hb hm0
      go_enter Tryz.func103, Tryz.ntmps103
      go_wp2_with fail
      refine H1.out.mono ?_
      rintro e w' ⟨rfl, rfl⟩
      go_wp2_with fail
      go_ret3
      exact ⟨rfl, rfl⟩
    · rw [if_neg hb] at hT
      have hb' : n ≤ 0 := by omega
      have hm1 : most < 0 := by omega
      clear hb hm0
      by_cases hl : (zs.length : Int) - p < n
      · rw [if_pos hl] at hT
        rw [hT]
        clear h1 hF hT
        go_enter Tryz.func103, Tryz.ntmps103
        go_wp2_with fail
        refine H1.out.mono ?_
        rintro e w' ⟨rfl, rfl⟩
        go_wp2_with fail
        all_goals
          go_ret3
          exact ⟨rfl, rfl⟩
      · rw [if_neg hl] at hT
        obtain ⟨b, off, rfl, _, _⟩ := hr (by omega)
        obtain ⟨m, rfl⟩ := Int.eq_ofNat_of_zero_le hn0
        rw [Int.toNat_natCast] at hT
        have hpm : p + m ≤ zs.length := by omega
        have hS := cut_len hpm
        have hcut := hr.cut p m
        obtain ⟨S, hSe⟩ : ∃ S, (zs.drop p).take m = S := ⟨_, rfl⟩
        rw [hSe] at hS hT hcut
        rw [hT]
        have hconv := run_conv_ns (P := Tryz.prog) w 25 5 9 Tryz.underlying25 Tryz.underlying5 Tryz.underlying9 (c - p) hcut
        rw [hS] at hconv
        clear h1 hF hT hl hcut hSe
        by_cases hpc : c = p
        · obtain rfl : m = 0 := by omega
          obtain rfl : S = [] := List.eq_nil_of_length_eq_zero hS
          subst hpc
          have hconv2 := run_conv_ns (P := Tryz.prog) w (A := some ⟨b, off, none⟩) (B := B) 25 5 9 Tryz.underlying25 Tryz.underlying5 Tryz.underlying9 0 (Ns.nil _)
          rw [List.length_nil] at hconv2
          clear hconv hr hby
          go_enter Tryz.func103, Tryz.ntmps103
          go_wp2_with fail
          refine H1.out.mono ?_
          rintro e w' ⟨rfl, rfl⟩
          go_wp2_with fail
          go_ret3
          exact ⟨rfl, rfl⟩
        · have HS := Lib.hid hS
          clear hr hby hS
          go_enter Tryz.func103, Tryz.ntmps103
          go_wp2_with fail
          refine H1.out.mono ?_
          rintro e w' ⟨rfl, rfl⟩
          go_wp2_with fail
          go_ret3
          exact ⟨rfl, rfl⟩
  · have heb : (e == 0) = false := by simpa using he
    have heb2 : (e != 0) = true := by simpa using he
    rw [hT, if_pos he]
    have H1 := Lib.hid h1
    clear h1 hF hT he
    go_enter Tryz.func103, Tryz.ntmps103
    go_wp2_with fail
    refine H1.out.mono ?_
    rintro e' w' ⟨rfl, rfl⟩
    go_wp2_with fail
    go_ret3
    exact ⟨rfl, rfl⟩

end Num
end Go.Proofs.YtegiigeelcnemaaGreat

/-
  A row of bytes of the call's own, written at will: it stays a row of bytes.
-/
namespace Go.Proofs.YtegiigeelcnemaaGreat
open Go.RowKit

/-- Block g is a row of n numbers at least, whatever they are. -/
def Rw (k : IntKind) (w : World) (g n : Nat) : Prop := ∃ cur e, w.heap[g]? = some (.cells cur e (0, 0)) ∧ ∀ j, j < n → ∃ z, cur[j]? = some (.int k z)
theorem Rw.cell {k : IntKind} {w : World} {g n : Nat} (h : Rw k w g n) (j : Nat) (hj : j < n) : ∃ z, w.cell? ⟨g, j, none⟩ = some (.int k z) := by
  obtain ⟨cur, e, h1, h2⟩ := h
  obtain ⟨z, hz⟩ := h2 j hj
  exact ⟨z, by rw [cell_of_row w g j cur e (0, 0) h1]; exact hz⟩
theorem Rw.frozen {k : IntKind} {w : World} {g n : Nat} (h : Rw k w g n) (j : Nat) : w.frozen? ⟨g, j, none⟩ = false := by
  obtain ⟨cur, e, h1, _⟩ := h
  simp [World.frozen?, h1]
theorem Rw.set {k : IntKind} {w : World} {g n : Nat} (h : Rw k w g n) (i : Nat) (x : Int) : Rw k (w.setCell ⟨g, i, none⟩ (.int k x)) g n := by
  obtain ⟨cur, e, h1, h2⟩ := h
  refine ⟨cur.setIfInBounds i (.int k x), e, ?_, fun j hj => ?_⟩
  · simp [World.setCell, Array.getElem?_modify, h1]
  · obtain ⟨z, hz⟩ := h2 j hj
    by_cases hij : i = j
    · subst hij
      exact ⟨x, by rw [Array.getElem?_setIfInBounds_self_of_lt (Array.getElem?_eq_some_iff.1 hz).1]⟩
    · exact ⟨z, by rw [Array.getElem?_setIfInBounds_ne hij]; exact hz⟩
theorem Rw.keep {k : IntKind} {w w' : World} {g n : Nat} (h : Rw k w g n) (hk : w'.heap[g]? = w.heap[g]?) : Rw k w' g n := by
  obtain ⟨cur, e, h1, h2⟩ := h
  exact ⟨cur, e, hk.trans h1, h2⟩
/-- A row of the call's own that isn't empty lies in a block of the call's own. -/
theorem own_rw {k : IntKind} {w : World} {base : Nat} {e : TypeId} {A : Option Addr} {c : Nat} {zs : List Int} (h : w.ownsRow base e 1 (.slice A zs.length c) zs.length (nums k zs)) (hp : 0 < zs.length) :
    ∃ g, A = some ⟨g, 0, none⟩ ∧ base ≤ g ∧ g < w.heap.size ∧ Rw k w g zs.length := by
  rcases h.2 with ⟨_, h0⟩ | ⟨g, cap, cur, hv, hbg, hg, hn, hcm, hcs, htake⟩
  · omega
  · injection hv with h1 h2 h3
    refine ⟨g, h1, hbg, (Array.getElem?_eq_some_iff.1 hg).1, cur, e, hg, fun j hj => ⟨zs[j], ?_⟩⟩
    have h4 : (cur.toList.take (zs.length * 1))[j]? = (nums k zs)[j]? := by rw [htake]
    rw [List.getElem?_take_of_lt (by omega), Array.getElem?_toList] at h4
    rw [h4]
    simp [nums, List.getElem?_map, List.getElem?_eq_getElem hj]
/-- A slice of numbers reads as it did when its block stays. -/
theorem Ns.other {k : IntKind} {w w' : World} {B b off : Nat} {zs : List Int} (h : Ns k w B (some ⟨b, off, none⟩) zs) (hk : w'.heap[b]? = w.heap[b]?) : Ns k w' B (some ⟨b, off, none⟩) zs := fun hp => by
  obtain ⟨b', off', e, hb, hc⟩ := h hp
  injection e with e
  injection e with e1 e2
  subst e1
  subst e2
  exact ⟨b, off, rfl, hb, fun j hj => (World.cell?_of_block (w := w) (w' := w') (a := ⟨b, off + j, none⟩) hk).trans (hc j hj)⟩
theorem grown_set (w : World) (g i : Nat) (u : Value) : w.grownBy (w.setCell ⟨g, i, none⟩ u) (some g) :=
  ⟨rfl, rfl, rfl, by simp [World.setCell], fun k _ hne => Below.heap_setCell w ⟨g, i, none⟩ u k (fun e => hne (by rw [e]))⟩
end Go.Proofs.YtegiigeelcnemaaGreat
