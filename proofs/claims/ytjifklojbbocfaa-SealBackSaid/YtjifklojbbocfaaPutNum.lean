/-
  num.PutNum and firthref01.PutNum make the bytes of the number, putL.
-/
import Derived.Test.YtjifklojbbocfaaFacts
import Derived.Test.YtjifklojbbocfaaNumPlain
namespace Go.Proofs.Ytjifklojbbocfaa
namespace Num
open Go.RowKit

theorem made_last {e : TypeId} {k : IntKind} {zs acc : List Int} {m : Int} {w w' : World} {v : Value} (h : zs = acc ++ [m]) (hown : w'.ownsRow w.heap.size e 1 v (acc.length + 1) (nums k acc ++ [.int k m])) (hb : Below w.heap.size w w') :
    MadeNs e k zs w (.returned v) w' := by
  subst h
  obtain ⟨A, c, rfl⟩ := own_form hown
  exact ⟨A, c, by simp, by simpa [nums] using hown, hb⟩

def AtPut (B : Nat) (w : World) (n : Int) (q v : Value) (wr : World) : Prop :=
  ∃ (m : Int) (acc : List Int) (f : Nat), 0 ≤ m ∧ m ≤ 9223372036854775807 ∧ q = .int .i64 m ∧ Laid n acc f m ∧ wr.ownsRow B 5 1 v acc.length (nums .u8 acc) ∧ Below B w wr

set_option maxRecDepth 100000 in
theorem putnum_from (n : Int) (hn0 : n < 0 ∨ 0 ≤ n) (hn : -9223372036854775808 ≤ n ∧ n ≤ 9223372036854775807) (w : World) :
    Calls Try.prog 21 #[.int .i64 n] w (MadeNs 5 .u8 (putL (max n 0)) w) := by
  obtain ⟨i0, hi0, hz0, hz1, hz2⟩ := info_parts Facts.info5
  rcases hn0 with h0 | h0
  all_goals
    go_enter Try.func21, Try.ntmps21
    go_wp2
    go_loopw [0, 3] (fun q v wr => AtPut w.heap.size w (max n 0) q v wr) (fun q _ _ => (intOf q).toNat)
    case atStart => exact ⟨_, [], 8, by omega, by omega, rfl, by first | (rw [Int.max_eq_right (by omega)]; exact laid_start _ (by omega)) | (rw [Int.max_eq_left (by omega)]; exact laid_start _ (by omega)), World.ownsRow_nil _ _ _ _, Below.refl _ _⟩
    case round =>
      obtain ⟨m, acc, f, hm0, hm1, rfl, hl, hown, hb⟩ := hrel
      have hlen := laid_len hl
      have hsz := hb.size
      have Hl := Lib.hid hl
      clear hl
      by_cases h128 : 128 ≤ m
      · go_wp2_with (at_builtin; refine wpList_append_one _ rfl (.tmp 8) (.tmp 13) 25 rfl w.heap.size 5 i0 (.int .u8 0) 1 Try.underlying25 hi0 hz0 hz1 hz2 rfl _ acc.length (nums .u8 acc) rfl hown (.int .u8 (m % 128 + 128)) 1 rfl rfl (by omega) (by omega) hsz ?_; intro v1 w1 hown1 hg1 hat1)
        obtain ⟨g, hg⟩ := laid_more Hl.out h128
        have hb1 : Below w.heap.size w w1 := hb.grown hg1 hsz (fun k hk => (hown.lt k hk).1)
        have ho : w1.ownsRow w.heap.size 5 1 v1 (acc ++ [m % 128 + 128]).length (nums .u8 (acc ++ [m % 128 + 128])) := by simpa [nums] using hown1
        clear hown hown1 hg1 hat1
        go_wp2
        go_roundw
        case rel => exact ⟨m / 128, _, g, by omega, by omega, by go_num, hg, ho, hb1⟩
        case measure => simp [intOf]; omega
      · go_wp2_with (at_builtin; refine wpList_append_one _ rfl (.tmp 17) (.tmp 20) 25 rfl w.heap.size 5 i0 (.int .u8 0) 1 Try.underlying25 hi0 hz0 hz1 hz2 rfl _ acc.length (nums .u8 acc) rfl hown (.int .u8 m) 1 rfl rfl (by omega) (by omega) hsz ?_; intro v1 w1 hown1 hg1 hat1)
        have hb1 : Below w.heap.size w w1 := hb.grown hg1 hsz (fun k hk => (hown.lt k hk).1)
        have R := made_last (laid_last Hl.out (by omega)) hown1 hb1
        clear hown hown1 hg1 hat1
        go_wp2
        go_ret
        exact R

set_option maxRecDepth 100000 in
theorem ref_putnum_from (n : Int) (hn0 : n < 0 ∨ 0 ≤ n) (hn : -9223372036854775808 ≤ n ∧ n ≤ 9223372036854775807) (w : World) :
    Calls Try.prog 23 #[.int .i64 n] w (MadeNs 5 .u8 (putL (max n 0)) w) := by
  obtain ⟨i0, hi0, hz0, hz1, hz2⟩ := info_parts Facts.info5
  rcases hn0 with h0 | h0
  all_goals
    go_enter Try.func23, Try.ntmps23
    go_wp2
    go_loopw [0, 3] (fun q v wr => AtPut w.heap.size w (max n 0) q v wr) (fun q _ _ => (intOf q).toNat)
    case atStart => exact ⟨_, [], 8, by omega, by omega, rfl, by first | (rw [Int.max_eq_right (by omega)]; exact laid_start _ (by omega)) | (rw [Int.max_eq_left (by omega)]; exact laid_start _ (by omega)), World.ownsRow_nil _ _ _ _, Below.refl _ _⟩
    case round =>
      obtain ⟨m, acc, f, hm0, hm1, rfl, hl, hown, hb⟩ := hrel
      have hlen := laid_len hl
      have hsz := hb.size
      have Hl := Lib.hid hl
      clear hl
      by_cases h128 : 128 ≤ m
      · go_wp2_with (at_builtin; refine wpList_append_one _ rfl (.tmp 8) (.tmp 13) 25 rfl w.heap.size 5 i0 (.int .u8 0) 1 Try.underlying25 hi0 hz0 hz1 hz2 rfl _ acc.length (nums .u8 acc) rfl hown (.int .u8 (m % 128 + 128)) 1 rfl rfl (by omega) (by omega) hsz ?_; intro v1 w1 hown1 hg1 hat1)
        obtain ⟨g, hg⟩ := laid_more Hl.out h128
        have hb1 : Below w.heap.size w w1 := hb.grown hg1 hsz (fun k hk => (hown.lt k hk).1)
        have ho : w1.ownsRow w.heap.size 5 1 v1 (acc ++ [m % 128 + 128]).length (nums .u8 (acc ++ [m % 128 + 128])) := by simpa [nums] using hown1
        clear hown hown1 hg1 hat1
        go_wp2
        go_roundw
        case rel => exact ⟨m / 128, _, g, by omega, by omega, by go_num, hg, ho, hb1⟩
        case measure => simp [intOf]; omega
      · go_wp2_with (at_builtin; refine wpList_append_one _ rfl (.tmp 17) (.tmp 20) 25 rfl w.heap.size 5 i0 (.int .u8 0) 1 Try.underlying25 hi0 hz0 hz1 hz2 rfl _ acc.length (nums .u8 acc) rfl hown (.int .u8 m) 1 rfl rfl (by omega) (by omega) hsz ?_; intro v1 w1 hown1 hg1 hat1)
        have hb1 : Below w.heap.size w w1 := hb.grown hg1 hsz (fun k hk => (hown.lt k hk).1)
        have R := made_last (laid_last Hl.out (by omega)) hown1 hb1
        clear hown hown1 hg1 hat1
        go_wp2
        go_ret
        exact R

theorem putnum (n : Int) (hn : -9223372036854775808 ≤ n ∧ n ≤ 9223372036854775807) (w : World) :
    Calls Try.prog 21 #[.int .i64 n] w (MadeNs 5 .u8 (putL (max n 0)) w) := putnum_from n (by omega) hn w
theorem ref_putnum (n : Int) (hn : -9223372036854775808 ≤ n ∧ n ≤ 9223372036854775807) (w : World) :
    Calls Try.prog 23 #[.int .i64 n] w (MadeNs 5 .u8 (putL (max n 0)) w) := ref_putnum_from n (by omega) hn w
theorem putnum_pos (n : Int) (hn : 0 ≤ n ∧ n ≤ 9223372036854775807) (w : World) :
    Calls Try.prog 21 #[.int .i64 n] w (MadeNs 5 .u8 (putL n) w) := by
  have h := putnum n (by omega) w
  rw [Int.max_eq_left (by omega)] at h
  exact h
theorem ref_putnum_pos (n : Int) (hn : 0 ≤ n ∧ n ≤ 9223372036854775807) (w : World) :
    Calls Try.prog 23 #[.int .i64 n] w (MadeNs 5 .u8 (putL n) w) := by
  have h := ref_putnum n (by omega) w
  rw [Int.max_eq_left (by omega)] at h
  exact h
end Num
end Go.Proofs.Ytjifklojbbocfaa
