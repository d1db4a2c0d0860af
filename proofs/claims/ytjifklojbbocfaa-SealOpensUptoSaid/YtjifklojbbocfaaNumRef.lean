/-
  firthref01.Num tells what numF tells.
-/
import Derived.Test.YtjifklojbbocfaaNumWalk
namespace Go.Proofs.Ytjifklojbbocfaa
namespace Num
open Go.RowKit

theorem ref_num_in (A : Option Addr) (c : Nat) (zs : List Int) (i : Nat) (B : Nat) (w : World) (hr : Ns .u8 w B A zs) (hby : ∀ z ∈ zs, 0 ≤ z ∧ z ≤ 255) (hbig : zs.length ≤ 140737488355328) (hi : i ≤ zs.length) :
    Calls Try.prog 31 #[.slice A zs.length c, .int .i64 i] w (Tells3 (numF zs i) w) := by
  go_enter Try.func31, Try.ntmps31
  go_wp2
  go_loop [1, 4, 5, 6, 7, 8, 9] (fun p _ _ _ n o q => ∃ (k : Nat) (a : Int), i + k ≤ zs.length ∧ k ≤ 8 ∧ 0 ≤ a ∧ a < 128 ^ k ∧ p = .int .i64 ((i + k : Nat) : Int) ∧ n = .int .i64 a ∧ o = .int .i64 (128 ^ k) ∧ q = .int .i64 k ∧ Hid (numF zs i = numR (zs.drop (i + k)) (i + k) k a)) (fun _ _ _ _ _ _ q => zs.length - (intOf q).toNat)
  case atStart => exact ⟨0, 0, by omega, by omega, by omega, by simp, rfl, rfl, rfl, rfl, rfl⟩
  case round =>
    obtain ⟨k, a, hk, hk8, ha0, hak, rfl, rfl, rfl, rfl, hst⟩ := hrel
    by_cases hlt : i + k < zs.length
    · obtain ⟨b, off, rfl, hbB, hc⟩ := hr (by omega)
      have hcell := hc _ hlt
      obtain ⟨z, hz⟩ : ∃ z, zs.getD (i + k) 0 = z := ⟨_, rfl⟩
      have hb1 : 0 ≤ z ∧ z ≤ 255 := by
        rw [← hz, List.getD_eq_getElem?_getD, List.getElem?_eq_getElem hlt]; exact hby _ (List.getElem_mem hlt)
      rw [hz] at hcell
      have Hz := Lib.hid hz
      clear hz hr hc hby
      obtain ⟨hb0, hb1⟩ := hb1
      have hpw := one_le k hk8
      have hpm : k < 8 → (128 : Int) ^ k ≤ 562949953421312 := one_more k
      have Hak := Lib.hid hak
      have Had : Hid (∀ x : Int, x = z → wrap64 (a + wrap64 (x % 128 * 128 ^ k)) = a + (if z < 128 then z else z - 128) * 128 ^ k) := by
        rintro x rfl
        by_cases hl : x < 128
        · rw [if_pos hl]; exact add_low k a x hk8 ha0 hak hb0 hl
        · rw [if_neg hl]; exact add_high k a x hk8 ha0 hak (by omega) (by omega)
      clear hak
      obtain ⟨o, ho⟩ : ∃ o : Int, (128 : Int) ^ k = o := ⟨_, rfl⟩
      rw [ho] at hpw hpm Had ⊢
      have Ho := Lib.hid ho
      clear ho
      have hk3 : 8 ≤ k ∨ (0 < k ∧ k < 8) ∨ (k ≤ 0 ∧ k < 8) := by omega
      have hz3 : z = 0 ∨ (0 < z ∧ z < 128) ∨ 128 ≤ z := by omega
      have Hp := Lib.hid hpm
      clear hpm
      have hkn : k ≤ 0 → decide ((0 : Int) < (k : Int)) = false := fun h => decide_eq_false (by omega)
      have hkm : k ≤ 0 → decide (0 < k) = false := fun h => decide_eq_false (by omega)
      have hzn : 0 < z → (z == 0) = false := fun h => by simp; omega
      have Hkn := Lib.hid hkn
      have Hkm := Lib.hid hkm
      have Hzn := Lib.hid hzn
      clear hkn hkm hzn
      rcases hk3 with h3 | ⟨h3, h3'⟩ | ⟨h3, h3'⟩ <;> rcases hz3 with rfl | ⟨h4, h4'⟩ | h4
      all_goals try have hpm := Hp.out (by assumption)
      all_goals try have hkn := Hkn.out (by assumption)
      all_goals try have hkm := Hkm.out (by assumption)
      all_goals try have hzn := Hzn.out (by first | assumption | omega)
      all_goals go_wp2
      all_goals first
        | (go_ret3
           rw [hst.out, numR_bad zs i k a _ hlt Hz.out (by omega)]
           exact ⟨ret3 rfl rfl rfl, rfl⟩)
        | (go_ret3
           rw [hst.out, numR_last zs i k a _ hlt Hz.out (by omega) (by omega)]
           refine ⟨ret3 ?_ ?_ rfl, rfl⟩
           · first
             | exact (Had.out _ rfl).trans (by rw [if_pos (by omega), Ho.out])
             | (show wrap64 a = a + 0 * 128 ^ k
                have hq := Hak.out
                rw [Ho.out] at hq
                rw [Int.zero_mul, Int.add_zero]
                exact IntWalk.wrap64_in a ⟨by omega, by omega⟩)
           · first
             | (show (i : Int) + k + 1 = ((i + k + 1 : Nat) : Int); omega)
             | (show (i : Int) + 8 + 1 = ((i + k + 1 : Nat) : Int); omega))
        | (refine ⟨⟨k + 1, a + (z - 128) * 128 ^ k, by omega, by omega, acc_ge k a (z - 128) ha0 (by omega), acc_lt k a (z - 128) Hak.out (by omega), by go_num, congrArg (Value.int .i64) ((Had.out _ rfl).trans (by rw [if_neg (by omega), Ho.out])), congrArg (Value.int .i64) (by rw [Int.pow_succ, Ho.out]), by go_num, hst.out.trans (numR_more zs i k a z hlt Hz.out (by omega) (by omega))⟩, ?_⟩
           simp [intOf]; omega)
    · have hstep := Lib.hid (numR_end zs i k a (by omega))
      go_wp2
      go_ret3
      rw [hst.out, hstep.out]
      exact ⟨ret3 rfl rfl rfl, rfl⟩
end Num
end Go.Proofs.Ytjifklojbbocfaa
