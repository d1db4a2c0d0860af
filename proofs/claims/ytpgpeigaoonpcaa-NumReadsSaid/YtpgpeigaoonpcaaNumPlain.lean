/-
  Plain words of layer 1: a number's bytes, read one by one.
-/
import Derived.WalkKit
namespace Go.Proofs.Ytpgpeigaoonpcaa
namespace Num
open Go.RowKit

/-- What is read from a list of bytes on, whose first one stands at the place p, behind i bytes that said n: the number, the place behind it, the error. -/
def numR : List Int → Nat → Nat → Int → Int × Nat × Int
  | [], _, _, _ => (0, 0, 4)
  | c :: r, p, i, n =>
    if (i = 8 ∧ 127 < c) ∨ (0 < i ∧ c = 0) then (0, 0, 2)
    else if c < 128 then (n + c * 128 ^ i, p + 1, 0)
    else numR r (p + 1) (i + 1) (n + (c - 128) * 128 ^ i)

/-- What Num tells of bytes and a place within. -/
def numF (zs : List Int) (i : Nat) : Int × Nat × Int := numR (zs.drop i) i 0 0

theorem numR_end (zs : List Int) (i k : Nat) (a : Int) (h : zs.length ≤ i + k) : numR (zs.drop (i + k)) (i + k) k a = (0, 0, 4) := by
  rw [List.drop_of_length_le h]; rfl
theorem numR_at (zs : List Int) (i k : Nat) (a z : Int) (h : i + k < zs.length) (hz : zs.getD (i + k) 0 = z) :
    numR (zs.drop (i + k)) (i + k) k a =
      if (k = 8 ∧ 127 < z) ∨ (0 < k ∧ z = 0) then (0, 0, 2)
      else if z < 128 then (a + z * 128 ^ k, i + k + 1, 0)
      else numR (zs.drop (i + (k + 1))) (i + (k + 1)) (k + 1) (a + (z - 128) * 128 ^ k) := by
  have e : zs[i + k] = z := by rw [← hz, List.getD_eq_getElem?_getD, List.getElem?_eq_getElem h]; rfl
  rw [List.drop_eq_getElem_cons h, e]; rfl
theorem numR_bad (zs : List Int) (i k : Nat) (a z : Int) (h : i + k < zs.length) (hz : zs.getD (i + k) 0 = z) (hb : (k = 8 ∧ 127 < z) ∨ (0 < k ∧ z = 0)) :
    numR (zs.drop (i + k)) (i + k) k a = (0, 0, 2) := by rw [numR_at zs i k a z h hz, if_pos hb]
theorem numR_last (zs : List Int) (i k : Nat) (a z : Int) (h : i + k < zs.length) (hz : zs.getD (i + k) 0 = z) (hb : ¬ (0 < k ∧ z = 0)) (hl : z < 128) :
    numR (zs.drop (i + k)) (i + k) k a = (a + z * 128 ^ k, i + k + 1, 0) := by rw [numR_at zs i k a z h hz, if_neg (by omega), if_pos hl]
theorem numR_more (zs : List Int) (i k : Nat) (a z : Int) (h : i + k < zs.length) (hz : zs.getD (i + k) 0 = z) (hb : k < 8) (hl : 128 ≤ z) :
    numR (zs.drop (i + k)) (i + k) k a = numR (zs.drop (i + (k + 1))) (i + (k + 1)) (k + 1) (a + (z - 128) * 128 ^ k) := by rw [numR_at zs i k a z h hz, if_neg (by omega), if_neg (by omega)]

theorem ofInt_nat (a : Nat) (ha : a < 9223372036854775808) : (BitVec.ofInt 64 (a : Int)).toNat = a := by
  rw [BitVec.ofInt_natCast, BitVec.toNat_ofNat]; exact Nat.mod_eq_of_lt (by omega)
theorem or_nat (a b : Nat) (ha : a < 9223372036854775808) (hb : b < 9223372036854775808) : bits .or .i64 (a : Int) (b : Int) = ((a ||| b : Nat) : Int) := by
  have hx : a ||| b < 2 ^ 63 := Nat.or_lt_two_pow (by omega) (by omega)
  show IntKind.i64.wrap ((BitVec.ofInt 64 (a : Int) ||| BitVec.ofInt 64 (b : Int)).toNat : Int) = _
  rw [BitVec.toNat_or, ofInt_nat a ha, ofInt_nat b hb, IntKind.wrap_i64]
  omega

theorem pow_128 (k : Nat) : (128 : Nat) ^ k = 2 ^ (7 * k) := by rw [Nat.pow_mul]
theorem pow_le (k : Nat) (hk : k ≤ 8) : (128 : Nat) ^ k ≤ 72057594037927936 := by
  have : (128 : Nat) ^ k ≤ 128 ^ 8 := Nat.pow_le_pow_right (by omega) hk
  omega

/-- The bits of one byte more are laid beside those that there are. -/
theorem or_step (k : Nat) (a x : Int) (hk : k ≤ 8) (ha : 0 ≤ a) (hak : a < 128 ^ k) (hx : 0 ≤ x) (hx1 : x < 128) :
    bits .or .i64 a (wrap64 (x * 2 ^ (7 * k))) = a + x * 128 ^ k := by
  obtain ⟨m, rfl⟩ := Int.eq_ofNat_of_zero_le ha
  obtain ⟨y, rfl⟩ := Int.eq_ofNat_of_zero_le hx
  have hp := pow_le k hk
  have hm : m < 128 ^ k := by exact_mod_cast hak
  have hyk : y * 128 ^ k ≤ 127 * 128 ^ k := Nat.mul_le_mul_right _ (by omega)
  have e1 : (y : Int) * 2 ^ (7 * k) = ((y * 128 ^ k : Nat) : Int) := by rw [pow_128]; push_cast; rfl
  have e2 : (y : Int) * 128 ^ k = ((y * 128 ^ k : Nat) : Int) := by push_cast; rfl
  rw [e1, e2, IntWalk.wrap64_in _ ⟨by omega, by omega⟩, or_nat _ _ (by omega) (by omega)]
  have := Nat.two_pow_add_eq_or_of_lt (i := 7 * k) (b := m) (by rw [← pow_128]; exact hm) y
  rw [Nat.or_comm, Nat.mul_comm y, pow_128, ← this]
  push_cast
  omega

theorem or_low (k : Nat) (a z : Int) (hk : k ≤ 8) (ha : 0 ≤ a) (hak : a < 128 ^ k) (hx : 0 ≤ z) (hx1 : z < 128) : bits .or .i64 a (wrap64 (z % 128 * 2 ^ (7 * k))) = a + z * 128 ^ k := by
  rw [show z % 128 = z by omega]; exact or_step k a z hk ha hak hx hx1
theorem or_high (k : Nat) (a z : Int) (hk : k ≤ 8) (ha : 0 ≤ a) (hak : a < 128 ^ k) (hx : 128 ≤ z) (hx1 : z < 256) : bits .or .i64 a (wrap64 (z % 128 * 2 ^ (7 * k))) = a + (z - 128) * 128 ^ k := by
  rw [show z % 128 = z - 128 by omega]; exact or_step k a (z - 128) hk ha hak (by omega) (by omega)
theorem or_low8 (k : Nat) (a z : Int) (hk : k = 8) (ha : 0 ≤ a) (hak : a < 128 ^ k) (hx : 0 ≤ z) (hx1 : z < 128) : bits .or .i64 a (z % 128 * 72057594037927936) = a + z * 128 ^ k := by
  have h := or_low k a z (by omega) ha hak hx hx1
  subst hk
  rw [← h, IntWalk.wrap64_in _ ⟨by omega, by omega⟩]
  rfl

theorem one_le (k : Nat) (hk : k ≤ 8) : 1 ≤ (128 : Int) ^ k ∧ (128 : Int) ^ k ≤ 72057594037927936 := by
  have h1 : 0 < (128 : Nat) ^ k := Nat.pow_pos (by omega)
  have h2 := pow_le k hk
  have h3 : (((128 : Nat) ^ k : Nat) : Int) = (128 : Int) ^ k := by push_cast; rfl
  omega

theorem add_step (k : Nat) (a x : Int) (hk : k ≤ 8) (ha : 0 ≤ a) (hak : a < 128 ^ k) (hx : 0 ≤ x) (hx1 : x < 128) : wrap64 (a + wrap64 (x * 128 ^ k)) = a + x * 128 ^ k := by
  obtain ⟨h1, h2⟩ := one_le k hk
  have h3 : x * 128 ^ k ≤ 127 * 128 ^ k := Int.mul_le_mul_of_nonneg_right (by omega) (by omega)
  have h4 : 0 ≤ x * 128 ^ k := Int.mul_nonneg hx (by omega)
  rw [IntWalk.wrap64_in (x * 128 ^ k) ⟨by omega, by omega⟩, IntWalk.wrap64_in _ ⟨by omega, by omega⟩]
theorem add_low (k : Nat) (a z : Int) (hk : k ≤ 8) (ha : 0 ≤ a) (hak : a < 128 ^ k) (hx : 0 ≤ z) (hx1 : z < 128) : wrap64 (a + wrap64 (z % 128 * 128 ^ k)) = a + z * 128 ^ k := by
  rw [show z % 128 = z by omega]; exact add_step k a z hk ha hak hx hx1
theorem add_high (k : Nat) (a z : Int) (hk : k ≤ 8) (ha : 0 ≤ a) (hak : a < 128 ^ k) (hx : 128 ≤ z) (hx1 : z < 256) : wrap64 (a + wrap64 (z % 128 * 128 ^ k)) = a + (z - 128) * 128 ^ k := by
  rw [show z % 128 = z - 128 by omega]; exact add_step k a (z - 128) hk ha hak (by omega) (by omega)
theorem one_more (k : Nat) (hk : k < 8) : (128 : Int) ^ k ≤ 562949953421312 := by
  obtain ⟨h1, h2⟩ := one_le (k + 1) (by omega)
  rw [Int.pow_succ] at h2
  omega

theorem acc_lt (k : Nat) (a x : Int) (hak : a < 128 ^ k) (hx1 : x < 128) : a + x * 128 ^ k < 128 ^ (k + 1) := by
  have h0 : (0 : Int) < 128 ^ k := Int.pow_pos (by omega)
  have : x * 128 ^ k ≤ 127 * 128 ^ k := Int.mul_le_mul_of_nonneg_right (by omega) (by omega)
  rw [Int.pow_succ]
  omega
theorem acc_ge (k : Nat) (a x : Int) (ha : 0 ≤ a) (hx : 0 ≤ x) : 0 ≤ a + x * 128 ^ k := by
  have h0 : (0 : Int) < 128 ^ k := Int.pow_pos (by omega)
  have := Int.mul_nonneg hx (by omega : (0 : Int) ≤ 128 ^ k)
  omega

theorem ret3 {ka kb kc : IntKind} {a a' b b' c c' : Int} (h1 : a = a') (h2 : b = b') (h3 : c = c') :
    Ending.returned (.tuple #[.int ka a, .int kb b, .int kc c]) = .returned (.tuple #[.int ka a', .int kb b', .int kc c']) := by rw [h1, h2, h3]
end Num
end Go.Proofs.Ytpgpeigaoonpcaa
