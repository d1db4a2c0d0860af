/-
  Several texts of this family in one: NumPlain, NumWalk, NumRef, Text, CodeParse, CodeRd, CodeSpans.
-/
import Derived.WalkKit
import Derived.Test.YtbaclinjimfncaaGreatRows
import Derived.Test.YtbaclinjimfncaaGreatGBase
import Derived.Test.YtbaclinjimfncaaGreatGSpanA
import Derived.RangeFuncBox
import Derived.WalkLawsBesides
import Derived.Deep.RegionHeld3
import Derived.Deep.DrawnRows
import Derived.Test.YtbaclinjimfncaaGreatGVect
/-
  Plain words of layer 1: a number's bytes, read one by one.
-/
namespace Go.Proofs.YtbaclinjimfncaaGreat
namespace Num
open Go.RowKit

/-- What is read from a list of bytes on, whose first one stands at the place p, behind i bytes that said n: the number, the place behind it, the error. -/
def numR : List Int → Nat → Nat → Int → Int × Nat × Int
  | [], _, _, _ => (0, 0, 4)
  | c :: r, p, i, n =>
    if (i = 8 ∧ 127 < c) ∨ (0 < i ∧ c = 0) then (0, 0, 2)
    else if c < 128 then (n + c * 128 ^ i, p + 1, 0)
    else numR r (p + 1) (i + 1) (n + (c - 128) * 128 ^ i)

/-- What Num tells of bytes and a place within. -/
def numF (zs : List Int) (i : Nat) : Int × Nat × Int := numR (zs.drop i) i 0 0

theorem numR_end (zs : List Int) (i k : Nat) (a : Int) (h : zs.length ≤ i + k) : numR (zs.drop (i + k)) (i + k) k a = (0, 0, 4) := by
  rw [List.drop_of_length_le h]; rfl
theorem numR_at (zs : List Int) (i k : Nat) (a z : Int) (h : i + k < zs.length) (hz : zs.getD (i + k) 0 = z) :
    numR (zs.drop (i + k)) (i + k) k a =
      if (k = 8 ∧ 127 < z) ∨ (0 < k ∧ z = 0) then (0, 0, 2)
      else if z < 128 then (a + z * 128 ^ k, i + k + 1, 0)
      else numR (zs.drop (i + (k + 1))) (i + (k + 1)) (k + 1) (a + (z - 128) * 128 ^ k) := by
  have e : zs[i + k] = z := by rw [← hz, List.getD_eq_getElem?_getD, List.getElem?_eq_getElem h]; rfl
  rw [List.drop_eq_getElem_cons h, e]; rfl
theorem numR_bad (zs : List Int) (i k : Nat) (a z : Int) (h : i + k < zs.length) (hz : zs.getD (i + k) 0 = z) (hb : (k = 8 ∧ 127 < z) ∨ (0 < k ∧ z = 0)) :
    numR (zs.drop (i + k)) (i + k) k a = (0, 0, 2) := by rw [numR_at zs i k a z h hz, if_pos hb]
theorem numR_last (zs : List Int) (i k : Nat) (a z : Int) (h : i + k < zs.length) (hz : zs.getD (i + k) 0 = z) (hb : ¬ (0 < k ∧ z = 0)) (hl : z < 128) :
    numR (zs.drop (i + k)) (i + k) k a = (a + z * 128 ^ k, i + k + 1, 0) := by rw [numR_at zs i k a z h hz, if_neg (by omega), if_pos hl]
theorem numR_more (zs : List Int) (i k : Nat) (a z : Int) (h : i + k < zs.length) (hz : zs.getD (i + k) 0 = z) (hb : k < 8) (hl : 128 ≤ z) :
    numR (zs.drop (i + k)) (i + k) k a = numR (zs.drop (i + (k + 1))) (i + (k + 1)) (k + 1) (a + (z - 128) * 128 ^ k) := by rw [numR_at zs i k a z h hz, if_neg (by omega), if_neg (by omega)]

theorem ofInt_nat (a : Nat) (ha : a < 9223372036854775808) : (BitVec.ofInt 64 (a : Int)).toNat = a := by
  rw [BitVec.ofInt_natCast, BitVec.toNat_ofNat]; exact Nat.mod_eq_of_lt (by omega)
theorem or_nat (a b : Nat) (ha : a < 9223372036854775808) (hb : b < 9223372036854775808) : bits .or .i64 (a : Int) (b : Int) = ((a ||| b : Nat) : Int) := by
  have hx : a ||| b < 2 ^ 63 := Nat.or_lt_two_pow (by omega) (by omega)
  show IntKind.i64.wrap ((BitVec.ofInt 64 (a : Int) ||| BitVec.ofInt 64 (b : Int)).toNat : Int) = _
  rw [BitVec.toNat_or, ofInt_nat a ha, ofInt_nat b hb, IntKind.wrap_i64]
  omega

theorem pow_128 (k : Nat) : (128 : Nat) ^ k = 2 ^ (7 * k) := by rw [Nat.pow_mul]
theorem pow_le (k : Nat) (hk : k ≤ 8) : (128 : Nat) ^ k ≤ 72057594037927936 := by
  have : (128 : Nat) ^ k ≤ 128 ^ 8 := Nat.pow_le_pow_right (by omega) hk
  omega

/-- The bits of one byte more are laid beside those that there are. -/
theorem or_step (k : Nat) (a x : Int) (hk : k ≤ 8) (ha : 0 ≤ a) (hak : a < 128 ^ k) (hx : 0 ≤ x) (hx1 : x < 128) :
    bits .or .i64 a (wrap64 (x * 2 ^ (7 * k))) = a + x * 128 ^ k := by
  obtain ⟨m, rfl⟩ := Int.eq_ofNat_of_zero_le ha
  obtain ⟨y, rfl⟩ := Int.eq_ofNat_of_zero_le hx
  have hp := pow_le k hk
  have hm : m < 128 ^ k := by exact_mod_cast hak
  have hyk : y * 128 ^ k ≤ 127 * 128 ^ k := Nat.mul_le_mul_right _ (by omega)
  have e1 : (y : Int) * 2 ^ (7 * k) = ((y * 128 ^ k : Nat) : Int) := by rw [pow_128]; push_cast; rfl
  have e2 : (y : Int) * 128 ^ k = ((y * 128 ^ k : Nat) : Int) := by push_cast; rfl
  rw [e1, e2, IntWalk.wrap64_in _ ⟨by omega, by omega⟩, or_nat _ _ (by omega) (by omega)]
  have := Nat.two_pow_add_eq_or_of_lt (i := 7 * k) (b := m) (by rw [← pow_128]; exact hm) y
  rw [Nat.or_comm, Nat.mul_comm y, pow_128, ← this]
  push_cast
  omega

theorem or_low (k : Nat) (a z : Int) (hk : k ≤ 8) (ha : 0 ≤ a) (hak : a < 128 ^ k) (hx : 0 ≤ z) (hx1 : z < 128) : bits .or .i64 a (wrap64 (z % 128 * 2 ^ (7 * k))) = a + z * 128 ^ k := by
  rw [show z % 128 = z by omega]; exact or_step k a z hk ha hak hx hx1
theorem or_high (k : Nat) (a z : Int) (hk : k ≤ 8) (ha : 0 ≤ a) (hak : a < 128 ^ k) (hx : 128 ≤ z) (hx1 : z < 256) : bits .or .i64 a (wrap64 (z % 128 * 2 ^ (7 * k))) = a + (z - 128) * 128 ^ k := by
  rw [show z % 128 = z - 128 by omega]; exact or_step k a (z - 128) hk ha hak (by omega) (by omega)
theorem or_low8 (k : Nat) (a z : Int) (hk : k = 8) (ha : 0 ≤ a) (hak : a < 128 ^ k) (hx : 0 ≤ z) (hx1 : z < 128) : bits .or .i64 a (z % 128 * 72057594037927936) = a + z * 128 ^ k := by
  have h := or_low k a z (by omega) ha hak hx hx1
  subst hk
  rw [← h, IntWalk.wrap64_in _ ⟨by omega, by omega⟩]
  rfl

theorem one_le (k : Nat) (hk : k ≤ 8) : 1 ≤ (128 : Int) ^ k ∧ (128 : Int) ^ k ≤ 72057594037927936 := by
  have h1 : 0 < (128 : Nat) ^ k := Nat.pow_pos (by omega)
  have h2 := pow_le k hk
  have h3 : (((128 : Nat) ^ k : Nat) : Int) = (128 : Int) ^ k := by push_cast; rfl
  omega

theorem add_step (k : Nat) (a x : Int) (hk : k ≤ 8) (ha : 0 ≤ a) (hak : a < 128 ^ k) (hx : 0 ≤ x) (hx1 : x < 128) : wrap64 (a + wrap64 (x * 128 ^ k)) = a + x * 128 ^ k := by
  obtain ⟨h1, h2⟩ := one_le k hk
  have h3 : x * 128 ^ k ≤ 127 * 128 ^ k := Int.mul_le_mul_of_nonneg_right (by omega) (by omega)
  have h4 : 0 ≤ x * 128 ^ k := Int.mul_nonneg hx (by omega)
  rw [IntWalk.wrap64_in (x * 128 ^ k) ⟨by omega, by omega⟩, IntWalk.wrap64_in _ ⟨by omega, by omega⟩]
theorem add_low (k : Nat) (a z : Int) (hk : k ≤ 8) (ha : 0 ≤ a) (hak : a < 128 ^ k) (hx : 0 ≤ z) (hx1 : z < 128) : wrap64 (a + wrap64 (z % 128 * 128 ^ k)) = a + z * 128 ^ k := by
  rw [show z % 128 = z by omega]; exact add_step k a z hk ha hak hx hx1
theorem add_high (k : Nat) (a z : Int) (hk : k ≤ 8) (ha : 0 ≤ a) (hak : a < 128 ^ k) (hx : 128 ≤ z) (hx1 : z < 256) : wrap64 (a + wrap64 (z % 128 * 128 ^ k)) = a + (z - 128) * 128 ^ k := by
  rw [show z % 128 = z - 128 by omega]; exact add_step k a (z - 128) hk ha hak (by omega) (by omega)
theorem one_more (k : Nat) (hk : k < 8) : (128 : Int) ^ k ≤ 562949953421312 := by
  obtain ⟨h1, h2⟩ := one_le (k + 1) (by omega)
  rw [Int.pow_succ] at h2
  omega

theorem acc_lt (k : Nat) (a x : Int) (hak : a < 128 ^ k) (hx1 : x < 128) : a + x * 128 ^ k < 128 ^ (k + 1) := by
  have h0 : (0 : Int) < 128 ^ k := Int.pow_pos (by omega)
  have : x * 128 ^ k ≤ 127 * 128 ^ k := Int.mul_le_mul_of_nonneg_right (by omega) (by omega)
  rw [Int.pow_succ]
  omega
theorem acc_ge (k : Nat) (a x : Int) (ha : 0 ≤ a) (hx : 0 ≤ x) : 0 ≤ a + x * 128 ^ k := by
  have h0 : (0 : Int) < 128 ^ k := Int.pow_pos (by omega)
  have := Int.mul_nonneg hx (by omega : (0 : Int) ≤ 128 ^ k)
  omega

/-- The bytes of a number, at most so many. -/
def putF : Nat → Int → List Int
  | 0, _ => []
  | k + 1, n => if n < 128 then [n] else (n % 128 + 128) :: putF k (n / 128)
def putL (n : Int) : List Int := putF 9 n

theorem putF_last (k : Nat) (n : Int) (h : n < 128) : putF (k + 1) n = [n] := by rw [putF, if_pos h]
theorem putF_more (k : Nat) (n : Int) (h : 128 ≤ n) : putF (k + 1) n = (n % 128 + 128) :: putF k (n / 128) := by rw [putF, if_neg (by omega)]

/-- How a number's bytes are laid: acc is laid, m is left, of which there are at most f + 1 bytes. -/
def Laid (n : Int) (acc : List Int) (f : Nat) (m : Int) : Prop := putL n = acc ++ putF (f + 1) m ∧ m < 128 ^ (f + 1) ∧ acc.length + (f + 1) = 9
theorem laid_start (n : Int) (h : n ≤ 9223372036854775807) : Laid n [] 8 n := ⟨rfl, by omega, rfl⟩
theorem laid_len {n : Int} {acc : List Int} {f : Nat} {m : Int} (h : Laid n acc f m) : acc.length ≤ 8 := by have := h.2.2; omega
theorem laid_more {n : Int} {acc : List Int} {f : Nat} {m : Int} (h : Laid n acc f m) (hm : 128 ≤ m) : ∃ g, Laid n (acc ++ [m % 128 + 128]) g (m / 128) := by
  obtain ⟨h1, h2, h3⟩ := h
  cases f with
  | zero => simp at h2; omega
  | succ g =>
    refine ⟨g, ?_, ?_, by simp; omega⟩
    · rw [h1, putF_more _ _ hm]; simp
    · rw [Int.pow_succ] at h2
      exact Int.ediv_lt_of_lt_mul (by omega) h2
theorem laid_last {n : Int} {acc : List Int} {f : Nat} {m : Int} (h : Laid n acc f m) (hm : m < 128) : putL n = acc ++ [m] := by
  rw [h.1, putF_last _ _ hm]

theorem putF_bytes : ∀ (k : Nat) (n : Int), 0 ≤ n → ∀ z ∈ putF k n, 0 ≤ z ∧ z ≤ 255
  | 0, _, _, z, hz => by simp [putF] at hz
  | k + 1, n, hn, z, hz => by
    by_cases h : n < 128
    · rw [putF_last _ _ h] at hz; simp at hz; omega
    · rw [putF_more _ _ (by omega)] at hz
      rcases List.mem_cons.1 hz with rfl | hz
      · omega
      · exact putF_bytes k (n / 128) (by omega) z hz
theorem putF_len : ∀ (k : Nat) (n : Int), (putF k n).length ≤ k
  | 0, _ => by simp [putF]
  | k + 1, n => by
    by_cases h : n < 128
    · rw [putF_last _ _ h]; simp
    · rw [putF_more _ _ (by omega)]; have := putF_len k (n / 128); simp; omega
theorem putF_pos (k : Nat) (n : Int) : 1 ≤ (putF (k + 1) n).length := by
  by_cases h : n < 128
  · rw [putF_last _ _ h]; simp
  · rw [putF_more _ _ (by omega)]; simp

theorem numR_err : ∀ (l : List Int) (p i : Nat) (a n : Int) (q : Nat) (e : Int), numR l p i a = (n, q, e) → e ≠ 0 → n = 0 ∧ q = 0
  | [], p, i, a, n, q, e, h, he => by
    simp only [numR, Prod.mk.injEq] at h
    exact ⟨h.1.symm, h.2.1.symm⟩
  | c :: r, p, i, a, n, q, e, h, he => by
    rw [numR] at h
    by_cases hb : (i = 8 ∧ 127 < c) ∨ (0 < i ∧ c = 0)
    · rw [if_pos hb] at h
      simp only [Prod.mk.injEq] at h
      exact ⟨h.1.symm, h.2.1.symm⟩
    · rw [if_neg hb] at h
      by_cases hc : c < 128
      · rw [if_pos hc] at h
        simp only [Prod.mk.injEq] at h
        omega
      · rw [if_neg hc] at h
        exact numR_err r _ _ _ n q e h he

/-- What is read has the bytes that its number has. -/
theorem numR_ok : ∀ (l : List Int) (p i : Nat) (a n : Int) (q : Nat), (∀ z ∈ l, 0 ≤ z ∧ z ≤ 255) → i ≤ 8 → numR l p i a = (n, q, 0) →
    ∃ (m : Int) (k : Nat), 0 ≤ m ∧ m < 128 ^ (9 - i) ∧ (0 < i → 1 ≤ m) ∧ n = a + m * 128 ^ i ∧ q = p + k ∧ 1 ≤ k ∧ k ≤ l.length ∧ l.take k = putF (9 - i) m
  | [], p, i, a, n, q, _, _, h => by simp [numR] at h
  | c :: r, p, i, a, n, q, hby, hi, h => by
    have hc0 := hby c (by simp)
    obtain ⟨j, hj⟩ : ∃ j, 9 - i = j + 1 := ⟨8 - i, by omega⟩
    have hpow : (0 : Int) < 128 ^ j := Int.pow_pos (by omega)
    rw [numR] at h
    by_cases hb : (i = 8 ∧ 127 < c) ∨ (0 < i ∧ c = 0)
    · rw [if_pos hb] at h
      simp at h
    · rw [if_neg hb] at h
      by_cases hc : c < 128
      · rw [if_pos hc] at h
        simp only [Prod.mk.injEq] at h
        refine ⟨c, 1, by omega, ?_, by omega, h.1.symm, by omega, by omega, by simp, ?_⟩
        · rw [hj, Int.pow_succ]
          omega
        · rw [hj, putF_last _ _ hc]
          rfl
      · rw [if_neg hc] at h
        obtain ⟨m, k, h1, h2, h3, h4, h5, h6, h7, h8⟩ := numR_ok r (p + 1) (i + 1) _ n q (fun z hz => hby z (by simp [hz])) (by omega) h
        have h3' := h3 (by omega)
        have hj' : 9 - (i + 1) = j := by omega
        rw [hj'] at h2 h8
        refine ⟨c - 128 + m * 128, k + 1, by omega, ?_, by omega, ?_, by omega, by omega, by simp; omega, ?_⟩
        · rw [hj, Int.pow_succ]
          omega
        · rw [h4, Int.pow_succ, Int.add_mul, Int.mul_assoc, Int.mul_comm 128, Int.add_assoc]
        · rw [hj, putF_more _ _ (by omega), List.take_succ_cons, h8]
          congr 2
          · omega
          · omega

/-- A number's bytes are read as it, whatever stands behind. -/
theorem numR_put : ∀ (j i p : Nat) (a m : Int) (r : List Int), 9 - i = j + 1 → i ≤ 8 → 0 ≤ m → m < 128 ^ (j + 1) → (0 < i → 1 ≤ m) →
    numR (putF (j + 1) m ++ r) p i a = (a + m * 128 ^ i, p + (putF (j + 1) m).length, 0)
  | j, i, p, a, m, r, hj, hi, h0, h1, h2 => by
    by_cases hm : m < 128
    · rw [putF_last _ _ hm]
      show numR (m :: r) p i a = _
      rw [numR, if_neg (by omega), if_pos hm]
      rfl
    · rw [putF_more _ _ (by omega)]
      cases j with
      | zero => simp at h1; omega
      | succ j =>
        show numR ((m % 128 + 128) :: (putF (j + 1) (m / 128) ++ r)) p i a = _
        rw [numR, if_neg (by omega), if_neg (by omega), numR_put j (i + 1) (p + 1) _ (m / 128) r (by omega) (by omega) (by omega) (by rw [Int.pow_succ] at h1; exact Int.ediv_lt_of_lt_mul (by omega) h1) (by omega)]
        refine Prod.ext ?_ (Prod.ext ?_ rfl)
        · show a + (m % 128 + 128 - 128) * 128 ^ i + m / 128 * 128 ^ (i + 1) = a + m * 128 ^ i
          rw [Int.pow_succ, Int.add_sub_cancel, Int.mul_comm (128 ^ i) 128, ← Int.mul_assoc, Int.add_assoc, ← Int.add_mul]
          congr 2
          omega
        · simp only [List.length_cons]
          omega

theorem numF_put (n : Int) (h0 : 0 ≤ n) (h1 : n ≤ 9223372036854775807) (xs ys : List Int) : numF (xs ++ putL n ++ ys) xs.length = (n, xs.length + (putL n).length, 0) := by
  unfold numF
  rw [List.append_assoc, List.drop_left]
  have h := numR_put 8 0 xs.length 0 n ys (by omega) (by omega) h0 (by omega) (by omega)
  rw [show putL n = putF (8 + 1) n from rfl, h]
  simp
theorem putL_len (n : Int) : 1 ≤ (putL n).length ∧ (putL n).length ≤ 9 := ⟨putF_pos 8 n, putF_len 9 n⟩
theorem putL_bytes (n : Int) (h : 0 ≤ n) : ∀ z ∈ putL n, 0 ≤ z ∧ z ≤ 255 := putF_bytes 9 n h

theorem numF_ok {zs : List Int} {i p : Nat} {n : Int} (hby : ∀ z ∈ zs, 0 ≤ z ∧ z ≤ 255) (h : numF zs i = (n, p, 0)) : 0 ≤ n ∧ n ≤ 9223372036854775807 ∧ i < p ∧ p ≤ zs.length := by
  obtain ⟨m, k, g1, g2, g3, g4, g5, g6, g7, g8⟩ := numR_ok (zs.drop i) i 0 0 n p (fun z hz => hby z (List.mem_of_mem_drop hz)) (by omega) h
  rw [List.length_drop] at g7
  have hm : m < 128 ^ 9 := g2
  have hn : n = m := by rw [g4]; simp
  subst hn
  omega
theorem numF_err {zs : List Int} {i p : Nat} {n e : Int} (h : numF zs i = (n, p, e)) (he : e ≠ 0) : n = 0 ∧ p = 0 := numR_err _ _ _ _ _ _ _ h he

theorem ret3 {ka kb kc : IntKind} {a a' b b' c c' : Int} (h1 : a = a') (h2 : b = b') (h3 : c = c') :
    Ending.returned (.tuple #[.int ka a, .int kb b, .int kc c]) = .returned (.tuple #[.int ka a', .int kb b', .int kc c']) := by rw [h1, h2, h3]
end Num
end Go.Proofs.YtbaclinjimfncaaGreat

/-
  num.Num tells what numF tells.
-/
namespace Go.Proofs.YtbaclinjimfncaaGreat
namespace Num
open Go.RowKit

def Tells3 (r : Int × Nat × Int) (w : World) (e : Ending) (w' : World) : Prop := e = .returned (.tuple #[.int .i64 r.1, .int .i64 (r.2.1 : Nat), .int .i64 r.2.2]) ∧ w = w'

end Num
end Go.Proofs.YtbaclinjimfncaaGreat

/-
  firthref01.Num tells what numF tells.
-/
namespace Go.Proofs.YtbaclinjimfncaaGreat
namespace Num
open Go.RowKit

end Num
end Go.Proofs.YtbaclinjimfncaaGreat

/-
  num.Text and firthref01.Text tell what textF tells.
-/
namespace Go.Proofs.YtbaclinjimfncaaGreat
namespace Num
open Go.RowKit

/-- What Text tells: the bytes of the text, the place behind it, the error. -/
def textF (zs : List Int) (i : Nat) (most : Int) : List Int × Nat × Int :=
  if (numF zs i).2.2 ≠ 0 then ([], 0, (numF zs i).2.2)
  else if max most 0 < (numF zs i).1 then ([], 0, 3)
  else if (zs.length : Int) - (numF zs i).2.1 < (numF zs i).1 then ([], 0, 4)
  else ((zs.drop (numF zs i).2.1).take (numF zs i).1.toNat, (numF zs i).2.1 + (numF zs i).1.toNat, 0)

def TellsT (r : List Int × Nat × Int) (w : World) (e : Ending) (w' : World) : Prop := e = .returned (.tuple #[.string (strOfNums r.1), .int .i64 (r.2.1 : Nat), .int .i64 r.2.2]) ∧ w = w'

end Num
end Go.Proofs.YtbaclinjimfncaaGreat

/-
  Plain words of layer 6: what is taken from bytes, one thing behind the other, and what is written.
-/
namespace Go.Proofs.YtbaclinjimfncaaGreat
namespace Code
open Num Span

/-- The bytes e stand at the place p of zs. -/
def Std (zs : List Int) (p : Nat) (e : List Int) : Prop := p ≤ zs.length ∧ e <+: zs.drop p
theorem std_nil {zs : List Int} {p : Nat} (h : p ≤ zs.length) : Std zs p [] := ⟨h, List.nil_prefix⟩
theorem std_le {zs e : List Int} {p : Nat} (h : Std zs p e) : p + e.length ≤ zs.length := by
  have h1 := h.2.length_le
  rw [List.length_drop] at h1
  have := h.1
  omega
theorem std_append {zs a b : List Int} {p : Nat} : Std zs p (a ++ b) ↔ Std zs p a ∧ Std zs (p + a.length) b := by
  constructor
  · intro h
    have hl := std_le h
    rw [List.length_append] at hl
    obtain ⟨t, ht⟩ := h.2
    refine ⟨⟨h.1, ⟨b ++ t, by rw [← ht, List.append_assoc]⟩⟩, by omega, ⟨t, ?_⟩⟩
    rw [← List.drop_drop, ← ht, List.append_assoc, List.drop_left]
  · rintro ⟨⟨h1, t, ht⟩, h2, u, hu⟩
    refine ⟨h1, u, ?_⟩
    rw [List.append_assoc, hu, ← List.drop_drop, ← ht, List.drop_left]
theorem std_all {zs e : List Int} : Std zs 0 e ∧ e.length = zs.length ↔ zs = e := by
  constructor
  · rintro ⟨⟨_, t, ht⟩, h2⟩
    rw [List.drop_zero] at ht
    have : t = [] := List.eq_nil_of_length_eq_zero (by have := congrArg List.length ht; simp at this; omega)
    rw [← ht, this, List.append_nil]
  · rintro rfl
    exact ⟨⟨by omega, by simp⟩, rfl⟩
theorem std_take {zs e : List Int} {p : Nat} (h : Std zs p e) : (zs.drop p).take e.length = e := by
  obtain ⟨t, ht⟩ := h.2
  rw [← ht, List.take_left]

/-- A number at a place: it, and the place behind. -/
def numP (zs : List Int) (p : Nat) : Option (Int × Nat) := if (numF zs p).2.2 = 0 then some ((numF zs p).1, (numF zs p).2.1) else none
theorem numP_put {zs : List Int} {p : Nat} {n : Int} (h0 : 0 ≤ n) (h1 : n ≤ 9223372036854775807) (h : Std zs p (putL n)) : numP zs p = some (n, p + (putL n).length) := by
  obtain ⟨hp, t, ht⟩ := h
  have e : zs = zs.take p ++ putL n ++ t := by rw [List.append_assoc, ht, List.take_append_drop]
  have hl : (zs.take p).length = p := by rw [List.length_take]; omega
  have h2 := numF_put n h0 h1 (zs.take p) t
  rw [← e, hl] at h2
  unfold numP
  rw [h2]
  rfl
theorem numP_ok {zs : List Int} {p q : Nat} {n : Int} (hby : ∀ z ∈ zs, 0 ≤ z ∧ z ≤ 255) (hp : p ≤ zs.length) (h : numP zs p = some (n, q)) : Std zs p (putL n) ∧ q = p + (putL n).length ∧ 0 ≤ n ∧ n ≤ 9223372036854775807 := by
  unfold numP at h
  split at h
  · rename_i he
    obtain ⟨⟨n', q', e⟩, hF⟩ : ∃ r, numF zs p = r := ⟨_, rfl⟩
    rw [hF] at h he
    simp only [Option.some.injEq, Prod.mk.injEq] at h he
    obtain ⟨rfl, rfl⟩ := h
    subst he
    obtain ⟨h0, h1, _, _⟩ := numF_ok hby hF
    obtain ⟨m, k, g1, g2, g3, g4, g5, g6, g7, g8⟩ := numR_ok (zs.drop p) p 0 0 n' q' (fun z hz => hby z (List.mem_of_mem_drop hz)) (by omega) hF
    have hn : n' = m := by rw [g4]; simp
    subst hn
    have hk : (putL n').length = k := by
      have := congrArg List.length g8
      rw [List.length_take] at this
      unfold putL
      have e9 : 9 - 0 = 9 := rfl
      rw [e9] at this
      omega
    refine ⟨⟨hp, ?_⟩, by omega, h0, h1⟩
    show putF 9 n' <+: _
    rw [show putF 9 n' = (zs.drop p).take k from g8.symm]
    exact List.take_prefix _ _
  · cases h
theorem numP_none {zs : List Int} {p : Nat} (h : numP zs p = none) : (numF zs p).2.2 ≠ 0 := by
  unfold numP at h
  split at h
  · cases h
  · assumption
theorem numP_some {zs : List Int} {p q : Nat} {n : Int} (h : numP zs p = some (n, q)) : numF zs p = (n, q, 0) := by
  unfold numP at h
  split at h
  · rename_i he
    simp only [Option.some.injEq, Prod.mk.injEq] at h
    rw [← h.1, ← h.2, ← he]
  · cases h

/-- A number up to a greatest one. -/
def upP (m : Int) (zs : List Int) (p : Nat) : Option (Int × Nat) :=
  match numP zs p with
  | some (n, q) => if n ≤ m then some (n, q) else none
  | none => none
theorem upP_put {zs : List Int} {p : Nat} {n m : Int} (h0 : 0 ≤ n) (hm : n ≤ m) (h1 : n ≤ 9223372036854775807) (h : Std zs p (putL n)) : upP m zs p = some (n, p + (putL n).length) := by
  unfold upP
  rw [numP_put h0 h1 h]
  simp only
  rw [if_pos hm]
theorem upP_ok {zs : List Int} {p q : Nat} {n m : Int} (hby : ∀ z ∈ zs, 0 ≤ z ∧ z ≤ 255) (hp : p ≤ zs.length) (h : upP m zs p = some (n, q)) : Std zs p (putL n) ∧ q = p + (putL n).length ∧ 0 ≤ n ∧ n ≤ m ∧ n ≤ 9223372036854775807 := by
  unfold upP at h
  split at h
  · rename_i n' q' hn
    split at h
    · simp only [Option.some.injEq, Prod.mk.injEq] at h
      obtain ⟨rfl, rfl⟩ := h
      obtain ⟨h1, h2, h3, h4⟩ := numP_ok hby hp hn
      exact ⟨h1, h2, h3, by assumption, h4⟩
    · cases h
  · cases h

/-- A text of at most so many bytes. -/
def textP (most : Int) (zs : List Int) (p : Nat) : Option (List Int × Nat) := if (textF zs p most).2.2 = 0 then some ((textF zs p most).1, (textF zs p most).2.1) else none
/-- The bytes of a text. -/
def txtL (l : List Int) : List Int := putL (l.length : Int) ++ l
theorem textP_put {zs l : List Int} {p : Nat} {most : Int} (hm : (l.length : Int) ≤ most) (hb : zs.length ≤ 9223372036854775807) (h : Std zs p (txtL l)) : textP most zs p = some (l, p + (txtL l).length) := by
  obtain ⟨h1, h2⟩ := std_append.1 h
  have hl := std_le h2
  have hn := numP_some (numP_put (n := (l.length : Int)) (by omega) (by omega) h1)
  have hT : textF zs p most = (l, p + (putL (l.length : Int)).length + l.length, 0) := by
    unfold textF
    rw [hn]
    simp only
    rw [if_neg (by simp), if_neg (by omega), if_neg (by omega), Int.toNat_natCast, std_take h2]
  unfold textP
  rw [hT]
  simp only [if_true, Option.some.injEq, Prod.mk.injEq, true_and]
  unfold txtL
  rw [List.length_append]
  omega
theorem textP_ok {zs l : List Int} {p q : Nat} {most : Int} (hby : ∀ z ∈ zs, 0 ≤ z ∧ z ≤ 255) (hp : p ≤ zs.length) (h : textP most zs p = some (l, q)) :
    Std zs p (txtL l) ∧ q = p + (txtL l).length ∧ (l.length : Int) ≤ max most 0 ∧ ∀ z ∈ l, 0 ≤ z ∧ z ≤ 255 := by
  unfold textP at h
  split at h
  · rename_i he
    simp only [Option.some.injEq, Prod.mk.injEq] at h
    unfold textF at h he
    split at h
    · rename_i h1
      rw [if_pos h1] at he
      exact absurd he h1
    · rename_i h1
      rw [if_neg h1] at he
      split at h
      · rename_i h2
        rw [if_pos h2] at he
        simp at he
      · rename_i h2
        rw [if_neg h2] at he
        split at h
        · rename_i h3
          rw [if_pos h3] at he
          simp at he
        · rename_i h3
          obtain ⟨rfl, rfl⟩ := h
          obtain ⟨⟨n, r, e⟩, hF⟩ : ∃ r, numF zs p = r := ⟨_, rfl⟩
          rw [hF] at h1 h2 h3 ⊢
          simp only at h1 h2 h3 ⊢
          have he0 : e = 0 := Decidable.byContradiction h1
          subst he0
          obtain ⟨g1, g2, g3, g4⟩ := numP_ok hby hp (q := r) (n := n) (by unfold numP; rw [hF]; rfl)
          obtain ⟨m, rfl⟩ := Int.eq_ofNat_of_zero_le g3
          have hr := std_le g1
          rw [Int.toNat_natCast]
          have hlen : ((zs.drop r).take m).length = m := cut_len (by omega)
          refine ⟨?_, ?_, by rw [hlen]; omega, fun z hz => hby z (List.mem_of_mem_drop (List.mem_of_mem_take hz))⟩
          · refine std_append.2 ⟨by rw [hlen]; exact g1, ?_⟩
            rw [hlen, ← g2]
            exact ⟨by omega, List.take_prefix _ _⟩
          · unfold txtL
            rw [List.length_append, hlen]
            omega
  · cases h

/-- So many things, one behind the other. -/
def listP {α : Type} (P : Nat → Option (α × Nat)) : Nat → Nat → Option (List α × Nat)
  | 0, p => some ([], p)
  | k + 1, p =>
    match P p with
    | none => none
    | some (x, q) => (listP P k q).map fun r => (x :: r.1, r.2)
theorem listP_zero {α : Type} (P : Nat → Option (α × Nat)) (p : Nat) : listP P 0 p = some ([], p) := rfl
theorem listP_none {α : Type} {P : Nat → Option (α × Nat)} {k p : Nat} (h : P p = none) : listP P (k + 1) p = none := by rw [listP, h]
theorem listP_more {α : Type} {P : Nat → Option (α × Nat)} {k p q : Nat} {x : α} (h : P p = some (x, q)) : listP P (k + 1) p = (listP P k q).map fun r => (x :: r.1, r.2) := by rw [listP, h]
theorem listP_put {α : Type} {P : Nat → Option (α × Nat)} {enc : α → List Int} {ok : α → Prop} {zs : List Int} (hP : ∀ x p, ok x → Std zs p (enc x) → P p = some (x, p + (enc x).length)) :
    ∀ (l : List α) (p : Nat), (∀ x ∈ l, ok x) → Std zs p (l.flatMap enc) → listP P l.length p = some (l, p + (l.flatMap enc).length)
  | [], p, _, _ => by simp [listP]
  | x :: l, p, hok, h => by
    rw [List.flatMap_cons] at h
    obtain ⟨h1, h2⟩ := std_append.1 h
    rw [List.length_cons, listP_more (hP x p (hok x (by simp)) h1), listP_put hP l _ (fun y hy => hok y (by simp [hy])) h2]
    simp [Nat.add_assoc]
theorem listP_ok {α : Type} {P : Nat → Option (α × Nat)} {enc : α → List Int} {ok : α → Prop} {zs : List Int} (hP : ∀ x p q, p ≤ zs.length → P p = some (x, q) → q ≤ zs.length ∧ (ok x → Std zs p (enc x) ∧ q = p + (enc x).length)) :
    ∀ (k p q : Nat) (l : List α), p ≤ zs.length → listP P k p = some (l, q) → l.length = k ∧ q ≤ zs.length ∧ ((∀ x ∈ l, ok x) → Std zs p (l.flatMap enc) ∧ q = p + (l.flatMap enc).length)
  | 0, p, q, l, hp, h => by
    simp only [listP, Option.some.injEq, Prod.mk.injEq] at h
    obtain ⟨rfl, rfl⟩ := h
    exact ⟨rfl, hp, fun _ => ⟨std_nil hp, rfl⟩⟩
  | k + 1, p, q, l, hp, h => by
    rw [listP] at h
    split at h
    · cases h
    · rename_i x r hx
      obtain ⟨y, hy, he⟩ := Option.map_eq_some_iff.1 h
      simp only [Prod.mk.injEq] at he
      obtain ⟨rfl, rfl⟩ := he
      obtain ⟨hr, hx2⟩ := hP x p r hp hx
      obtain ⟨h1, h2, h3⟩ := listP_ok hP k r y.2 y.1 hr hy
      refine ⟨by simp [h1], h2, fun hok => ?_⟩
      obtain ⟨g1, g2⟩ := hx2 (hok x (by simp))
      obtain ⟨g3, g4⟩ := h3 (fun z hz => hok z (by simp [hz]))
      rw [List.flatMap_cons]
      refine ⟨std_append.2 ⟨g1, by rw [← g2]; exact g3⟩, ?_⟩
      rw [List.length_append]
      omega

/-- A list: how many, and they. -/
def seqP {α : Type} (P : Nat → Option (α × Nat)) (zs : List Int) (p : Nat) : Option (List α × Nat) :=
  match numP zs p with
  | none => none
  | some (n, q) => listP P n.toNat q
def seqL {α : Type} (enc : α → List Int) (l : List α) : List Int := putL (l.length : Int) ++ l.flatMap enc
theorem seqP_put {α : Type} {P : Nat → Option (α × Nat)} {enc : α → List Int} {ok : α → Prop} {zs : List Int} (hP : ∀ x p, ok x → Std zs p (enc x) → P p = some (x, p + (enc x).length))
    {l : List α} {p : Nat} (hl : l.length ≤ 9223372036854775807) (hok : ∀ x ∈ l, ok x) (h : Std zs p (seqL enc l)) : seqP P zs p = some (l, p + (seqL enc l).length) := by
  obtain ⟨h1, h2⟩ := std_append.1 h
  unfold seqP
  rw [numP_put (by omega) (by omega) h1]
  simp only [Int.toNat_natCast]
  rw [listP_put hP l _ hok h2]
  unfold seqL
  rw [List.length_append, Nat.add_assoc]
theorem seqP_ok {α : Type} {P : Nat → Option (α × Nat)} {enc : α → List Int} {ok : α → Prop} {zs : List Int} (hby : ∀ z ∈ zs, 0 ≤ z ∧ z ≤ 255) (hP : ∀ x p q, p ≤ zs.length → P p = some (x, q) → q ≤ zs.length ∧ (ok x → Std zs p (enc x) ∧ q = p + (enc x).length))
    {l : List α} {p q : Nat} (hp : p ≤ zs.length) (h : seqP P zs p = some (l, q)) : q ≤ zs.length ∧ ((∀ x ∈ l, ok x) → Std zs p (seqL enc l) ∧ q = p + (seqL enc l).length) := by
  unfold seqP at h
  split at h
  · cases h
  · rename_i n r hn
    obtain ⟨g1, g2, g3, g4⟩ := numP_ok hby hp hn
    have gl := std_le g1
    obtain ⟨h1, h2, h3⟩ := listP_ok hP _ r q l (by omega) h
    refine ⟨h2, fun hok => ?_⟩
    obtain ⟨k1, k2⟩ := h3 hok
    have e : (l.length : Int) = n := by omega
    unfold seqL
    rw [e, List.length_append]
    exact ⟨std_append.2 ⟨g1, by rw [← g2]; exact k1⟩, by omega⟩

/-! ### Spans, as the program takes them and as the document does -/
def spL (x : Sp) : List Int := putL x.1 ++ putL x.2.1 ++ putL (x.2.2 - x.2.1)
def setL (l : List Sp) : List Int := seqL spL l
def spanP (zs : List Int) (p : Nat) : Option (Sp × Nat) :=
  match upP 2147483647 zs p with
  | none => none
  | some (s, q) =>
    match upP 4611686018427387904 zs q with
    | none => none
    | some (f, r) =>
      match upP (4611686018427387904 - f) zs r with
      | none => none
      | some (t, u) => some ((s, f, f + t), u)
def setP (zs : List Int) (p : Nat) : Option (List Sp × Nat) := seqP (spanP zs) zs p
/-- As the document does: the site is whatever number, and the end may be too great. -/
def spanQ (zs : List Int) (p : Nat) : Option (Sp × Nat) :=
  match numP zs p with
  | none => none
  | some (s, q) =>
    match upP 4611686018427387904 zs q with
    | none => none
    | some (f, r) =>
      match upP 4611686018427387904 zs r with
      | none => none
      | some (t, u) => some ((s, f, Go.RowKit.wrap64 (f + t)), u)
def setQ (zs : List Int) (p : Nat) : Option (List Sp × Nat) := seqP (spanQ zs) zs p

theorem spanP_put {zs : List Int} (x : Sp) (p : Nat) (hx : okSp x) (h : Std zs p (spL x)) : spanP zs p = some (x, p + (spL x).length) := by
  obtain ⟨s, f, t⟩ := x
  obtain ⟨h12, h3⟩ := std_append.1 h
  obtain ⟨h1, h2⟩ := std_append.1 h12
  unfold okSp at hx
  simp only at h1 h2 h3 h12 hx
  unfold spanP
  rw [upP_put (by omega) (by omega) (by omega) h1]
  simp only
  rw [upP_put (by omega) (by omega) (by omega) h2]
  simp only
  rw [List.length_append, ← Nat.add_assoc] at h3
  rw [upP_put (by omega) (by omega) (by omega) h3]
  simp only [Option.some.injEq, Prod.mk.injEq, true_and]
  unfold spL
  simp only [List.length_append]
  omega
theorem spanQ_put {zs : List Int} (x : Sp) (p : Nat) (hx : okSp x) (h : Std zs p (spL x)) : spanQ zs p = some (x, p + (spL x).length) := by
  obtain ⟨s, f, t⟩ := x
  obtain ⟨h12, h3⟩ := std_append.1 h
  obtain ⟨h1, h2⟩ := std_append.1 h12
  unfold okSp at hx
  simp only at h1 h2 h3 h12 hx
  unfold spanQ
  rw [numP_put (by omega) (by omega) h1]
  simp only
  rw [upP_put (by omega) (by omega) (by omega) h2]
  simp only
  rw [List.length_append, ← Nat.add_assoc] at h3
  rw [upP_put (by omega) (by omega) (by omega) h3]
  have e : Go.RowKit.wrap64 (f + (t - f)) = t := by rw [show f + (t - f) = t by omega]; exact Go.IntWalk.wrap64_in t ⟨by omega, by omega⟩
  simp only [Option.some.injEq, Prod.mk.injEq, true_and, e]
  unfold spL
  simp only [List.length_append]
  omega
theorem spanP_ok {zs : List Int} (hby : ∀ z ∈ zs, 0 ≤ z ∧ z ≤ 255) (x : Sp) (p q : Nat) (hp : p ≤ zs.length) (h : spanP zs p = some (x, q)) : q ≤ zs.length ∧ (okSp x → Std zs p (spL x) ∧ q = p + (spL x).length) := by
  unfold spanP at h
  split at h
  · cases h
  · rename_i s r h1
    obtain ⟨a1, a2, a3, a4, a5⟩ := upP_ok hby hp h1
    have l1 := std_le a1
    split at h
    · cases h
    · rename_i f u h2
      obtain ⟨b1, b2, b3, b4, b5⟩ := upP_ok hby (by omega) h2
      have l2 := std_le b1
      split at h
      · cases h
      · rename_i t v h3
        obtain ⟨c1, c2, c3, c4, c5⟩ := upP_ok hby (by omega) h3
        have l3 := std_le c1
        simp only [Option.some.injEq, Prod.mk.injEq] at h
        obtain ⟨rfl, rfl⟩ := h
        refine ⟨by omega, fun _ => ?_⟩
        unfold spL
        simp only
        rw [show f + t - f = t by omega]
        refine ⟨std_append.2 ⟨std_append.2 ⟨a1, by rw [← a2]; exact b1⟩, ?_⟩, by simp only [List.length_append]; omega⟩
        rw [List.length_append, ← Nat.add_assoc, ← a2, ← b2]
        exact c1
theorem spanQ_ok {zs : List Int} (hby : ∀ z ∈ zs, 0 ≤ z ∧ z ≤ 255) (x : Sp) (p q : Nat) (hp : p ≤ zs.length) (h : spanQ zs p = some (x, q)) : q ≤ zs.length ∧ (okSp x → Std zs p (spL x) ∧ q = p + (spL x).length) := by
  unfold spanQ at h
  split at h
  · cases h
  · rename_i s r h1
    obtain ⟨a1, a2, a3, a4⟩ := numP_ok hby hp h1
    have l1 := std_le a1
    split at h
    · cases h
    · rename_i f u h2
      obtain ⟨b1, b2, b3, b4, b5⟩ := upP_ok hby (by omega) h2
      have l2 := std_le b1
      split at h
      · cases h
      · rename_i t v h3
        obtain ⟨c1, c2, c3, c4, c5⟩ := upP_ok hby (by omega) h3
        have l3 := std_le c1
        simp only [Option.some.injEq, Prod.mk.injEq] at h
        obtain ⟨rfl, rfl⟩ := h
        refine ⟨by omega, fun hok => ?_⟩
        unfold okSp at hok
        simp only at hok
        have e : Go.RowKit.wrap64 (f + t) = f + t := by
          rcases (by omega : f + t ≤ 9223372036854775807 ∨ f + t = 9223372036854775808) with hh | hh
          · exact Go.IntWalk.wrap64_in _ ⟨by omega, hh⟩
          · rw [hh] at hok
            exact absurd hok.2.2.2.1 (by rw [show Go.RowKit.wrap64 9223372036854775808 = -9223372036854775808 by decide +kernel]; omega)
        unfold spL
        simp only
        rw [e, show f + t - f = t by omega]
        refine ⟨std_append.2 ⟨std_append.2 ⟨a1, by rw [← a2]; exact b1⟩, ?_⟩, by simp only [List.length_append]; omega⟩
        rw [List.length_append, ← Nat.add_assoc, ← a2, ← b2]
        exact c1

/-- What comes of all bytes, where P takes from them and what is taken must be right. -/
def wholeF {α : Type} (P : Option (α × Nat)) (m : Nat) (R : α → Prop) [DecidablePred R] (x0 : α) : α × Int :=
  match P with
  | none => (x0, 2)
  | some (x, q) => if q = m ∧ R x then (x, 0) else (x0, 2)
theorem wholeF_ok {α : Type} {P : Option (α × Nat)} {m : Nat} {R : α → Prop} [DecidablePred R] {x0 x : α} {q : Nat} (h : P = some (x, q)) (hq : q = m) (hR : R x) : wholeF P m R x0 = (x, 0) := by
  unfold wholeF
  rw [h]
  simp only
  rw [if_pos ⟨hq, hR⟩]
theorem wholeF_bad {α : Type} {P : Option (α × Nat)} {m : Nat} {R : α → Prop} [DecidablePred R] {x0 : α} (h : ∀ x q, P = some (x, q) → ¬ (q = m ∧ R x)) : wholeF P m R x0 = (x0, 2) := by
  unfold wholeF
  split
  · rfl
  · rename_i x q
    rw [if_neg (h x q rfl)]
/-- Two that take the same right things from the same bytes come to the same. -/
theorem wholeF_same {α : Type} {P Q : Option (α × Nat)} {zs : List Int} {R : α → Prop} [DecidablePred R] {x0 : α} {enc : α → List Int}
    (p1 : ∀ x, R x → zs = enc x → P = some (x, zs.length)) (p2 : ∀ x q, P = some (x, q) → R x → q = zs.length → zs = enc x)
    (q1 : ∀ x, R x → zs = enc x → Q = some (x, zs.length)) (q2 : ∀ x q, Q = some (x, q) → R x → q = zs.length → zs = enc x) :
    wholeF P zs.length R x0 = wholeF Q zs.length R x0 := by
  by_cases h : ∃ x, R x ∧ zs = enc x
  · obtain ⟨x, hR, he⟩ := h
    rw [wholeF_ok (p1 x hR he) rfl hR, wholeF_ok (q1 x hR he) rfl hR]
  · rw [wholeF_bad (fun x q hP hq => h ⟨x, hq.2, p2 x q hP hq.2 hq.1⟩), wholeF_bad (fun x q hQ hq => h ⟨x, hq.2, q2 x q hQ hq.2 hq.1⟩)]

/-- What Set tells of bytes. -/
def setF (zs : List Int) : List Sp × Int := wholeF (setP zs 0) zs.length Right []
theorem setP_put {zs : List Int} {p : Nat} {l : List Sp} (hl : l.length ≤ 9223372036854775807) (hr : ∀ x ∈ l, okSp x) (h : Std zs p (setL l)) : setP zs p = some (l, p + (setL l).length) := seqP_put (ok := okSp) (fun x p => spanP_put x p) hl hr h
theorem setQ_put {zs : List Int} {p : Nat} {l : List Sp} (hl : l.length ≤ 9223372036854775807) (hr : ∀ x ∈ l, okSp x) (h : Std zs p (setL l)) : setQ zs p = some (l, p + (setL l).length) := seqP_put (ok := okSp) (fun x p => spanQ_put x p) hl hr h
theorem setP_ok {zs : List Int} (hby : ∀ z ∈ zs, 0 ≤ z ∧ z ≤ 255) {p q : Nat} {l : List Sp} (hp : p ≤ zs.length) (h : setP zs p = some (l, q)) : q ≤ zs.length ∧ ((∀ x ∈ l, okSp x) → Std zs p (setL l) ∧ q = p + (setL l).length) := seqP_ok (ok := okSp) hby (spanP_ok hby) hp h
theorem setQ_ok {zs : List Int} (hby : ∀ z ∈ zs, 0 ≤ z ∧ z ≤ 255) {p q : Nat} {l : List Sp} (hp : p ≤ zs.length) (h : setQ zs p = some (l, q)) : q ≤ zs.length ∧ ((∀ x ∈ l, okSp x) → Std zs p (setL l) ∧ q = p + (setL l).length) := seqP_ok (ok := okSp) hby (spanQ_ok hby) hp h
theorem setF_ref {zs : List Int} (hby : ∀ z ∈ zs, 0 ≤ z ∧ z ≤ 255) : wholeF (setQ zs 0) zs.length Right [] = setF zs := by
  refine wholeF_same (enc := setL) (fun x hR he => ?_) (fun x q h hR hq => ?_) (fun x hR he => ?_) (fun x q h hR hq => ?_)
  · have h1 := std_all.2 he
    have := hR.1
    rw [setQ_put (by omega) hR.2.1 h1.1]
    rw [Nat.zero_add, h1.2]
  · obtain ⟨h1, h2⟩ := (setQ_ok hby (by omega) h).2 hR.2.1
    exact std_all.1 ⟨h1, by omega⟩
  · have h1 := std_all.2 he
    have := hR.1
    rw [setP_put (by omega) hR.2.1 h1.1]
    rw [Nat.zero_add, h1.2]
  · obtain ⟨h1, h2⟩ := (setP_ok hby (by omega) h).2 hR.2.1
    exact std_all.1 ⟨h1, by omega⟩
theorem setF_right {zs : List Int} {l : List Sp} (hby : ∀ z ∈ zs, 0 ≤ z ∧ z ≤ 255) (h : setF zs = (l, 0)) : Right l ∧ zs = setL l := by
  unfold setF wholeF at h
  split at h
  · simp at h
  · rename_i x q hP
    split at h
    · rename_i hc
      simp only [Prod.mk.injEq, and_true] at h
      subst h
      obtain ⟨h1, h2⟩ := (setP_ok hby (by omega) hP).2 hc.2.2.1
      exact ⟨hc.2, std_all.1 ⟨h1, by omega⟩⟩
    · simp at h
theorem setF_put {l : List Sp} (hR : Right l) : setF (setL l) = (l, 0) := by
  have h1 := std_all.2 (rfl : setL l = setL l)
  have := hR.1
  refine wholeF_ok (setP_put (by omega) hR.2.1 h1.1) ?_ hR
  rw [Nat.zero_add]
theorem setF_err {zs : List Int} {l : List Sp} {e : Int} (h : setF zs = (l, e)) (he : e ≠ 0) : l = [] ∧ e = 2 := by
  unfold setF wholeF at h
  split at h
  · simp only [Prod.mk.injEq] at h
    exact ⟨h.1.symm, h.2.symm⟩
  · split at h
    · simp only [Prod.mk.injEq] at h
      exact absurd h.2.symm he
    · simp only [Prod.mk.injEq] at h
      exact ⟨h.1.symm, h.2.symm⟩
end Code
end Go.Proofs.YtbaclinjimfncaaGreat

/-
  The reader of layer 6: its block, and what taking comes to; numbers and texts.
-/
namespace Go.Proofs.YtbaclinjimfncaaGreat
namespace Code
open Go.RowKit Num Span
attribute [local go_sem ↓] Go.wp_at_zero Go.wp_at_succ

section
variable {w w' : World} {g n p c : Nat} {A : Option Addr}
theorem grown_set1 (w : World) (g k : Nat) (v : Value) : w.grownBy (w.setCell ⟨g, k, none⟩ v) (some g) :=
  ⟨rfl, rfl, rfl, (KeepsWalks.setCell w _ v).size, fun j _ hj => Below.heap_setCell _ _ _ j (fun e => hj (by rw [e]))⟩
theorem grown_drew {row : Option Nat} (h : w.grownBy w' row) : w.grownBy w'.drew row := ⟨h.os, h.tape, h.output, h.size, h.block⟩
theorem grown_trans {w'' : World} {row : Option Nat} (h : w.grownBy w' row) (k : w'.grownBy w'' row) : w.grownBy w'' row :=
  ⟨k.os.trans h.os, k.tape.trans h.tape, k.output.trans h.output, Nat.le_trans h.size k.size, fun j hj hne => (k.block j (Nat.lt_of_lt_of_le hj h.size) hne).trans (h.block j hj hne)⟩
theorem grown_none {row : Option Nat} (h : w.grownBy w' none) : w.grownBy w' row := ⟨h.os, h.tape, h.output, h.size, fun j hj _ => h.block j hj (by simp)⟩
end

/-- Where the reader's bytes stand: below its block. -/
def Src (g : Nat) (A : Option Addr) (c n : Nat) (zs : List Int) (w : World) : Prop :=
  Ns .u8 w g A zs ∧ (∀ z ∈ zs, 0 ≤ z ∧ z ≤ 255) ∧ zs.length = n ∧ n ≤ c ∧ n ≤ 4294967296
theorem Src.kept {w w' : World} {g n c : Nat} {A : Option Addr} {zs : List Int} (h : Src g A c n zs w) (hg : w.grownBy w' (some g)) (hlt : g < w.heap.size) : Src g A c n zs w' :=
  ⟨h.1.grown hg (by omega) (fun k hk => by injection hk with hk; omega), h.2⟩
theorem Src.drew {w : World} {g n c : Nat} {A : Option Addr} {zs : List Int} (h : Src g A c n zs w) : Src g A c n zs w.drew := h

def intV (x : Int) (v : Value) (_ : World) : Prop := v = .int .i64 x

def textV (x : List Int) (v : Value) (_ : World) : Prop := v = .string (strOfNums x)
end Code
end Go.Proofs.YtbaclinjimfncaaGreat

/-
  The reader of layer 6: spans and sets.
-/
namespace Go.Proofs.YtbaclinjimfncaaGreat
namespace Code
open Go.RowKit Num Span
attribute [local go_sem ↓] Go.wp_at_zero Go.wp_at_succ

theorem results_cell1 {fn : Func} {p : Tmp} {ty : TypeId} (h : fn.results = #[.cell p ty]) (tmps : Array Value) (P : Program) (w : World) :
    (results fn tmps).run P w = ((asAddr (tmps.getD p undef)).run P w).andThen fun a w₁ => (loadVar ty a).run P w₁ := by
  simp only [results, h]
  simp [Sem.run_bind, Result.andThen]

def spV (x : Sp) (v : Value) (_ : World) : Prop := v = .agg #[.int .i64 x.1, .int .i64 x.2.1, .int .i64 x.2.2]

/-- A new block is none of the older ones. -/
theorem grown_alloc {w w' : World} {o : Obj} {g : Nat} (h : (w.alloc o).grownBy w' (some g)) : w.grownBy w' (some g) :=
  grown_trans (World.grownBy_alloc w o _) h

/-- What is written in a new block turns no older one. -/
theorem grown_fresh {w w' w'' : World} {g B : Nat} (h : w.grownBy w' (some g)) (k : w'.grownBy w'' (some B)) (hB : w.heap.size ≤ B) : w.grownBy w'' (some g) :=
  ⟨k.os.trans h.os, k.tape.trans h.tape, k.output.trans h.output, Nat.le_trans h.size k.size, fun j hj hne => (k.block j (Nat.lt_of_lt_of_le hj h.size) (by intro e; injection e with e; omega)).trans (h.block j hj hne)⟩
/-- A block of three cells. -/
def Box3 (B : Nat) (t : TypeId) (x y z : Value) (w : World) : Prop := w.heap[B]? = some (.cells #[x, y, z] t (0, 0))
section
variable {w w' : World} {B : Nat} {t : TypeId} {x y z x' y' z' : Value}
theorem Box3.lt (h : Box3 B t x y z w) : B < w.heap.size := (Array.getElem?_eq_some_iff.1 h).1
theorem Box3.kept {row : Option Nat} (h : Box3 B t x y z w) (hg : w.grownBy w' row) (hne : some B ≠ row) : Box3 B t x y z w' := (hg.block B h.lt hne).trans h
theorem Box3.cell (h : Box3 B t x y z w) : w.cell? ⟨B, 0, none⟩ = some x ∧ w.cell? ⟨B, 1, none⟩ = some y ∧ w.cell? ⟨B, 2, none⟩ = some z := by
  have h' : w.heap[B]? = _ := h
  refine ⟨?_, ?_, ?_⟩ <;> simp [World.cell?, h']
theorem Box3.frozen (h : Box3 B t x y z w) (j : Nat) : w.frozen? ⟨B, j, none⟩ = false := by simp [World.frozen?, show w.heap[B]? = _ from h]
def set3 (w : World) (B : Nat) (x y z : Value) : World := ((w.setCell ⟨B, 0, none⟩ x).setCell ⟨B, 1, none⟩ y).setCell ⟨B, 2, none⟩ z
theorem set3_lit : ((w.setCell ⟨B, 0, none⟩ x).setCell ⟨B, 1, none⟩ y).setCell ⟨B, 2, none⟩ z = set3 w B x y z := rfl
theorem Box3.set (h : Box3 B t x y z w) : Box3 B t x' y' z' (set3 w B x' y' z') := by
  have h' : w.heap[B]? = some (.cells #[x, y, z] t (0, 0)) := h
  show (set3 w B x' y' z').heap[B]? = _
  simp [set3, World.setCell, Array.getElem?_modify, h']
theorem set3_grown : w.grownBy (set3 w B x y z) (some B) := grown_trans (grown_trans (grown_set1 _ _ _ _) (grown_set1 _ _ _ _)) (grown_set1 _ _ _ _)
end

/-- What is taken takes a byte at least. -/
theorem spanP_goes {zs : List Int} (hby : ∀ z ∈ zs, 0 ≤ z ∧ z ≤ 255) {x : Sp} {p q : Nat} (hp : p ≤ zs.length) (h : spanP zs p = some (x, q)) : p < q ∧ q ≤ zs.length := by
  unfold spanP at h
  split at h
  · cases h
  · rename_i s r h1
    obtain ⟨a1, a2, a3, a4, a5⟩ := upP_ok hby hp h1
    have l1 := std_le a1
    have m1 := putL_len s
    split at h
    · cases h
    · rename_i f u h2
      obtain ⟨b1, b2, b3, b4, b5⟩ := upP_ok hby (by omega) h2
      have l2 := std_le b1
      split at h
      · cases h
      · rename_i t v h3
        obtain ⟨c1, c2, c3, c4, c5⟩ := upP_ok hby (by omega) h3
        have l3 := std_le c1
        simp only [Option.some.injEq, Prod.mk.injEq] at h
        omega

theorem listP_len {α : Type} {P : Nat → Option (α × Nat)} {n : Nat} (hP : ∀ x p q, p ≤ n → P p = some (x, q) → p < q ∧ q ≤ n) : ∀ (k p q : Nat) (l : List α), p ≤ n → listP P k p = some (l, q) → p + l.length ≤ q ∧ q ≤ n
  | 0, p, q, l, hp, h => by
    simp only [listP, Option.some.injEq, Prod.mk.injEq] at h
    obtain ⟨rfl, rfl⟩ := h
    exact ⟨by simp, hp⟩
  | k + 1, p, q, l, hp, h => by
    rw [listP] at h
    split at h
    · cases h
    · rename_i x r hx
      obtain ⟨y, hy, he⟩ := Option.map_eq_some_iff.1 h
      simp only [Prod.mk.injEq] at he
      obtain ⟨rfl, rfl⟩ := he
      obtain ⟨h1, h2⟩ := hP x p r hp hx
      obtain ⟨h3, h4⟩ := listP_len hP k r y.2 y.1 h2 hy
      simp only [List.length_cons]
      omega
theorem seqP_len {α : Type} {P : Nat → Option (α × Nat)} {zs : List Int} (hby : ∀ z ∈ zs, 0 ≤ z ∧ z ≤ 255) (hP : ∀ x p q, p ≤ zs.length → P p = some (x, q) → p < q ∧ q ≤ zs.length) {p q : Nat} {l : List α} (hp : p ≤ zs.length) (h : seqP P zs p = some (l, q)) : p + l.length < q ∧ q ≤ zs.length := by
  unfold seqP at h
  split at h
  · cases h
  · rename_i n r hn
    obtain ⟨g1, g2, g3, g4⟩ := numP_ok hby hp hn
    have gl := std_le g1
    have gp := putL_len n
    have := listP_len hP _ r q l (by omega) h
    omega
theorem setP_len {zs : List Int} (hby : ∀ z ∈ zs, 0 ≤ z ∧ z ≤ 255) {p q : Nat} {l : List Sp} (hp : p ≤ zs.length) (h : setP zs p = some (l, q)) : p + l.length < q ∧ q ≤ zs.length := seqP_len hby (fun _ _ _ hp h => spanP_goes hby hp h) hp h

/-- Where the loop of a list is: k are taken. -/
def Taking {α : Type} (P : Nat → Option (α × Nat)) (N : Nat) (p1 : Nat) (k : Nat) (l : List α) (q : Nat) : Prop :=
  l.length = k ∧ k ≤ N ∧ p1 + k ≤ q ∧ listP P N p1 = (listP P (N - k) q).map fun r => (l ++ r.1, r.2)
theorem taking_start {α : Type} (P : Nat → Option (α × Nat)) (N p1 : Nat) : Taking P N p1 0 [] p1 := ⟨rfl, by omega, by omega, by
  rw [Nat.sub_zero]
  rcases listP P N p1 with _ | ⟨l, q⟩ <;> simp⟩
theorem taking_none {α : Type} {P : Nat → Option (α × Nat)} {N p1 k q : Nat} {l : List α} (h : Taking P N p1 k l q) (hk : k < N) (hx : P q = none) : listP P N p1 = none := by
  obtain ⟨_, _, _, h4⟩ := h
  rw [h4, show N - k = (N - k - 1) + 1 by omega, listP_none hx]
  rfl
theorem taking_more {α : Type} {P : Nat → Option (α × Nat)} {N p1 k q r : Nat} {l : List α} {x : α} (h : Taking P N p1 k l q) (hk : k < N) (hx : P q = some (x, r)) (hq : q < r) : Taking P N p1 (k + 1) (l ++ [x]) r := by
  obtain ⟨h1, h2, h3, h4⟩ := h
  refine ⟨by simp [h1], by omega, by omega, ?_⟩
  rw [h4, show N - k = (N - (k + 1)) + 1 by omega, listP_more hx]
  rcases listP P (N - (k + 1)) r with _ | ⟨m, u⟩ <;> simp
theorem taking_end {α : Type} {P : Nat → Option (α × Nat)} {N p1 q : Nat} {l : List α} (h : Taking P N p1 N l q) : listP P N p1 = some (l, q) := by
  obtain ⟨_, _, _, h4⟩ := h
  rw [h4, Nat.sub_self, listP_zero]
  simp

/-- Spans of the call's own. -/
def ssV (B : Nat) (l : List Sp) (v : Value) (w' : World) : Prop := ∃ A' c', v = .slice A' l.length c' ∧ w'.ownsRow B 60 3 (.slice A' l.length c') l.length (sps l)

/-- A row of one's own is none of older blocks. -/
theorem own_apart {w : World} {base : Nat} {e : TypeId} {size : Nat} {v : Value} {n : Nat} {xs : List Value} (h : w.ownsRow base e size v n xs) {g : Nat} (hg : g < base) : v.ownBlock = none ∨ v.ownBlock ≠ some g := by
  rcases hv : v.ownBlock with _ | j
  · exact .inl rfl
  · refine .inr fun e => ?_
    injection e with e
    have := (h.lt j hv).1
    omega

theorem own_far {w : World} {base : Nat} {e : TypeId} {size : Nat} {v : Value} {n : Nat} {xs : List Value} (h : w.ownsRow base e size v n xs) {g : Nat} (hg : g < base) : some g ≠ v.ownBlock := by
  rcases own_apart h hg with h1 | h1
  · rw [h1]; simp
  · exact fun e => h1 e.symm
/-- An append onto a row of one's own, which is none of the older blocks. -/
theorem grown_own {w w' w0 : World} {g : Nat} {row : Option Nat} (h0 : w0.grownBy w (some g)) (h : w.grownBy w' row) (hr : ∀ k, row = some k → w0.heap.size ≤ k) : w0.grownBy w' (some g) :=
  ⟨h.os.trans h0.os, h.tape.trans h0.tape, h.output.trans h0.output, Nat.le_trans h0.size h.size, fun j hj hne => (h.block j (Nat.lt_of_lt_of_le hj h0.size) (by intro e; have := hr j e.symm; omega)).trans (h0.block j hj hne)⟩

end Code
end Go.Proofs.YtbaclinjimfncaaGreat
