/-
  Plain words of layer 1: a number's bytes, read one by one.
-/
import Derived.WalkKit
namespace Go.Proofs.Ytjifklojbbocfaa
namespace Num
open Go.RowKit

/-- What is read from a list of bytes on, whose first one stands at the place p, behind i bytes that said n: the number, the place behind it, the error. -/
def numR : List Int → Nat → Nat → Int → Int × Nat × Int
  | [], _, _, _ => (0, 0, 4)
  | c :: r, p, i, n =>
    if (i = 8 ∧ 127 < c) ∨ (0 < i ∧ c = 0) then (0, 0, 2)
    else if c < 128 then (n + c * 128 ^ i, p + 1, 0)
    else numR r (p + 1) (i + 1) (n + (c - 128) * 128 ^ i)

/-- What Num tells of bytes and a place within. -/
def numF (zs : List Int) (i : Nat) : Int × Nat × Int := numR (zs.drop i) i 0 0

theorem numR_end (zs : List Int) (i k : Nat) (a : Int) (h : zs.length ≤ i + k) : numR (zs.drop (i + k)) (i + k) k a = (0, 0, 4) := by
  rw [List.drop_of_length_le h]; rfl
theorem numR_at (zs : List Int) (i k : Nat) (a z : Int) (h : i + k < zs.length) (hz : zs.getD (i + k) 0 = z) :
    numR (zs.drop (i + k)) (i + k) k a =
      if (k = 8 ∧ 127 < z) ∨ (0 < k ∧ z = 0) then (0, 0, 2)
      else if z < 128 then (a + z * 128 ^ k, i + k + 1, 0)
      else numR (zs.drop (i + (k + 1))) (i + (k + 1)) (k + 1) (a + (z - 128) * 128 ^ k) := by
  have e : zs[i + k] = z := by rw [← hz, List.getD_eq_getElem?_getD, List.getElem?_eq_getElem h]; rfl
  rw [List.drop_eq_getElem_cons h, e]; rfl
theorem numR_bad (zs : List Int) (i k : Nat) (a z : Int) (h : i + k < zs.length) (hz : zs.getD (i + k) 0 = z) (hb : (k = 8 ∧ 127 < z) ∨ (0 < k ∧ z = 0)) :
    numR (zs.drop (i + k)) (i + k) k a = (0, 0, 2) := by rw [numR_at zs i k a z h hz, if_pos hb]
theorem numR_last (zs : List Int) (i k : Nat) (a z : Int) (h : i + k < zs.length) (hz : zs.getD (i + k) 0 = z) (hb : ¬ (0 < k ∧ z = 0)) (hl : z < 128) :
    numR (zs.drop (i + k)) (i + k) k a = (a + z * 128 ^ k, i + k + 1, 0) := by rw [numR_at zs i k a z h hz, if_neg (by omega), if_pos hl]
theorem numR_more (zs : List Int) (i k : Nat) (a z : Int) (h : i + k < zs.length) (hz : zs.getD (i + k) 0 = z) (hb : k < 8) (hl : 128 ≤ z) :
    numR (zs.drop (i + k)) (i + k) k a = numR (zs.drop (i + (k + 1))) (i + (k + 1)) (k + 1) (a + (z - 128) * 128 ^ k) := by rw [numR_at zs i k a z h hz, if_neg (by omega), if_neg (by omega)]

theorem ofInt_nat (a : Nat) (ha : a < 9223372036854775808) : (BitVec.ofInt 64 (a : Int)).toNat = a := by
  rw [BitVec.ofInt_natCast, BitVec.toNat_ofNat]; exact Nat.mod_eq_of_lt (by omega)
theorem or_nat (a b : Nat) (ha : a < 9223372036854775808) (hb : b < 9223372036854775808) : bits .or .i64 (a : Int) (b : Int) = ((a ||| b : Nat) : Int) := by
  have hx : a ||| b < 2 ^ 63 := Nat.or_lt_two_pow (by omega) (by omega)
  show IntKind.i64.wrap ((BitVec.ofInt 64 (a : Int) ||| BitVec.ofInt 64 (b : Int)).toNat : Int) = _
  rw [BitVec.toNat_or, ofInt_nat a ha, ofInt_nat b hb, IntKind.wrap_i64]
  omega

theorem pow_128 (k : Nat) : (128 : Nat) ^ k = 2 ^ (7 * k) := by rw [Nat.pow_mul]
theorem pow_le (k : Nat) (hk : k ≤ 8) : (128 : Nat) ^ k ≤ 72057594037927936 := by
  have : (128 : Nat) ^ k ≤ 128 ^ 8 := Nat.pow_le_pow_right (by omega) hk
  omega

/-- The bits of one byte more are laid beside those that there are. -/
theorem or_step (k : Nat) (a x : Int) (hk : k ≤ 8) (ha : 0 ≤ a) (hak : a < 128 ^ k) (hx : 0 ≤ x) (hx1 : x < 128) :
    bits .or .i64 a (wrap64 (x * 2 ^ (7 * k))) = a + x * 128 ^ k := by
  obtain ⟨m, rfl⟩ := Int.eq_ofNat_of_zero_le ha
  obtain ⟨y, rfl⟩ := Int.eq_ofNat_of_zero_le hx
  have hp := pow_le k hk
  have hm : m < 128 ^ k := by exact_mod_cast hak
  have hyk : y * 128 ^ k ≤ 127 * 128 ^ k := Nat.mul_le_mul_right _ (by omega)
  have e1 : (y : Int) * 2 ^ (7 * k) = ((y * 128 ^ k : Nat) : Int) := by rw [pow_128]; push_cast; rfl
  have e2 : (y : Int) * 128 ^ k = ((y * 128 ^ k : Nat) : Int) := by push_cast; rfl
  rw [e1, e2, IntWalk.wrap64_in _ ⟨by omega, by omega⟩, or_nat _ _ (by omega) (by omega)]
  have := Nat.two_pow_add_eq_or_of_lt (i := 7 * k) (b := m) (by rw [← pow_128]; exact hm) y
  rw [Nat.or_comm, Nat.mul_comm y, pow_128, ← this]
  push_cast
  omega

theorem or_low (k : Nat) (a z : Int) (hk : k ≤ 8) (ha : 0 ≤ a) (hak : a < 128 ^ k) (hx : 0 ≤ z) (hx1 : z < 128) : bits .or .i64 a (wrap64 (z % 128 * 2 ^ (7 * k))) = a + z * 128 ^ k := by
  rw [show z % 128 = z by omega]; exact or_step k a z hk ha hak hx hx1
theorem or_high (k : Nat) (a z : Int) (hk : k ≤ 8) (ha : 0 ≤ a) (hak : a < 128 ^ k) (hx : 128 ≤ z) (hx1 : z < 256) : bits .or .i64 a (wrap64 (z % 128 * 2 ^ (7 * k))) = a + (z - 128) * 128 ^ k := by
  rw [show z % 128 = z - 128 by omega]; exact or_step k a (z - 128) hk ha hak (by omega) (by omega)
theorem or_low8 (k : Nat) (a z : Int) (hk : k = 8) (ha : 0 ≤ a) (hak : a < 128 ^ k) (hx : 0 ≤ z) (hx1 : z < 128) : bits .or .i64 a (z % 128 * 72057594037927936) = a + z * 128 ^ k := by
  have h := or_low k a z (by omega) ha hak hx hx1
  subst hk
  rw [← h, IntWalk.wrap64_in _ ⟨by omega, by omega⟩]
  rfl

theorem one_le (k : Nat) (hk : k ≤ 8) : 1 ≤ (128 : Int) ^ k ∧ (128 : Int) ^ k ≤ 72057594037927936 := by
  have h1 : 0 < (128 : Nat) ^ k := Nat.pow_pos (by omega)
  have h2 := pow_le k hk
  have h3 : (((128 : Nat) ^ k : Nat) : Int) = (128 : Int) ^ k := by push_cast; rfl
  omega

theorem add_step (k : Nat) (a x : Int) (hk : k ≤ 8) (ha : 0 ≤ a) (hak : a < 128 ^ k) (hx : 0 ≤ x) (hx1 : x < 128) : wrap64 (a + wrap64 (x * 128 ^ k)) = a + x * 128 ^ k := by
  obtain ⟨h1, h2⟩ := one_le k hk
  have h3 : x * 128 ^ k ≤ 127 * 128 ^ k := Int.mul_le_mul_of_nonneg_right (by omega) (by omega)
  have h4 : 0 ≤ x * 128 ^ k := Int.mul_nonneg hx (by omega)
  rw [IntWalk.wrap64_in (x * 128 ^ k) ⟨by omega, by omega⟩, IntWalk.wrap64_in _ ⟨by omega, by omega⟩]
theorem add_low (k : Nat) (a z : Int) (hk : k ≤ 8) (ha : 0 ≤ a) (hak : a < 128 ^ k) (hx : 0 ≤ z) (hx1 : z < 128) : wrap64 (a + wrap64 (z % 128 * 128 ^ k)) = a + z * 128 ^ k := by
  rw [show z % 128 = z by omega]; exact add_step k a z hk ha hak hx hx1
theorem add_high (k : Nat) (a z : Int) (hk : k ≤ 8) (ha : 0 ≤ a) (hak : a < 128 ^ k) (hx : 128 ≤ z) (hx1 : z < 256) : wrap64 (a + wrap64 (z % 128 * 128 ^ k)) = a + (z - 128) * 128 ^ k := by
  rw [show z % 128 = z - 128 by omega]; exact add_step k a (z - 128) hk ha hak (by omega) (by omega)
theorem one_more (k : Nat) (hk : k < 8) : (128 : Int) ^ k ≤ 562949953421312 := by
  obtain ⟨h1, h2⟩ := one_le (k + 1) (by omega)
  rw [Int.pow_succ] at h2
  omega

theorem acc_lt (k : Nat) (a x : Int) (hak : a < 128 ^ k) (hx1 : x < 128) : a + x * 128 ^ k < 128 ^ (k + 1) := by
  have h0 : (0 : Int) < 128 ^ k := Int.pow_pos (by omega)
  have : x * 128 ^ k ≤ 127 * 128 ^ k := Int.mul_le_mul_of_nonneg_right (by omega) (by omega)
  rw [Int.pow_succ]
  omega
theorem acc_ge (k : Nat) (a x : Int) (ha : 0 ≤ a) (hx : 0 ≤ x) : 0 ≤ a + x * 128 ^ k := by
  have h0 : (0 : Int) < 128 ^ k := Int.pow_pos (by omega)
  have := Int.mul_nonneg hx (by omega : (0 : Int) ≤ 128 ^ k)
  omega

/-- The bytes of a number, at most so many. -/
def putF : Nat → Int → List Int
  | 0, _ => []
  | k + 1, n => if n < 128 then [n] else (n % 128 + 128) :: putF k (n / 128)
def putL (n : Int) : List Int := putF 9 n

theorem putF_last (k : Nat) (n : Int) (h : n < 128) : putF (k + 1) n = [n] := by rw [putF, if_pos h]
theorem putF_more (k : Nat) (n : Int) (h : 128 ≤ n) : putF (k + 1) n = (n % 128 + 128) :: putF k (n / 128) := by rw [putF, if_neg (by omega)]

/-- How a number's bytes are laid: acc is laid, m is left, of which there are at most f + 1 bytes. -/
def Laid (n : Int) (acc : List Int) (f : Nat) (m : Int) : Prop := putL n = acc ++ putF (f + 1) m ∧ m < 128 ^ (f + 1) ∧ acc.length + (f + 1) = 9
theorem laid_start (n : Int) (h : n ≤ 9223372036854775807) : Laid n [] 8 n := ⟨rfl, by omega, rfl⟩
theorem laid_len {n : Int} {acc : List Int} {f : Nat} {m : Int} (h : Laid n acc f m) : acc.length ≤ 8 := by have := h.2.2; omega
theorem laid_more {n : Int} {acc : List Int} {f : Nat} {m : Int} (h : Laid n acc f m) (hm : 128 ≤ m) : ∃ g, Laid n (acc ++ [m % 128 + 128]) g (m / 128) := by
  obtain ⟨h1, h2, h3⟩ := h
  cases f with
  | zero => simp at h2; omega
  | succ g =>
    refine ⟨g, ?_, ?_, by simp; omega⟩
    · rw [h1, putF_more _ _ hm]; simp
    · rw [Int.pow_succ] at h2
      exact Int.ediv_lt_of_lt_mul (by omega) h2
theorem laid_last {n : Int} {acc : List Int} {f : Nat} {m : Int} (h : Laid n acc f m) (hm : m < 128) : putL n = acc ++ [m] := by
  rw [h.1, putF_last _ _ hm]

theorem putF_bytes : ∀ (k : Nat) (n : Int), 0 ≤ n → ∀ z ∈ putF k n, 0 ≤ z ∧ z ≤ 255
  | 0, _, _, z, hz => by simp [putF] at hz
  | k + 1, n, hn, z, hz => by
    by_cases h : n < 128
    · rw [putF_last _ _ h] at hz; simp at hz; omega
    · rw [putF_more _ _ (by omega)] at hz
      rcases List.mem_cons.1 hz with rfl | hz
      · omega
      · exact putF_bytes k (n / 128) (by omega) z hz
theorem putF_len : ∀ (k : Nat) (n : Int), (putF k n).length ≤ k
  | 0, _ => by simp [putF]
  | k + 1, n => by
    by_cases h : n < 128
    · rw [putF_last _ _ h]; simp
    · rw [putF_more _ _ (by omega)]; have := putF_len k (n / 128); simp; omega
theorem putF_pos (k : Nat) (n : Int) : 1 ≤ (putF (k + 1) n).length := by
  by_cases h : n < 128
  · rw [putF_last _ _ h]; simp
  · rw [putF_more _ _ (by omega)]; simp

theorem numR_err : ∀ (l : List Int) (p i : Nat) (a n : Int) (q : Nat) (e : Int), numR l p i a = (n, q, e) → e ≠ 0 → n = 0 ∧ q = 0
  | [], p, i, a, n, q, e, h, he => by
    simp only [numR, Prod.mk.injEq] at h
    exact ⟨h.1.symm, h.2.1.symm⟩
  | c :: r, p, i, a, n, q, e, h, he => by
    rw [numR] at h
    by_cases hb : (i = 8 ∧ 127 < c) ∨ (0 < i ∧ c = 0)
    · rw [if_pos hb] at h
      simp only [Prod.mk.injEq] at h
      exact ⟨h.1.symm, h.2.1.symm⟩
    · rw [if_neg hb] at h
      by_cases hc : c < 128
      · rw [if_pos hc] at h
        simp only [Prod.mk.injEq] at h
        omega
      · rw [if_neg hc] at h
        exact numR_err r _ _ _ n q e h he

/-- What is read has the bytes that its number has. -/
theorem numR_ok : ∀ (l : List Int) (p i : Nat) (a n : Int) (q : Nat), (∀ z ∈ l, 0 ≤ z ∧ z ≤ 255) → i ≤ 8 → numR l p i a = (n, q, 0) →
    ∃ (m : Int) (k : Nat), 0 ≤ m ∧ m < 128 ^ (9 - i) ∧ (0 < i → 1 ≤ m) ∧ n = a + m * 128 ^ i ∧ q = p + k ∧ 1 ≤ k ∧ k ≤ l.length ∧ l.take k = putF (9 - i) m
  | [], p, i, a, n, q, _, _, h => by simp [numR] at h
  | c :: r, p, i, a, n, q, hby, hi, h => by
    have hc0 := hby c (by simp)
    obtain ⟨j, hj⟩ : ∃ j, 9 - i = j + 1 := ⟨8 - i, by omega⟩
    have hpow : (0 : Int) < 128 ^ j := Int.pow_pos (by omega)
    rw [numR] at h
    by_cases hb : (i = 8 ∧ 127 < c) ∨ (0 < i ∧ c = 0)
    · rw [if_pos hb] at h
      simp at h
    · rw [if_neg hb] at h
      by_cases hc : c < 128
      · rw [if_pos hc] at h
        simp only [Prod.mk.injEq] at h
        refine ⟨c, 1, by omega, ?_, by omega, h.1.symm, by omega, by omega, by simp, ?_⟩
        · rw [hj, Int.pow_succ]
          omega
        · rw [hj, putF_last _ _ hc]
          rfl
      · rw [if_neg hc] at h
        obtain ⟨m, k, h1, h2, h3, h4, h5, h6, h7, h8⟩ := numR_ok r (p + 1) (i + 1) _ n q (fun z hz => hby z (by simp [hz])) (by omega) h
        have h3' := h3 (by omega)
        have hj' : 9 - (i + 1) = j := by omega
        rw [hj'] at h2 h8
        refine ⟨c - 128 + m * 128, k + 1, by omega, ?_, by omega, ?_, by omega, by omega, by simp; omega, ?_⟩
        · rw [hj, Int.pow_succ]
          omega
        · rw [h4, Int.pow_succ, Int.add_mul, Int.mul_assoc, Int.mul_comm 128, Int.add_assoc]
        · rw [hj, putF_more _ _ (by omega), List.take_succ_cons, h8]
          congr 2
          · omega
          · omega

/-- A number's bytes are read as it, whatever stands behind. -/
theorem numR_put : ∀ (j i p : Nat) (a m : Int) (r : List Int), 9 - i = j + 1 → i ≤ 8 → 0 ≤ m → m < 128 ^ (j + 1) → (0 < i → 1 ≤ m) →
    numR (putF (j + 1) m ++ r) p i a = (a + m * 128 ^ i, p + (putF (j + 1) m).length, 0)
  | j, i, p, a, m, r, hj, hi, h0, h1, h2 => by
    by_cases hm : m < 128
    · rw [putF_last _ _ hm]
      show numR (m :: r) p i a = _
      rw [numR, if_neg (by omega), if_pos hm]
      rfl
    · rw [putF_more _ _ (by omega)]
      cases j with
      | zero => simp at h1; omega
      | succ j =>
        show numR ((m % 128 + 128) :: (putF (j + 1) (m / 128) ++ r)) p i a = _
        rw [numR, if_neg (by omega), if_neg (by omega), numR_put j (i + 1) (p + 1) _ (m / 128) r (by omega) (by omega) (by omega) (by rw [Int.pow_succ] at h1; exact Int.ediv_lt_of_lt_mul (by omega) h1) (by omega)]
        refine Prod.ext ?_ (Prod.ext ?_ rfl)
        · show a + (m % 128 + 128 - 128) * 128 ^ i + m / 128 * 128 ^ (i + 1) = a + m * 128 ^ i
          rw [Int.pow_succ, Int.add_sub_cancel, Int.mul_comm (128 ^ i) 128, ← Int.mul_assoc, Int.add_assoc, ← Int.add_mul]
          congr 2
          omega
        · simp only [List.length_cons]
          omega

theorem numF_put (n : Int) (h0 : 0 ≤ n) (h1 : n ≤ 9223372036854775807) (xs ys : List Int) : numF (xs ++ putL n ++ ys) xs.length = (n, xs.length + (putL n).length, 0) := by
  unfold numF
  rw [List.append_assoc, List.drop_left]
  have h := numR_put 8 0 xs.length 0 n ys (by omega) (by omega) h0 (by omega) (by omega)
  rw [show putL n = putF (8 + 1) n from rfl, h]
  simp
theorem putL_len (n : Int) : 1 ≤ (putL n).length ∧ (putL n).length ≤ 9 := ⟨putF_pos 8 n, putF_len 9 n⟩
theorem putL_bytes (n : Int) (h : 0 ≤ n) : ∀ z ∈ putL n, 0 ≤ z ∧ z ≤ 255 := putF_bytes 9 n h

theorem numF_ok {zs : List Int} {i p : Nat} {n : Int} (hby : ∀ z ∈ zs, 0 ≤ z ∧ z ≤ 255) (h : numF zs i = (n, p, 0)) : 0 ≤ n ∧ n ≤ 9223372036854775807 ∧ i < p ∧ p ≤ zs.length := by
  obtain ⟨m, k, g1, g2, g3, g4, g5, g6, g7, g8⟩ := numR_ok (zs.drop i) i 0 0 n p (fun z hz => hby z (List.mem_of_mem_drop hz)) (by omega) h
  rw [List.length_drop] at g7
  have hm : m < 128 ^ 9 := g2
  have hn : n = m := by rw [g4]; simp
  subst hn
  omega
theorem numF_err {zs : List Int} {i p : Nat} {n e : Int} (h : numF zs i = (n, p, e)) (he : e ≠ 0) : n = 0 ∧ p = 0 := numR_err _ _ _ _ _ _ _ h he

theorem ret3 {ka kb kc : IntKind} {a a' b b' c c' : Int} (h1 : a = a') (h2 : b = b') (h3 : c = c') :
    Ending.returned (.tuple #[.int ka a, .int kb b, .int kc c]) = .returned (.tuple #[.int ka a', .int kb b', .int kc c']) := by rw [h1, h2, h3]
end Num
end Go.Proofs.Ytjifklojbbocfaa
