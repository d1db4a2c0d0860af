/-
  Several texts of this family in one: NumPlain.
-/
import Derived.WalkKit
/-
 Plain words of layer 1: a number's bytes, read one by one.
-/
namespace Go.Proofs.YtkfdplfgaddkmaaGreat
namespace Num
open Go.RowKit

def numR : List Int → Nat → Nat → Int → Int × Nat × Int
 | [], _, _, _ => (0, 0, 4)
 | c :: r, p, i, n =>
  if (i = 8 ∧ 127 < c) ∨ (0 < i ∧ c = 0) then (0, 0, 2)
  else if c < 128 then (n + c * 128 ^ i, p + 1, 0)
  else numR r (p + 1) (i + 1) (n + (c - 128) * 128 ^ i)

def numF (zs : List Int) (i : Nat) : Int × Nat × Int := numR (zs.drop i) i 0 0

def putF : Nat → Int → List Int
 | 0, _ => []
 | k + 1, n => if n < 128 then [n] else (n % 128 + 128) :: putF k (n / 128)
def putL (n : Int) : List Int := putF 9 n

theorem putF_last (k : Nat) (n : Int) (h : n < 128) : putF (k + 1) n = [n] := by rw [putF, if_pos h]
theorem putF_more (k : Nat) (n : Int) (h : 128 ≤ n) : putF (k + 1) n = (n % 128 + 128) :: putF k (n / 128) := by rw [putF, if_neg (by omega)]

def Laid (n : Int) (acc : List Int) (f : Nat) (m : Int) : Prop := putL n = acc ++ putF (f + 1) m ∧ m < 128 ^ (f + 1) ∧ acc.length + (f + 1) = 9
theorem laid_start (n : Int) (h : n ≤ 9223372036854775807) : Laid n [] 8 n := ⟨rfl, by omega, rfl⟩
theorem laid_len {n : Int} {acc : List Int} {f : Nat} {m : Int} (h : Laid n acc f m) : acc.length ≤ 8 := by have := h.2.2; omega
theorem laid_more {n : Int} {acc : List Int} {f : Nat} {m : Int} (h : Laid n acc f m) (hm : 128 ≤ m) : ∃ g, Laid n (acc ++ [m % 128 + 128]) g (m / 128) := by
 obtain ⟨h1, h2, h3⟩ := h
 cases f with
 | zero => simp at h2; omega
 | succ g =>
  refine ⟨g, ?_, ?_, by simp; omega⟩
  ·rw [h1, putF_more _ _ hm]; simp
  ·rw [Int.pow_succ] at h2
   exact Int.ediv_lt_of_lt_mul (by omega) h2
theorem laid_last {n : Int} {acc : List Int} {f : Nat} {m : Int} (h : Laid n acc f m) (hm : m < 128) : putL n = acc ++ [m] := by
 rw [h.1, putF_last _ _ hm]

theorem putF_bytes : ∀ (k : Nat) (n : Int), 0 ≤ n → ∀ z ∈ putF k n, 0 ≤ z ∧ z ≤ 255
 | 0, _, _, z, hz => by simp [putF] at hz
 | k + 1, n, hn, z, hz => by
  by_cases h : n < 128
  ·rw [putF_last _ _ h] at hz; simp at hz; omega
  ·rw [putF_more _ _ (by omega)] at hz
   rcases List.mem_cons.1 hz with rfl | hz
   ·omega
   ·exact putF_bytes k (n / 128) (by omega) z hz
theorem putF_len : ∀ (k : Nat) (n : Int), (putF k n).length ≤ k
 | 0, _ => by simp [putF]
 | k + 1, n => by
  by_cases h : n < 128
  ·rw [putF_last _ _ h]; simp
  ·rw [putF_more _ _ (by omega)]; have := putF_len k (n / 128); simp; omega
theorem putF_pos (k : Nat) (n : Int) : 1 ≤ (putF (k + 1) n).length := by
 by_cases h : n < 128
 ·rw [putF_last _ _ h]; simp
 ·rw [putF_more _ _ (by omega)]; simp

theorem numR_ok : ∀ (l : List Int) (p i : Nat) (a n : Int) (q : Nat), (∀ z ∈ l, 0 ≤ z ∧ z ≤ 255) → i ≤ 8 → numR l p i a = (n, q, 0) →
  ∃ (m : Int) (k : Nat), 0 ≤ m ∧ m < 128 ^ (9 - i) ∧ (0 < i → 1 ≤ m) ∧ n = a + m * 128 ^ i ∧ q = p + k ∧ 1 ≤ k ∧ k ≤ l.length ∧ l.take k = putF (9 - i) m
 | [], p, i, a, n, q, _, _, h => by simp [numR] at h
 | c :: r, p, i, a, n, q, hby, hi, h => by
  have hc0 := hby c (by simp)
  obtain ⟨j, hj⟩ : ∃ j, 9 - i = j + 1 := ⟨8 - i, by omega⟩
  have hpow : (0 : Int) < 128 ^ j := Int.pow_pos (by omega)
  rw [numR] at h
  by_cases hb : (i = 8 ∧ 127 < c) ∨ (0 < i ∧ c = 0)
  ·rw [if_pos hb] at h
   simp at h
  ·rw [if_neg hb] at h
   by_cases hc : c < 128
   ·rw [if_pos hc] at h
    simp only [Prod.mk.injEq] at h
    refine ⟨c, 1, by omega, ?_, by omega, h.1.symm, by omega, by omega, by simp, ?_⟩
    ·rw [hj, Int.pow_succ]
     omega
    ·rw [hj, putF_last _ _ hc]
     rfl
   ·rw [if_neg hc] at h
    obtain ⟨m, k, h1, h2, h3, h4, h5, h6, h7, h8⟩ := numR_ok r (p + 1) (i + 1) _ n q (fun z hz => hby z (by simp [hz])) (by omega) h
    have h3' := h3 (by omega)
    have hj' : 9 - (i + 1) = j := by omega
    rw [hj'] at h2 h8
    refine ⟨c - 128 + m * 128, k + 1, by omega, ?_, by omega, ?_, by omega, by omega, by simp; omega, ?_⟩
    ·rw [hj, Int.pow_succ]
     omega
    ·rw [h4, Int.pow_succ, Int.add_mul, Int.mul_assoc, Int.mul_comm 128, Int.add_assoc]
    ·rw [hj, putF_more _ _ (by omega), List.take_succ_cons, h8]
     congr 2
     ·omega
     ·omega

theorem numR_put : ∀ (j i p : Nat) (a m : Int) (r : List Int), 9 - i = j + 1 → i ≤ 8 → 0 ≤ m → m < 128 ^ (j + 1) → (0 < i → 1 ≤ m) →
  numR (putF (j + 1) m ++ r) p i a = (a + m * 128 ^ i, p + (putF (j + 1) m).length, 0)
 | j, i, p, a, m, r, hj, hi, h0, h1, h2 => by
  by_cases hm : m < 128
  ·rw [putF_last _ _ hm]
   show numR (m :: r) p i a = _
   rw [numR, if_neg (by omega), if_pos hm]
   rfl
  ·rw [putF_more _ _ (by omega)]
   cases j with
   | zero => simp at h1; omega
   | succ j =>
    show numR ((m % 128 + 128) :: (putF (j + 1) (m / 128) ++ r)) p i a = _
    rw [numR, if_neg (by omega), if_neg (by omega), numR_put j (i + 1) (p + 1) _ (m / 128) r (by omega) (by omega) (by omega) (by rw [Int.pow_succ] at h1; exact Int.ediv_lt_of_lt_mul (by omega) h1) (by omega)]
    refine Prod.ext ?_ (Prod.ext ?_ rfl)
    ·show a + (m % 128 + 128 - 128) * 128 ^ i + m / 128 * 128 ^ (i + 1) = a + m * 128 ^ i
     rw [Int.pow_succ, Int.add_sub_cancel, Int.mul_comm (128 ^ i) 128, ← Int.mul_assoc, Int.add_assoc, ← Int.add_mul]
     congr 2
     omega
    ·simp only [List.length_cons]
     omega

theorem numF_put (n : Int) (h0 : 0 ≤ n) (h1 : n ≤ 9223372036854775807) (xs ys : List Int) : numF (xs ++ putL n ++ ys) xs.length = (n, xs.length + (putL n).length, 0) := by
 unfold numF
 rw [List.append_assoc, List.drop_left]
 have h := numR_put 8 0 xs.length 0 n ys (by omega) (by omega) h0 (by omega) (by omega)
 rw [show putL n = putF (8 + 1) n from rfl, h]
 simp
theorem putL_len (n : Int) : 1 ≤ (putL n).length ∧ (putL n).length ≤ 9 := ⟨putF_pos 8 n, putF_len 9 n⟩
theorem putL_bytes (n : Int) (h : 0 ≤ n) : ∀ z ∈ putL n, 0 ≤ z ∧ z ≤ 255 := putF_bytes 9 n h

theorem numF_ok {zs : List Int} {i p : Nat} {n : Int} (hby : ∀ z ∈ zs, 0 ≤ z ∧ z ≤ 255) (h : numF zs i = (n, p, 0)) : 0 ≤ n ∧ n ≤ 9223372036854775807 ∧ i < p ∧ p ≤ zs.length := by
 obtain ⟨m, k, g1, g2, g3, g4, g5, g6, g7, g8⟩ := numR_ok (zs.drop i) i 0 0 n p (fun z hz => hby z (List.mem_of_mem_drop hz)) (by omega) h
 rw [List.length_drop] at g7
 have hm : m < 128 ^ 9 := g2
 have hn : n = m := by rw [g4]; simp
 subst hn
 omega
end Num
end Go.Proofs.YtkfdplfgaddkmaaGreat
