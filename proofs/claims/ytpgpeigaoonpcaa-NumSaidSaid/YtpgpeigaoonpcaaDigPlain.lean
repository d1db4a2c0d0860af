/-
  Plain laws of digits: a number is read from its own digits; digits that are read are the number's own.
-/
import Derived.Test.YtpgpeigaoonpcaaReadPlain
namespace Go.Proofs.Ytpgpeigaoonpcaa
namespace Num

theorem readR_cons (c : Int) (r : List Int) (n : Int) : readR (c :: r) n = if c < 48 ∨ 57 < c then (0, 2) else if (9223372036854775807 - (c - 48)) / 10 < n then (0, 2) else readR r (n * 10 + (c - 48)) := rfl
theorem readR_dec : ∀ (f : Nat) (m : Int) (acc : List Int), 0 ≤ m → m ≤ 9223372036854775807 → m < 10 ^ (f + 1) → readR (decF (f + 1) m acc) 0 = readR acc m
  | f, m, acc, h0, h1, h2 => by
    by_cases h : m < 10
    · rw [decF_last _ _ _ h, readR_cons, if_neg (by omega), if_neg (by omega)]
      congr 1
      omega
    · cases f with
      | zero => simp at h2; omega
      | succ f =>
        rw [decF_more _ _ _ (by omega), readR_dec f (m / 10) _ (by omega) (by omega) (by rw [Int.pow_succ] at h2; exact Int.ediv_lt_of_lt_mul (by omega) h2), readR_cons, if_neg (by omega), if_neg (by omega)]
        congr 1
        omega
theorem decF_head : ∀ (f : Nat) (m : Int) (acc : List Int), 1 ≤ m → m < 10 ^ (f + 1) → ∃ d r, decF (f + 1) m acc = d :: r ∧ 49 ≤ d
  | f, m, acc, h0, h2 => by
    by_cases h : m < 10
    · exact ⟨48 + m, acc, decF_last _ _ _ h, by omega⟩
    · cases f with
      | zero => simp at h2; omega
      | succ f =>
        rw [decF_more _ _ _ (by omega)]
        exact decF_head f (m / 10) _ (by omega) (by rw [Int.pow_succ] at h2; exact Int.ediv_lt_of_lt_mul (by omega) h2)

theorem read_dig (n : Int) (h0 : 0 ≤ n) (h1 : n ≤ 9223372036854775807) : readF (digL n) = (n, 0) := by
  have hd : digL n = decF (18 + 1) n [] := by unfold digL; rw [if_neg (by omega)]
  have hr : readR (decF (18 + 1) n []) 0 = (n, 0) := by rw [readR_dec 18 n [] h0 h1 (by omega)]; rfl
  rw [hd]
  unfold readF
  rw [if_neg, hr]
  rintro (h | ⟨h, h'⟩)
  · rw [h] at hr
    by_cases h2 : n < 10
    · rw [decF_last _ _ _ h2] at h; simp at h
    · obtain ⟨d, r, e, _⟩ := decF_head 18 n [] (by omega) (by omega)
      rw [e] at h; simp at h
  · by_cases h2 : n = 0
    · subst h2
      rw [decF_last _ _ _ (by omega)] at h
      simp at h
    · obtain ⟨d, r, e, hd⟩ := decF_head 18 n [] (by omega) (by omega)
      rw [e] at h'
      simp at h'
      omega
theorem read_neg (n : Int) (h0 : n < 0) : readF (digL n) = (0, 2) := by
  have hd : digL n = 45 :: decF 19 (-n) [] := by unfold digL; rw [if_pos h0]
  rw [hd]
  unfold readF
  rw [if_neg (by rintro (h | ⟨_, h⟩) <;> simp at h), readR_cons, if_pos (by omega)]

theorem readR_low : ∀ (l : List Int) (n k : Int), 0 ≤ n → n ≤ 9223372036854775807 → readR l n = (k, 0) → n * 10 ^ l.length ≤ k ∧ k ≤ 9223372036854775807
  | [], n, k, h0, h1, h => by
    simp only [readR, Prod.mk.injEq, and_true] at h
    subst h
    simp
    exact h1
  | c :: r, n, k, h0, h1, h => by
    rw [readR_cons] at h
    by_cases hb : c < 48 ∨ 57 < c
    · rw [if_pos hb] at h; simp at h
    · rw [if_neg hb] at h
      by_cases ho : (9223372036854775807 - (c - 48)) / 10 < n
      · rw [if_pos ho] at h; simp at h
      · rw [if_neg ho] at h
        obtain ⟨g1, g2⟩ := readR_low r _ k (by omega) (by omega) h
        refine ⟨?_, g2⟩
        have hp : (0 : Int) < 10 ^ r.length := Int.pow_pos (by omega)
        have h5 : n * 10 * 10 ^ r.length ≤ (n * 10 + (c - 48)) * 10 ^ r.length := Int.mul_le_mul_of_nonneg_right (by omega) (by omega)
        rw [List.length_cons, Int.pow_succ, Int.mul_comm (10 ^ r.length) 10, ← Int.mul_assoc]
        omega
theorem readR_dig : ∀ (l : List Int) (n k : Int) (f : Nat) (acc : List Int), 1 ≤ n → readR l n = (k, 0) → decF (f + l.length) k acc = decF f n (l ++ acc)
  | [], n, k, f, acc, h0, h => by
    simp only [readR, Prod.mk.injEq, and_true] at h
    subst h
    rfl
  | c :: r, n, k, f, acc, h0, h => by
    rw [readR_cons] at h
    by_cases hb : c < 48 ∨ 57 < c
    · rw [if_pos hb] at h; simp at h
    · rw [if_neg hb] at h
      by_cases ho : (9223372036854775807 - (c - 48)) / 10 < n
      · rw [if_pos ho] at h; simp at h
      · rw [if_neg ho] at h
        have e := readR_dig r _ k (f + 1) acc (by omega) h
        rw [show f + (c :: r).length = f + 1 + r.length by rw [List.length_cons]; omega, e, decF_more _ _ _ (by omega)]
        rw [show (n * 10 + (c - 48)) / 10 = n by omega, show 48 + (n * 10 + (c - 48)) % 10 = c by omega]
        rfl

theorem dig_read (l : List Int) (k : Int) (h : readF l = (k, 0)) : digL k = l ∧ 0 ≤ k ∧ k ≤ 9223372036854775807 := by
  unfold readF at h
  by_cases hb : l = [] ∨ (1 < l.length ∧ l.getD 0 0 = 48)
  · rw [if_pos hb] at h; simp at h
  · rw [if_neg hb] at h
    cases l with
    | nil => exact absurd (.inl rfl) hb
    | cons c r =>
      have hlow := readR_low (c :: r) 0 k (by omega) (by omega) h
      have hk0 : 0 ≤ k := by have := hlow.1; simp at this; exact this
      refine ⟨?_, hk0, hlow.2⟩
      have hd : digL k = decF 19 k [] := by unfold digL; rw [if_neg (by omega)]
      rw [hd]
      rw [readR_cons] at h
      by_cases hb2 : c < 48 ∨ 57 < c
      · rw [if_pos hb2] at h; simp at h
      · rw [if_neg hb2] at h
        by_cases ho : (9223372036854775807 - (c - 48)) / 10 < 0
        · rw [if_pos ho] at h; simp at h
        · rw [if_neg ho] at h
          by_cases hc : c = 48
          · subst hc
            have hr : r = [] := by
              cases r with
              | nil => rfl
              | cons d r => exact absurd (.inr ⟨by simp, by simp⟩) hb
            subst hr
            simp only [readR, Prod.mk.injEq, and_true] at h
            subst h
            rfl
          · have h2 : readR r (c - 48) = (k, 0) := by rw [← h]; congr 1; omega
            obtain ⟨g1, g2⟩ := readR_low r (c - 48) k (by omega) (by omega) h2
            have hlen : r.length ≤ 18 := by
              rcases Nat.lt_or_ge 18 r.length with h3 | h3
              · have h4 : (10 : Int) ^ 19 ≤ 10 ^ r.length := by
                  obtain ⟨j, hj⟩ : ∃ j, r.length = 19 + j := ⟨r.length - 19, by omega⟩
                  rw [hj, Int.pow_add]
                  have : (0 : Int) < 10 ^ j := Int.pow_pos (by omega)
                  omega
                have h5 : 1 * (10 : Int) ^ r.length ≤ (c - 48) * 10 ^ r.length := Int.mul_le_mul_of_nonneg_right (by omega) (by omega)
                omega
              · exact h3
            have e := readR_dig r (c - 48) k (18 - r.length + 1) [] (by omega) h2
            rw [show 18 - r.length + 1 + r.length = 19 by omega, decF_last (18 - r.length) (c - 48) _ (by omega)] at e
            rw [e]
            simp
            omega
end Num
end Go.Proofs.Ytpgpeigaoonpcaa
