/-
  Plain words of layer 1: digits.
-/
import Derived.Test.YtjifklojbbocfaaBase
import Derived.Lib.Strings
namespace Go.Proofs.Ytjifklojbbocfaa
namespace Num
open Go.RowKit

def readR : List Int → Int → Int × Int
  | [], n => (n, 0)
  | c :: r, n => if c < 48 ∨ 57 < c then (0, 2) else if (9223372036854775807 - (c - 48)) / 10 < n then (0, 2) else readR r (n * 10 + (c - 48))
def readF (l : List Int) : Int × Int := if l = [] ∨ (1 < l.length ∧ l.getD 0 0 = 48) then (0, 2) else readR l 0

theorem readR_end (l : List Int) (k : Nat) (n : Int) (h : l.length ≤ k) : readR (l.drop k) n = (n, 0) := by
  rw [List.drop_of_length_le h]; rfl
theorem readR_at (l : List Int) (k : Nat) (n z : Int) (h : k < l.length) (hz : l.getD k 0 = z) :
    readR (l.drop k) n = if z < 48 ∨ 57 < z then (0, 2) else if (9223372036854775807 - (z - 48)) / 10 < n then (0, 2) else readR (l.drop (k + 1)) (n * 10 + (z - 48)) := by
  have e : l[k] = z := by rw [← hz, List.getD_eq_getElem?_getD, List.getElem?_eq_getElem h]; rfl
  rw [List.drop_eq_getElem_cons h, e]; rfl
theorem strNums_getD (s : ByteArray) (k : Nat) (h : k < s.size) : (strNums s).getD k 0 = ((s[k]'h).toNat : Int) := by
  rw [List.getD_eq_getElem?_getD, List.getElem?_eq_getElem (by rw [strNums_length]; exact h)]
  simp only [strNums, List.getElem_map]
  rfl
theorem str_empty {s : ByteArray} (h : s.size = 0) : s = ⟨#[]⟩ := by
  cases s with
  | mk d =>
    have : d.size = 0 := h
    have h2 : d = #[] := Array.eq_empty_of_size_eq_zero this
    rw [h2]
theorem str_some {s : ByteArray} (h : 0 < s.size) : s.toList.isEmpty = false := by
  rw [Lib.toList_data]
  cases hs : s.data.toList with
  | nil =>
    have : s.data.toList.length = s.size := by rw [Array.length_toList]; rfl
    rw [hs] at this
    simp at this
    omega
  | cons a l => rfl
theorem ret2 {ka kb : IntKind} {a a' b b' : Int} (h1 : a = a') (h2 : b = b') : Ending.returned (.tuple #[.int ka a, .int kb b]) = .returned (.tuple #[.int ka a', .int kb b']) := by rw [h1, h2]
def Tells2 (r : Int × Int) (w : World) (e : Ending) (w' : World) : Prop := e = .returned (.tuple #[.int .i64 r.1, .int .i64 r.2]) ∧ w = w'

/-- Digits, the last one first: at most so many, ahead of those that there are. -/
def decF : Nat → Int → List Int → List Int
  | 0, _, acc => acc
  | k + 1, m, acc => if m < 10 then (48 + m) :: acc else decF k (m / 10) ((48 + m % 10) :: acc)
def digL (n : Int) : List Int := if n < 0 then 45 :: decF 19 (-n) [] else decF 19 n []
theorem decF_last (k : Nat) (m : Int) (acc : List Int) (h : m < 10) : decF (k + 1) m acc = (48 + m) :: acc := by rw [decF, if_pos h]
theorem decF_more (k : Nat) (m : Int) (acc : List Int) (h : 10 ≤ m) : decF (k + 1) m acc = decF k (m / 10) ((48 + m % 10) :: acc) := by rw [decF, if_neg (by omega)]

/-- What is left at the place a of twenty: acc stands from a on, m is left. -/
def Dig (N : Int) (a : Nat) (m : Int) (acc : List Int) : Prop := decF 19 N [] = decF (a - 1) m acc ∧ m < 10 ^ (a - 1) ∧ acc.length + a = 20 ∧ 2 ≤ a
theorem dig_start (N : Int) (h : N < 10 ^ 19) : Dig N 20 N [] := ⟨rfl, h, rfl, by omega⟩
theorem dig_last {N m : Int} {a : Nat} {acc : List Int} (h : Dig N a m acc) (hm : m < 10) : decF 19 N [] = (48 + m) :: acc := by
  obtain ⟨h1, h2, h3, h4⟩ := h
  rw [h1]
  obtain ⟨j, hj⟩ : ∃ j, a - 1 = j + 1 := ⟨a - 2, by omega⟩
  rw [hj, decF_last _ _ _ hm]
theorem dig_last' {N m : Int} {a : Nat} {acc : List Int} (h : Dig N a m acc) (h0 : 0 ≤ m) (hm : m < 10) : decF 19 N [] = (48 + m % 10) :: acc := by
  rw [dig_last h hm, show m % 10 = m by omega]
theorem dig_more {N m : Int} {a : Nat} {acc : List Int} (h : Dig N a m acc) (hm : 10 ≤ m) : Dig N (a - 1) (m / 10) ((48 + m % 10) :: acc) := by
  obtain ⟨h1, h2, h3, h4⟩ := h
  obtain ⟨j, hj⟩ : ∃ j, a - 1 = j + 1 := ⟨a - 2, by omega⟩
  have hj2 : a - 1 - 1 = j := by omega
  unfold Dig
  rw [hj, decF_more _ _ _ hm] at h1
  rw [hj, Int.pow_succ] at h2
  have h5 : m / 10 < 10 ^ j := Int.ediv_lt_of_lt_mul (by omega) h2
  have h6 : 1 ≤ j := by
    rcases Nat.eq_zero_or_pos j with h7 | h7
    · subst h7; simp at h5; omega
    · exact h7
  exact ⟨by rw [hj2]; exact h1, by rw [hj2]; exact h5, by simp; omega, by omega⟩

theorem decF_len : ∀ (k : Nat) (m : Int) (acc : List Int), (decF k m acc).length ≤ k + acc.length
  | 0, _, _ => by simp [decF]
  | k + 1, m, acc => by
    by_cases h : m < 10
    · rw [decF_last _ _ _ h]; simp; omega
    · rw [decF_more _ _ _ (by omega)]
      have := decF_len k (m / 10) ((48 + m % 10) :: acc)
      simp only [List.length_cons] at this
      omega
theorem decF_bytes : ∀ (k : Nat) (m : Int) (acc : List Int), 0 ≤ m → (∀ z ∈ acc, 0 ≤ z ∧ z ≤ 255) → ∀ z ∈ decF k m acc, 0 ≤ z ∧ z ≤ 255
  | 0, _, _, _, ha => ha
  | k + 1, m, acc, hm, ha => by
    by_cases h : m < 10
    · rw [decF_last _ _ _ h]
      intro z hz
      rcases List.mem_cons.1 hz with rfl | hz
      · omega
      · exact ha z hz
    · rw [decF_more _ _ _ (by omega)]
      refine decF_bytes k (m / 10) _ (by omega) (fun z hz => ?_)
      rcases List.mem_cons.1 hz with rfl | hz
      · omega
      · exact ha z hz
theorem digL_bytes (n : Int) : ∀ z ∈ digL n, 0 ≤ z ∧ z ≤ 255 := by
  unfold digL
  split
  · intro z hz
    rcases List.mem_cons.1 hz with rfl | hz
    · omega
    · exact decF_bytes 19 (-n) [] (by omega) (by simp) z hz
  · exact decF_bytes 19 n [] (by omega) (by simp)

/-! ### A block of bytes that is known from a place on -/
def From (w : World) (g : Nat) (t : TypeId) (a : Nat) (acc : List Int) : Prop :=
  ∃ cs : Array Value, w.heap[g]? = some (.cells cs t (0, 0)) ∧ cs.size = 20 ∧ cs.toList.drop a = nums .u8 acc
theorem From.cell {w : World} {g : Nat} {t : TypeId} {a : Nat} {acc : List Int} (h : From w g t a acc) (j : Nat) (hj : j < 20) : ∃ v, w.cell? ⟨g, j, none⟩ = some v := by
  obtain ⟨cs, h1, h2, h3⟩ := h
  have := cell_of_row w g j cs t (0, 0) h1
  exact ⟨cs[j], by rw [this]; exact Array.getElem?_eq_getElem (by omega)⟩
theorem From.frozen {w : World} {g : Nat} {t : TypeId} {a : Nat} {acc : List Int} (h : From w g t a acc) (j : Nat) : w.frozen? ⟨g, j, none⟩ = false := by
  obtain ⟨cs, h1, h2, h3⟩ := h
  simp [World.frozen?, h1]
theorem From.set {w : World} {g : Nat} {t : TypeId} {a : Nat} {acc : List Int} (h : From w g t a acc) (h1 : 1 ≤ a) (h2 : a ≤ 20) (z : Int) : From (w.setCell ⟨g, a - 1, none⟩ (.int .u8 z)) g t (a - 1) (z :: acc) := by
  obtain ⟨cs, e1, e2, e3⟩ := h
  refine ⟨cs.setIfInBounds (a - 1) (.int .u8 z), ?_, by simpa using e2, ?_⟩
  · simp [World.setCell, Array.getElem?_modify, e1]
  · have hl : a - 1 < (cs.setIfInBounds (a - 1) (Value.int .u8 z)).toList.length := by simp; omega
    rw [List.drop_eq_getElem_cons hl]
    have e4 : a - 1 + 1 = a := by omega
    have e5 : (cs.setIfInBounds (a - 1) (Value.int .u8 z)).toList.drop a = nums .u8 acc := by rw [Array.toList_setIfInBounds, List.drop_set_of_lt (by omega), e3]
    have e6 : (cs.setIfInBounds (a - 1) (Value.int .u8 z)).toList[a - 1] = .int .u8 z := by simp
    rw [e4, e5, e6]
    rfl
theorem From.ns {w : World} {g : Nat} {t : TypeId} {a : Nat} {acc : List Int} (h : From w g t a acc) : Ns .u8 w (g + 1) (some ⟨g, a, none⟩) acc := by
  obtain ⟨cs, e1, e2, e3⟩ := h
  intro _
  refine ⟨g, a, rfl, by omega, fun j hj => ?_⟩
  rw [cell_of_row w g (a + j) cs t (0, 0) e1, ← Array.getElem?_toList, ← List.getElem?_drop, e3]
  simp only [nums, List.getElem?_map, List.getD_eq_getElem?_getD, List.getElem?_eq_getElem hj, Option.map_some, Option.getD_some]
end Num
end Go.Proofs.Ytjifklojbbocfaa
