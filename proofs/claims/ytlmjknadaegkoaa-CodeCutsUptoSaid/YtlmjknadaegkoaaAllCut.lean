/-
  Plain words of layer 2: of frames that are cut off anywhere just the whole ones are taken out.
-/
import Derived.Test.YtlmjknadaegkoaaAllPlain
namespace Go.Proofs.Ytlmjknadaegkoaa
namespace Frm
open Go.RowKit Num

/-- A number's bytes that are cut off are too short. -/
theorem numR_short : ∀ (j i p : Nat) (a m : Int) (t : Nat), 9 - i = j + 1 → 0 ≤ m → t < (putF (j + 1) m).length → numR ((putF (j + 1) m).take t) p i a = (0, 0, 4)
  | j, i, p, a, m, 0, _, _, _ => by simp [numR]
  | j, i, p, a, m, t + 1, hj, h0, ht => by
    by_cases hm : m < 128
    · rw [putF_last _ _ hm] at ht
      simp at ht
    · rw [putF_more _ _ (by omega)] at ht ⊢
      cases j with
      | zero => simp [putF] at ht
      | succ j =>
        rw [List.length_cons] at ht
        rw [List.take_succ_cons, numR, if_neg (by omega), if_neg (by omega), numR_short j (i + 1) (p + 1) _ (m / 128) t (by omega) (by omega) (by omega)]

theorem take_within {a b : List Int} {m : Nat} (h : m ≤ a.length) : (a ++ b).take m = a.take m := by
  rw [List.take_append, Nat.sub_eq_zero_of_le h, List.take_zero, List.append_nil]
theorem take_behind {a b : List Int} {m : Nat} (h : a.length ≤ m) : (a ++ b).take m = a ++ b.take (m - a.length) := by
  rw [List.take_append, List.take_of_length_le h]

/-- A frame that is cut off is too short. -/
theorem nextF_cut {z : List Int} (hbig : z.length ≤ 1048576) (xs : List Int) {m : Nat} (hm : m < (frameF z).length) : nextF (xs ++ (frameF z).take m) xs.length = ([], 0, 4) := by
  have hl := frame_len z
  obtain ⟨P, hP⟩ : ∃ P, putL (z.length : Int) = P := ⟨_, rfl⟩
  obtain ⟨S, hS⟩ : ∃ S, sum4 (sumF (P ++ z)) = S := ⟨_, rfl⟩
  have hSl : S.length = 4 := by rw [← hS]; rfl
  have hF : frameF z = P ++ (S ++ z) := by unfold frameF; rw [hP, hS, List.append_assoc]
  rw [hP] at hl
  by_cases hmp : m < P.length
  · have h1 : numF (xs ++ (frameF z).take m) xs.length = (0, 0, 4) := by
      unfold numF
      rw [List.drop_left, hF, take_within (by omega), ← hP]
      exact numR_short 8 0 _ _ _ m (by omega) (by omega) (by rw [← hP] at hmp; exact hmp)
    unfold nextF
    rw [h1, if_pos (by simp)]
  · have h1 : numF (xs ++ (frameF z).take m) xs.length = ((z.length : Int), xs.length + P.length, 0) := by
      have h := numF_put (z.length : Int) (by omega) (by omega) xs ((S ++ z).take (m - P.length))
      rw [hP] at h
      rw [hF, take_behind (by omega), ← h, List.append_assoc]
    unfold nextF
    rw [h1]
    simp only [Int.toNat_natCast]
    rw [if_neg (by simp), if_neg (by omega), if_pos (by rw [List.length_append, List.length_take]; omega)]

/-- Where the frames of a list end, of which the first begins at s. -/
def endsF : Nat → List (List Int) → List Nat
  | _, [] => []
  | s, z :: r => (s + (frameF z).length) :: endsF (s + (frameF z).length) r
/-- How many of them are whole up to the place cut; where the last of these ends. -/
def wholeF : Nat → Nat → List (List Int) → Nat
  | _, _, [] => 0
  | s, cut, z :: r => if s + (frameF z).length ≤ cut then wholeF (s + (frameF z).length) cut r + 1 else 0
def lastF : Nat → Nat → List (List Int) → Nat
  | s, _, [] => s
  | s, cut, z :: r => if s + (frameF z).length ≤ cut then lastF (s + (frameF z).length) cut r else s

theorem ends_len : ∀ (s : Nat) (l : List (List Int)), (endsF s l).length = l.length
  | _, [] => rfl
  | s, z :: r => by rw [endsF, List.length_cons, ends_len _ r, List.length_cons]
theorem ends_more : ∀ (s : Nat) (l : List (List Int)) (z : List Int), endsF s (l ++ [z]) = endsF s l ++ [s + (l.map frameF).flatten.length + (frameF z).length]
  | s, [], z => by simp [endsF]
  | s, y :: r, z => by
    rw [List.cons_append, endsF, endsF, ends_more _ r z]
    simp [Nat.add_assoc]
theorem last_le : ∀ (s cut : Nat) (l : List (List Int)), s ≤ cut → lastF s cut l ≤ cut
  | _, _, [], h => h
  | s, cut, z :: r, h => by
    unfold lastF
    split
    · exact last_le _ _ r (by omega)
    · exact h
theorem whole_le : ∀ (s cut : Nat) (l : List (List Int)), wholeF s cut l ≤ l.length
  | _, _, [] => by simp [wholeF]
  | s, cut, z :: r => by
    have := whole_le (s + (frameF z).length) cut r
    unfold wholeF
    split
    · simp; omega
    · simp

def codeF (e cut : Nat) : Int := if e = cut then 0 else 4
theorem whole_step {s cut : Nat} {z : List Int} (l : List (List Int)) (h : s + (frameF z).length ≤ cut) : wholeF s cut (z :: l) = wholeF (s + (frameF z).length) cut l + 1 ∧ lastF s cut (z :: l) = lastF (s + (frameF z).length) cut l := by
  rw [wholeF, lastF, if_pos h, if_pos h]; exact ⟨rfl, rfl⟩
theorem whole_stop {s cut : Nat} {z : List Int} (l : List (List Int)) (h : ¬ s + (frameF z).length ≤ cut) : wholeF s cut (z :: l) = 0 ∧ lastF s cut (z :: l) = s := by
  rw [wholeF, lastF, if_neg h, if_neg h]; exact ⟨rfl, rfl⟩

theorem allF_cut : ∀ (l : List (List Int)) (xs : List Int) (f cut : Nat), (∀ z ∈ l, z.length ≤ 1048576) → l.length + 1 ≤ f → xs.length ≤ cut → cut ≤ xs.length + (l.map frameF).flatten.length →
    allF ((xs ++ (l.map frameF).flatten).take cut) f xs.length = (l.take (wholeF xs.length cut l), lastF xs.length cut l, codeF (lastF xs.length cut l) cut)
  | [], xs, f, cut, _, _, h1, h2 => by
    simp only [List.map_nil, List.flatten_nil, List.length_nil, Nat.add_zero] at h2
    obtain rfl : xs.length = cut := by omega
    rw [allF_end (by simp)]
    simp [wholeF, lastF, codeF]
  | z :: l, xs, 0, cut, _, h, _, _ => by simp at h
  | z :: l, xs, f + 1, cut, hb, hf, h1, h2 => by
    have hl := frame_len z
    simp only [List.map_cons, List.flatten_cons, List.length_append] at h2
    by_cases hw : xs.length + (frameF z).length ≤ cut
    · have ih := allF_cut l (xs ++ frameF z) f cut (fun y hy => hb y (by simp [hy])) (by simpa using hf) (by rw [List.length_append]; omega) (by rw [List.length_append]; omega)
      have e1 : (xs ++ ((z :: l).map frameF).flatten).take cut = xs ++ frameF z ++ ((l.map frameF).flatten).take (cut - (xs ++ frameF z).length) := by
        rw [List.map_cons, List.flatten_cons, ← List.append_assoc, take_behind (by rw [List.length_append]; omega)]
      have e2 : (xs ++ frameF z ++ (l.map frameF).flatten).take cut = xs ++ frameF z ++ ((l.map frameF).flatten).take (cut - (xs ++ frameF z).length) := take_behind (by rw [List.length_append]; omega)
      rw [e2] at ih
      have hF := nextF_put (hb z (by simp)) xs (((l.map frameF).flatten).take (cut - (xs ++ frameF z).length))
      rw [List.length_append] at ih hF e1
      rw [e1, allF_step (by simp; omega) hF, ih]
      rw [(whole_step l hw).1, (whole_step l hw).2, List.take_succ_cons]
    · have e1 : (xs ++ ((z :: l).map frameF).flatten).take cut = xs ++ (frameF z).take (cut - xs.length) := by
        rw [List.map_cons, List.flatten_cons, take_behind h1, take_within (by omega)]
      rw [e1]
      rw [(whole_stop l hw).1, (whole_stop l hw).2, List.take_zero]
      by_cases hc : cut = xs.length
      · rw [allF_end (by rw [List.length_append, List.length_take]; omega), codeF, if_pos hc.symm]
      · rw [allF_err (by rw [List.length_append, List.length_take]; omega) (nextF_cut (hb z (by simp)) xs (by omega)) (by omega), codeF, if_neg (fun e => hc e.symm)]
end Frm
end Go.Proofs.Ytlmjknadaegkoaa
