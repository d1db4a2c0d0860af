/-
  Plain words of layer 2: all the frames with which bytes begin.
-/
import Derived.Test.YtlmjknadaegkoaaGFrm
namespace Go.Proofs.Ytlmjknadaegkoaa
namespace Frm
open Go.RowKit Num

/-- From i on: what is in the whole frames, where they end, and why there. -/
def allF (zs : List Int) : Nat → Nat → List (List Int) × Nat × Int
  | 0, i => ([], i, 0)
  | f + 1, i =>
    if zs.length ≤ i then ([], i, 0)
    else if (nextF zs i).2.2 ≠ 0 then ([], i, (nextF zs i).2.2)
    else ((nextF zs i).1 :: (allF zs f (nextF zs i).2.1).1, (allF zs f (nextF zs i).2.1).2)

/-- Steps enough are enough. -/
theorem allF_more {zs : List Int} (hby : ∀ z ∈ zs, 0 ≤ z ∧ z ≤ 255) : ∀ (f f' i : Nat), zs.length - i ≤ f → zs.length - i ≤ f' → allF zs f i = allF zs f' i
  | 0, 0, _, _, _ => rfl
  | 0, f' + 1, i, h, _ => by
    unfold allF
    rw [if_pos (by omega)]
  | f + 1, 0, i, _, h => by
    unfold allF
    rw [if_pos (by omega)]
  | f + 1, f' + 1, i, h, h' => by
    unfold allF
    by_cases hi : zs.length ≤ i
    · rw [if_pos hi, if_pos hi]
    · rw [if_neg hi, if_neg hi]
      by_cases he : (nextF zs i).2.2 ≠ 0
      · rw [if_pos he, if_pos he]
      · rw [if_neg he, if_neg he]
        obtain ⟨⟨Y, q, e⟩, hF⟩ : ∃ r, nextF zs i = r := ⟨_, rfl⟩
        rw [hF] at he ⊢
        have he0 : e = 0 := by simpa using he
        subst he0
        have hok := next_ok hby hF
        rw [allF_more hby f f' q (by omega) (by omega)]

theorem allF_end {zs : List Int} {f i : Nat} (h : zs.length ≤ i) : allF zs f i = ([], i, 0) := by
  cases f with
  | zero => rfl
  | succ f => unfold allF; rw [if_pos h]
theorem allF_err {zs : List Int} {f i q : Nat} {Y : List Int} {e : Int} (h : i < zs.length) (hF : nextF zs i = (Y, q, e)) (he : e ≠ 0) : allF zs (f + 1) i = ([], i, e) := by
  unfold allF
  rw [if_neg (by omega), hF, if_pos he]
theorem allF_step {zs : List Int} {f i q : Nat} {Y : List Int} (h : i < zs.length) (hF : nextF zs i = (Y, q, 0)) : allF zs (f + 1) i = (Y :: (allF zs f q).1, (allF zs f q).2) := by
  rw [allF, if_neg (by omega), hF, if_neg (by simp)]

/-- What is framed, one behind the other, is taken out again, in order. -/
theorem allF_puts : ∀ (list : List (List Int)) (xs : List Int) (f : Nat), (∀ z ∈ list, z.length ≤ 1048576) → list.length ≤ f →
    allF (xs ++ (list.map frameF).flatten) f xs.length = (list, xs.length + (list.map frameF).flatten.length, 0)
  | [], xs, f, _, _ => by
    have h := allF_end (zs := xs ++ (([] : List (List Int)).map frameF).flatten) (f := f) (i := xs.length) (by simp)
    rw [h]
    simp
  | z :: list, xs, 0, _, h => by simp at h
  | z :: list, xs, f + 1, hb, hf => by
    have hl := frame_len z
    have e1 : xs ++ ((z :: list).map frameF).flatten = xs ++ frameF z ++ (list.map frameF).flatten := by simp
    have hF := nextF_put (hb z (by simp)) xs (list.map frameF).flatten
    have ih := allF_puts list (xs ++ frameF z) f (fun y hy => hb y (by simp [hy])) (by simpa using hf)
    rw [List.length_append] at ih
    rw [e1, allF_step (by simp; omega) hF, ih]
    simp [Nat.add_assoc]
end Frm
end Go.Proofs.Ytlmjknadaegkoaa
