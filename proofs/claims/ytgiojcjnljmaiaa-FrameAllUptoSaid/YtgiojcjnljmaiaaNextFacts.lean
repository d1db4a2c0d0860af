/-
  What nextF tells: nothing at a fault; else the frame that stands there.
-/
import Derived.Test.YtgiojcjnljmaiaaNextPlain
namespace Go.Proofs.Ytgiojcjnljmaiaa
namespace Frm
open Go.RowKit Num

theorem next_err {zs Y : List Int} {i q : Nat} {e : Int} (h : nextF zs i = (Y, q, e)) (he : e ≠ 0) : Y = [] ∧ q = 0 := by
  unfold nextF at h
  split at h
  · simp only [Prod.mk.injEq] at h; exact ⟨h.1.symm, h.2.1.symm⟩
  · split at h
    · simp only [Prod.mk.injEq] at h; exact ⟨h.1.symm, h.2.1.symm⟩
    · split at h
      · simp only [Prod.mk.injEq] at h; exact ⟨h.1.symm, h.2.1.symm⟩
      · split at h
        · simp only [Prod.mk.injEq] at h; exact absurd h.2.2.symm he
        · simp only [Prod.mk.injEq] at h; exact ⟨h.1.symm, h.2.1.symm⟩

theorem next_ok {zs Y : List Int} {i q : Nat} (hby : ∀ z ∈ zs, 0 ≤ z ∧ z ≤ 255) (h : nextF zs i = (Y, q, 0)) :
    frameF Y = cutF zs i (q - i) ∧ i + 4 < q ∧ q ≤ zs.length ∧ Y.length ≤ 1048576 ∧ ∀ z ∈ Y, 0 ≤ z ∧ z ≤ 255 := by
  unfold nextF at h
  split at h
  · rename_i h0
    simp only [Prod.mk.injEq] at h
    exact absurd h.2.2 h0
  · rename_i h0
    split at h
    · simp only [Prod.mk.injEq] at h; omega
    · rename_i h1
      split at h
      · simp only [Prod.mk.injEq] at h; omega
      · rename_i h2
        split at h
        · rename_i h3
          simp only [Prod.mk.injEq] at h
          obtain ⟨rfl, rfl, _⟩ := h
          obtain ⟨⟨n, p, f⟩, hF⟩ : ∃ r, numF zs i = r := ⟨_, rfl⟩
          rw [hF] at h0 h1 h2 h3 ⊢
          have hf : f = 0 := by simpa using h0
          subst hf
          have hok := numF_ok hby hF
          simp only at h1 h2 h3 ⊢
          have hl : (cutF zs (p + 4) n.toNat).length = n.toNat := cut_len (by omega)
          exact ⟨h3, by omega, by omega, by omega, cut_bytes hby _ _⟩
        · simp only [Prod.mk.injEq] at h; omega

theorem frame_bytes {zs : List Int} (h : ∀ z ∈ zs, 0 ≤ z ∧ z ≤ 255) : ∀ z ∈ frameF zs, 0 ≤ z ∧ z ≤ 255 := by
  have hp := putL_bytes (zs.length : Int) (by omega)
  have hS : ∀ z ∈ putL (zs.length : Int) ++ zs, 0 ≤ z ∧ z ≤ 255 := by
    intro z hz
    rcases List.mem_append.1 hz with hz | hz
    · exact hp z hz
    · exact h z hz
  intro z hz
  unfold frameF at hz
  rcases List.mem_append.1 hz with hz | hz
  · rcases List.mem_append.1 hz with hz | hz
    · exact hp z hz
    · exact sum4_bytes _ (sumF_range _ hS) z hz
  · exact h z hz
theorem frame_len (zs : List Int) : (frameF zs).length = (putL (zs.length : Int)).length + 4 + zs.length := by
  unfold frameF
  rw [List.length_append, List.length_append]
  rfl
theorem cut_mid (a b c : List Int) (i m : Nat) (hi : a.length = i) (hm : b.length = m) : cutF (a ++ b ++ c) i m = b := by
  unfold cutF
  rw [List.append_assoc, List.drop_left' hi, List.take_left' hm]

/-- What is framed is taken out again, whatever stands before and behind. -/
theorem nextF_put {zs : List Int} (hbig : zs.length ≤ 1048576) (xs ys : List Int) : nextF (xs ++ frameF zs ++ ys) xs.length = (zs, xs.length + (frameF zs).length, 0) := by
  have hl := frame_len zs
  obtain ⟨P, hP⟩ : ∃ P, putL (zs.length : Int) = P := ⟨_, rfl⟩
  obtain ⟨S, hS⟩ : ∃ S, sum4 (sumF (P ++ zs)) = S := ⟨_, rfl⟩
  have hSl : S.length = 4 := by rw [← hS]; rfl
  have hF : frameF zs = P ++ S ++ zs := by unfold frameF; rw [hP, hS]
  rw [hP] at hl
  have h1 : numF (xs ++ frameF zs ++ ys) xs.length = ((zs.length : Int), xs.length + P.length, 0) := by
    have h := numF_put (zs.length : Int) (by omega) (by omega) xs (S ++ zs ++ ys)
    rw [hP] at h
    rw [hF, ← h]
    simp only [List.append_assoc]
  have h2 : cutF (xs ++ frameF zs ++ ys) (xs.length + P.length + 4) zs.length = zs := by
    have h := cut_mid (xs ++ P ++ S) zs ys (xs.length + P.length + 4) zs.length (by simp [hSl]; omega) rfl
    rw [hF, ← List.append_assoc, ← List.append_assoc]
    exact h
  have h3 : cutF (xs ++ frameF zs ++ ys) xs.length (xs.length + P.length + 4 + zs.length - xs.length) = frameF zs := cut_mid xs (frameF zs) ys _ _ rfl (by omega)
  unfold nextF
  rw [h1]
  simp only [Int.toNat_natCast]
  rw [if_neg (by simp), if_neg (by omega), if_neg (by simp; omega), h2, h3, if_pos rfl]
  rw [hl]
  simp only [Nat.add_assoc]
end Frm
end Go.Proofs.Ytgiojcjnljmaiaa
