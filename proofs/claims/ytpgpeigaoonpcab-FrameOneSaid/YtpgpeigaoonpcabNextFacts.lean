/-
  What nextF tells: nothing at a fault; else the frame that stands there.
-/
import Derived.Test.YtpgpeigaoonpcabNextPlain
namespace Go.Proofs.Ytpgpeigaoonpcab
namespace Frm
open Go.RowKit Num

theorem next_err {zs Y : List Int} {i q : Nat} {e : Int} (h : nextF zs i = (Y, q, e)) (he : e ≠ 0) : Y = [] ∧ q = 0 := by
  unfold nextF at h
  split at h
  · simp only [Prod.mk.injEq] at h; exact ⟨h.1.symm, h.2.1.symm⟩
  · split at h
    · simp only [Prod.mk.injEq] at h; exact ⟨h.1.symm, h.2.1.symm⟩
    · split at h
      · simp only [Prod.mk.injEq] at h; exact ⟨h.1.symm, h.2.1.symm⟩
      · split at h
        · simp only [Prod.mk.injEq] at h; exact absurd h.2.2.symm he
        · simp only [Prod.mk.injEq] at h; exact ⟨h.1.symm, h.2.1.symm⟩

theorem next_ok {zs Y : List Int} {i q : Nat} (hby : ∀ z ∈ zs, 0 ≤ z ∧ z ≤ 255) (h : nextF zs i = (Y, q, 0)) :
    frameF Y = cutF zs i (q - i) ∧ i + 4 < q ∧ q ≤ zs.length ∧ Y.length ≤ 1048576 ∧ ∀ z ∈ Y, 0 ≤ z ∧ z ≤ 255 := by
  unfold nextF at h
  split at h
  · rename_i h0
    simp only [Prod.mk.injEq] at h
    exact absurd h.2.2 h0
  · rename_i h0
    split at h
    · simp only [Prod.mk.injEq] at h; omega
    · rename_i h1
      split at h
      · simp only [Prod.mk.injEq] at h; omega
      · rename_i h2
        split at h
        · rename_i h3
          simp only [Prod.mk.injEq] at h
          obtain ⟨rfl, rfl, _⟩ := h
          obtain ⟨⟨n, p, f⟩, hF⟩ : ∃ r, numF zs i = r := ⟨_, rfl⟩
          rw [hF] at h0 h1 h2 h3 ⊢
          have hf : f = 0 := by simpa using h0
          subst hf
          have hok := numF_ok hby hF
          simp only at h1 h2 h3 ⊢
          have hl : (cutF zs (p + 4) n.toNat).length = n.toNat := cut_len (by omega)
          exact ⟨h3, by omega, by omega, by omega, cut_bytes hby _ _⟩
        · simp only [Prod.mk.injEq] at h; omega
end Frm
end Go.Proofs.Ytpgpeigaoonpcab
