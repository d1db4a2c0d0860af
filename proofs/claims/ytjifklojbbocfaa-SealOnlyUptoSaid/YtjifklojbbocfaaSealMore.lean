/-
  More plain words of layer 13: what a refusal tells.
-/
import Derived.Test.YtjifklojbbocfaaSealPlain
namespace Go.Proofs.Ytjifklojbbocfaa
namespace Seal
open Num Span Ring Go.Proofs.Ytjifklojbbocfaa.Code

theorem open_err {s : ByteArray} {g : Int} {zs : List Int} (h : (openF s g zs).2 ≠ 0) : (openF s g zs).1 = [] := by
  by_cases hk : okKey s g
  · by_cases h0 : zs.length = 0
    · rw [open_nil hk h0]
    · by_cases h8 : zs.length < 8
      · rw [open_few hk h0 h8]
      · rcases ht : takeF (zs.take (zs.length - 8)) with _ | ⟨its, l⟩
        · rw [open_none hk h8 ht]
        · rw [open_some hk h8 ht] at h ⊢
          split
          · rfl
          · split
            · rfl
            · rename_i h1 h2
              rw [if_neg h1, if_neg h2] at h
              exact absurd rfl h
  · rw [open_key hk]
theorem open_zero {s : ByteArray} {g : Int} {zs : List Int} (h : zs.length = 0) : (openF s g zs).1 = [] := by
  by_cases hk : okKey s g
  · rw [open_nil hk h]
  · rw [open_key hk]
end Seal
end Go.Proofs.Ytjifklojbbocfaa
