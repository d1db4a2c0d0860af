/-
  What the iterator behind frame.All has told is what allF tells.
-/
import Derived.Test.YtgiojcjnljmaiaaFrames
namespace Go.Proofs.Ytgiojcjnljmaiaa
namespace Frm
open Go.RowKit Num

theorem went_ok {zs : List Int} (hby : ∀ z ∈ zs, 0 ≤ z ∧ z ≤ 255) {pre : List Tell} {k : Nat} (h : Went zs pre k) : k ≤ zs.length ∧ pre.length ≤ k ∧ (∀ x ∈ pre, x.e = 0) ∧
    allF zs zs.length 0 = (pre.map Tell.ys ++ (allF zs (zs.length - k) k).1, (allF zs (zs.length - k) k).2) := by
  induction h with
  | start => exact ⟨by omega, by simp, by simp, by simp⟩
  | @more pre k x hw hk hF he ih =>
    obtain ⟨_, h2, h3, h4⟩ := ih
    rw [he] at hF
    have ho := next_ok hby hF
    refine ⟨ho.2.2.1, by simp; omega, ?_, ?_⟩
    · intro y hy
      rcases List.mem_append.1 hy with hy | hy
      · exact h3 y hy
      · rw [List.mem_singleton.1 hy]; exact he
    · rw [h4]
      obtain ⟨f, hf⟩ : ∃ f, zs.length - k = f + 1 := ⟨zs.length - k - 1, by omega⟩
      rw [hf, allF_step hk hF, allF_more hby f (zs.length - x.q) x.q (by omega) (by omega)]
      simp

/-- All was told. -/
theorem went_end {zs : List Int} (hby : ∀ z ∈ zs, 0 ≤ z ∧ z ≤ 255) {pre : List Tell} (h : Went zs pre zs.length) : allF zs zs.length 0 = (pre.map Tell.ys, zs.length, 0) := by
  have h4 := (went_ok hby h).2.2.2
  rw [h4, allF_end (Nat.le_refl _)]
  simp

/-- It ended at a fault. -/
theorem went_err {zs : List Int} (hby : ∀ z ∈ zs, 0 ≤ z ∧ z ≤ 255) {pre : List Tell} {k : Nat} {x : Tell} (h : Went zs pre k) (hk : k < zs.length) (hF : nextF zs k = (x.ys, x.q, x.e)) (he : x.e ≠ 0) :
    allF zs zs.length 0 = (pre.map Tell.ys, k, x.e) := by
  have h4 := (went_ok hby h).2.2.2
  obtain ⟨f, hf⟩ : ∃ f, zs.length - k = f + 1 := ⟨zs.length - k - 1, by omega⟩
  rw [h4, hf, allF_err hk hF he]
  simp

/-- How far: the last end. -/
theorem went_last {zs : List Int} {pre : List Tell} {k : Nat} (h : Went zs pre k) : k = ((pre.getLast?).map Tell.q).getD 0 := by
  cases h with
  | start => rfl
  | more => simp

/-- frame.frames: a closure over a box of the bytes. -/
theorem frames_made (A : Option Addr) (n c : Nat) (w : World) :
    Calls Try.prog 9 #[.slice A n c] w fun e w' => e = .returned (.func (.func 13) #[] #[.pointer (some ⟨w.heap.size, 0, none⟩)]) ∧ w' = w.alloc (.cells #[.slice A n c] 22) := by
  go_enter Try.func9, Try.ntmps9
  go_wp2
  go_ret
  exact ⟨rfl, rfl⟩
end Frm
end Go.Proofs.Ytgiojcjnljmaiaa
