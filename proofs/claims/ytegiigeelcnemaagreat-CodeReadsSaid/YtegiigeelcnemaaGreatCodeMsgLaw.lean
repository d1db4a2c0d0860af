/-
  Plain laws of layer 6: a message is read from its bytes as it was, and those are its only ones.
-/
import Derived.Test.YtegiigeelcnemaaGreatCodeMsg
import Derived.Test.YtegiigeelcnemaaGreatCodePutMsg
namespace Go.Proofs.YtegiigeelcnemaaGreat
namespace Code
open Num Span Vers Frm

theorem next_whole {Z : List Int} (h : Z.length ≤ 1048576) : nextF (frameF Z) 0 = (Z, (frameF Z).length, 0) := by
  have := nextF_put h [] []
  simpa using this
/-- P6.4: what is written is read as it was. -/
theorem msg_back {m : Ms} (hm : okM m) (ht : tyM m) (hl : (msgL m).length ≤ 1048576) : msgWF (frameF (msgL m)) = (m, 0) := by
  have hby := msgL_fine hm ht
  obtain ⟨ok, gets, hP, h1, h2, h3⟩ := par_msg hby (by omega)
  have hs := std_all.2 (rfl : msgL m = msgL m)
  have hp := hP.put m 0 (h2 m hm ht) (h1 m hm) hs.1
  unfold msgWF
  rw [next_whole hl]
  simp only [ne_eq, not_true_eq_false, if_false]
  unfold msgF
  exact wholeF_ok hp (by omega) hm
theorem msgF_only {zs : List Int} {m : Ms} (hby : ∀ z ∈ zs, 0 ≤ z ∧ z ≤ 255) (hb : zs.length ≤ 4294967296) (h : msgF zs = (m, 0)) : zs = msgL m ∧ okM m ∧ tyM m := by
  obtain ⟨ok, gets, hP, h1, h2, h3⟩ := par_msg hby hb
  unfold msgF wholeF at h
  split at h
  · simp only [Prod.mk.injEq] at h
    exact absurd h.2 (by decide)
  · rename_i x q hx
    split at h
    · rename_i hc
      simp only [Prod.mk.injEq, and_true] at h
      subst h
      have hg := msgP_gets hby hb (by omega) hx
      obtain ⟨b1, b2⟩ := hP.back x 0 q (by omega) hx (h1 x hc.2)
      exact ⟨std_all.1 ⟨b1, by omega⟩, hc.2, h3 x (hP.got x 0 q (by omega) hx) (by omega)⟩
    · simp only [Prod.mk.injEq] at h
      exact absurd h.2 (by decide)
/-- P6.4: bytes that are read are the only ones of their message. -/
theorem msg_only {zs : List Int} {m : Ms} (hby : ∀ z ∈ zs, 0 ≤ z ∧ z ≤ 255) (h : msgWF zs = (m, 0)) : zs = frameF (msgL m) ∧ okM m ∧ tyM m ∧ (msgL m).length ≤ 1048576 := by
  obtain ⟨⟨Y, q, e⟩, hF⟩ : ∃ r, nextF zs 0 = r := ⟨_, rfl⟩
  unfold msgWF at h
  rw [hF] at h
  simp only at h
  split at h
  · rename_i he
    simp only [Prod.mk.injEq] at h
    exact absurd h.2 he
  · rename_i he
    have he0 : e = 0 := Classical.not_not.1 he
    subst he0
    split at h
    · simp only [Prod.mk.injEq] at h
      exact absurd h.2 (by decide)
    · rename_i hq
      have hq' : q = zs.length := Classical.not_not.1 hq
      obtain ⟨y1, y2, y3, y4, y5⟩ := next_ok hby hF
      obtain ⟨z1, z2, z3⟩ := msgF_only y5 (by omega) h
      have hz : frameF Y = zs := by
        rw [y1, hq']
        simp [cutF]
      exact ⟨by rw [← z1, hz], z2, z3, by rw [← z1]; exact y4⟩
/-- P6.3: with more behind it, it is none. -/
theorem msg_more {m : Ms} {more : List Int} (hl : (msgL m).length ≤ 1048576) (h0 : 0 < more.length) : (msgWF (frameF (msgL m) ++ more)).2 = 2 := by
  have hn : nextF (frameF (msgL m) ++ more) 0 = (msgL m, (frameF (msgL m)).length, 0) := by
    have := nextF_put hl [] more
    simpa using this
  unfold msgWF
  rw [hn]
  simp only [ne_eq, not_true_eq_false, if_false]
  rw [if_pos (by rw [List.length_append]; omega)]
theorem putMsgF_ok {m : Ms} {x : List Int} (h : putMsgF m = (x, 0)) : okM m ∧ (msgL m).length ≤ 1048576 ∧ x = frameF (msgL m) := by
  unfold putMsgF at h
  split at h
  · rename_i h1
    split at h
    · rename_i h2
      simp only [Prod.mk.injEq, and_true] at h
      exact ⟨h1, h2, h.symm⟩
    · simp only [Prod.mk.injEq] at h
      exact absurd h.2 (by decide)
  · simp only [Prod.mk.injEq] at h
    exact absurd h.2 (by decide)
theorem putMsgF_err {m : Ms} {x : List Int} {e : Int} (h : putMsgF m = (x, e)) (he : e ≠ 0) : x = [] := by
  unfold putMsgF at h
  split at h
  · split at h
    · simp only [Prod.mk.injEq] at h
      exact absurd h.2.symm he
    · simp only [Prod.mk.injEq] at h
      exact h.1.symm
  · simp only [Prod.mk.injEq] at h
    exact h.1.symm
end Code
end Go.Proofs.YtegiigeelcnemaaGreat
