/-
  FrameAlls, given what frame.All tells.
-/
import Derived.Test.YtgiojcjnljmaiaaAllRef
import Derived.Test.YtgiojcjnljmaiaaListsSame
namespace Go.Proofs.Ytgiojcjnljmaiaa
namespace Frm
open Go.RowKit Num

/-- There are no more frames than bytes. -/
theorem allF_count {zs : List Int} (hby : ∀ z ∈ zs, 0 ≤ z ∧ z ≤ 255) : ∀ (f i : Nat), (allF zs f i).1.length ≤ zs.length - i
  | 0, i => by unfold allF; simp
  | f + 1, i => by
    unfold allF
    split
    · simp
    · split
      · simp
      · rename_i h1 h2
        obtain ⟨⟨Y, q, e⟩, hF⟩ : ∃ r, nextF zs i = r := ⟨_, rfl⟩
        rw [hF] at h2 ⊢
        have he : e = 0 := by simpa using h2
        subst he
        have ho := next_ok hby hF
        have ih := allF_count hby f q
        simp only [List.length_cons]
        omega

theorem alls_walk (w : World) (A : Option Addr) (c : Nat) (zs : List Int) (hr : Ns .u8 w w.heap.size A zs) (hby : ∀ z ∈ zs, 0 ≤ z ∧ z ≤ 255) (hbig : zs.length ≤ 1099511627776) (hlc : zs.length ≤ c)
    (h : Calls Try.prog 5 #[.slice A zs.length c] w (Alls 22 (allF zs zs.length 0) w)) :
    Calls Try.prog 3 #[.slice A zs.length c] w fun e w' => e = .returned (.bool true) ∧ Below w.heap.size w w' := by
  have hln := allF_count hby zs.length 0
  have h2 := fun W hr' => ref_all_any A c zs W hr' hby hlc hbig
  obtain ⟨⟨L, q, f⟩, hF⟩ : ∃ r, allF zs zs.length 0 = r := ⟨_, rfl⟩
  rw [hF] at h h2 hln
  have H1 := Lib.hid h
  have H2 := Lib.hid h2
  have HR := Lib.hid hr
  simp only at hln
  clear h h2 hF hr hby
  go_enter Try.func3, Try.ntmps3
  go_wp2_with fail
  refine H1.out.mono ?_
  rintro e w1 ⟨A1, c1, rfl, o1, b1⟩
  have hr1 := (HR.out.below b1).more b1.size
  have hsz1 := b1.size
  have O1 := Lib.hid o1
  clear o1
  go_wp2_with fail
  refine (H2.out _ hr1).mono ?_
  rintro e w2 ⟨A2, c2, rfl, o2, b2⟩
  have n1 := ((O1.out.below b2).parts)
  have n2 := o2.parts
  have hsz2 := b2.size
  clear o2
  go_wp2_with fail
  refine Calls.mono (lists_same A1 A2 c1 c2 L.length L.length L rfl rfl _ _ w2 (Nat.le_refl _) (Nat.le_refl _) n1 n2 (by omega)) ?_
  rintro e w3 ⟨rfl, b3⟩
  go_wp2_with fail
  go_ret
  exact ⟨rfl, b1.trans ((b2.mono hsz1).trans (b3.mono (by omega)))⟩
end Frm
end Go.Proofs.Ytgiojcjnljmaiaa
