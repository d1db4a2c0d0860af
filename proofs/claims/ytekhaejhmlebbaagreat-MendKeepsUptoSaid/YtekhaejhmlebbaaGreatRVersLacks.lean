/-
 vers.Lacks and the reference's tell lacksF.
-/
import Derived.Test.YtekhaejhmlebbaaGreatRVersMerge
import Derived.Test.YtekhaejhmlebbaaGreatRGSame
namespace Go.Proofs.YtekhaejhmlebbaaGreat
namespace Vers
open Go.RowKit Span
attribute [local go_sem ↓] Go.wp_at_zero Go.wp_at_succ

theorem merge_len (a b : List Vr) : (mergeF a b).1.length ≤ 512 := by
 unfold mergeF
 split
 ·simp
 ·split
  ·simp
  ·split
   ·simp
   ·simp only; omega

set_option maxRecDepth 100000 in
set_option maxHeartbeats 1000000 in
theorem lacks_any (A A' : Option Addr) (c c' n n' : Nat) (a b : List Vr) (hn : a.length = n) (hn' : b.length = n') (hnc : n ≤ c) (hnc' : n' ≤ c') (w : World) (hv : Vs w 0 w.heap.size A a) (hv' : Vs w 0 w.heap.size A' b) (hb2 : n ≤ 140737488355328) (hb2' : n' ≤ 140737488355328) :
  Calls Tryz.prog 56 #[.slice A n c, .slice A' n' c'] w fun e w' => e = .returned (.bool (lacksF a b)) ∧ Below w.heap.size w w' := by
 have h1 := merge_any A A' c c' n n' a b hn hn' hnc hnc' w hv hv' hb2 hb2'
 obtain ⟨⟨r, k⟩, hr⟩ : ∃ r, mergeF a b = r := ⟨_, rfl⟩
 have hrl : r.length ≤ 512 := by
  have h := merge_len a b
  rw [hr] at h
  exact h
 have hL : lacksF a b = decide (k = 0 ∧ r ≠ a) := by unfold lacksF; rw [hr]
 obtain ⟨q, hq⟩ : ∃ q, lacksF a b = q := ⟨_, rfl⟩
 rw [hr] at h1
 rw [hq] at hL ⊢
 obtain ⟨m, hm⟩ : ∃ m, r.length = m := ⟨_, rfl⟩
 have h2 := fun W A1 c1 (hbW : Below w.heap.size w W) (hv1 : Vs W 0 W.heap.size A1 r) => sameV_any A1 A c1 c m n r a hm hn W hv1 ((hv.below hbW).more hbW.size) (by omega) hb2
 have H1 := Lib.hid h1
 have H2 := Lib.hid h2
 have HL := Lib.hid (And.intro hL hm)
 clear h1 h2 hL hq hr hv hv' hn hn' hm
 by_cases hk : k = 0
 ·subst hk
  go_enter Tryz.func56, Tryz.ntmps56
  go_wp2_with fail
  refine H1.out.mono ?_
  rintro e w1 ⟨A1, c1, rfl, hc1, hv1, b1⟩
  simp only at hc1 hv1 ⊢
  rw [HL.out.2]
  have H2' := Lib.hid (H2.out w1 A1 c1 b1 (hv1.less (Nat.zero_le _)))
  have B1 := Lib.hid b1
  have s1 := b1.size
  clear b1 hv1 hc1 H1 H2
  obtain ⟨y, hy⟩ : ∃ y, decide (r = a) = y := ⟨_, rfl⟩
  rw [hy] at H2'
  have HY : Hid (q = !y) := Lib.hid (by rw [HL.out.1, ← hy]; simp)
  clear hy
  go_wp2_with fail
  refine H2'.out.mono ?_
  rintro e w2 ⟨rfl, b2⟩
  have B2 := Lib.hid (B1.out.trans (b2.mono s1))
  clear b2 H2' B1
  go_wp2_with fail
  go_ret
  exact ⟨by rw [HY.out]; rfl, B2.out⟩
 ·have HY : Hid (q = false) := Lib.hid (by rw [HL.out.1]; simp [hk])
  have e1 : (k == 0) = false := by simpa using hk
  go_enter Tryz.func56, Tryz.ntmps56
  go_wp2_with fail
  refine H1.out.mono ?_
  rintro e w1 ⟨A1, c1, rfl, hc1, hv1, b1⟩
  simp only at hc1 hv1 ⊢
  have B1 := Lib.hid b1
  clear b1 hv1 hc1 H1 H2
  go_wp2_with fail
  go_ret
  exact ⟨by rw [HY.out]; rfl, B1.out⟩

end Vers
end Go.Proofs.YtekhaejhmlebbaaGreat
