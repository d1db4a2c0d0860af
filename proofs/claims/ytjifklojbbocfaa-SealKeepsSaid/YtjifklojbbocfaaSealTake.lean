/-
  bytes.Equal; what is marked, taken: seal.take.
-/
import Derived.Test.YtjifklojbbocfaaSealSealRef
import Derived.Test.YtjifklojbbocfaaBytesCut
import Derived.Test.YtjifklojbbocfaaCodeSet
import Derived.Deep.RegionWith
namespace Go.Proofs.Ytjifklojbbocfaa
namespace Seal
open Go.RowKit Num Span Ring Go.Proofs.Ytjifklojbbocfaa.Code
attribute [local go_sem ↓] Go.wp_at_zero Go.wp_at_succ

theorem bequal_any (A A' : Option Addr) (c c' n n' : Nat) (xs ys : List Int) (hn : xs.length = n) (hn' : ys.length = n') (B B' : Nat) (w : World) (hx : Ns .u8 w B A xs) (hy : Ns .u8 w B' A' ys) (bx : ∀ z ∈ xs, 0 ≤ z ∧ z ≤ 255) (bz : ∀ z ∈ ys, 0 ≤ z ∧ z ≤ 255) :
    Calls Try.prog 30 #[.slice A n c, .slice A' n' c'] w (IsBool (decide (xs = ys)) w) := by
  rw [← eqB_eq bx bz]
  subst hn
  subst hn'
  have k1 := run_conv_ns (P := Try.prog) w 25 5 9 Try.underlying25 Try.underlying5 Try.underlying9 c hx
  have k2 := run_conv_ns (P := Try.prog) w 25 5 9 Try.underlying25 Try.underlying5 Try.underlying9 c' hy
  clear hx hy bx bz
  go_enter Try.func30, Try.ntmps30
  go_wp2
  go_ret
  exact ⟨rfl, rfl⟩

/-- The group and the set of what is marked. -/
def TOut (B : Nat) (r : Option (Int × List Sp)) (w : World) (e : Ending) (w' : World) : Prop :=
  ∃ (x : Int) (A : Option Addr) (n c : Nat) (ok : Bool), e = .returned (.tuple #[.int .i64 x, .slice A n c, .bool ok]) ∧ Below B w w' ∧
    match r with
    | some (g, l) => x = g ∧ n = l.length ∧ ok = true ∧ w'.ownsRow B 45 3 (.slice A n c) n (sps l)
    | none => ok = false

set_option maxRecDepth 100000 in
set_option maxHeartbeats 1000000 in
theorem take_any (A : Option Addr) (c n : Nat) (zs : List Int) (hn : zs.length = n) (w : World) (hN : Ns .u8 w w.heap.size A zs) (hby : ∀ z ∈ zs, 0 ≤ z ∧ z ≤ 255) (hc : n ≤ c) (hbig : n ≤ 4294967296) :
    Calls Try.prog 29 #[.slice A n c] w (TOut w.heap.size (takeF zs) w) := by
  have h1 := num_at A c n zs hn 0 _ w hN hby (by omega) (by omega)
  rcases hP : numP zs 0 with _ | ⟨one, p⟩
  · have hT : takeF zs = none := by unfold takeF; rw [hP]
    have he := numP_none hP
    obtain ⟨⟨x, q, e⟩, hF⟩ : ∃ r, numF zs 0 = r := ⟨_, rfl⟩
    rw [hF] at h1 he
    rw [hT]
    have he1 : (e != 0) = true := by simpa using he
    have H1 := Lib.hid h1
    clear h1 hT hP hF he hN hby hn
    go_enter Try.func29, Try.ntmps29
    go_wp2_with fail
    refine H1.out.mono ?_
    rintro e w' ⟨rfl, rfl⟩
    go_wp2_with fail
    go_ret3
    exact ⟨0, none, 0, 0, false, rfl, Below.refl _ _, rfl⟩
  · have hF := numP_some hP
    obtain ⟨a1, a2, a3, a4⟩ := numP_ok hby (by omega) hP
    have al := std_le a1
    rw [hF] at h1
    by_cases ho : one = 1
    · subst ho
      have h2 := num_at A c n zs hn p _ w hN hby (by omega) (by omega)
      rcases hP2 : numP zs p with _ | ⟨g, q⟩
      · have hT : takeF zs = none := by unfold takeF; simp only [hP, hP2, if_true]
        have he := numP_none hP2
        obtain ⟨⟨x, q, e⟩, hF2⟩ : ∃ r, numF zs p = r := ⟨_, rfl⟩
        rw [hF2] at h2 he
        rw [hT]
        have he1 : (e != 0) = true := by simpa using he
        have H1 := Lib.hid (And.intro h1 h2)
        clear h1 h2 hT hP hF hP2 hF2 he hN hby hn a1 a2 a3 a4 al
        go_enter Try.func29, Try.ntmps29
        go_wp2_with fail
        refine H1.out.1.mono ?_
        rintro e w' ⟨rfl, rfl⟩
        go_wp2_with fail
        refine H1.out.2.mono ?_
        rintro e w' ⟨rfl, rfl⟩
        go_wp2_with fail
        go_ret3
        exact ⟨0, none, 0, 0, false, rfl, Below.refl _ _, rfl⟩
      · have hF2 := numP_some hP2
        obtain ⟨b1, b2, b3, b4⟩ := numP_ok hby (by omega) hP2
        have bl := std_le b1
        rw [hF2] at h2
        have hT : takeF zs = if (setF (zs.drop q)).2 = 0 then some (g, (setF (zs.drop q)).1) else none := by unfold takeF; simp only [hP, hP2, if_true]
        have hcut := Cut.cut_l A n c q (q : Int) rfl (by omega)
        have h3 := set_any (Cut.tailA A c q) (c - q) (n - q) (zs.drop q) (by rw [List.length_drop]; omega) w (Cut.tail_ns hn (by omega) hc hN) (drop_bytes hby q) (by omega) (by omega)
        obtain ⟨⟨l, E⟩, hS⟩ : ∃ r, setF (zs.drop q) = r := ⟨_, rfl⟩
        rw [hS] at h3 hT
        simp only at hT
        rw [hT]
        have H1 := Lib.hid (And.intro h1 (And.intro h2 h3))
        clear h1 h2 h3 hT hP hF hP2 hF2 hS hN hby hn a1 a2 a3 a4 al b1 b2 b3 b4
        by_cases hE : E = 0
        · rw [if_pos hE]
          subst hE
          go_enter Try.func29, Try.ntmps29
          go_wp2_with fail
          refine H1.out.1.mono ?_
          rintro e w' ⟨rfl, rfl⟩
          go_wp2_with fail
          refine H1.out.2.1.mono ?_
          rintro e w' ⟨rfl, rfl⟩
          go_wp2_with fail
          refine H1.out.2.2.mono ?_
          rintro e w1 ⟨A1, c1, rfl, o1, d1⟩
          have HE := Lib.hid (And.intro o1 d1)
          clear o1 d1
          go_wp2_with fail
          go_ret3
          exact ⟨g, A1, l.length, c1, true, rfl, HE.out.2, rfl, rfl, rfl, HE.out.1⟩
        · rw [if_neg hE]
          have hE1 : (E == 0) = false := by simpa using hE
          go_enter Try.func29, Try.ntmps29
          go_wp2_with fail
          refine H1.out.1.mono ?_
          rintro e w' ⟨rfl, rfl⟩
          go_wp2_with fail
          refine H1.out.2.1.mono ?_
          rintro e w' ⟨rfl, rfl⟩
          go_wp2_with fail
          refine H1.out.2.2.mono ?_
          rintro e w1 ⟨A1, c1, rfl, o1, d1⟩
          have HE := Lib.hid (And.intro o1 d1)
          clear o1 d1
          go_wp2_with fail
          go_ret3
          exact ⟨g, A1, l.length, c1, false, rfl, HE.out.2, rfl⟩
    · have hT : takeF zs = none := by unfold takeF; simp only [hP]; rw [if_neg ho]
      rw [hT]
      have ho1 : (one != 1) = true := by simpa using ho
      have H1 := Lib.hid h1
      clear h1 hT hP hF ho hN hby hn a1 a2 a3 a4 al
      go_enter Try.func29, Try.ntmps29
      go_wp2_with fail
      refine H1.out.mono ?_
      rintro e w' ⟨rfl, rfl⟩
      go_wp2_with fail
      go_ret3
      exact ⟨0, none, 0, 0, false, rfl, Below.refl _ _, rfl⟩
end Seal
end Go.Proofs.Ytjifklojbbocfaa
