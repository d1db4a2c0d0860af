/-
  firthref02.Next tells what nextF tells.
-/
import Derived.Test.YtgiojcjnljmaiaaNext
import Derived.Test.YtgiojcjnljmaiaaNextFacts
import Derived.Test.YtgiojcjnljmaiaaNumRef
import Derived.Test.YtgiojcjnljmaiaaSame
import Derived.Deep.RegionHeld3
import Derived.Deep.DrawnRows
namespace Go.Proofs.Ytgiojcjnljmaiaa
namespace Frm
open Go.RowKit Num
attribute [local go_sem ↓] Go.wp_at_zero Go.wp_at_succ

set_option maxHeartbeats 1000000 in
set_option maxRecDepth 100000 in
theorem ref_next_any (A : Option Addr) (c : Nat) (zs : List Int) (i : Nat) (w : World) (hr : Ns .u8 w w.heap.size A zs) (hby : ∀ z ∈ zs, 0 ≤ z ∧ z ≤ 255) (hlc : zs.length ≤ c) (hbig : zs.length ≤ 140737488351232) (hi : i ≤ zs.length) :
    Calls Try.prog 10 #[.slice A zs.length c, .int .i64 i] w (Nexts 5 (nextF zs i) w) := by
  have h1 := ref_num_in A c zs i _ w hr hby (by omega) hi
  obtain ⟨⟨n, p, f⟩, hF⟩ : ∃ r, numF zs i = r := ⟨_, rfl⟩
  rw [hF] at h1
  have hok := fun (hf : f = 0) => numF_ok (n := n) (p := p) hby (by rw [hF, hf])
  by_cases he : f = 0
  · have hok1 := hok he
    obtain ⟨N, rfl⟩ := Int.eq_ofNat_of_zero_le hok1.1
    clear hok
    subst he
    obtain ⟨_, g2, g3, g4⟩ := hok1
    by_cases hlong : 1048576 < N
    · have hR : nextF zs i = ([], 0, 3) := by
        unfold nextF
        rw [hF, if_neg (by simp), if_pos (by simp; omega)]
      rw [hR]
      have H1 := Lib.hid h1
      clear h1 hR hF hby hr
      go_enter Try.func10, Try.ntmps10
      go_wp2_with fail
      refine H1.out.mono ?_
      rintro e w1 ⟨rfl, rfl⟩
      go_wp2
      go_ret3
      exact nexts_none _ _ _ _ (Below.refl _ _) _ rfl
    · by_cases hshort : zs.length < p + 4 + N
      · have hR : nextF zs i = ([], 0, 4) := by
          unfold nextF
          rw [hF, if_neg (by simp), if_neg (by simp; omega), if_pos (by simpa using hshort)]
        rw [hR]
        have H1 := Lib.hid h1
        clear h1 hR hF hby hr
        go_enter Try.func10, Try.ntmps10
        go_wp2_with fail
        refine H1.out.mono ?_
        rintro e w1 ⟨rfl, rfl⟩
        go_wp2
        go_ret3
        exact nexts_none _ _ _ _ (Below.refl _ _) _ rfl
      · have hlen : p + 4 + N ≤ zs.length := by omega
        obtain ⟨b, off, rfl, hb, hc⟩ := hr (by omega)
        have hR : (frameF (cutF zs (p + 4) N) = cutF zs i (p + 4 + N - i) → nextF zs i = (cutF zs (p + 4) N, p + 4 + N, 0)) ∧ (¬ frameF (cutF zs (p + 4) N) = cutF zs i (p + 4 + N - i) → nextF zs i = ([], 0, 20)) := by
          constructor
          · intro h
            unfold nextF
            rw [hF, if_neg (by simp), if_neg (by simp; omega), if_neg (by simp; omega)]
            exact if_pos h
          · intro h
            unfold nextF
            rw [hF, if_neg (by simp), if_neg (by simp; omega), if_neg (by simp; omega)]
            exact if_neg h
        have hp : Ns .u8 w w.heap.size _ (cutF zs i (p + 4 + N - i)) := hr.cut i (p + 4 + N - i)
        have hq : Ns .u8 w w.heap.size _ (cutF zs (p + 4) N) := hr.cut (p + 4) N
        have hly : (cutF zs (p + 4) N).length = N := cut_len (by omega)
        have hlz : (cutF zs i (p + 4 + N - i)).length = p + 4 + N - i := cut_len (by omega)
        have hyb := cut_bytes hby (p + 4) N
        have hzb := cut_bytes hby i (p + 4 + N - i)
        obtain ⟨Y, hY⟩ : ∃ Y, cutF zs (p + 4) N = Y := ⟨_, rfl⟩
        obtain ⟨Z, hZ⟩ : ∃ Z, cutF zs i (p + 4 + N - i) = Z := ⟨_, rfl⟩
        rw [hY] at hR hq hly hyb
        rw [hZ] at hR hp hlz hzb
        obtain ⟨F, hFr⟩ : ∃ F, frameF Y = F := ⟨_, rfl⟩
        have hF' := Lib.hid hFr
        have hFb : Hid (∀ z ∈ F, 0 ≤ z ∧ z ≤ 255) := Lib.hid (by rw [← hFr]; exact frame_bytes hyb)
        rw [hFr] at hR
        clear hFr
        have hR1 := hR
        clear hR
        have hR := Lib.hid hR1
        clear hR1
        have HB := Lib.hid (And.intro hyb hzb)
        have H1 := Lib.hid h1
        clear h1 hF hby hr hc hY hZ hyb hzb
        rcases (show p + 4 < c ∨ c = p + 4 by omega) with hcap | rfl
        · go_enter Try.func10, Try.ntmps10
          go_wp2_with fail
          refine H1.out.mono ?_
          rintro e w1 ⟨rfl, rfl⟩
          go_wp2_with fail
          refine Calls.mono (cat_any _ _ _ _ 0 N [] Y rfl hly w.heap.size w (Nat.le_refl _) (Ns.nil _) (by first | exact hq | exact none0 hly (by omega)) (by omega)) ?_
          rintro e w2 ⟨A2, c2, rfl, o2, b2⟩
          rw [List.nil_append] at o2 ⊢
          have n2 := own_ns o2
          have hp2 := hp.below b2
          have hsz2 := b2.size
          go_wp2_with fail
          have h2 := fun W hW => ref_put_any A2 c2 Y W hW HB.out.1 (by omega)
          rw [hF'.out, hly] at h2
          have H2 := Lib.hid h2
          clear h2
          have k2 : ∀ W, Ns .u8 W w.heap.size (some ⟨b, off + i, none⟩) Z → (convert 22 9 (.slice (some ⟨b, off + i, none⟩) (p + 4 + N - i) (c - i))).run Try.prog W = .ok (.string (strOfNums Z)) W := by
            intro W h
            have h' := run_conv_ns (P := Try.prog) W 22 5 9 Try.underlying22 Try.underlying5 Try.underlying9 (c - i) h
            rwa [hlz] at h'
          have d1 : (0 : Int) ≤ (i : Int) := by omega
          have d2 : (i : Int) ≤ (p : Int) + 4 + (N : Int) := by omega
          have d3 : (p : Int) + 4 + (N : Int) ≤ (c : Int) := by omega
          have d4 : ((p : Int) + 4 + (N : Int)).toNat = p + 4 + N := by omega
          have d5 : i < c := by omega
          have d6 : i ≤ p + 4 + N := by omega
          have d7 : p + 4 + N ≤ c := by omega
          have n2d : Ns .u8 w2.drew w2.drew.heap.size A2 Y := n2
          have hkp : ∀ W, Below w2.drew.heap.size w2.drew W → Ns .u8 W w.heap.size (some ⟨b, off + i, none⟩) Z := fun W hb => Ns.keep (w := w2.drew) hp2.drew fun _ hp => hb.cell (Nat.lt_of_lt_of_le hp hsz2)
          have O2 := Lib.hid o2
          have HN := Lib.hid n2d
          clear o2
          have kd := k2 _ hp2.drew
          have K2 := Lib.hid k2
          have HK := Lib.hid hkp
          clear k2 hkp
          go_region_with (first
            | (go_at_call 17; refine (H2.out _ n2d).mono ?_; rintro e w3 ⟨A3, c3, rfl, o3, b3⟩; have k1 := run_conv_ns (P := Try.prog) w3 22 5 9 Try.underlying22 Try.underlying5 Try.underlying9 c3 (own_ns o3); have k3 := K2.out _ (HK.out _ b3)))
          all_goals
            have o3' := Lib.hid (own_below (w := w2.drew) O2.out b3 (Nat.le_refl _))
            have b4 := Lib.hid ((b2.drew).trans (b3.mono hsz2))
            clear o3 b3 H2 O2 K2 HK
            by_cases hFZ : F = Z
            · have hR2 := Lib.hid (hR.out.1 hFZ)
              have hEq : ((strOfNums F).toList == (strOfNums Z).toList) = true := by rw [hFZ]; exact beq_self_eq_true _
              clear hR hFZ
              go_wp2
              all_goals
                rename_i h
                first
                  | (exfalso; rw [hEq] at h; revert h; decide)
                  | (go_ret3; rw [hR2.out]; exact nexts_some (q := p + 4 + N) (v := (p : Int) + 4 + N) hly (by omega) o3'.out b4.out)
            · have hR2 := Lib.hid (hR.out.2 hFZ)
              have hEq : ((strOfNums F).toList == (strOfNums Z).toList) = false := by
                have h := eqB_eq hFb.out HB.out.2
                rw [decide_eq_false hFZ] at h
                exact h
              clear hR hFZ
              go_wp2
              all_goals
                rename_i h
                first
                  | (exfalso; rw [hEq] at h; revert h; decide)
                  | (go_ret3; rw [hR2.out]; exact nexts_none _ _ _ _ b4.out _ rfl)
        · go_enter Try.func10, Try.ntmps10
          go_wp2_with fail
          refine H1.out.mono ?_
          rintro e w1 ⟨rfl, rfl⟩
          go_wp2_with fail
          refine Calls.mono (cat_any _ _ _ _ 0 N [] Y rfl hly w.heap.size w (Nat.le_refl _) (Ns.nil _) (by first | exact hq | exact none0 hly (by omega)) (by omega)) ?_
          rintro e w2 ⟨A2, c2, rfl, o2, b2⟩
          rw [List.nil_append] at o2 ⊢
          have n2 := own_ns o2
          have hp2 := hp.below b2
          have hsz2 := b2.size
          go_wp2_with fail
          have h2 := fun W hW => ref_put_any A2 c2 Y W hW HB.out.1 (by omega)
          rw [hF'.out, hly] at h2
          have H2 := Lib.hid h2
          clear h2
          have k2 : ∀ W, Ns .u8 W w.heap.size (some ⟨b, off + i, none⟩) Z → (convert 22 9 (.slice (some ⟨b, off + i, none⟩) (p + 4 + N - i) (p + 4 - i))).run Try.prog W = .ok (.string (strOfNums Z)) W := by
            intro W h
            have h' := run_conv_ns (P := Try.prog) W 22 5 9 Try.underlying22 Try.underlying5 Try.underlying9 (p + 4 - i) h
            rwa [hlz] at h'
          have d1 : (0 : Int) ≤ (i : Int) := by omega
          have d2 : (i : Int) ≤ (p : Int) + 4 + (N : Int) := by omega
          have d3 : (p : Int) + 4 + (N : Int) ≤ (p : Int) + 4 := by omega
          have d4 : ((p : Int) + 4 + (N : Int)).toNat = p + 4 + N := by omega
          have d5 : i < p + 4 := by omega
          have d6 : i ≤ p + 4 + N := by omega
          have d7 : p + 4 + N ≤ p + 4 := by omega
          have n2d : Ns .u8 w2.drew w2.drew.heap.size A2 Y := n2
          have hkp : ∀ W, Below w2.drew.heap.size w2.drew W → Ns .u8 W w.heap.size (some ⟨b, off + i, none⟩) Z := fun W hb => Ns.keep (w := w2.drew) hp2.drew fun _ hp => hb.cell (Nat.lt_of_lt_of_le hp hsz2)
          have O2 := Lib.hid o2
          have HN := Lib.hid n2d
          clear o2
          have kd := k2 _ hp2.drew
          have K2 := Lib.hid k2
          have HK := Lib.hid hkp
          clear k2 hkp
          go_region_with (first
            | (go_at_call 17; refine (H2.out _ n2d).mono ?_; rintro e w3 ⟨A3, c3, rfl, o3, b3⟩; have k1 := run_conv_ns (P := Try.prog) w3 22 5 9 Try.underlying22 Try.underlying5 Try.underlying9 c3 (own_ns o3); have k3 := K2.out _ (HK.out _ b3)))
          all_goals
            have o3' := Lib.hid (own_below (w := w2.drew) O2.out b3 (Nat.le_refl _))
            have b4 := Lib.hid ((b2.drew).trans (b3.mono hsz2))
            clear o3 b3 H2 O2 K2 HK
            by_cases hFZ : F = Z
            · have hR2 := Lib.hid (hR.out.1 hFZ)
              have hEq : ((strOfNums F).toList == (strOfNums Z).toList) = true := by rw [hFZ]; exact beq_self_eq_true _
              clear hR hFZ
              go_wp2
              all_goals
                rename_i h
                first
                  | (exfalso; rw [hEq] at h; revert h; decide)
                  | (go_ret3; rw [hR2.out]; exact nexts_some (q := p + 4 + N) (v := (p : Int) + 4 + N) hly (by omega) o3'.out b4.out)
            · have hR2 := Lib.hid (hR.out.2 hFZ)
              have hEq : ((strOfNums F).toList == (strOfNums Z).toList) = false := by
                have h := eqB_eq hFb.out HB.out.2
                rw [decide_eq_false hFZ] at h
                exact h
              clear hR hFZ
              go_wp2
              all_goals
                rename_i h
                first
                  | (exfalso; rw [hEq] at h; revert h; decide)
                  | (go_ret3; rw [hR2.out]; exact nexts_none _ _ _ _ b4.out _ rfl)
  · have hR : nextF zs i = ([], 0, f) := by
      unfold nextF
      rw [hF, if_pos he]
    rw [hR]
    obtain ⟨rfl, rfl⟩ := numF_err hF he
    have hb : (f == 0) = false := by simpa using he
    have H1 := Lib.hid h1
    clear h1 hR hF hby hr hok he
    go_enter Try.func10, Try.ntmps10
    go_wp2_with fail
    refine H1.out.mono ?_
    rintro e w1 ⟨rfl, rfl⟩
    go_wp2
    go_ret3
    exact nexts_none _ _ _ _ (Below.refl _ _) _ rfl
end Frm
end Go.Proofs.Ytgiojcjnljmaiaa
