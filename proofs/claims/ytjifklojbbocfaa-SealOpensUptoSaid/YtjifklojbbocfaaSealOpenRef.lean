/-
  firthref13.Open tells openF.
-/
import Derived.Test.YtjifklojbbocfaaSealOpen
namespace Go.Proofs.Ytjifklojbbocfaa
namespace Seal
open Go.RowKit Num Span Ring Go.Proofs.Ytjifklojbbocfaa.Code
attribute [local go_sem ↓] Go.wp_at_zero Go.wp_at_succ

theorem ref_num_at (A : Option Addr) (c n : Nat) (zs : List Int) (hn : zs.length = n) (i : Nat) (B : Nat) (w : World) (hr : Ns .u8 w B A zs) (hby : ∀ z ∈ zs, 0 ≤ z ∧ z ≤ 255) (hbig : n ≤ 140737488355328) (hi : i ≤ n) :
    Calls Try.prog 31 #[.slice A n c, .int .i64 i] w (Tells3 (numF zs i) w) := by
  subst hn
  exact ref_num_in A c zs i B w hr hby hbig hi

set_option maxRecDepth 100000 in
set_option maxHeartbeats 2000000 in
theorem ref_open_any (s : ByteArray) (hs : s.size ≤ 140737488351232) (g : Int) (A : Option Addr) (c n : Nat) (zs : List Int) (hn : zs.length = n) (w : World) (hN : Ns .u8 w w.heap.size A zs) (hby : ∀ z ∈ zs, 0 ≤ z ∧ z ≤ 255) (hc : n ≤ c) (hbig : n ≤ 4294967296) :
    Calls Try.prog 15 #[.string s, .int .i64 g, .slice A n c] w (GotSet w.heap.size (openF s g zs) w) := by
  have h1 := may_any s g hs w
  by_cases hk : okKey s g
  · rw [show decide (okKey s g) = true from decide_eq_true hk] at h1
    by_cases hn0 : n = 0
    · rw [open_nil hk (by omega)]
      subst hn0
      have H1 := Lib.hid h1
      clear h1 hk hN hby hn
      go_enter Try.func15, Try.ntmps15
      go_wp2_with fail
      refine H1.out.mono ?_
      rintro e w' ⟨rfl, rfl⟩
      go_wp2_with fail
      go_ret2
      exact got_none _ _ _ (Below.refl _ _)
    · by_cases hn8 : n < 8
      · rw [open_few hk (by omega) (by omega)]
        have hnz : ((n : Int) == 0) = false := by simpa using hn0
        have hnd : (n : Int) - 8 < 0 := by omega
        have H1 := Lib.hid h1
        clear h1 hk hN hby hn hn0
        go_enter Try.func15, Try.ntmps15
        go_wp2_with fail
        refine H1.out.mono ?_
        rintro e w' ⟨rfl, rfl⟩
        go_wp2_with fail
        go_ret2
        exact got_none _ _ _ (Below.refl _ _)
      · have hn8' : 8 ≤ n := by omega
        obtain ⟨m, hm⟩ : ∃ m, n = m + 8 := ⟨n - 8, by omega⟩
        subst hm
        have hm8 : zs.length - 8 = m := by omega
        have hnz : ((m : Int) + 8 == 0) = false := by simp; omega
        have hmz : decide ((m : Int) < 0) = false := decide_eq_false (by omega)
        have k1 := Cut.cut_h A (m + 8) c m (m : Int) rfl (by omega) hc
        have k2 := Cut.cut_l A (m + 8) c m (m : Int) rfl (by omega)
        rw [show m + 8 - m = 8 by omega] at k2
        have hT : (zs.take m).length = m := by rw [List.length_take]; omega
        have hD : (zs.drop m).length = 8 := by rw [List.length_drop]; omega
        have h2 := ref_num_at A c m (zs.take m) hT 0 _ w (hN.take m) (take_bytes hby m) (by omega) (by omega)
        rw [show openF s g zs = match takeF (zs.take m) with | none => ([], 130) | some (its, l) => if its ≠ g then ([], 131) else if zs.drop m ≠ markL s (zs.take m) then ([], 132) else (l, 0) by
          rcases hq : takeF (zs.take m) with _ | ⟨its, l⟩
          · exact open_none hk (by omega) (by rw [hm8]; exact hq)
          · rw [open_some hk (by omega) (by rw [hm8]; exact hq), hm8]]
        rcases hP : numP (zs.take m) 0 with _ | ⟨one, p⟩
        · have hF : takeF (zs.take m) = none := by unfold takeF; rw [hP]
          have he := numP_none hP
          obtain ⟨⟨x, q, e⟩, hE⟩ : ∃ r, numF (zs.take m) 0 = r := ⟨_, rfl⟩
          rw [hE] at h2 he
          rw [hF]
          have he1 : (e != 0) = true := by simpa using he
          have H1 := Lib.hid h1
          have H2 := Lib.hid h2
          clear h1 h2 hk hN hby hn hn0 hn8 hn8' hm8 hT hD hP hF hE he
          go_enter Try.func15, Try.ntmps15
          go_wp2_with fail
          refine H1.out.mono ?_
          rintro e w' ⟨rfl, rfl⟩
          go_wp2_with fail
          refine H2.out.mono ?_
          rintro e w' ⟨rfl, rfl⟩
          go_wp2_with fail
          go_ret2
          exact got_none _ _ _ (Below.refl _ _)
        · have hF := numP_some hP
          obtain ⟨a1, a2, a3, a4⟩ := numP_ok (take_bytes hby m) (by omega) hP
          have al := std_le a1
          rw [hT] at al
          rw [hF] at h2
          have H1 := Lib.hid h1
          have H2 := Lib.hid h2
          by_cases ho : one = 1
          · subst ho
            have h3 := ref_num_at A c m (zs.take m) hT p _ w (hN.take m) (take_bytes hby m) (by omega) (by omega)
            rcases hP2 : numP (zs.take m) p with _ | ⟨its, q⟩
            · have hF2 : takeF (zs.take m) = none := by unfold takeF; simp only [hP, hP2, if_true]
              have he := numP_none hP2
              obtain ⟨⟨x, q, e⟩, hE⟩ : ∃ r, numF (zs.take m) p = r := ⟨_, rfl⟩
              rw [hE] at h3 he
              rw [hF2]
              have he1 : (e != 0) = true := by simpa using he
              have H3 := Lib.hid h3
              clear h1 h2 h3 hk hN hby hn hn0 hn8 hn8' hm8 hT hD hP hF hP2 hF2 hE he a1 a2 a3 a4
              go_enter Try.func15, Try.ntmps15
              go_wp2_with fail
              refine H1.out.mono ?_
              rintro e w' ⟨rfl, rfl⟩
              go_wp2_with fail
              refine H2.out.mono ?_
              rintro e w' ⟨rfl, rfl⟩
              go_wp2_with fail
              refine H3.out.mono ?_
              rintro e w' ⟨rfl, rfl⟩
              go_wp2_with fail
              go_ret2
              exact got_none _ _ _ (Below.refl _ _)
            · have hF2 := numP_some hP2
              obtain ⟨b1, b2, b3, b4⟩ := numP_ok (take_bytes hby m) (by omega) hP2
              have bl := std_le b1
              rw [hT] at bl
              rw [hF2] at h3
              have k3 := Cut.cut_lh A (m + 8) c q m (q : Int) (m : Int) rfl rfl (by omega) (by omega) hc
              have h4 := refset_any (Cut.tailA A c q) (c - q) (m - q) ((zs.take m).drop q) (by rw [List.length_drop, hT]) w (Cut.tail_ns hT (by omega) (by omega) (hN.take m)) (drop_bytes (take_bytes hby m) q) (by omega) (by omega)
              have hTF : takeF (zs.take m) = if (setF ((zs.take m).drop q)).2 = 0 then some (its, (setF ((zs.take m).drop q)).1) else none := by unfold takeF; simp only [hP, hP2, if_true]
              obtain ⟨⟨l, E⟩, hS⟩ : ∃ r, setF ((zs.take m).drop q) = r := ⟨_, rfl⟩
              rw [hS] at h4 hTF
              simp only at hTF
              rw [hTF]
              have H3 := Lib.hid h3
              have H4 := Lib.hid h4
              have hq0 : (0 : Int) ≤ (q : Int) := by omega
              have hqm : (q : Int) ≤ (m : Int) := by omega
              by_cases hE : E = 0
              · rw [if_pos hE]
                subst hE
                have hsm : s.size ≤ 17592186044416 := by unfold okKey at hk; omega
                have h5 := fun W (hW : Ns .u8 W W.heap.size A zs) => ref_mark_any s hsm A c m (zs.take m) hT (take_bytes hby m) W (hW.take m) (by omega)
                have h6 : ∀ (W : World) (B : Nat), Ns .u8 W B A zs → (convert 25 9 (.slice (Cut.tailA A c m) 8 (c - m))).run Try.prog W = .ok (.string (strOfNums (zs.drop m))) W := fun W B hW => by
                  have h := run_conv_ns (P := Try.prog) W 25 5 9 Try.underlying25 Try.underlying5 Try.underlying9 (c - m) (Cut.tail_ns (m := m) hn (by omega) hc hW)
                  rwa [hD] at h
                have hml := markL_len s (zs.take m)
                have hmb := markL_bytes s (zs.take m)
                have hdb := drop_bytes hby m
                obtain ⟨M, hM⟩ : ∃ M, markL s (zs.take m) = M := ⟨_, rfl⟩
                obtain ⟨D, hDD⟩ : ∃ D, zs.drop m = D := ⟨_, rfl⟩
                have heq : ((strOfNums D).toList == (strOfNums M).toList) = decide (D = M) := by rw [← eqB_eq (by rw [← hDD]; exact hdb) (by rw [← hM]; exact hmb)]; rfl
                rw [hM] at h5 hml ⊢
                rw [hDD] at h6 ⊢
                obtain ⟨Z, hZ⟩ : ∃ Z, (if its ≠ g then (([] : List Sp), (131 : Int)) else if D ≠ M then ([], 132) else (l, 0)) = Z := ⟨_, rfl⟩
                show Calls Try.prog 15 _ w (GotSet w.heap.size (if its ≠ g then (([] : List Sp), (131 : Int)) else if D ≠ M then ([], 132) else (l, 0)) w)
                rw [hZ]
                by_cases hi : its = g
                · subst hi
                  rw [if_neg (by simp)] at hZ
                  have HZ := Lib.hid hZ
                  clear hZ
                  have hi0 : (its != its) = false := by simp
                  have HK := Lib.hid (And.intro hN (And.intro h5 (And.intro h6 (And.intro hml heq))))
                  clear h1 h2 h3 h4 h5 h6 hk hN hby hn hn0 hn8 hn8' hm8 hT hD hP hF hP2 hF2 hTF hS a1 a2 a3 a4 b1 b2 b3 b4 hml hmb hdb hM hDD heq
                  go_enter Try.func15, Try.ntmps15
                  go_wp2_with fail
                  refine H1.out.mono ?_
                  rintro e w' ⟨rfl, rfl⟩
                  go_wp2_with fail
                  refine H2.out.mono ?_
                  rintro e w' ⟨rfl, rfl⟩
                  go_wp2_with fail
                  refine H3.out.mono ?_
                  rintro e w' ⟨rfl, rfl⟩
                  go_wp2_with fail
                  refine H4.out.mono ?_
                  rintro e w1 ⟨A1, c1, rfl, o1, d1⟩
                  have n1 : Ns .u8 w1 w1.heap.size A zs := (HK.out.1.below d1).more d1.size
                  have kd := HK.out.2.2.1 w1.drew _ n1.drew
                  have HX := Lib.hid (And.intro o1 (And.intro d1 n1))
                  clear o1 d1 n1
                  go_wp2_with fail
                  go_region_with (first
                    | (go_at_call 13; refine (HK.out.2.1 w1.drew HX.out.2.2.drew).mono ?_; rintro e w2 ⟨A2, c2, rfl, o2, d2⟩; rw [HK.out.2.2.2.1]; have kk := run_conv_ns (P := Try.prog) w2 25 5 9 Try.underlying25 Try.underlying5 Try.underlying9 c2 (own_ns o2); rw [HK.out.2.2.2.1] at kk; have k5 := HK.out.2.2.1 w2 _ (Ns.below (w := w1.drew) HX.out.2.2.drew d2)))
                  all_goals
                    have b2 : Below w.heap.size w w2 := HX.out.2.1.trans ((Below.refl _ w1).drew.trans (d2.mono HX.out.2.1.size))
                    have o12 := own_below (w := w1.drew) HX.out.1 d2 (Nat.le_refl _)
                    have HY := Lib.hid (And.intro b2 o12)
                    clear b2 o12 o2 d2
                    have heq := HK.out.2.2.2.2
                    by_cases hDM : D = M
                    · have hZ := HZ.out
                      rw [if_neg (by simpa using hDM)] at hZ
                      have HZ2 := Lib.hid hZ
                      rw [decide_eq_true hDM] at heq
                      clear hDM hZ
                      go_wp2
                      all_goals
                        rename_i h
                        first
                          | (exfalso; rw [heq] at h; revert h; decide)
                          | (go_ret2; rw [← HZ2.out]; exact ⟨A1, c1, rfl, HY.out.2, HY.out.1⟩)
                    · have hZ := HZ.out
                      rw [if_pos hDM] at hZ
                      have HZ2 := Lib.hid hZ
                      rw [decide_eq_false hDM] at heq
                      clear hDM hZ
                      go_wp2
                      all_goals
                        rename_i h
                        first
                          | (exfalso; rw [heq] at h; revert h; decide)
                          | (go_ret2; rw [← HZ2.out]; exact got_none _ _ _ HY.out.1)
                · rw [if_pos hi] at hZ
                  rw [← hZ]
                  have hi1 : (its != g) = true := by simpa using hi
                  clear h1 h2 h3 h4 h5 h6 hk hN hby hn hn0 hn8 hn8' hm8 hT hD hP hF hP2 hF2 hTF hS a1 a2 a3 a4 b1 b2 b3 b4 hml hmb hdb hM hDD heq hi hZ
                  go_enter Try.func15, Try.ntmps15
                  go_wp2_with fail
                  refine H1.out.mono ?_
                  rintro e w' ⟨rfl, rfl⟩
                  go_wp2_with fail
                  refine H2.out.mono ?_
                  rintro e w' ⟨rfl, rfl⟩
                  go_wp2_with fail
                  refine H3.out.mono ?_
                  rintro e w' ⟨rfl, rfl⟩
                  go_wp2_with fail
                  refine H4.out.mono ?_
                  rintro e w1 ⟨A1, c1, rfl, o1, d1⟩
                  have HX := Lib.hid d1
                  clear o1 d1
                  go_wp2_with fail
                  go_ret2
                  exact got_none _ _ _ HX.out
              · rw [if_neg hE]
                have hE1 : (E != 0) = true := by simpa using hE
                clear h1 h2 h3 h4 hk hN hby hn hn0 hn8 hn8' hm8 hT hD hP hF hP2 hF2 hTF hS a1 a2 a3 a4 b1 b2 b3 b4 hE
                go_enter Try.func15, Try.ntmps15
                go_wp2_with fail
                refine H1.out.mono ?_
                rintro e w' ⟨rfl, rfl⟩
                go_wp2_with fail
                refine H2.out.mono ?_
                rintro e w' ⟨rfl, rfl⟩
                go_wp2_with fail
                refine H3.out.mono ?_
                rintro e w' ⟨rfl, rfl⟩
                go_wp2_with fail
                refine H4.out.mono ?_
                rintro e w1 ⟨A1, c1, rfl, o1, d1⟩
                have HX := Lib.hid d1
                clear o1 d1
                go_wp2_with fail
                go_ret2
                exact got_none _ _ _ HX.out
          · have hF2 : takeF (zs.take m) = none := by unfold takeF; simp only [hP]; rw [if_neg ho]
            rw [hF2]
            have ho1 : (one != 1) = true := by simpa using ho
            clear h1 h2 hk hN hby hn hn0 hn8 hn8' hm8 hT hD hP hF hF2 a1 a2 a3 a4 ho
            go_enter Try.func15, Try.ntmps15
            go_wp2_with fail
            refine H1.out.mono ?_
            rintro e w' ⟨rfl, rfl⟩
            go_wp2_with fail
            refine H2.out.mono ?_
            rintro e w' ⟨rfl, rfl⟩
            go_wp2_with fail
            go_ret2
            exact got_none _ _ _ (Below.refl _ _)
  · rw [show decide (okKey s g) = false from decide_eq_false hk] at h1
    rw [open_key hk]
    have H1 := Lib.hid h1
    clear h1 hk hN hby hn
    go_enter Try.func15, Try.ntmps15
    go_wp2_with fail
    refine H1.out.mono ?_
    rintro e w' ⟨rfl, rfl⟩
    go_wp2_with fail
    go_ret2
    exact got_none _ _ _ (Below.refl _ _)
end Seal
end Go.Proofs.Ytjifklojbbocfaa
