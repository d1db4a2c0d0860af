/-
  seal.Open tells openF.
-/
import Derived.Test.YtjifklojbbocfaaSealTake
namespace Go.Proofs.Ytjifklojbbocfaa
namespace Seal
open Go.RowKit Num Span Ring Go.Proofs.Ytjifklojbbocfaa.Code
attribute [local go_sem ↓] Go.wp_at_zero Go.wp_at_succ

theorem got_none (w : World) (E : Int) (w' : World) (hb : Below w.heap.size w w') : GotSet w.heap.size ([], E) w (.returned (.tuple #[.slice none 0 0, .int .i64 E])) w' :=
  ⟨none, 0, rfl, World.ownsRow_nil _ _ _ _, hb⟩

set_option maxRecDepth 100000 in
set_option maxHeartbeats 1000000 in
theorem open_any (s : ByteArray) (hs : s.size ≤ 140737488351232) (g : Int) (A : Option Addr) (c n : Nat) (zs : List Int) (hn : zs.length = n) (w : World) (hN : Ns .u8 w w.heap.size A zs) (hby : ∀ z ∈ zs, 0 ≤ z ∧ z ≤ 255) (hc : n ≤ c) (hbig : n ≤ 4294967296) :
    Calls Try.prog 14 #[.string s, .int .i64 g, .slice A n c] w (GotSet w.heap.size (openF s g zs) w) := by
  have h1 := secret_any s hs w
  by_cases hS : okS s
  · rw [show decide (okS s) = true from decide_eq_true hS] at h1
    by_cases hg0 : 0 ≤ g
    · have hk : okKey s g := (okKey_is s g).2 ⟨hS, hg0⟩
      by_cases hn0 : n = 0
      · rw [open_nil hk (by omega)]
        subst hn0
        have H1 := Lib.hid h1
        clear h1 hS hk hN hby hn
        go_enter Try.func14, Try.ntmps14
        go_wp2_with fail
        refine H1.out.mono ?_
        rintro e w' ⟨rfl, rfl⟩
        go_wp2_with fail
        go_ret2
        exact got_none _ _ _ (Below.refl _ _)
      · by_cases hn8 : n < 8
        · rw [open_few hk (by omega) (by omega)]
          have hnz : ((n : Int) == 0) = false := by simpa using hn0
          have H1 := Lib.hid h1
          clear h1 hS hk hN hby hn hn0
          go_enter Try.func14, Try.ntmps14
          go_wp2_with fail
          refine H1.out.mono ?_
          rintro e w' ⟨rfl, rfl⟩
          go_wp2_with fail
          go_ret2
          exact got_none _ _ _ (Below.refl _ _)
        · have hn8' : 8 ≤ n := by omega
          obtain ⟨m, hm⟩ : ∃ m, n = m + 8 := ⟨n - 8, by omega⟩
          subst hm
          have hm8 : zs.length - 8 = m := by omega
          have hnz : ((m : Int) + 8 == 0) = false := by simp; omega
          have hnz2 : decide ((m : Int) + 8 < 8) = false := decide_eq_false (by omega)
          have k1 := Cut.cut_h A (m + 8) c m (m : Int) rfl (by omega) hc
          have k2 := Cut.cut_l A (m + 8) c m (m : Int) rfl (by omega)
          rw [show m + 8 - m = 8 by omega] at k2
          have h2 := fun W (hW : Ns .u8 W W.heap.size A zs) => take_any A c m (zs.take m) (by rw [List.length_take]; omega) W (hW.take m) (take_bytes hby m) (by omega) (by omega)
          have h3 := fun W (hW : Ns .u8 W W.heap.size A zs) => mark_any s (by unfold okS at hS; omega) A c m (zs.take m) (by rw [List.length_take]; omega) (take_bytes hby m) W (hW.take m) (by omega)
          have hml := markL_len s (zs.take m)
          have h4 := fun (A' : Option Addr) (c' : Nat) W (hW : Ns .u8 W W.heap.size A zs) (hW' : Ns .u8 W W.heap.size A' (markL s (zs.take m))) => bequal_any (Cut.tailA A c m) A' (c - m) c' 8 8 (zs.drop m) (markL s (zs.take m)) (by rw [List.length_drop]; omega) hml _ _ W (Cut.tail_ns hn (by omega) hc hW) hW' (drop_bytes hby m) (markL_bytes _ _)
          have hbq := fun q => (show Below w.heap.size w (w.drewN q) from ⟨rfl, rfl, rfl, Nat.le_refl _, fun _ _ => rfl⟩)
          have HN := Lib.hid hN
          rcases hT : takeF (zs.take m) with _ | ⟨its, l⟩
          · rw [open_none hk (by omega) (by rw [hm8]; exact hT)]
            rw [hT] at h2
            have H1 := Lib.hid (And.intro h1 (And.intro h2 hbq))
            clear h1 h2 h3 h4 hS hk hN hby hn hn0 hn8 hn8' hml hT hm8 hbq
            go_enter Try.func14, Try.ntmps14
            go_wp2_with fail
            refine H1.out.1.mono ?_
            rintro e w' ⟨rfl, rfl⟩
            go_wp2_with fail
            go_quiet (fail)
            go_wp2_with fail
            refine (H1.out.2.1 (w.drewN nq) (HN.out.drewN nq)).mono ?_
            rintro e w1 ⟨x, A1, n1, c1, ok, rfl, d1, rfl⟩
            have HD := Lib.hid ((H1.out.2.2 nq).trans d1)
            clear d1
            go_wp2_with fail
            go_ret2
            exact got_none _ _ _ HD.out
          · rw [open_some hk (by omega) (by rw [hm8]; exact hT), hm8]
            rw [hT] at h2
            obtain ⟨M, hM⟩ : ∃ M, markL s (zs.take m) = M := ⟨_, rfl⟩
            rw [hM] at h3 h4 hml ⊢
            have H1 := Lib.hid (And.intro h1 (And.intro h2 (And.intro hbq (And.intro h3 (And.intro h4 hml)))))
            clear h1 h2 h3 h4 hS hk hN hby hn hn0 hn8 hn8' hml hT hm8 hbq hM
            by_cases hi : its = g
            · subst hi
              rw [if_neg (by simp)]
              have hi0 : (its != its) = false := by simp
              have HK := fun W (hW : Below w.heap.size w W) => (HN.out.below hW).more hW.size
              by_cases hE : zs.drop m = M
              · rw [if_neg (by simpa using hE)]
                have hd : decide (zs.drop m = M) = true := decide_eq_true hE
                rw [hd] at H1
                have HE := Lib.hid HK
                clear hE hd HK
                go_enter Try.func14, Try.ntmps14
                go_wp2_with fail
                refine H1.out.1.mono ?_
                rintro e w' ⟨rfl, rfl⟩
                go_wp2_with fail
                go_quiet (fail)
                go_wp2_with fail
                refine (H1.out.2.1 (w.drewN nq) (HN.out.drewN nq)).mono ?_
                rintro e w1 ⟨x, A1, n1, c1, ok, rfl, d1, rfl, rfl, rfl, o1⟩
                have HD := Lib.hid (And.intro ((H1.out.2.2.1 nq).trans d1) (show w1.ownsRow w.heap.size 45 3 (.slice A1 l.length c1) l.length (sps l) from o1))
                clear d1 o1
                go_wp2_with fail
                refine (H1.out.2.2.2.1 w1 (HE.out w1 HD.out.1)).mono ?_
                rintro e w2 ⟨A2, c2, rfl, o2, d2⟩
                rw [H1.out.2.2.2.2.2]
                have HF := Lib.hid (And.intro (HD.out.1.trans (d2.mono HD.out.1.size)) (And.intro (own_ns o2) (own_below HD.out.2 d2 (Nat.le_refl _))))
                clear o2 d2
                go_wp2_with fail
                refine (H1.out.2.2.2.2.1 A2 c2 w2 (HE.out w2 HF.out.1) HF.out.2.1).mono ?_
                rintro e w' ⟨rfl, rfl⟩
                go_wp2_with fail
                go_ret2
                exact ⟨A1, c1, rfl, HF.out.2.2, HF.out.1⟩
              · rw [if_pos hE]
                have hd : decide (zs.drop m = M) = false := decide_eq_false hE
                rw [hd] at H1
                have HE := Lib.hid HK
                clear hE hd HK
                go_enter Try.func14, Try.ntmps14
                go_wp2_with fail
                refine H1.out.1.mono ?_
                rintro e w' ⟨rfl, rfl⟩
                go_wp2_with fail
                go_quiet (fail)
                go_wp2_with fail
                refine (H1.out.2.1 (w.drewN nq) (HN.out.drewN nq)).mono ?_
                rintro e w1 ⟨x, A1, n1, c1, ok, rfl, d1, rfl, rfl, rfl, o1⟩
                have HD := Lib.hid ((H1.out.2.2.1 nq).trans d1)
                clear d1 o1
                go_wp2_with fail
                refine (H1.out.2.2.2.1 w1 (HE.out w1 HD.out)).mono ?_
                rintro e w2 ⟨A2, c2, rfl, o2, d2⟩
                rw [H1.out.2.2.2.2.2]
                have HF := Lib.hid (And.intro (HD.out.trans (d2.mono HD.out.size)) (own_ns o2))
                clear o2 d2
                go_wp2_with fail
                refine (H1.out.2.2.2.2.1 A2 c2 w2 (HE.out w2 HF.out.1) HF.out.2).mono ?_
                rintro e w' ⟨rfl, rfl⟩
                go_wp2_with fail
                go_ret2
                exact got_none _ _ _ HF.out.1
            · rw [if_pos hi]
              have hi1 : (its != g) = true := by simpa using hi
              clear hi
              go_enter Try.func14, Try.ntmps14
              go_wp2_with fail
              refine H1.out.1.mono ?_
              rintro e w' ⟨rfl, rfl⟩
              go_wp2_with fail
              go_quiet (fail)
              go_wp2_with fail
              refine (H1.out.2.1 (w.drewN nq) (HN.out.drewN nq)).mono ?_
              rintro e w1 ⟨x, A1, n1, c1, ok, rfl, d1, rfl, rfl, rfl, o1⟩
              have HD := Lib.hid ((H1.out.2.2.1 nq).trans d1)
              clear d1 o1
              go_wp2_with fail
              go_ret2
              exact got_none _ _ _ HD.out
    · rw [open_key (fun h => hg0 h.2.2)]
      have hg1 : g < 0 := by omega
      have H1 := Lib.hid h1
      clear h1 hg0 hS hN hby hn
      go_enter Try.func14, Try.ntmps14
      go_wp2_with fail
      refine H1.out.mono ?_
      rintro e w' ⟨rfl, rfl⟩
      go_wp2_with fail
      go_ret2
      exact got_none _ _ _ (Below.refl _ _)
  · rw [show decide (okS s) = false from decide_eq_false hS] at h1
    rw [open_key (fun h => hS ((okKey_is s g).1 h).1)]
    have H1 := Lib.hid h1
    clear h1 hS hN hby hn
    go_enter Try.func14, Try.ntmps14
    go_wp2_with fail
    refine H1.out.mono ?_
    rintro e w' ⟨rfl, rfl⟩
    go_wp2_with fail
    go_ret2
    exact got_none _ _ _ (Below.refl _ _)
end Seal
end Go.Proofs.Ytjifklojbbocfaa
