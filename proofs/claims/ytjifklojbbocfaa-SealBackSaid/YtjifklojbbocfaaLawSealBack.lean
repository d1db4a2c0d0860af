/-
  SealBack (P13.3): what is sealed is opened by who has the secret, as it was; by another group it isn't; by another secret only if the marks are the same. For every input.
-/
import Derived.Test.YtjifklojbbocfaaSealAwake
import Derived.Test.YtjifklojbbocfaaSealArgs
namespace Go.Proofs.Ytjifklojbbocfaa
namespace SealBack
open Go.ChangeShapes Go.WideShapes Go.ChangeAt Go.RowKit Num Span Ring Seal Go.Proofs.Ytjifklojbbocfaa.Code
attribute [local go_sem ↓] Go.wp_at_zero Go.wp_at_succ

set_option maxRecDepth 100000 in
set_option maxHeartbeats 4000000 in
theorem walk (w : World) (s : ByteArray) (g : Int) (hg : -9223372036854775808 ≤ g ∧ g ≤ 9223372036854775807) (hs : s.size ≤ 140737488351232) (s' : ByteArray) (g' : Int) (_hg' : -9223372036854775808 ≤ g' ∧ g' ≤ 9223372036854775807) (hs' : s'.size ≤ 140737488351232)
    (A : Option Addr) (c : Nat) (l : List Sp) (hr : Ss w w.heap.size A l) (hbig : l.length ≤ 140737488355328) (_hlc : l.length ≤ c) :
    Calls Try.prog 5 #[.agg #[.string s, .int .i64 g], .agg #[.string s', .int .i64 g'], .slice A l.length c] w fun e w' => e = .returned (.bool true) ∧ Below w.heap.size w w' := by
  have h1 := fun W (hW : Ss W W.heap.size A l) => seal_any s hs g hg A c _ l rfl W hW hbig
  obtain ⟨m, hm⟩ : ∃ m, l.length = m := ⟨_, rfl⟩
  rw [hm] at h1 ⊢
  have hS : ∀ W, Below w.heap.size w W → Ss W W.heap.size A l := fun W h => (hr.below h).more h.size
  obtain ⟨B, hB⟩ : ∃ B, w.heap.size = B := ⟨_, rfl⟩
  obtain ⟨W, hW⟩ : ∃ W, (w.alloc (.cells #[.string s, .int .i64 g] 23)).alloc (.cells #[.string s', .int .i64 g'] 23) = W := ⟨_, rfl⟩
  have hb0 : Below w.heap.size w W := by rw [← hW]; exact ((Below.refl _ w).alloc (Nat.le_refl _) _).alloc (by simp) _
  have q0 : W.cell? ⟨B, 0, none⟩ = some (.string s) := by rw [← hW, ← hB]; simp
  have q1 : W.cell? ⟨B, 1, none⟩ = some (.int .i64 g) := by rw [← hW, ← hB]; simp
  have q2 : W.cell? ⟨B + 1, 0, none⟩ = some (.string s') := by rw [← hW, ← hB]; simp
  have q3 : W.cell? ⟨B + 1, 1, none⟩ = some (.int .i64 g') := by rw [← hW, ← hB]; simp
  have hBW : B + 1 < W.heap.size := by rw [← hW, ← hB]; simp
  have hq : ∀ V, Below W.heap.size W V → V.cell? ⟨B, 0, none⟩ = some (.string s) ∧ V.cell? ⟨B, 1, none⟩ = some (.int .i64 g) ∧ V.cell? ⟨B + 1, 0, none⟩ = some (.string s') ∧ V.cell? ⟨B + 1, 1, none⟩ = some (.int .i64 g') := fun V h =>
    ⟨(h.cell (p := ⟨B, 0, none⟩) (by show B < _; omega)).trans q0, (h.cell (p := ⟨B, 1, none⟩) (by show B < _; omega)).trans q1, (h.cell (p := ⟨B + 1, 0, none⟩) hBW).trans q2, (h.cell (p := ⟨B + 1, 1, none⟩) hBW).trans q3⟩
  have H0 := Lib.hid (And.intro hW (And.intro hb0 (And.intro hS (And.intro hm hq))))
  by_cases hok : okKey s g ∧ Right l
  · obtain ⟨hk, hR⟩ := hok
    rw [seal_ok hk hR] at h1
    have hml := markL_len s (bodyL g l)
    have hbt := seal_bytes s g l
    have hob := open_back hk hg.2 hR
    have hot := fun (hk' : okKey s' g') => open_token (s' := s') (g' := g') hk hg.2 hR hk' _ hml
    have hok' := fun (hk' : ¬ okKey s' g') => open_key (s := s') (g := g') (zs := bodyL g l ++ markL s (bodyL g l)) hk'
    have hdl := bodyL_len (g := g) hR.1
    have hdb := bodyL_bytes hk.2.2 hR
    have hrm := fun (hk' : okKey s' g') (A' : Option Addr) (c' n : Nat) (hn : (bodyL g l).length = n) W (hW : Ns .u8 W W.heap.size A' (bodyL g l)) => ref_mark_any s' (by unfold okKey at hk'; omega) A' c' n (bodyL g l) hn hdb W hW (by omega)
    rw [seal_ok hk hR] at hbt hob
    simp only at hbt hob
    obtain ⟨M', hM'⟩ : ∃ M', markL s' (bodyL g l) = M' := ⟨_, rfl⟩
    have hml' : M'.length = 8 := by rw [← hM']; exact markL_len _ _
    have hmb' : ∀ z ∈ M', 0 ≤ z ∧ z ≤ 255 := by rw [← hM']; exact markL_bytes _ _
    have hmb : ∀ z ∈ markL s (bodyL g l), 0 ≤ z ∧ z ≤ 255 := markL_bytes _ _
    rw [hM'] at hrm
    simp only [hM'] at hot
    obtain ⟨M, hM⟩ : ∃ M, markL s (bodyL g l) = M := ⟨_, rfl⟩
    rw [hM] at h1 hml hbt hob hot hok' hmb
    obtain ⟨D, hD⟩ : ∃ D, bodyL g l = D := ⟨_, rfl⟩
    rw [hD] at h1 hbt hob hot hok' hdl hrm
    obtain ⟨d, hd⟩ : ∃ d, D.length = d := ⟨_, rfl⟩
    have hL : (D ++ M).length = d + 8 := by rw [List.length_append, hd, hml]
    have hT : (D ++ M).take d = D := by rw [← hd, List.take_left]
    have hP : (D ++ M).drop d = M := by rw [← hd, List.drop_left]
    have hmR : m ≤ 1024 := by rw [← hm]; exact hR.1
    have h2 := fun A' c' (hc' : d + 8 ≤ c') V (hV : Ns .u8 V V.heap.size A' (D ++ M)) => open_any s hs g A' c' (d + 8) (D ++ M) hL V hV hbt hc' (by omega)
    have h3 := fun A' c' (hc' : d + 8 ≤ c') V (hV : Ns .u8 V V.heap.size A' (D ++ M)) => open_any s' hs' g' A' c' (d + 8) (D ++ M) hL V hV hbt hc' (by omega)
    rw [hob] at h2
    have h4 := fun A A' c c' W h h' => Span.same_any A A' c c' m m l l hm hm W h h' (by omega) (by omega)
    rw [show decide (l = l) = true from decide_eq_true rfl] at h4
    have h5 := fun V => may_any s' g' hs' V
    have hd1 : d ≤ 27675 := by omega
    have hbz : ((d : Int) + 8 == 0) = false := by simp; omega
    have H1 := Lib.hid (And.intro h1 (And.intro h2 (And.intro h4 hL)))
    by_cases hk' : okKey s' g'
    · rw [show decide (okKey s' g') = true from decide_eq_true hk'] at h5
      have hot := hot hk'
      by_cases hgg : g = g'
      · subst hgg
        rw [if_neg (by simp)] at hot
        have hrm := fun A' c' V hV => hrm hk' A' c' d hd V hV
        have k1 := fun A' c' (hc' : d + 8 ≤ c') => Cut.cut_h A' (d + 8) c' d (d : Int) rfl (by omega) hc'
        have k2 := fun A' c' => Cut.cut_l A' (d + 8) c' d (d : Int) rfl (by omega)
        rw [show d + 8 - d = 8 by omega] at k2
        have hcv : ∀ (V : World) (Q : Nat) A' c', d + 8 ≤ c' → Ns .u8 V Q A' (D ++ M) → (convert 25 9 (.slice (Cut.tailA A' c' d) 8 (c' - d))).run Try.prog V = .ok (.string (strOfNums M)) V := fun V Q A' c' hc' hV => by
          have h := run_conv_ns (P := Try.prog) V 25 5 9 Try.underlying25 Try.underlying5 Try.underlying9 (c' - d) (Cut.tail_ns (m := d) hL (by omega) hc' hV)
          rwa [hP, hml] at h
        have hcu : ∀ V A' c', Ns .u8 V V.heap.size A' M' → (convert 25 9 (.slice A' 8 c')).run Try.prog V = .ok (.string (strOfNums M')) V := fun V A' c' hV => by
          have h := run_conv_ns (P := Try.prog) V 25 5 9 Try.underlying25 Try.underlying5 Try.underlying9 c' hV
          rwa [hml'] at h
        have htk : ∀ (V : World) A', Ns .u8 V V.heap.size A' (D ++ M) → Ns .u8 V V.heap.size A' D := fun V A' hV => by have := hV.take d; rwa [hT] at this
        have heq : ((strOfNums M').toList == (strOfNums M).toList) = decide (M' = M) := eqB_eq hmb' hmb
        have H6 := Lib.hid (And.intro hrm (And.intro hcv (And.intro hcu (And.intro htk hml'))))
        have hbm : decide ((d : Int) + 8 - 8 < 0) = false := decide_eq_false (by omega)
        by_cases hmm : M = M'
        · rw [if_neg (by simpa using hmm)] at hot
          rw [hot] at h3
          rw [decide_eq_true hmm.symm] at heq
          have H3 := Lib.hid (And.intro h3 h5)
          have HQ := Lib.hid heq
          clear hmm heq hrm k1 k2 hcv hcu htk
          clear h1 h2 h3 h4 h5 hml hbt hob hot hok' hdl hdb hrm hM' hml' hmb' hmb hM hD hd hL hT hP hk hR hS hb0 hW hr hm hq q0 q1 q2 q3 hk'
          go_enter Try.func5, Try.ntmps5
          go_wp2_with fail
          rw [H0.out.1]
          refine (H1.out.1 W (H0.out.2.2.1 W H0.out.2.1)).mono ?_
          intro e w1 hp
          obtain ⟨A1, c1, rfl, n1, hc1, d1⟩ := hp.read
          rw [show (D ++ M, (0 : Int)).1 = D ++ M from rfl, H1.out.2.2.2] at hc1 ⊢
          obtain ⟨p0, p1, p2, p3⟩ := H0.out.2.2.2.2 w1 d1
          have HA := Lib.hid (And.intro (H0.out.2.1.trans (d1.mono H0.out.2.1.size)) (And.intro n1 d1))
          clear n1 d1 hp
          go_wp2_with fail
          refine (awake_any w1).mono ?_
          rintro e w2 ⟨rfl, d2⟩
          have e2 := HA.out.2.2.trans (d2.mono HA.out.2.2.size)
          obtain ⟨r0, r1, r2, r3⟩ := H0.out.2.2.2.2 w2 e2
          have HB := Lib.hid (And.intro (HA.out.1.trans (d2.mono HA.out.1.size)) (And.intro ((HA.out.2.1.below d2).more d2.size) e2))
          clear d2 e2 p0 p1 p2 p3
          go_wp2_with fail
          refine (H1.out.2.1 A1 c1 hc1 w2 HB.out.2.1).mono ?_
          rintro e w3 ⟨A3, c3, rfl, o3, d3⟩
          rw [show (l, (0 : Int)).1 = l from rfl, H0.out.2.2.2.1]
          have e3 := HB.out.2.2.trans (d3.mono HB.out.2.2.size)
          have HC := Lib.hid (And.intro (HB.out.1.trans (d3.mono HB.out.1.size)) (And.intro ((HB.out.2.1.below d3).more d3.size) (And.intro e3 (own_ss o3))))
          clear d3 e3 o3 r0 r1 r2 r3
          go_wp2_with fail
          refine (H1.out.2.2.1 A3 A c3 c w3 HC.out.2.2.2 (H0.out.2.2.1 w3 HC.out.1)).mono ?_
          rintro e w4 ⟨rfl, d4⟩
          have e4 := HC.out.2.2.1.trans (d4.mono HC.out.2.2.1.size)
          obtain ⟨p0, p1, p2, p3⟩ := H0.out.2.2.2.2 w4 e4
          have HD := Lib.hid (And.intro (HC.out.1.trans (d4.mono HC.out.1.size)) (And.intro ((HC.out.2.1.below d4).more d4.size) e4))
          clear d4 e4
          go_wp2_with fail
          refine (H3.out.1 A1 c1 hc1 w4 HD.out.2.1).mono ?_
          rintro e w5 ⟨A5, c5, rfl, o5, d5⟩
          have e5 := HD.out.2.2.trans (d5.mono HD.out.2.2.size)
          obtain ⟨r0, r1, r2, r3⟩ := H0.out.2.2.2.2 w5 e5
          have HE := Lib.hid (And.intro (HD.out.1.trans (d5.mono HD.out.1.size)) (And.intro ((HD.out.2.1.below d5).more d5.size) e5))
          clear d5 e5 o5 p0 p1 p2 p3
          go_wp2_with fail
          refine (H3.out.2 w5).mono ?_
          rintro e w' ⟨rfl, rfl⟩
          go_wp2_with fail
          have v5 := HE.out.2.1
          have kk1 := Cut.cut_h A1 (d + 8) c1 d (d : Int) rfl (by omega) hc1
          have kk2 := Cut.cut_l A1 (d + 8) c1 d (d : Int) rfl (by omega)
          rw [show d + 8 - d = 8 by omega] at kk2
          have x5 := H6.out.2.1 w5.drew _ A1 c1 hc1 v5.drew
          have HV := Lib.hid v5
          clear v5
          go_region_with (first
            | (go_at_call 13; refine (H6.out.1 A1 c1 w5.drew (H6.out.2.2.2.1 w5.drew A1 HV.out.drew)).mono ?_; rintro e w6 ⟨A6, c6, rfl, o6, d6⟩; rw [H6.out.2.2.2.2]; have x6 := H6.out.2.1 w6 _ A1 c1 hc1 (Ns.below (w := w5.drew) HV.out.drew d6); have y6 := H6.out.2.2.1 w6 A6 c6 (own_ns o6)))
          all_goals
            have HF := Lib.hid (HE.out.1.trans (((Below.refl _ w5).drew.trans d6).mono HE.out.1.size))
            have heq := HQ.out
            clear o6 d6
            go_wp2_with fail
            go_ret
            exact ⟨rfl, HF.out⟩
        · rw [if_pos hmm] at hot
          rw [hot] at h3
          rw [decide_eq_false (fun e => hmm e.symm)] at heq
          have H3 := Lib.hid (And.intro h3 h5)
          have HQ := Lib.hid heq
          clear hmm heq hrm k1 k2 hcv hcu htk
          clear h1 h2 h3 h4 h5 hml hbt hob hot hok' hdl hdb hrm hM' hml' hmb' hmb hM hD hd hL hT hP hk hR hS hb0 hW hr hm hq q0 q1 q2 q3 hk'
          go_enter Try.func5, Try.ntmps5
          go_wp2_with fail
          rw [H0.out.1]
          refine (H1.out.1 W (H0.out.2.2.1 W H0.out.2.1)).mono ?_
          intro e w1 hp
          obtain ⟨A1, c1, rfl, n1, hc1, d1⟩ := hp.read
          rw [show (D ++ M, (0 : Int)).1 = D ++ M from rfl, H1.out.2.2.2] at hc1 ⊢
          obtain ⟨p0, p1, p2, p3⟩ := H0.out.2.2.2.2 w1 d1
          have HA := Lib.hid (And.intro (H0.out.2.1.trans (d1.mono H0.out.2.1.size)) (And.intro n1 d1))
          clear n1 d1 hp
          go_wp2_with fail
          refine (awake_any w1).mono ?_
          rintro e w2 ⟨rfl, d2⟩
          have e2 := HA.out.2.2.trans (d2.mono HA.out.2.2.size)
          obtain ⟨r0, r1, r2, r3⟩ := H0.out.2.2.2.2 w2 e2
          have HB := Lib.hid (And.intro (HA.out.1.trans (d2.mono HA.out.1.size)) (And.intro ((HA.out.2.1.below d2).more d2.size) e2))
          clear d2 e2 p0 p1 p2 p3
          go_wp2_with fail
          refine (H1.out.2.1 A1 c1 hc1 w2 HB.out.2.1).mono ?_
          rintro e w3 ⟨A3, c3, rfl, o3, d3⟩
          rw [show (l, (0 : Int)).1 = l from rfl, H0.out.2.2.2.1]
          have e3 := HB.out.2.2.trans (d3.mono HB.out.2.2.size)
          have HC := Lib.hid (And.intro (HB.out.1.trans (d3.mono HB.out.1.size)) (And.intro ((HB.out.2.1.below d3).more d3.size) (And.intro e3 (own_ss o3))))
          clear d3 e3 o3 r0 r1 r2 r3
          go_wp2_with fail
          refine (H1.out.2.2.1 A3 A c3 c w3 HC.out.2.2.2 (H0.out.2.2.1 w3 HC.out.1)).mono ?_
          rintro e w4 ⟨rfl, d4⟩
          have e4 := HC.out.2.2.1.trans (d4.mono HC.out.2.2.1.size)
          obtain ⟨p0, p1, p2, p3⟩ := H0.out.2.2.2.2 w4 e4
          have HD := Lib.hid (And.intro (HC.out.1.trans (d4.mono HC.out.1.size)) (And.intro ((HC.out.2.1.below d4).more d4.size) e4))
          clear d4 e4
          go_wp2_with fail
          refine (H3.out.1 A1 c1 hc1 w4 HD.out.2.1).mono ?_
          rintro e w5 ⟨A5, c5, rfl, o5, d5⟩
          have e5 := HD.out.2.2.trans (d5.mono HD.out.2.2.size)
          obtain ⟨r0, r1, r2, r3⟩ := H0.out.2.2.2.2 w5 e5
          have HE := Lib.hid (And.intro (HD.out.1.trans (d5.mono HD.out.1.size)) (And.intro ((HD.out.2.1.below d5).more d5.size) e5))
          clear d5 e5 o5 p0 p1 p2 p3
          go_wp2_with fail
          refine (H3.out.2 w5).mono ?_
          rintro e w' ⟨rfl, rfl⟩
          go_wp2_with fail
          have v5 := HE.out.2.1
          have kk1 := Cut.cut_h A1 (d + 8) c1 d (d : Int) rfl (by omega) hc1
          have kk2 := Cut.cut_l A1 (d + 8) c1 d (d : Int) rfl (by omega)
          rw [show d + 8 - d = 8 by omega] at kk2
          have x5 := H6.out.2.1 w5.drew _ A1 c1 hc1 v5.drew
          have HV := Lib.hid v5
          clear v5
          go_region_with (first
            | (go_at_call 13; refine (H6.out.1 A1 c1 w5.drew (H6.out.2.2.2.1 w5.drew A1 HV.out.drew)).mono ?_; rintro e w6 ⟨A6, c6, rfl, o6, d6⟩; rw [H6.out.2.2.2.2]; have x6 := H6.out.2.1 w6 _ A1 c1 hc1 (Ns.below (w := w5.drew) HV.out.drew d6); have y6 := H6.out.2.2.1 w6 A6 c6 (own_ns o6)))
          all_goals
            have HF := Lib.hid (HE.out.1.trans (((Below.refl _ w5).drew.trans d6).mono HE.out.1.size))
            have heq := HQ.out
            clear o6 d6
            go_wp2_with fail
            go_ret
            exact ⟨rfl, HF.out⟩
      · rw [if_pos hgg] at hot
        rw [hot] at h3
        have H3 := Lib.hid (And.intro h3 h5)
        have hg1 : (g' != g) = true := by simpa using fun e => hgg e.symm
        have hg2 : (g != g') = true := by simpa using hgg
        clear hgg
        clear h1 h2 h3 h4 h5 hml hbt hob hot hok' hdl hdb hrm hM' hml' hmb' hmb hM hD hd hL hT hP hk hR hS hb0 hW hr hm hq q0 q1 q2 q3 hk'
        go_enter Try.func5, Try.ntmps5
        go_wp2_with fail
        rw [H0.out.1]
        refine (H1.out.1 W (H0.out.2.2.1 W H0.out.2.1)).mono ?_
        intro e w1 hp
        obtain ⟨A1, c1, rfl, n1, hc1, d1⟩ := hp.read
        rw [show (D ++ M, (0 : Int)).1 = D ++ M from rfl, H1.out.2.2.2] at hc1 ⊢
        obtain ⟨p0, p1, p2, p3⟩ := H0.out.2.2.2.2 w1 d1
        have HA := Lib.hid (And.intro (H0.out.2.1.trans (d1.mono H0.out.2.1.size)) (And.intro n1 d1))
        clear n1 d1 hp
        go_wp2_with fail
        refine (awake_any w1).mono ?_
        rintro e w2 ⟨rfl, d2⟩
        have e2 := HA.out.2.2.trans (d2.mono HA.out.2.2.size)
        obtain ⟨r0, r1, r2, r3⟩ := H0.out.2.2.2.2 w2 e2
        have HB := Lib.hid (And.intro (HA.out.1.trans (d2.mono HA.out.1.size)) (And.intro ((HA.out.2.1.below d2).more d2.size) e2))
        clear d2 e2 p0 p1 p2 p3
        go_wp2_with fail
        refine (H1.out.2.1 A1 c1 hc1 w2 HB.out.2.1).mono ?_
        rintro e w3 ⟨A3, c3, rfl, o3, d3⟩
        rw [show (l, (0 : Int)).1 = l from rfl, H0.out.2.2.2.1]
        have e3 := HB.out.2.2.trans (d3.mono HB.out.2.2.size)
        have HC := Lib.hid (And.intro (HB.out.1.trans (d3.mono HB.out.1.size)) (And.intro ((HB.out.2.1.below d3).more d3.size) (And.intro e3 (own_ss o3))))
        clear d3 e3 o3 r0 r1 r2 r3
        go_wp2_with fail
        refine (H1.out.2.2.1 A3 A c3 c w3 HC.out.2.2.2 (H0.out.2.2.1 w3 HC.out.1)).mono ?_
        rintro e w4 ⟨rfl, d4⟩
        have e4 := HC.out.2.2.1.trans (d4.mono HC.out.2.2.1.size)
        obtain ⟨p0, p1, p2, p3⟩ := H0.out.2.2.2.2 w4 e4
        have HD := Lib.hid (And.intro (HC.out.1.trans (d4.mono HC.out.1.size)) (And.intro ((HC.out.2.1.below d4).more d4.size) e4))
        clear d4 e4
        go_wp2_with fail
        refine (H3.out.1 A1 c1 hc1 w4 HD.out.2.1).mono ?_
        rintro e w5 ⟨A5, c5, rfl, o5, d5⟩
        have e5 := HD.out.2.2.trans (d5.mono HD.out.2.2.size)
        obtain ⟨r0, r1, r2, r3⟩ := H0.out.2.2.2.2 w5 e5
        have HE := Lib.hid (And.intro (HD.out.1.trans (d5.mono HD.out.1.size)) (And.intro ((HD.out.2.1.below d5).more d5.size) e5))
        clear d5 e5 o5 p0 p1 p2 p3
        go_wp2_with fail
        refine (H3.out.2 w5).mono ?_
        rintro e w' ⟨rfl, rfl⟩
        go_wp2_with fail
        go_ret
        exact ⟨rfl, HE.out.1⟩
    · rw [show decide (okKey s' g') = false from decide_eq_false hk'] at h5
      rw [hok' hk'] at h3
      have H3 := Lib.hid (And.intro h3 h5)
      clear h1 h2 h3 h4 h5 hml hbt hob hot hok' hdl hdb hrm hM' hml' hmb' hmb hM hD hd hL hT hP hk hR hS hb0 hW hr hm hq q0 q1 q2 q3 hk'
      go_enter Try.func5, Try.ntmps5
      go_wp2_with fail
      rw [H0.out.1]
      refine (H1.out.1 W (H0.out.2.2.1 W H0.out.2.1)).mono ?_
      intro e w1 hp
      obtain ⟨A1, c1, rfl, n1, hc1, d1⟩ := hp.read
      rw [show (D ++ M, (0 : Int)).1 = D ++ M from rfl, H1.out.2.2.2] at hc1 ⊢
      obtain ⟨p0, p1, p2, p3⟩ := H0.out.2.2.2.2 w1 d1
      have HA := Lib.hid (And.intro (H0.out.2.1.trans (d1.mono H0.out.2.1.size)) (And.intro n1 d1))
      clear n1 d1 hp
      go_wp2_with fail
      refine (awake_any w1).mono ?_
      rintro e w2 ⟨rfl, d2⟩
      have e2 := HA.out.2.2.trans (d2.mono HA.out.2.2.size)
      obtain ⟨r0, r1, r2, r3⟩ := H0.out.2.2.2.2 w2 e2
      have HB := Lib.hid (And.intro (HA.out.1.trans (d2.mono HA.out.1.size)) (And.intro ((HA.out.2.1.below d2).more d2.size) e2))
      clear d2 e2 p0 p1 p2 p3
      go_wp2_with fail
      refine (H1.out.2.1 A1 c1 hc1 w2 HB.out.2.1).mono ?_
      rintro e w3 ⟨A3, c3, rfl, o3, d3⟩
      rw [show (l, (0 : Int)).1 = l from rfl, H0.out.2.2.2.1]
      have e3 := HB.out.2.2.trans (d3.mono HB.out.2.2.size)
      have HC := Lib.hid (And.intro (HB.out.1.trans (d3.mono HB.out.1.size)) (And.intro ((HB.out.2.1.below d3).more d3.size) (And.intro e3 (own_ss o3))))
      clear d3 e3 o3 r0 r1 r2 r3
      go_wp2_with fail
      refine (H1.out.2.2.1 A3 A c3 c w3 HC.out.2.2.2 (H0.out.2.2.1 w3 HC.out.1)).mono ?_
      rintro e w4 ⟨rfl, d4⟩
      have e4 := HC.out.2.2.1.trans (d4.mono HC.out.2.2.1.size)
      obtain ⟨p0, p1, p2, p3⟩ := H0.out.2.2.2.2 w4 e4
      have HD := Lib.hid (And.intro (HC.out.1.trans (d4.mono HC.out.1.size)) (And.intro ((HC.out.2.1.below d4).more d4.size) e4))
      clear d4 e4
      go_wp2_with fail
      refine (H3.out.1 A1 c1 hc1 w4 HD.out.2.1).mono ?_
      rintro e w5 ⟨A5, c5, rfl, o5, d5⟩
      have e5 := HD.out.2.2.trans (d5.mono HD.out.2.2.size)
      obtain ⟨r0, r1, r2, r3⟩ := H0.out.2.2.2.2 w5 e5
      have HE := Lib.hid (And.intro (HD.out.1.trans (d5.mono HD.out.1.size)) (And.intro ((HD.out.2.1.below d5).more d5.size) e5))
      clear d5 e5 o5 p0 p1 p2 p3
      go_wp2_with fail
      refine (H3.out.2 w5).mono ?_
      rintro e w' ⟨rfl, rfl⟩
      go_wp2_with fail
      go_ret
      exact ⟨rfl, HE.out.1⟩
  · rw [seal_bad hok] at h1
    have H1 := Lib.hid h1
    clear h1 hok hS hb0 hW hr hm hq q0 q1 q2 q3
    go_enter Try.func5, Try.ntmps5
    go_wp2_with fail
    rw [H0.out.1]
    refine (H1.out W (H0.out.2.2.1 W H0.out.2.1)).mono ?_
    intro e w1 hp
    obtain ⟨A1, c1, rfl, n1, hc1, d1⟩ := hp.read
    have HA := Lib.hid (H0.out.2.1.trans (d1.mono H0.out.2.1.size))
    clear n1 d1 hp hc1
    go_wp2_with fail
    refine (awake_any w1).mono ?_
    rintro e w2 ⟨rfl, d2⟩
    have HB := Lib.hid (HA.out.trans (d2.mono HA.out.size))
    clear d2
    go_wp2_with fail
    refine (awake_any w2).mono ?_
    rintro e w3 ⟨rfl, d3⟩
    have HC := Lib.hid (HB.out.trans (d3.mono HB.out.size))
    clear d3
    go_wp2_with fail
    go_ret
    exact ⟨rfl, HC.out⟩
-- ROW BEGIN
/-- What the walk gives, shut again. -/
theorem contract (H : Type) (enc : TypeId × Value → H) (W : World) (base : Nat) (args : Array Value) (ds gs : List (DataW H)) (before : List MemPlace)
    (hval : ∀ (j : Nat) t v, Try.f5.params[j]? = some t → args[j]? = some v → Value.okWide Try.prog W .any base t v)
    (hW : DataW.Whole enc Try.prog Try.f5.params.toList Rows.sealBackSpec.vars false W args.toList ds gs before)
    (hsz : (DataW.weightsEach Try.prog (Try.f5.params.toList ++ Rows.sealBackSpec.plain.varTypes Try.prog) (ds ++ gs)).all (· ≤ reachBytes) = true) :
    Calls Try.prog 5 args W fun e W' => ∃ v, e = .returned v ∧ Rows.sealBackSpec.post enc Try.prog Try.f5 false true false false W args v W' := by
  have hW' := hW
  obtain ⟨p, q, hA0, hV, hbef, _, _⟩ := hW
  have hA : DataW.TrodAll enc Try.prog W 0 (fun _ => true) true Try.f5.params.toList args.toList ds p := hA0
  have hA1 := hA
  rw [Try.params5] at hA hval hsz
  obtain ⟨v0, vs0, d0, ds0, p0, q0, hargs, rfl, rfl, h0, r0⟩ := trodAll_cons hA
  obtain ⟨v1, vs1, d1, ds1, p1, q1, rfl, rfl, rfl, h1, r1⟩ := trodAll_cons r0
  obtain ⟨v2, vs2, d2, ds2, p2, q2, rfl, rfl, rfl, h2, r2⟩ := trodAll_cons r1
  obtain ⟨rfl, rfl, rfl⟩ := trodAll_nil r2
  obtain rfl : args = #[v0, v1, v2] := by cases args; simp_all
  obtain ⟨rfl, rfl⟩ := trodVars_none hV
  clear hA hargs
  obtain ⟨a0, g0, rfl, w0, b0, u0⟩ := Seal.arg_key (hval 0 23 v0 rfl rfl) h0 (Wgt.wt_arg hsz (j := 0) rfl rfl)
  obtain ⟨a1, g1, rfl, w1, b1, u1⟩ := Seal.arg_key (hval 1 23 v1 rfl rfl) h1 (Wgt.wt_arg hsz (j := 1) rfl rfl)
  obtain ⟨A2, c2, a2, rfl, n2, l2, o2⟩ := Span.open_ss Try.underlying24 Try.underlying45 (by kernel_rfl) Span.cells_span Try.underlying3 Try.underlying2 Try.underlying2 (hval 2 24 v2 rfl rfl) h2
  have b2 := Span.reach_ss hsz (j := 2) rfl rfl Try.underlying24 Span.bytes_span l2 o2
  refine (walk W a0 g0 (wf_int w0) b0 a1 g1 (wf_int w1) b1 A2 c2 a2 n2 (by omega) l2).mono fun e W' ⟨he, hb⟩ => ?_
  subst he
  exact ⟨_, rfl, law_post Facts.laid (by rfl) Try.underlying4 (by rw [Try.params5]; decide +kernel) hW' hA1 rfl hbef rfl rfl rfl hb⟩

set_option maxRecDepth 100000 in
theorem lifted (os : Os) (started : os.Started) (H : Type) (enc : TypeId × Value → H) :
    ReturnsInHanded {} Try.checked os 5 .any (Rows.sealBackSpec.pre6 enc Try.prog Try.f5 Rows.sealBackRow.domain false) (Rows.sealBackSpec.post enc Try.prog Try.f5 false true false false) := by
  refine returnsInHanded_of_change_sized (C := Try.checked) Facts.own started (by kernel_rfl) Try.func5
    (ChangeSpec.witness6 (enc := enc) (C := Try.checked) false ⟨#[], #[.agg #[.string ⟨#[]⟩, .int .i64 0], .agg #[.string ⟨#[]⟩, .int .i64 0], .slice none 0 0], []⟩ 8 (by kernel_rfl) (by kernel_rfl) (by kernel_rfl) (by kernel_rfl)) ?_
  intro W base args ds gs before hval hW _ hsz _
  exact contract H enc W base args ds gs before hval hW hsz

theorem holds : Rows.SealBackSaid :=
  OpenClaim.holds_of_wide 5 Try.f5 rfl rfl rfl rfl rfl rfl rfl ⟨rfl, rfl, rfl, rfl, rfl⟩ rfl rfl rfl rfl rfl (by kernel_rfl) Try.func5 (by kernel_rfl)
    (of_decide_eq_true (by kernel_rfl)) (by unfold Func.isWrapper; first | (rw [if_pos (by decide +kernel)]; kernel_rfl) | (rw [if_neg (by decide +kernel)]; exact ⟨rfl, rfl⟩))
    (fun os started H enc _ => lifted os started H enc)
-- ROW END
end SealBack
end Go.Proofs.Ytjifklojbbocfaa
