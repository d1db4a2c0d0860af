/-
  VersMerges (P5.2, P5.5): sibling sets are joined without order and brackets, and what stays is just what no other version came behind. For every input.
-/
import Derived.Test.YthiiganfoecmnaaVersAwake
import Derived.Test.YthiiganfoecmnaaVersArgs
import Derived.Test.YthiiganfoecmnaaVersLawPlain
namespace Go.Proofs.Ythiiganfoecmnaa
namespace VersMerges
open Go.ChangeShapes Go.WideShapes Go.ChangeAt Go.RowKit Span Vers
attribute [local go_sem ↓] Go.wp_at_zero Go.wp_at_succ

/-- An answer of Merge, read: n is how long it is. -/
theorem post_read {B : Nat} {L : List Vr} {E : Int} {k : Nat} (hk : L.length = k) (w : World) (e : Ending) (w' : World) (h : Merged B (L, E) w e w') :
    ∃ A c, e = .returned (.tuple #[.slice A k c, .int .i64 E]) ∧ k ≤ c ∧ Vs w' 0 w'.heap.size A L ∧ Below w.heap.size w w' := by
  obtain ⟨A, c, rfl, hc, o, b⟩ := h
  exact ⟨A, c, by rw [← hk], by rw [← hk]; exact hc, o.less (Nat.zero_le _), b⟩
theorem three_bools {Q1 Q2 Q3 : Bool} {p q r : Prop} [Decidable p] [Decidable q] [Decidable r] (h1 : decide p = Q1) (h2 : decide q = Q2) (h3 : decide r = Q3) (h : r ↔ ¬ p ∧ ¬ q) : Q3 = (!Q1 && !Q2) := by
  rw [← h1, ← h2, ← h3, Bool.eq_iff_iff]
  simp [h]

set_option maxRecDepth 100000 in
set_option maxHeartbeats 4000000 in
theorem walk (w : World) (A : Option Addr) (c : Nat) (a : List Vr) (hr : Vs w 0 w.heap.size A a) (hbig : a.length * 64 ≤ 140737488351232) (hlc : a.length ≤ c)
    (A' : Option Addr) (c' : Nat) (b : List Vr) (hr' : Vs w 0 w.heap.size A' b) (hbig' : b.length * 64 ≤ 140737488351232) (hlc' : b.length ≤ c')
    (A'' : Option Addr) (c'' : Nat) (d : List Vr) (hr'' : Vs w 0 w.heap.size A'' d) (hbig'' : d.length * 64 ≤ 140737488351232) (hlc'' : d.length ≤ c'') :
    Calls Try.prog 5 #[.slice A a.length c, .slice A' b.length c', .slice A'' d.length c''] w fun e w' => e = .returned (.bool true) ∧ Below w.heap.size w w' := by
  have hS : ∀ W, Below w.heap.size w W → Vs W 0 W.heap.size A a ∧ Vs W 0 W.heap.size A' b ∧ Vs W 0 W.heap.size A'' d := fun W h => ⟨(hr.below h).more h.size, (hr'.below h).more h.size, (hr''.below h).more h.size⟩
  have h1 := fun W h => merge_any A A' c c' a.length b.length a b rfl rfl hlc hlc' W (hS W h).1 (hS W h).2.1 (by omega) (by omega)
  have h2 := fun W h => merge_any A' A c' c b.length a.length b a rfl rfl hlc' hlc W (hS W h).2.1 (hS W h).1 (by omega) (by omega)
  obtain ⟨m, hm⟩ : ∃ m, a.length = m := ⟨_, rfl⟩
  obtain ⟨m', hm'⟩ : ∃ m', b.length = m' := ⟨_, rfl⟩
  obtain ⟨m'', hm''⟩ : ∃ m', d.length = m' := ⟨_, rfl⟩
  rw [hm, hm'] at h1 h2
  rw [hm] at hbig hlc
  rw [hm'] at hbig' hlc'
  rw [hm''] at hbig'' hlc''
  rw [hm, hm', hm'']
  have hL := merge_len a b
  obtain ⟨⟨L, E⟩, hR⟩ : ∃ R, mergeF a b = R := ⟨_, rfl⟩
  simp only [merge_comm b a] at h2
  simp only [hR] at h1 h2 hL
  obtain ⟨k, hk⟩ : ∃ k, L.length = k := ⟨_, rfl⟩
  rw [hk] at hL
  have h3 := fun A A' c c' W h h' => ref_sameV_any A A' c c' k k L L hk hk W h h' (by omega) (by omega)
  rw [show decide (L = L) = true from decide_eq_true rfl] at h3
  have HJ := Lib.hid (fun B => post_read (B := B) (E := E) hk)
  have HS := Lib.hid hS
  have H1 := Lib.hid h1
  have H2 := Lib.hid h2
  have H3 := Lib.hid h3
  have HA := Lib.hid (And.intro hm (And.intro hm' (And.intro hm'' (And.intro hR hk))))
  clear h1 h2 h3 hS hr hr' hr'' hm hm' hm'' hR hk
  go_enter Try.func5, Try.ntmps5
  go_wp2_with fail
  refine (awake_any w).mono ?_
  rintro e w0 ⟨rfl, b0⟩
  have B0 := Lib.hid b0
  clear b0
  go_wp2_with fail
  refine (H1.out w0 B0.out).mono ?_
  intro e w1 hp
  obtain ⟨A1, c1, rfl, lc1, n1, b1⟩ := HJ.out _ _ _ _ hp
  have B1 := Lib.hid (B0.out.trans (b1.mono B0.out.size))
  have X1 := Lib.hid n1
  clear hp b1 n1 B0 H1
  go_wp2_with fail
  refine (H2.out w1 B1.out).mono ?_
  intro e w2 hp
  obtain ⟨A2, c2, rfl, lc2, n2, b2⟩ := HJ.out _ _ _ _ hp
  have B2 := Lib.hid (B1.out.trans (b2.mono B1.out.size))
  have X2 := Lib.hid ((X1.out.below b2).more b2.size)
  have Y2 := Lib.hid n2
  clear hp b2 n2 X1 B1 H2 HJ
  go_wp2_with fail
  refine (H3.out A1 A2 c1 c2 w2 X2.out Y2.out).mono ?_
  rintro e w3 ⟨rfl, b3⟩
  have B3 := Lib.hid (B2.out.trans (b3.mono B2.out.size))
  have X3 := Lib.hid ((X2.out.below b3).more b3.size)
  clear b3 X2 Y2 B2
  by_cases hE : E = 0
  rotate_left
  · have g1 : (E == 0) = false := by simpa using hE
    have g2 : (E != 0) = true := by simpa using hE
    have hk0 : k = 0 := by
      have h1 := HA.out.2.2.2
      rw [← h1.2, merge_empty h1.1 hE]
      rfl
    subst hk0
    go_wp2_with fail
    go_ret
    exact ⟨rfl, B3.out⟩
  subst hE
  have hrt := merge_right HA.out.2.2.2.1
  have hm5 : m ≤ 512 := by have h1 := hrt.1.1; rw [HA.out.1] at h1; exact h1
  have hm5' : m' ≤ 512 := by have h1 := hrt.2.1.1; rw [HA.out.2.1] at h1; exact h1
  clear hrt
  go_wp2_with fail
  go_loopw [11] (fun iv wr => ∃ i : Nat, iv = .int .i64 i ∧ i ≤ m ∧ Below w3.heap.size w3 wr) (fun iv _ => m - (intOf iv).toNat)
  case atStart => exact ⟨0, rfl, by omega, Below.refl _ _⟩
  case round =>
    obtain ⟨i, rfl, hi, hb⟩ := hrel
    have BW := Lib.hid (B3.out.trans (hb.mono B3.out.size))
    have XW := Lib.hid ((X3.out.below hb).more hb.size)
    by_cases hlt : i < m
    · obtain ⟨pb, off, Ap, cp, e1, _, hpB, a0, a1, a2, a3, a4, hpa⟩ := (HS.out w3 B3.out).1.at HA.out.1 hb hlt rfl
      subst e1
      have hmem : a.getD i v0 ∈ a := mem_v (by have := HA.out.1; omega)
      have hsh := stays_has HA.out.2.2.2.1 hmem
      obtain ⟨v, hvv⟩ : ∃ v, a.getD i v0 = v := ⟨_, rfl⟩
      rw [hvv] at a0 a1 hsh
      clear hvv hmem a2 a3 a4 hpa
      obtain ⟨s, vn, vp, vg, vx⟩ := v
      simp only at a0 a1 hsh
      have g1 := fun W (h : Below w.heap.size w W) => behind_any (some ⟨pb, off, none⟩) c m a HA.out.1 s vn W (HS.out W h).1 (by omega)
      have g2 := fun W (h : Below w.heap.size w W) => behind_any A' c' m' b HA.out.2.1 s vn W (HS.out W h).2.1 (by omega)
      have g3 := fun W (h : Below wr.heap.size wr W) => has_any A1 c1 k L HA.out.2.2.2.2 s vn W ((XW.out.below h).more h.size) (by omega)
      obtain ⟨Q1, hQ1⟩ : ∃ Q, decide (behind a s vn) = Q := ⟨_, rfl⟩
      obtain ⟨Q2, hQ2⟩ : ∃ Q, decide (behind b s vn) = Q := ⟨_, rfl⟩
      obtain ⟨Q3, hQ3⟩ : ∃ Q, decide (hasD L s vn) = Q := ⟨_, rfl⟩
      have h3 := three_bools hQ1 hQ2 hQ3 hsh
      rw [hQ1] at g1
      rw [hQ2] at g2
      rw [hQ3] at g3
      have lb : pb < wr.heap.size := by have := hb.size; omega
      have d1 : (0 : Int) ≤ (i : Int) := by omega
      have d2 : (i : Int) < (m : Int) := by omega
      have G1 := Lib.hid g1
      have G2 := Lib.hid g2
      have G3 := Lib.hid g3
      have HB := Lib.hid hb
      have HC : Hid (wr.cell? ⟨pb, off + i * 5, none⟩ = some (.int .i64 s) ∧ wr.cell? ⟨pb, off + i * 5 + 1, none⟩ = some (.int .i64 vn)) := Lib.hid ⟨a0, a1⟩
      clear g1 g2 g3 hQ1 hQ2 hQ3 hsh hb
      go_wp2_with fail
      refine (G1.out wr BW.out).mono ?_
      rintro e w4 ⟨rfl, b4⟩
      have C4 := Lib.hid b4
      have s4 := b4.size
      clear a0 a1 b4
      have z0 := cell_below C4.out lb HC.out.1
      have z1 := cell_below C4.out lb HC.out.2
      rcases Q1 with _ | _
      · go_wp2_with fail
        refine (G2.out w4 (BW.out.trans (C4.out.mono BW.out.size))).mono ?_
        rintro e w5 ⟨rfl, b5⟩
        have C5 := Lib.hid (C4.out.trans (b5.mono s4))
        clear b5 z0 z1
        have z0 := cell_below C5.out lb HC.out.1
        have z1 := cell_below C5.out lb HC.out.2
        rcases Q2 with _ | _
        all_goals
          obtain rfl : Q3 = _ := h3
          go_wp2_with fail
          refine (G3.out w5 C5.out).mono ?_
          rintro e w6 ⟨rfl, b6⟩
          have C6 := Lib.hid (HB.out.trans ((C5.out.trans (b6.mono C5.out.size)).mono HB.out.size))
          clear b6
          go_wp2_with fail
          exact ⟨⟨i + 1, rfl, by omega, C6.out⟩, by simp only [intOf]; omega⟩
      · obtain rfl : Q3 = _ := h3
        go_wp2_with fail
        refine (G3.out w4 C4.out).mono ?_
        rintro e w6 ⟨rfl, b6⟩
        have C6 := Lib.hid (HB.out.trans ((C4.out.trans (b6.mono C4.out.size)).mono HB.out.size))
        clear b6
        go_wp2_with fail
        exact ⟨⟨i + 1, rfl, by omega, C6.out⟩, by simp only [intOf]; omega⟩
    · have him : i = m := by omega
      subst him
      have hrt := merge_right HA.out.2.2.2.1
      have g1 := rightV_any A1 c1 k L HA.out.2.2.2.2 wr XW.out (by omega)
      rw [decide_eq_true hrt.2.2.2.2] at g1
      have G1 := Lib.hid g1
      clear g1 hrt hb hlt
      go_wp2_with fail
      refine G1.out.mono ?_
      rintro e w4 ⟨rfl, b4⟩
      have B4 := Lib.hid (BW.out.trans (b4.mono BW.out.size))
      have X4 := Lib.hid ((XW.out.below b4).more b4.size)
      clear b4 BW XW G1
      have hv4 := HS.out w4 B4.out
      have g2 := plain_any A A' A'' c c' c'' i m' m'' a b d HA.out.1 HA.out.2.1 HA.out.2.2.1 w4 hv4.1 hv4.2.1 hv4.2.2 hm5 hm5' hbig''
      obtain ⟨P, hP⟩ : ∃ P, decide (plainF (a ++ b ++ d)) = P := ⟨_, rfl⟩
      rw [hP] at g2
      have G2 := Lib.hid g2
      have HP := Lib.hid hP
      clear g2 hP hv4
      go_wp2_with fail
      refine G2.out.mono ?_
      rintro e w5 ⟨rfl, b5⟩
      have B5 := Lib.hid (B4.out.trans (b5.mono B4.out.size))
      have X5 := Lib.hid ((X4.out.below b5).more b5.size)
      clear b5 B4 X4 G2
      rcases P with _ | _
      · have hrt := merge_right HA.out.2.2.2.1
        have g1 := rightV_any A1 c1 k L HA.out.2.2.2.2 w5 X5.out (by omega)
        rw [decide_eq_true hrt.2.2.2.2] at g1
        have G1 := Lib.hid g1
        clear g1 hrt
        go_wp2_with fail
        refine G1.out.mono ?_
        rintro e w6 ⟨rfl, b6⟩
        have B6 := Lib.hid (B5.out.trans (b6.mono B5.out.size))
        clear b6
        go_wp2_with fail
        go_ret
        exact ⟨rfl, B6.out⟩
      have hpl := of_decide_eq_true HP.out
      have hag := merge_again hpl HA.out.2.2.2.1
      have g1 := merge_any A1 A' c1 c' k m' L b HA.out.2.2.2.2 HA.out.2.1 lc1 hlc' w5 X5.out (HS.out w5 B5.out).2.1 (by omega) (by omega)
      rw [hag] at g1
      have G1 := Lib.hid (g1.mono fun e w' h => post_read HA.out.2.2.2.2 _ _ _ h)
      have HPL := Lib.hid hpl
      clear g1 hag hpl HP
      go_wp2_with fail
      refine G1.out.mono ?_
      rintro e w6 ⟨A6, c6, rfl, lc6, n6, b6⟩
      have B6 := Lib.hid (B5.out.trans (b6.mono B5.out.size))
      have X6 := Lib.hid ((X5.out.below b6).more b6.size)
      have Y6 := Lib.hid n6
      clear b6 n6 B5 X5 G1
      go_wp2_with fail
      refine (H3.out A6 A1 c6 c1 w6 Y6.out X6.out).mono ?_
      rintro e w7 ⟨rfl, b7⟩
      have B7 := Lib.hid (B6.out.trans (b7.mono B6.out.size))
      have X7 := Lib.hid ((X6.out.below b7).more b7.size)
      clear b7 X6 Y6 B6
      have hv7 := HS.out w7 B7.out
      have g1 := merge_any A' A'' c' c'' m' m'' b d HA.out.2.1 HA.out.2.2.1 hlc' hlc'' w7 hv7.2.1 hv7.2.2 (by omega) (by omega)
      have hul := merge_len b d
      obtain ⟨⟨U, EU⟩, hU⟩ : ∃ R, mergeF b d = R := ⟨_, rfl⟩
      rw [hU] at g1 hul
      simp only at hul
      obtain ⟨ku, hku⟩ : ∃ k, U.length = k := ⟨_, rfl⟩
      rw [hku] at hul
      have G1 := Lib.hid (g1.mono fun e w' h => post_read hku _ _ _ h)
      have HU := Lib.hid (And.intro hU hku)
      clear g1 hU hku hv7
      go_wp2_with fail
      refine G1.out.mono ?_
      rintro e w8 ⟨A8, c8, rfl, lc8, n8, b8⟩
      have B8 := Lib.hid (B7.out.trans (b8.mono B7.out.size))
      have X8 := Lib.hid ((X7.out.below b8).more b8.size)
      have Y8 := Lib.hid n8
      clear b8 n8 B7 X7 G1
      by_cases hEU : EU = 0
      rotate_left
      · have g1 : (EU == 0) = false := by simpa using hEU
        have g2 : (EU != 0) = true := by simpa using hEU
        go_wp2_with fail
        go_ret
        exact ⟨rfl, B8.out⟩
      subst hEU
      have g1 := merge_any A1 A'' c1 c'' k m'' L d HA.out.2.2.2.2 HA.out.2.2.1 lc1 hlc'' w8 X8.out (HS.out w8 B8.out).2.2 (by omega) (by omega)
      obtain ⟨⟨M, EM⟩, hM⟩ : ∃ R, mergeF L d = R := ⟨_, rfl⟩
      have hml := merge_len L d
      rw [hM] at g1 hml
      simp only at hml
      obtain ⟨km, hkm⟩ : ∃ k, M.length = k := ⟨_, rfl⟩
      rw [hkm] at hml
      have G1 := Lib.hid (g1.mono fun e w' h => post_read hkm _ _ _ h)
      have HM := Lib.hid (And.intro hM hkm)
      clear g1 hM hkm
      go_wp2_with fail
      refine G1.out.mono ?_
      rintro e w9 ⟨A9, c9, rfl, lc9, n9, b9⟩
      have B9 := Lib.hid (B8.out.trans (b9.mono B8.out.size))
      have X9 := Lib.hid ((Y8.out.below b9).more b9.size)
      have Y9 := Lib.hid n9
      clear b9 n9 B8 X8 Y8 G1
      have g1 := merge_any A A8 c c8 i ku a U HA.out.1 HU.out.2 hlc lc8 w9 (HS.out w9 B9.out).1 X9.out (by omega) (by omega)
      obtain ⟨⟨K, EK⟩, hK⟩ : ∃ R, mergeF a U = R := ⟨_, rfl⟩
      have hkl := merge_len a U
      rw [hK] at g1 hkl
      simp only at hkl
      obtain ⟨kk, hkk⟩ : ∃ k, K.length = k := ⟨_, rfl⟩
      rw [hkk] at hkl
      have G1 := Lib.hid (g1.mono fun e w' h => post_read hkk _ _ _ h)
      have HK := Lib.hid (And.intro hK hkk)
      clear g1 hK hkk
      go_wp2_with fail
      refine G1.out.mono ?_
      rintro e wa ⟨Aa, ca, rfl, lca, na, ba⟩
      have Ba := Lib.hid (B9.out.trans (ba.mono B9.out.size))
      have Xa := Lib.hid ((Y9.out.below ba).more ba.size)
      have Ya := Lib.hid na
      clear ba na B9 X9 Y9 G1
      by_cases hEM : EM = 0
      rotate_left
      · have g1 : (EM == 0) = false := by simpa using hEM
        have g2 : (EM != 0) = true := by simpa using hEM
        go_wp2_with fail
        go_ret
        exact ⟨rfl, Ba.out⟩
      subst hEM
      by_cases hEK : EK = 0
      rotate_left
      · have g1 : (EK == 0) = false := by simpa using hEK
        have g2 : (EK != 0) = true := by simpa using hEK
        go_wp2_with fail
        go_ret
        exact ⟨rfl, Ba.out⟩
      subst hEK
      have hMK := merge_assoc HPL.out HA.out.2.2.2.1 HU.out.1 HM.out.1 HK.out.1
      have g1 := ref_sameV_any A9 Aa c9 ca km kk M K HM.out.2 HK.out.2 wa Xa.out Ya.out (by omega) (by omega)
      rw [decide_eq_true hMK] at g1
      have G1 := Lib.hid g1
      clear g1 hMK
      go_wp2_with fail
      refine G1.out.mono ?_
      rintro e wb ⟨rfl, bb⟩
      have Bb := Lib.hid (Ba.out.trans (bb.mono Ba.out.size))
      clear bb
      go_wp2_with fail
      go_ret
      exact ⟨rfl, Bb.out⟩
-- ROW BEGIN
/-- What the walk gives, shut again. -/
theorem contract (H : Type) (enc : TypeId × Value → H) (W : World) (base : Nat) (args : Array Value) (ds gs : List (DataW H)) (before : List MemPlace)
    (hval : ∀ (j : Nat) t v, Try.f5.params[j]? = some t → args[j]? = some v → Value.okWide Try.prog W .any base t v)
    (hW : DataW.Whole enc Try.prog Try.f5.params.toList Rows.versMergesSpec.vars false W args.toList ds gs before)
    (hsz : (DataW.weightsEach Try.prog (Try.f5.params.toList ++ Rows.versMergesSpec.plain.varTypes Try.prog) (ds ++ gs)).all (· ≤ reachBytes) = true) :
    Calls Try.prog 5 args W fun e W' => ∃ v, e = .returned v ∧ Rows.versMergesSpec.post enc Try.prog Try.f5 false true false false W args v W' := by
  have hW' := hW
  obtain ⟨p, q, hA0, hV, hbef, _, _⟩ := hW
  have hA : DataW.TrodAll enc Try.prog W 0 (fun _ => true) true Try.f5.params.toList args.toList ds p := hA0
  have hA1 := hA
  rw [Try.params5] at hA hval hsz
  obtain ⟨v0, vs0, d0, ds0, p0, q0, hargs, rfl, rfl, h0, r0⟩ := trodAll_cons hA
  obtain ⟨v1, vs1, d1, ds1, p1, q1, rfl, rfl, rfl, h1, r1⟩ := trodAll_cons r0
  obtain ⟨v2, vs2, d2, ds2, p2, q2, rfl, rfl, rfl, h2, r2⟩ := trodAll_cons r1
  obtain ⟨rfl, rfl, rfl⟩ := trodAll_nil r2
  obtain rfl : args = #[v0, v1, v2] := by cases args; simp_all
  obtain ⟨rfl, rfl⟩ := trodVars_none hV
  clear hA hargs
  obtain ⟨A0, c0, a0, rfl, n0, l0, b0⟩ := Vers.open_vs (hval 0 22 v0 rfl rfl) h0 (Vers.wt_arg hsz (j := 0) rfl rfl)
  obtain ⟨A1, c1, a1, rfl, n1, l1, b1⟩ := Vers.open_vs (hval 1 22 v1 rfl rfl) h1 (Vers.wt_arg hsz (j := 1) rfl rfl)
  obtain ⟨A2, c2, a2, rfl, n2, l2, b2⟩ := Vers.open_vs (hval 2 22 v2 rfl rfl) h2 (Vers.wt_arg hsz (j := 2) rfl rfl)
  refine (walk W A0 c0 a0 n0 b0 l0 A1 c1 a1 n1 b1 l1 A2 c2 a2 n2 b2 l2).mono fun e W' ⟨he, hb⟩ => ?_
  subst he
  exact ⟨_, rfl, law_post Facts.laid (by rfl) Try.underlying4 (by rw [Try.params5]; decide +kernel) hW' hA1 rfl hbef rfl rfl rfl hb⟩

set_option maxRecDepth 100000 in
theorem lifted (os : Os) (started : os.Started) (H : Type) (enc : TypeId × Value → H) :
    ReturnsInHanded {} Try.checked os 5 .any (Rows.versMergesSpec.pre6 enc Try.prog Try.f5 Rows.versMergesRow.domain false) (Rows.versMergesSpec.post enc Try.prog Try.f5 false true false false) := by
  refine returnsInHanded_of_change_sized (C := Try.checked) Facts.own started (by kernel_rfl) Try.func5
    (ChangeSpec.witness6 (enc := enc) (C := Try.checked) false ⟨#[], #[.slice none 0 0, .slice none 0 0, .slice none 0 0], []⟩ 8 (by kernel_rfl) (by kernel_rfl) (by kernel_rfl) (by kernel_rfl)) ?_
  intro W base args ds gs before hval hW _ hsz _
  exact contract H enc W base args ds gs before hval hW hsz

theorem holds : Rows.VersMergesSaid :=
  OpenClaim.holds_of_wide 5 Try.f5 rfl rfl rfl rfl rfl rfl rfl ⟨rfl, rfl, rfl, rfl, rfl⟩ rfl rfl rfl rfl rfl (by kernel_rfl) Try.func5 (by kernel_rfl)
    (of_decide_eq_true (by kernel_rfl)) (by unfold Func.isWrapper; first | (rw [if_pos (by decide +kernel)]; kernel_rfl) | (rw [if_neg (by decide +kernel)]; exact ⟨rfl, rfl⟩))
    (fun os started H enc _ => lifted os started H enc)
-- ROW END
end VersMerges
end Go.Proofs.Ythiiganfoecmnaa
