/-
  QuorumReads (P16.1, P16.2): whatever list, need and answers: who is counted, when it is done, who is waited for, what comes of the answers and who lacks something of it are the document's. For every input.
-/
import Derived.Test.YtbhidndgnldheaaG16E
import Derived.Test.YtbhidndgnldheaaFrame
namespace Go.Proofs.Ytbhidndgnldheaa
namespace Facts
theorem cells3 : Try.prog.cellsOf 3 = 1 := by kernel_rfl
theorem bytes3 : Try.prog.bytesOf 3 = 8 := by kernel_rfl
end Facts
namespace QuorumReads
open Go.ChangeShapes Go.WideShapes Go.ChangeAt Go.RowKit Quorum Ring Vers Span Blk
attribute [local go_sem ↓] Go.wp_at_zero Go.wp_at_succ
set_option maxRecDepth 100000 in
set_option maxHeartbeats 2000000 in
theorem walk (w : World) (A : Option Addr) (c : Nat) (ls : List Int) (hr : Ns .i64 w w.heap.size A ls) (_hm : ∀ z ∈ ls, -9223372036854775808 ≤ z ∧ z ≤ 9223372036854775807) (hbig : ls.length * 8 ≤ 140737488351232) (hlc : ls.length ≤ c)
    (need : Int) (_hneed : -9223372036854775808 ≤ need ∧ need ≤ 9223372036854775807)
    (A' : Option Addr) (c' : Nat) (reps : List Rp) (hr' : Rs w A' reps) (hbig' : reps.length * 56 ≤ 140737488351232) (_hlc' : reps.length ≤ c') :
    Calls Try.prog 4 #[.slice A ls.length c, .int .i64 need, .slice A' reps.length c'] w fun e w' => e = .returned (.bool true) ∧ Below w.heap.size w w' := by
  obtain ⟨n, hn⟩ : ∃ n, ls.length = n := ⟨_, rfl⟩
  obtain ⟨m, hm⟩ : ∃ m, reps.length = m := ⟨_, rfl⟩
  rw [hn, hm]
  rw [hm] at hbig'
  have H0 := Lib.hid (newR_any A c n ls hn need w hr (by omega) (by omega))
  have HR : Hid (∀ V, Below w.heap.size w V → Calls Try.prog 9 #[.slice A n c, .int .i64 need] V (fun e w' => e = .returned (.bool (decide (okL ls need))) ∧ Below V.heap.size V w')) := Lib.hid fun V hV => rightA_any A c n ls hn need V ((hr.below hV).more hV.size) (by omega) (by omega)
  have HN : Hid (okL ls need → ∀ V, Below w.heap.size w V → Calls Try.prog 10 #[.slice A n c, .int .i64 need] V (NewedA ls need n V)) := Lib.hid fun ho V hV => newA_any A c n ls hn need V ((hr.below hV).more hV.size) (by omega) ho
  have HV := Lib.hid (And.intro hr' (And.intro hn hm))
  clear hr hr' hn hm hbig hlc _hm _hneed _hlc'
  go_enter Try.func4, Try.ntmps4
  go_wp2_with fail
  refine H0.out.mono ?_
  rintro e w1 (⟨no, rfl, b1⟩ | ⟨ok, rb, lb, cl, cb, ab, rfl, h1⟩)
  · have HD : Hid (decide (okL ls need) = false) := Lib.hid (decide_eq_false no)
    clear no
    go_wp2_with fail
    refine (awake_any w1).mono ?_
    rintro e w2 ⟨rfl, b2⟩
    have o2 := b1.trans (b2.mono b1.size)
    have H2 := HR.out w2 o2
    rw [HD.out] at H2
    go_wp2_with fail
    refine H2.mono ?_
    rintro e w3 ⟨rfl, b3⟩
    have o3 := o2.trans (b3.mono o2.size)
    clear H2 b1 b2 b3 o2
    go_wp2_with fail
    refine (awake_any w3).mono ?_
    rintro e w4 ⟨rfl, b4⟩
    have o4 := o3.trans (b4.mono o3.size)
    go_wp2_with fail
    go_ret
    exact ⟨rfl, o4⟩
  · have HD : Hid (decide (okL ls need) = true ∧ okL ls need) := Lib.hid ⟨decide_eq_true ok, ok⟩
    have S1 := new_sideR ok h1.out.1 h1.out.2.1
    have b1 := h1.out.2.2
    clear ok h1
    go_wp2_with fail
    refine (awake_any w1).mono ?_
    rintro e w2 ⟨rfl, b2⟩
    have o2 := b1.trans (b2.mono b1.size)
    have H2 := HR.out w2 o2
    rw [HD.out.1] at H2
    go_wp2_with fail
    refine H2.mono ?_
    rintro e w3 ⟨rfl, b3⟩
    have o3 := o2.trans (b3.mono o2.size)
    have S3 := S1.keep (Nat.le_trans b2.size b3.size) fun k hk => (b3.block k (Nat.lt_of_lt_of_le (S1.lt k hk) b2.size)).trans (b2.block k (S1.lt k hk))
    have HX := Lib.hid (And.intro o3 S3)
    clear H2 b1 b2 b3 o2 o3 S1 S3
    go_wp2_with fail
    refine (HN.out HD.out.2 w3 HX.out.1).mono ?_
    rintro e w4 ⟨rd, lb', cl', cb', ab', x', rfl, h4⟩
    have HP : Hid (Pr (fun k => k < w.heap.size) w n True 55 rb need (startF ls) True 81 rd need (startF ls) w4) := Lib.hid (Pr.new HX.out.2 (fun k hk => hk.1) HX.out.1 (new_sideR HD.out.2 h4.out.1 h4.out.2.1) (fun k hk => hk.1) h4.out.2.2)
    clear h4 HX HD HR HN H0
    go_wp2_with fail
    go_loopw [10] (fun iv wr => ∃ (k : Nat) (lp : List En), iv = .int .i64 k ∧ k ≤ m ∧ Mute lp ∧ Hid (Pr (fun k => k < w.heap.size) w n True 55 rb need lp True 81 rd need lp wr)) (fun iv _ => m - (intOf iv).toNat)
    case atStart => exact ⟨0, _, rfl, by omega, mute_start ls, HP⟩
    case round =>
      obtain ⟨k, lp, rfl, hk, hmu, hP⟩ := hrel
      by_cases hlt : k < m
      · obtain ⟨pb, off, rfl, hpb, hat⟩ := HV.out.1.1 (by have := HV.out.2.2; omega)
        obtain ⟨⟨⟨node, an⟩, ⟨Av, cv⟩, ⟨Ar, kr, cr⟩⟩, hx⟩ : ∃ x, reps[k]? = some x := ⟨reps[k]'(by have := HV.out.2.2; omega), by simp⟩
        obtain ⟨hv, hvc, hvb⟩ := HV.out.1.2 _ (List.mem_of_getElem? hx)
        obtain ⟨va, hva⟩ : ∃ z, an.length = z := ⟨_, rfl⟩
        have HS : Hid (∀ V, Below w.heap.size w V → V.cell? ⟨pb, off + k * 3, none⟩ = some (.int .i64 node) ∧ V.cell? ⟨pb, off + k * 3 + 1, none⟩ = some (.slice Av va cv)) := Lib.hid fun V hV => by
          rw [← hva]
          exact ⟨(hV.cell (p := ⟨pb, off + k * 3, none⟩) hpb).trans (hat k _ hx 0 _ rfl), (hV.cell (p := ⟨pb, off + k * 3 + 1, none⟩) hpb).trans (hat k _ hx 1 _ rfl)⟩
        simp only at hv hvb
        rw [hva] at hvb
        obtain ⟨⟨b, l'⟩, hc⟩ : ∃ x, gotF lp node an = x := ⟨_, rfl⟩
        obtain ⟨D, hD⟩ : ∃ D, doneF need l' = D := ⟨_, rfl⟩
        obtain ⟨wl, hwl⟩ : ∃ z, waitsF l' = z := ⟨_, rfl⟩
        obtain ⟨q, hq⟩ : ∃ q, wl.length = q := ⟨_, rfl⟩
        have hq8 : q ≤ 8 := by
          have h1 := waits_len l'
          have h2 := hP.out.len
          have h3 := len_fst (got_fst hc)
          rw [hwl, hq] at h1
          omega
        have K0 := Lib.hid (hP.out.below (Below.refl _ wr).drew)
        have o0 : Below w.heap.size w wr.drew := K0.out.old
        have HF := Lib.hid (And.intro hc (And.intro hD (And.intro hwl (And.intro hq (And.intro hva (And.intro hv (mute_got hmu hc)))))))
        have bb : (b != b) = false := by cases b <;> rfl
        have bD : (D != D) = false := by cases D <;> rfl
        have d1 : (0 : Int) ≤ (k : Int) := by omega
        have d2 : (k : Int) < (m : Int) := by omega
        have e1 : IntKind.i64.wrap ((k : Int) + 1) = (k : Int) + 1 := Go.IntWalk.i64_in _ (by omega)
        clear hc hD hwl hq hat hpb hP hv hvc hva hx hmu
        go_wp2_with fail
        go_region_held3 (fun V => V.cell? ⟨pb, off + k * 3, none⟩ = some (.int .i64 node) ∧ V.cell? ⟨pb, off + k * 3 + 1, none⟩ = some (.slice Av va cv))
          (first | exact HS.out _ (by assumption))
          (first
            | (go_at_call 19; refine (K0.out.got node Av cv va an HF.out.2.2.2.2.1 (by omega) ((HF.out.2.2.2.2.2.1.below o0).more o0.size) HF.out.1).mono ?_; rintro e1 w5 ⟨rfl, h5⟩; have o5 := h5.out.1.old; have K5 := Lib.hid h5.out.1.swap)
            | (go_at_call 20; refine (K5.out.gotA node Av cv va an HF.out.2.2.2.2.1 (by omega) (HF.out.2.2.2.2.2.1.below o5) HF.out.1).mono ?_; rintro e2 w6 ⟨rfl, h6⟩; have o6 := h6.out.1.old; have K6 := Lib.hid h6.out.1.swap)
            | (go_at_call 21; refine (K6.out.doneR).mono ?_; rintro e3 w7 ⟨he3, b7⟩; rw [HF.out.2.1] at he3; subst he3; have K7 := Lib.hid (K6.out.below b7).swap; have o7 := K7.out.old)
            | (go_at_call 14; refine (K7.out.doneA).mono ?_; rintro e4 w8 ⟨he4, b8⟩; rw [HF.out.2.1] at he4; subst he4; have K8 := Lib.hid (K7.out.below b8).swap; have o8 := K8.out.old)
            | (go_at_call 22; refine (K8.out.waitsR).mono ?_; rintro e5 w9 ⟨A9, c9, he5, h9, b9⟩; rw [HF.out.2.2.1] at he5 h9; rw [HF.out.2.2.2.1] at he5; subst he5; have K9 := Lib.hid (K8.out.below b9).swap; have o9 := K9.out.old)
            | (go_at_call 17; refine (K9.out.waitsA).mono ?_; rintro e6 w10 ⟨A10, c10, he6, h10, b10⟩; rw [HF.out.2.2.1] at he6 h10; rw [HF.out.2.2.2.1] at he6; subst he6; have K10 := Lib.hid (K9.out.below b10).swap; have o10 := K10.out.old)
            | (go_at_call 15; refine (ints_any A9 A10 c9 c10 q q wl wl HF.out.2.2.2.1 HF.out.2.2.2.1 w10 ((h9.out.1.below b10).more b10.size) h10.out.1 (by omega) (by omega)).mono ?_; rintro e7 w11 ⟨he7, b11⟩; rw [decide_eq_true rfl] at he7; subst he7; have K11 := Lib.hid (K10.out.below b11); have o11 := K11.out.old))
        all_goals
          have HE := Lib.hid (And.intro K11.out HF.out.2.2.2.2.2.2)
          clear HF K0 K5 K6 K7 K8 K9 K10 K11 h5 h6 h9 h10 b7 b8 b9 b10 b11 o0 o5 o6 o7 o8 o9 o10 o11 HS bb bD
          obtain ⟨vl, hvl⟩ : ∃ z, versF l' = z := ⟨_, rfl⟩
          obtain ⟨vk, hvk⟩ : ∃ z, vl.length = z := ⟨_, rfl⟩
          obtain ⟨bl, hbl⟩ : ∃ z, behindF l' vl = z := ⟨_, rfl⟩
          obtain ⟨bk, hbk⟩ : ∃ z, bl.length = z := ⟨_, rfl⟩
          have hv4 : vk ≤ 1024 := by rw [← hvk, ← hvl]; exact vers_small l'
          have hb8 : bk ≤ 8 := by
            have h1 := behind_len l' vl
            have h2 := HE.out.1.len
            rw [hbl, hbk] at h1
            omega
          have HL := Lib.hid (And.intro hvl (And.intro hvk (And.intro hbl hbk)))
          clear hvl hvk hbl hbk
          go_wp2_with fail
          refine (HE.out.1.vers).mono ?_
          rintro e1 x1 ⟨Z1, k1, he1, g1, y1⟩
          rw [HL.out.1] at he1 g1
          rw [HL.out.2.1] at he1
          subst he1
          have M1 := Lib.hid (HE.out.1.below y1).swap
          go_wp2_with fail
          refine (M1.out.allA HE.out.2).mono ?_
          rintro e2 x2 ⟨Z2, k2, he2, g2, y2⟩
          rw [HL.out.1] at he2 g2
          rw [HL.out.2.1] at he2
          subst he2
          have M2 := Lib.hid (M1.out.below y2).swap
          go_wp2_with fail
          refine (ref_sameV_any Z1 Z2 k1 k2 vk vk vl vl HL.out.2.1 HL.out.2.1 x2 (((g1.out.2.less (Nat.zero_le _)).below y2).more y2.size) g2.out.2 (by omega) (by omega)).mono ?_
          rintro e3 x3 ⟨he3, y3⟩
          rw [decide_eq_true rfl] at he3
          subst he3
          have M3 := Lib.hid (M2.out.below y3)
          clear M1 M2 g1 g2 y1 y2 y3
          go_wp2_with fail
          refine (M3.out.behind).mono ?_
          rintro e4 x4 ⟨Z4, k4, he4, g4, y4⟩
          rw [HL.out.1, HL.out.2.2.1] at he4 g4
          rw [HL.out.2.2.2] at he4
          subst he4
          have M4 := Lib.hid (M3.out.below y4).swap
          go_wp2_with fail
          refine (M4.out.behindA HE.out.2).mono ?_
          rintro e5 x5 ⟨Z5, k5, he5, g5, y5⟩
          rw [HL.out.1, HL.out.2.2.1] at he5 g5
          rw [HL.out.2.2.2] at he5
          subst he5
          have M5 := Lib.hid (M4.out.below y5).swap
          go_wp2_with fail
          refine (ints_any Z4 Z5 k4 k5 bk bk bl bl HL.out.2.2.2 HL.out.2.2.2 x5 ((g4.out.1.below y5).more y5.size) g5.out.1 (by omega) (by omega)).mono ?_
          rintro e6 x6 ⟨he6, y6⟩
          rw [decide_eq_true rfl] at he6
          subst he6
          have M6 := Lib.hid (M5.out.below y6)
          clear M3 M4 M5 g4 g5 y4 y5 y6
          go_wp2_with fail
          exact ⟨⟨k + 1, l', rfl, by omega, HE.out.2, M6⟩, by simp only [intOf]; omega⟩
      · obtain rfl : k = m := by omega
        go_wp2_with fail
        go_ret
        exact ⟨rfl, hP.out.old⟩
-- ROW BEGIN
set_option maxRecDepth 100000 in
/-- What the walk gives, shut again. -/
theorem contract (H : Type) (enc : TypeId × Value → H) (W : World) (base : Nat) (args : Array Value) (ds gs : List (DataW H)) (before : List MemPlace)
    (hval : ∀ (j : Nat) t v, Try.f4.params[j]? = some t → args[j]? = some v → Value.okWide Try.prog W .any base t v)
    (hW : DataW.Whole enc Try.prog Try.f4.params.toList Rows.quorumReadsSpec.vars false W args.toList ds gs before)
    (hsz : (DataW.weightsEach Try.prog (Try.f4.params.toList ++ Rows.quorumReadsSpec.plain.varTypes Try.prog) (ds ++ gs)).all (· ≤ reachBytes) = true) :
    Calls Try.prog 4 args W fun e W' => ∃ v, e = .returned v ∧ Rows.quorumReadsSpec.post enc Try.prog Try.f4 false true false false W args v W' := by
  have hW' := hW
  obtain ⟨p, q, hA0, hV, hbef, _, _⟩ := hW
  have hA : DataW.TrodAll enc Try.prog W 0 (fun _ => true) true Try.f4.params.toList args.toList ds p := hA0
  have hA1 := hA
  rw [Try.params4] at hA hval hsz
  obtain ⟨v0, vs0, d0, ds0, p0, q0, hargs, rfl, rfl, h0, r0⟩ := trodAll_cons hA
  obtain ⟨v1, vs1, d1, ds1, p1, q1, rfl, rfl, rfl, h1, r1⟩ := trodAll_cons r0
  obtain ⟨v2, vs2, d2, ds2, p2, q2, rfl, rfl, rfl, h2, r2⟩ := trodAll_cons r1
  obtain ⟨rfl, rfl, rfl⟩ := trodAll_nil r2
  obtain rfl : args = #[v0, v1, v2] := by cases args; simp_all
  obtain ⟨rfl, rfl⟩ := trodVars_none hV
  clear hA hargs
  obtain ⟨A0, c0, a0, rfl, n0, w0, l0, _, o0⟩ := open_ns Try.underlying22 Try.underlying3 Facts.cells3 (hval 0 22 v0 rfl rfl) h0
  have b0 := reach_ns hsz (j := 0) rfl rfl Try.underlying22 Facts.bytes3 l0 o0
  obtain ⟨a1, rfl, rfl, _, w1⟩ := open_int Try.underlying3 (hval 1 3 v1 rfl rfl) h1
  obtain ⟨A2, c2, a2, rfl, n2, l2, b2⟩ := Quorum.arg_reps (hval 2 42 v2 rfl rfl) h2 (Wgt.wt_arg hsz (j := 2) rfl rfl)
  refine (walk W A0 c0 a0 n0 (fun z hz => wf_int (w0 z hz)) (by omega) l0 a1 (wf_int w1) A2 c2 a2 n2 b2 l2).mono fun e W' ⟨he, hb⟩ => ?_
  subst he
  exact ⟨_, rfl, law_post Facts.laid (by rfl) Try.underlying4 (by rw [Try.params4]; decide +kernel) hW' hA1 rfl hbef rfl rfl rfl hb⟩

set_option maxRecDepth 100000 in
theorem lifted (os : Os) (started : os.Started) (H : Type) (enc : TypeId × Value → H) :
    ReturnsInHanded {} Try.checked os 4 .any (Rows.quorumReadsSpec.pre6 enc Try.prog Try.f4 Rows.quorumReadsRow.domain false) (Rows.quorumReadsSpec.post enc Try.prog Try.f4 false true false false) := by
  refine returnsInHanded_of_change_sized (C := Try.checked) Facts.own started (by kernel_rfl) Try.func4
    (ChangeSpec.witness6 (enc := enc) (C := Try.checked) false ⟨#[], #[.slice none 0 0, .int .i64 0, .slice none 0 0], []⟩ 8 (by kernel_rfl) (by kernel_rfl) (by kernel_rfl) (by kernel_rfl)) ?_
  intro W base args ds gs before hval hW _ hsz _
  exact contract H enc W base args ds gs before hval hW hsz

theorem holds : Rows.QuorumReadsSaid :=
  OpenClaim.holds_of_wide 4 Try.f4 rfl rfl rfl rfl rfl rfl rfl ⟨rfl, rfl, rfl, rfl, rfl⟩ rfl rfl rfl rfl rfl (by kernel_rfl) Try.func4 (by kernel_rfl)
    (of_decide_eq_true (by kernel_rfl)) (by unfold Func.isWrapper; first | (rw [if_pos (by decide +kernel)]; kernel_rfl) | (rw [if_neg (by decide +kernel)]; exact ⟨rfl, rfl⟩))
    (fun os started H enc _ => lifted os started H enc)
-- ROW END
end QuorumReads
end Go.Proofs.Ytbhidndgnldheaa
