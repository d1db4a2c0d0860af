/-
  QuorumWrites (P16.1): whatever list, need and answers: who is counted, when it is done and who is waited for are the document's. For every input.
-/
import Derived.Test.YtbhidndgnldheaaG16E
import Derived.Test.YtbhidndgnldheaaFrame
namespace Go.Proofs.Ytbhidndgnldheaa
namespace Facts
theorem cells3 : Try.prog.cellsOf 3 = 1 := by kernel_rfl
theorem bytes3 : Try.prog.bytesOf 3 = 8 := by kernel_rfl
end Facts
namespace QuorumWrites
open Go.ChangeShapes Go.WideShapes Go.ChangeAt Go.RowKit Quorum Ring Vers Span Blk
attribute [local go_sem ↓] Go.wp_at_zero Go.wp_at_succ
set_option maxRecDepth 100000 in
set_option maxHeartbeats 2000000 in
theorem walk (w : World) (A : Option Addr) (c : Nat) (ls : List Int) (hr : Ns .i64 w w.heap.size A ls) (_hm : ∀ z ∈ ls, -9223372036854775808 ≤ z ∧ z ≤ 9223372036854775807) (hbig : ls.length * 8 ≤ 140737488351232) (hlc : ls.length ≤ c)
    (need : Int) (_hneed : -9223372036854775808 ≤ need ∧ need ≤ 9223372036854775807)
    (A' : Option Addr) (c' : Nat) (acks : List Int) (hr' : Ns .i64 w w.heap.size A' acks) (_hm' : ∀ z ∈ acks, -9223372036854775808 ≤ z ∧ z ≤ 9223372036854775807) (hbig' : acks.length * 8 ≤ 140737488351232) (_hlc' : acks.length ≤ c') :
    Calls Try.prog 3 #[.slice A ls.length c, .int .i64 need, .slice A' acks.length c'] w fun e w' => e = .returned (.bool true) ∧ Below w.heap.size w w' := by
  obtain ⟨n, hn⟩ : ∃ n, ls.length = n := ⟨_, rfl⟩
  obtain ⟨m, hm⟩ : ∃ m, acks.length = m := ⟨_, rfl⟩
  rw [hn, hm]
  rw [hm] at hbig'
  have H0 := Lib.hid (newW_any A c n ls hn need w hr (by omega) (by omega))
  have HR : Hid (∀ V, Below w.heap.size w V → Calls Try.prog 9 #[.slice A n c, .int .i64 need] V (fun e w' => e = .returned (.bool (decide (okL ls need))) ∧ Below V.heap.size V w')) := Lib.hid fun V hV => rightA_any A c n ls hn need V ((hr.below hV).more hV.size) (by omega) (by omega)
  have HN : Hid (okL ls need → ∀ V, Below w.heap.size w V → Calls Try.prog 10 #[.slice A n c, .int .i64 need] V (NewedA ls need n V)) := Lib.hid fun ho V hV => newA_any A c n ls hn need V ((hr.below hV).more hV.size) (by omega) ho
  have HV := Lib.hid (And.intro hr' (And.intro hn hm))
  clear hr hr' hn hm hbig hlc _hm _hm' _hneed _hlc'
  go_enter Try.func3, Try.ntmps3
  go_wp2_with fail
  refine H0.out.mono ?_
  rintro e w1 (⟨no, rfl, b1⟩ | ⟨ok, rb, lb, cl, cb, ab, rfl, h1⟩)
  · have HD : Hid (decide (okL ls need) = false) := Lib.hid (decide_eq_false no)
    clear no
    go_wp2_with fail
    refine (awake_any w1).mono ?_
    rintro e w2 ⟨rfl, b2⟩
    have o2 := b1.trans (b2.mono b1.size)
    have H2 := HR.out w2 o2
    rw [HD.out] at H2
    go_wp2_with fail
    refine H2.mono ?_
    rintro e w3 ⟨rfl, b3⟩
    have o3 := o2.trans (b3.mono o2.size)
    clear H2 b1 b2 b3 o2
    go_wp2_with fail
    refine (awake_any w3).mono ?_
    rintro e w4 ⟨rfl, b4⟩
    have o4 := o3.trans (b4.mono o3.size)
    go_wp2_with fail
    go_ret
    exact ⟨rfl, o4⟩
  · have HD : Hid (decide (okL ls need) = true ∧ okL ls need) := Lib.hid ⟨decide_eq_true ok, ok⟩
    have S1 := new_sideW ok h1.out.1
    have b1 := h1.out.2
    clear ok h1
    go_wp2_with fail
    refine (awake_any w1).mono ?_
    rintro e w2 ⟨rfl, b2⟩
    have o2 := b1.trans (b2.mono b1.size)
    have H2 := HR.out w2 o2
    rw [HD.out.1] at H2
    go_wp2_with fail
    refine H2.mono ?_
    rintro e w3 ⟨rfl, b3⟩
    have o3 := o2.trans (b3.mono o2.size)
    have S3 := S1.keep (Nat.le_trans b2.size b3.size) fun k hk => (b3.block k (Nat.lt_of_lt_of_le (S1.lt k hk) b2.size)).trans (b2.block k (S1.lt k hk))
    have HX := Lib.hid (And.intro o3 S3)
    clear H2 b1 b2 b3 o2 o3 S1 S3
    go_wp2_with fail
    refine (HN.out HD.out.2 w3 HX.out.1).mono ?_
    rintro e w4 ⟨rd, lb', cl', cb', ab', x', rfl, h4⟩
    have HP : Hid (Pr (fun k => k < w.heap.size) w n False 37 rb need (startF ls) False 81 rd need (startF ls) w4) := Lib.hid (Pr.new HX.out.2 (fun k hk => hk.1) HX.out.1 (new_sideR HD.out.2 h4.out.1 h4.out.2.1).weak (fun k hk => hk.1) h4.out.2.2)
    clear h4 HX HD HR HN H0
    go_wp2_with fail
    go_loopw [10] (fun iv wr => ∃ (k : Nat) (lp : List En), iv = .int .i64 k ∧ k ≤ m ∧ Hid (Pr (fun k => k < w.heap.size) w n False 37 rb need lp False 81 rd need lp wr)) (fun iv _ => m - (intOf iv).toNat)
    case atStart => exact ⟨0, _, rfl, by omega, HP⟩
    case round =>
      obtain ⟨k, lp, rfl, hk, hP⟩ := hrel
      by_cases hlt : k < m
      · obtain ⟨pb, off, rfl, hpb, hat⟩ := HV.out.1 (by have := HV.out.2.2; omega)
        obtain ⟨node, hnode⟩ : ∃ z, acks.getD k 0 = z := ⟨_, rfl⟩
        have HS : Hid (∀ V, Below w.heap.size w V → V.cell? ⟨pb, off + k, none⟩ = some (.int .i64 node)) := Lib.hid fun V hV => by
          rw [← hnode]
          exact (hV.cell (p := ⟨pb, off + k, none⟩) hpb).trans (hat k (by have := HV.out.2.2; omega))
        obtain ⟨⟨b, l'⟩, hc⟩ : ∃ x, countF lp node [] = x := ⟨_, rfl⟩
        obtain ⟨D, hD⟩ : ∃ D, doneF need l' = D := ⟨_, rfl⟩
        obtain ⟨wl, hwl⟩ : ∃ z, waitsF l' = z := ⟨_, rfl⟩
        obtain ⟨q, hq⟩ : ∃ q, wl.length = q := ⟨_, rfl⟩
        have K0 := Lib.hid (hP.out.below (Below.refl _ wr).drew)
        have o0 : Below w.heap.size w wr.drew := K0.out.old
        have HF := Lib.hid (And.intro hc (And.intro hD (And.intro hwl (And.intro hq hP))))
        have bb : (b != b) = false := by cases b <;> rfl
        have bD : (D != D) = false := by cases D <;> rfl
        have d1 : (0 : Int) ≤ (k : Int) := by omega
        have d2 : (k : Int) < (m : Int) := by omega
        have e1 : IntKind.i64.wrap ((k : Int) + 1) = (k : Int) + 1 := Go.IntWalk.i64_in _ (by omega)
        clear hc hD hwl hq hat hnode hpb hP
        go_wp2_with fail
        go_region_held3 (fun V => V.cell? ⟨pb, off + k, none⟩ = some (.int .i64 node))
          (first | exact HS.out _ (by assumption))
          (first
            | (go_at_call 11; refine (K0.out.ack node HF.out.1).mono ?_; rintro e1 w5 ⟨rfl, h5⟩; have o5 := h5.out.1.old; have K5 := Lib.hid h5.out.1.swap)
            | (go_at_call 12; refine (K5.out.ackA node HF.out.1).mono ?_; rintro e2 w6 ⟨rfl, h6⟩; have o6 := h6.out.1.old; have K6 := Lib.hid h6.out.1.swap)
            | (go_at_call 13; refine (K6.out.doneW).mono ?_; rintro e3 w7 ⟨he3, b7⟩; rw [HF.out.2.1] at he3; subst he3; have K7 := Lib.hid (K6.out.below b7).swap; have o7 := K7.out.old)
            | (go_at_call 14; refine (K7.out.doneA).mono ?_; rintro e4 w8 ⟨he4, b8⟩; rw [HF.out.2.1] at he4; subst he4; have K8 := Lib.hid (K7.out.below b8).swap; have o8 := K8.out.old)
            | (go_at_call 16; refine (K8.out.waitsW).mono ?_; rintro e5 w9 ⟨A9, c9, he5, h9, b9⟩; rw [HF.out.2.2.1] at he5 h9; rw [HF.out.2.2.2.1] at he5; subst he5; have K9 := Lib.hid (K8.out.below b9).swap; have o9 := K9.out.old)
            | (go_at_call 17; refine (K9.out.waitsA).mono ?_; rintro e6 w10 ⟨A10, c10, he6, h10, b10⟩; rw [HF.out.2.2.1] at he6 h10; rw [HF.out.2.2.2.1] at he6; subst he6; have K10 := Lib.hid (K9.out.below b10).swap; have o10 := K10.out.old)
            | (go_at_call 15; refine (ints_any A9 A10 c9 c10 q q wl wl HF.out.2.2.2.1 HF.out.2.2.2.1 w10 ((h9.out.1.below b10).more b10.size) h10.out.1 (by have := waits_len l'; have := K10.out.len; rw [HF.out.2.2.1, HF.out.2.2.2.1] at *; omega) (by have := waits_len l'; have := K10.out.len; rw [HF.out.2.2.1, HF.out.2.2.2.1] at *; omega)).mono ?_; rintro e7 w11 ⟨he7, b11⟩; rw [decide_eq_true rfl] at he7; subst he7; have K11 := Lib.hid (K10.out.below b11); have o11 := K11.out.old))
        all_goals
          have HE := Lib.hid K11.out
          clear HF K0 K5 K6 K7 K8 K9 K10 K11 h5 h6 h9 h10 b7 b8 b9 b10 b11 o0 o5 o6 o7 o8 o9 o10 o11
          go_wp2_with fail
          exact ⟨⟨k + 1, l', rfl, by omega, HE⟩, by simp only [intOf]; omega⟩
      · obtain rfl : k = m := by omega
        go_wp2_with fail
        go_ret
        exact ⟨rfl, hP.out.old⟩
-- ROW BEGIN
set_option maxRecDepth 100000 in
/-- What the walk gives, shut again. -/
theorem contract (H : Type) (enc : TypeId × Value → H) (W : World) (base : Nat) (args : Array Value) (ds gs : List (DataW H)) (before : List MemPlace)
    (hval : ∀ (j : Nat) t v, Try.f3.params[j]? = some t → args[j]? = some v → Value.okWide Try.prog W .any base t v)
    (hW : DataW.Whole enc Try.prog Try.f3.params.toList Rows.quorumWritesSpec.vars false W args.toList ds gs before)
    (hsz : (DataW.weightsEach Try.prog (Try.f3.params.toList ++ Rows.quorumWritesSpec.plain.varTypes Try.prog) (ds ++ gs)).all (· ≤ reachBytes) = true) :
    Calls Try.prog 3 args W fun e W' => ∃ v, e = .returned v ∧ Rows.quorumWritesSpec.post enc Try.prog Try.f3 false true false false W args v W' := by
  have hW' := hW
  obtain ⟨p, q, hA0, hV, hbef, _, _⟩ := hW
  have hA : DataW.TrodAll enc Try.prog W 0 (fun _ => true) true Try.f3.params.toList args.toList ds p := hA0
  have hA1 := hA
  rw [Try.params3] at hA hval hsz
  obtain ⟨v0, vs0, d0, ds0, p0, q0, hargs, rfl, rfl, h0, r0⟩ := trodAll_cons hA
  obtain ⟨v1, vs1, d1, ds1, p1, q1, rfl, rfl, rfl, h1, r1⟩ := trodAll_cons r0
  obtain ⟨v2, vs2, d2, ds2, p2, q2, rfl, rfl, rfl, h2, r2⟩ := trodAll_cons r1
  obtain ⟨rfl, rfl, rfl⟩ := trodAll_nil r2
  obtain rfl : args = #[v0, v1, v2] := by cases args; simp_all
  obtain ⟨rfl, rfl⟩ := trodVars_none hV
  clear hA hargs
  obtain ⟨A0, c0, a0, rfl, n0, w0, l0, _, o0⟩ := open_ns Try.underlying22 Try.underlying3 Facts.cells3 (hval 0 22 v0 rfl rfl) h0
  have b0 := reach_ns hsz (j := 0) rfl rfl Try.underlying22 Facts.bytes3 l0 o0
  obtain ⟨a1, rfl, rfl, _, w1⟩ := open_int Try.underlying3 (hval 1 3 v1 rfl rfl) h1
  obtain ⟨A2, c2, a2, rfl, n2, w2, l2, _, o2⟩ := open_ns Try.underlying22 Try.underlying3 Facts.cells3 (hval 2 22 v2 rfl rfl) h2
  have b2 := reach_ns hsz (j := 2) rfl rfl Try.underlying22 Facts.bytes3 l2 o2
  refine (walk W A0 c0 a0 n0 (fun z hz => wf_int (w0 z hz)) (by omega) l0 a1 (wf_int w1) A2 c2 a2 n2 (fun z hz => wf_int (w2 z hz)) (by omega) l2).mono fun e W' ⟨he, hb⟩ => ?_
  subst he
  exact ⟨_, rfl, law_post Facts.laid (by rfl) Try.underlying4 (by rw [Try.params3]; decide +kernel) hW' hA1 rfl hbef rfl rfl rfl hb⟩

set_option maxRecDepth 100000 in
theorem lifted (os : Os) (started : os.Started) (H : Type) (enc : TypeId × Value → H) :
    ReturnsInHanded {} Try.checked os 3 .any (Rows.quorumWritesSpec.pre6 enc Try.prog Try.f3 Rows.quorumWritesRow.domain false) (Rows.quorumWritesSpec.post enc Try.prog Try.f3 false true false false) := by
  refine returnsInHanded_of_change_sized (C := Try.checked) Facts.own started (by kernel_rfl) Try.func3
    (ChangeSpec.witness6 (enc := enc) (C := Try.checked) false ⟨#[], #[.slice none 0 0, .int .i64 0, .slice none 0 0], []⟩ 8 (by kernel_rfl) (by kernel_rfl) (by kernel_rfl) (by kernel_rfl)) ?_
  intro W base args ds gs before hval hW _ hsz _
  exact contract H enc W base args ds gs before hval hW hsz

theorem holds : Rows.QuorumWritesSaid :=
  OpenClaim.holds_of_wide 3 Try.f3 rfl rfl rfl rfl rfl rfl rfl ⟨rfl, rfl, rfl, rfl, rfl⟩ rfl rfl rfl rfl rfl (by kernel_rfl) Try.func3 (by kernel_rfl)
    (of_decide_eq_true (by kernel_rfl)) (by unfold Func.isWrapper; first | (rw [if_pos (by decide +kernel)]; kernel_rfl) | (rw [if_neg (by decide +kernel)]; exact ⟨rfl, rfl⟩))
    (fun os started H enc _ => lifted os started H enc)
-- ROW END
end QuorumWrites
end Go.Proofs.Ytbhidndgnldheaa
