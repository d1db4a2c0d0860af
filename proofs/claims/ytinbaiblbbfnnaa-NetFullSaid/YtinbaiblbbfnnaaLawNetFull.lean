/-
  NetFull (P8.1): as many packets are under way as may be, and no more; one that is gone makes room for one. For every input.
-/
import Derived.Test.YtinbaiblbbfnnaaNetTally
import Derived.Test.YtinbaiblbbfnnaaNetArgs
import Derived.Test.YtinbaiblbbfnnaaFrame
namespace Go.Proofs.Ytinbaiblbbfnnaa
namespace NetFull
open Go.ChangeShapes Go.WideShapes Go.ChangeAt Go.RowKit Net Blk
attribute [local go_sem ↓] Go.wp_at_zero Go.wp_at_succ
theorem rep_at {k i : Nat} (x : Pk) (h : i < k) : (List.replicate k x)[i]? = some x := by rw [List.getElem?_replicate, if_pos h]
theorem rep_more (k : Nat) (x : Pk) : List.replicate k x ++ [x] = List.replicate (k + 1) x := by rw [List.replicate_succ']
theorem rep_less {k i : Nat} (x : Pk) (h : i < k + 1) : (List.replicate (k + 1) x).eraseIdx i = List.replicate k x := by
  apply List.ext_getElem?
  intro j
  rw [List.getElem?_eraseIdx, List.getElem?_replicate, List.getElem?_replicate, List.getElem?_replicate]
  split <;> (split <;> split <;> first | rfl | omega)

set_option maxRecDepth 100000 in
set_option maxHeartbeats 2000000 in
theorem walk (w : World) (a1 a2 b1 b2 : Int) (zs : List Int) (A : Option Addr) (c : Nat) (hr : Ns .u8 w w.heap.size A zs) (hok : OkP ((a1, a2), (b1, b2), zs)) (_hlc : zs.length ≤ c) (at_ : Int) (_hat : -9223372036854775808 ≤ at_ ∧ at_ ≤ 9223372036854775807) :
    Calls Try.prog 7 #[.agg #[.int .i64 a1, .int .i64 a2, .int .i64 b1, .int .i64 b2, .slice A zs.length c], .int .i64 at_] w fun e w' => e = .returned (.bool true) ∧ Below w.heap.size w w' := by
  obtain ⟨n, hn⟩ : ∃ n, zs.length = n := ⟨_, rfl⟩
  rw [hn]
  obtain ⟨U, hU⟩ : ∃ U, w.alloc (.cells #[.int .i64 a1, .int .i64 a2, .int .i64 b1, .int .i64 b2, .slice A n c] 36) = U := ⟨_, rfl⟩
  have hbU : Below w.heap.size w U := by rw [← hU]; exact (Below.refl _ w).alloc (Nat.le_refl _) _
  have hPU : Bn w.heap.size 36 [.int .i64 a1, .int .i64 a2, .int .i64 b1, .int .i64 b2, .slice A n c] U := by rw [← hU]; exact heap_alloc_new w _
  have HZ := Lib.hid (And.intro hr (And.intro hn (And.intro hok (And.intro hbU hPU))))
  have HA := Lib.hid (awake_any U)
  have hd : (decide ((64 : Int) < (n : Int)) = true) ∨ (decide ((64 : Int) < (n : Int)) = false) := by cases decide ((64 : Int) < (n : Int)) <;> simp
  clear hr hn hok hbU hPU _hlc _hat
  go_enter Try.func7, Try.ntmps7
  go_wp2_with fail
  refine HA.out.mono ?_
  rintro e0 w0 ⟨rfl, b0⟩
  have HB0 := Lib.hid (And.intro (HZ.out.2.2.2.1.trans (b0.mono HZ.out.2.2.2.1.size)) (HZ.out.2.2.2.2.same (b0.block _ HZ.out.2.2.2.2.lt)))
  have x4 := HB0.out.2.cell 4
  simp only [List.getElem?_cons_zero, List.getElem?_cons_succ] at x4
  clear b0
  rcases hd with hd | hd
  · have H1 := Lib.hid (awake_any w0)
    go_wp2_with fail
    refine H1.out.mono ?_
    rintro e1 w1 ⟨rfl, b1⟩
    have HE := Lib.hid (HB0.out.1.trans (b1.mono HB0.out.1.size))
    clear b1
    go_wp2_with fail
    go_ret
    exact ⟨rfl, HE.out⟩
  have H1 := Lib.hid (new_any w0)
  go_wp2_with fail
  refine H1.out.mono ?_
  rintro e1 w1 ⟨F1, nb, rfl, h1⟩
  obtain ⟨pb, hpb⟩ : ∃ b, w.heap.size = b := ⟨_, rfl⟩
  have S1 : Hid (Sit w nb (List.replicate 0 ((a1, a2), (b1, b2), zs)) ((0 : Nat) : Int) 0 0 (fun _ _ => false) 0 F1 w1 ∧ Vars w F1 [(pb, [.int .i64 a1, .int .i64 a2, .int .i64 b1, .int .i64 b2, .slice A n c])] w1) := Lib.hid ⟨⟨h1.out.1, HB0.out.1.trans (h1.out.2.2.mono HB0.out.1.size), fun k hk => Nat.le_trans HB0.out.1.size (h1.out.2.1 k hk)⟩, fun e he => by
    rw [List.mem_singleton] at he
    subst he
    subst hpb
    exact ⟨HB0.out.2.same (h1.out.2.2.block _ HB0.out.2.lt), Nat.le_refl _, fun hf => by have := h1.out.2.1 _ hf; have := HB0.out.2.lt; simp only at *; omega⟩⟩
  clear h1 x4 hd
  go_wp2_with fail
  go_loopw [6] (fun q wr => ∃ (k : Nat) (F : Nat → Prop), k ≤ 4096 ∧ q = .int .i64 k ∧ Hid (Sit w nb (List.replicate k ((a1, a2), (b1, b2), zs)) (k : Int) 0 0 (fun _ _ => false) 0 F wr ∧ Vars w F [(pb, [.int .i64 a1, .int .i64 a2, .int .i64 b1, .int .i64 b2, .slice A n c])] wr)) (fun q _ => 4096 - (intOf q).toNat)
  case atStart => exact ⟨0, F1, by omega, rfl, S1⟩
  case round =>
    obtain ⟨k, F, hk, rfl, hst⟩ := hrel
    by_cases hlt : k < 4096
    · have y0 := hst.out.2.at0.cell 0
      have y1 := hst.out.2.at0.cell 1
      have y2 := hst.out.2.at0.cell 2
      have y3 := hst.out.2.at0.cell 3
      have y4 := hst.out.2.at0.cell 4
      simp only [List.getElem?_cons_zero, List.getElem?_cons_succ] at y0 y1 y2 y3 y4
      have d1 : decide ((k : Int) < 4096) = true := decide_eq_true (by omega)
      have H2 := Lib.hid (send_more hst.out.1.1 (by simpa using hlt) a1 a2 b1 b2 zs n HZ.out.2.1 A c ((HZ.out.1.below hst.out.1.2.1).more hst.out.1.2.1.size) HZ.out.2.2.1)
      go_wp2_with fail
      refine H2.out.mono ?_
      rintro e2 w2 ⟨rfl, F2, h2⟩
      have S2 : Hid (Sit w nb (List.replicate (k + 1) ((a1, a2), (b1, b2), zs)) ((k + 1 : Nat) : Int) 0 0 (fun _ _ => false) 0 F2 w2 ∧ Vars w F2 [(pb, [.int .i64 a1, .int .i64 a2, .int .i64 b1, .int .i64 b2, .slice A n c])] w2) := Lib.hid ⟨hst.out.1.step (by have h := h2.out.1; rw [rep_more, show IntKind.i64.wrap ((k : Int) + 1) = ((k + 1 : Nat) : Int) from by rw [Go.IntWalk.i64_in _ (by omega)]; omega] at h; exact h) h2.out.2, hst.out.2.step h2.out.2⟩
      clear h2 y0 y1 y2 y3 y4 hst H2 d1
      go_wp2_with fail
      exact ⟨⟨k + 1, F2, by omega, rfl, S2⟩, by simp only [intOf]; omega⟩
    · have hkn : k = 4096 := by omega
      have d1 : decide ((k : Int) < 4096) = false := decide_eq_false (by omega)
      subst hkn
      have S2 := Lib.hid hst.out.1
      have V2 := Lib.hid hst.out.2
      have H2 := Lib.hid (tally_any S2.out.1)
      clear hst
      go_wp2_with fail
      refine H2.out.mono ?_
      rintro e2 w2 ⟨rfl, bl2⟩
      have S3 := Lib.hid (S2.out.below bl2)
      have V3 := Lib.hid (V2.out.below bl2)
      have y0 := V3.out.at0.cell 0
      have y1 := V3.out.at0.cell 1
      have y2 := V3.out.at0.cell 2
      have y3 := V3.out.at0.cell 3
      have y4 := V3.out.at0.cell 4
      simp only [List.getElem?_cons_zero, List.getElem?_cons_succ] at y0 y1 y2 y3 y4
      have H3 := Lib.hid (send_full S3.out.1 (by simp) a1 a2 b1 b2 (.slice A n c) rfl)
      clear bl2 S2 V2 H2 d1
      go_wp2_with fail
      refine H3.out.mono ?_
      rintro e3 w3 ⟨rfl, b3⟩
      have S4 := Lib.hid (S3.out.below b3)
      have H4 := Lib.hid (copy_full S4.out.1 (i := 0) (a1 := a1) (a2 := a2) (b1 := b1) (b2 := b2) (zs := zs) (rep_at _ (by omega)) (by simp))
      clear b3 S3 V3 H3 y0 y1 y2 y3 y4
      go_wp2_with fail
      refine H4.out.mono ?_
      rintro e4 w4 ⟨rfl, b4⟩
      have S5 := Lib.hid (S4.out.below b4)
      clear b4 S4 H4
      by_cases hin : 0 ≤ at_ ∧ at_ < 4096
      · obtain ⟨i, rfl⟩ : ∃ i : Nat, (i : Int) = at_ := ⟨at_.toNat, by omega⟩
        have hi : i < 4096 := by omega
        have d1 : decide (0 ≤ (i : Int)) = true := decide_eq_true (by omega)
        have d2 : decide ((i : Int) < 4096) = true := decide_eq_true (by omega)
        have H5 := Lib.hid (lose_in S5.out.1 (i := i) (a1 := a1) (a2 := a2) (b1 := b1) (b2 := b2) (zs := zs) (rep_at _ hi))
        clear hin
        go_wp2_with fail
        refine H5.out.mono ?_
        rintro e5 w5 ⟨rfl, F5, h5⟩
        have S6 : Hid (Sit w nb (List.replicate 4095 ((a1, a2), (b1, b2), zs)) ((4096 : Nat) : Int) 0 (IntKind.i64.wrap (0 + 1)) (fun _ _ => false) 0 F5 w5) := Lib.hid (by have h := S5.out.step h5.out.1 h5.out.2; rwa [rep_less (k := 4095) _ hi] at h)
        have H6 := Lib.hid (copy_in S6.out.1 (i := 0) (a1 := a1) (a2 := a2) (b1 := b1) (b2 := b2) (zs := zs) (rep_at _ (by omega)) (by simp))
        clear h5 S5 H5
        go_wp2_with fail
        refine H6.out.mono ?_
        rintro e6 w6 ⟨rfl, F6, h6⟩
        have S7 := Lib.hid (S6.out.step h6.out.1 h6.out.2)
        have H7 := Lib.hid (len_any S7.out.1 4096 (by simp))
        clear h6 S6 H6
        go_wp2_with fail
        refine H7.out.mono ?_
        rintro e7 w7 ⟨rfl, rfl⟩
        go_wp2_with fail
        go_ret
        exact ⟨rfl, S7.out.2.1⟩
      · have H5 := Lib.hid (lose_out S5.out.1 at_ (by simpa using hin))
        have hds : (decide (0 ≤ at_) = true ∧ decide (at_ < 4096) = false) ∨ decide (0 ≤ at_) = false := by
          by_cases h1 : 0 ≤ at_
          · exact .inl ⟨decide_eq_true h1, decide_eq_false fun h => hin ⟨h1, h⟩⟩
          · exact .inr (decide_eq_false h1)
        have HD := Lib.hid hds
        clear hin hds
        go_wp2_with fail
        refine H5.out.mono ?_
        rintro e5 w5 ⟨rfl, rfl⟩
        have H6 := Lib.hid (copy_full S5.out.1 (i := 0) (a1 := a1) (a2 := a2) (b1 := b1) (b2 := b2) (zs := zs) (rep_at _ (by omega)) (by simp))
        rcases HD.out with ⟨d1, d2⟩ | d1
        all_goals
          go_wp2_with fail
          refine H6.out.mono ?_
          rintro e6 w6 ⟨rfl, b6⟩
          have S7 := Lib.hid (S5.out.below b6)
          have H7 := Lib.hid (len_any S7.out.1 4096 (by simp))
          clear b6
          go_wp2_with fail
          refine H7.out.mono ?_
          rintro e7 w7 ⟨rfl, rfl⟩
          go_wp2_with fail
          go_ret
          exact ⟨rfl, S7.out.2.1⟩
-- ROW BEGIN
set_option maxRecDepth 100000 in
/-- What the walk gives, shut again. -/
theorem contract (H : Type) (enc : TypeId × Value → H) (W : World) (base : Nat) (args : Array Value) (ds gs : List (DataW H)) (before : List MemPlace)
    (hval : ∀ (j : Nat) t v, Try.f7.params[j]? = some t → args[j]? = some v → Value.okWide Try.prog W .any base t v)
    (hW : DataW.Whole enc Try.prog Try.f7.params.toList Rows.netFullSpec.vars false W args.toList ds gs before)
    (hsz : (DataW.weightsEach Try.prog (Try.f7.params.toList ++ Rows.netFullSpec.plain.varTypes Try.prog) (ds ++ gs)).all (· ≤ reachBytes) = true) :
    Calls Try.prog 7 args W fun e W' => ∃ v, e = .returned v ∧ Rows.netFullSpec.post enc Try.prog Try.f7 false true false false W args v W' := by
  have hW' := hW
  obtain ⟨p, q, hA0, hV, hbef, _, _⟩ := hW
  have hA : DataW.TrodAll enc Try.prog W 0 (fun _ => true) true Try.f7.params.toList args.toList ds p := hA0
  have hA1 := hA
  rw [Try.params7] at hA hval hsz
  obtain ⟨v0, vs0, d0, ds0, p0, q0, hargs, rfl, rfl, h0, r0⟩ := trodAll_cons hA
  obtain ⟨v1, vs1, d1, ds1, p1, q1, rfl, rfl, rfl, h1, r1⟩ := trodAll_cons r0
  obtain ⟨rfl, rfl, rfl⟩ := trodAll_nil r1
  obtain rfl : args = #[v0, v1] := by cases args; simp_all
  obtain ⟨rfl, rfl⟩ := trodVars_none hV
  clear hA hargs
  obtain ⟨a0, s0, e0, g0, y0, A0, c0, rfl, n0, k0, l0⟩ := Net.arg_pkt (hval 0 36 v0 rfl rfl) h0 (Wgt.wt_arg hsz (j := 0) rfl rfl)
  obtain ⟨a1, rfl, rfl, _, w1⟩ := open_int Try.underlying3 (hval 1 3 v1 rfl rfl) h1
  refine (walk W a0 s0 e0 g0 y0 A0 c0 n0 k0 l0 a1 (wf_int w1)).mono fun e W' ⟨he, hb⟩ => ?_
  subst he
  exact ⟨_, rfl, law_post Facts.laid (by rfl) Try.underlying4 (by rw [Try.params7]; decide +kernel) hW' hA1 rfl hbef rfl rfl rfl hb⟩

set_option maxRecDepth 100000 in
theorem lifted (os : Os) (started : os.Started) (H : Type) (enc : TypeId × Value → H) :
    ReturnsInHanded {} Try.checked os 7 .any (Rows.netFullSpec.pre6 enc Try.prog Try.f7 Rows.netFullRow.domain false) (Rows.netFullSpec.post enc Try.prog Try.f7 false true false false) := by
  refine returnsInHanded_of_change_sized (C := Try.checked) Facts.own started (by kernel_rfl) Try.func7
    (ChangeSpec.witness6 (enc := enc) (C := Try.checked) false ⟨#[], #[.agg #[.int .i64 0, .int .i64 0, .int .i64 0, .int .i64 0, .slice none 0 0], .int .i64 0], []⟩ 8 (by kernel_rfl) (by kernel_rfl) (by kernel_rfl) (by kernel_rfl)) ?_
  intro W base args ds gs before hval hW _ hsz _
  exact contract H enc W base args ds gs before hval hW hsz

theorem holds : Rows.NetFullSaid :=
  OpenClaim.holds_of_wide 7 Try.f7 rfl rfl rfl rfl rfl rfl rfl ⟨rfl, rfl, rfl, rfl, rfl⟩ rfl rfl rfl rfl rfl (by kernel_rfl) Try.func7 (by kernel_rfl)
    (of_decide_eq_true (by kernel_rfl)) (by unfold Func.isWrapper; first | (rw [if_pos (by decide +kernel)]; kernel_rfl) | (rw [if_neg (by decide +kernel)]; exact ⟨rfl, rfl⟩))
    (fun os started H enc _ => lifted os started H enc)
-- ROW END
end NetFull
end Go.Proofs.Ytinbaiblbbfnnaa
