/-
  TreePlays (P11.1, P11.2): whatever is laid, the hashes, the lists of hashes and the records beneath whatever path are the document's. For every input.
-/
import Derived.Test.YtbaclinjimfncaaGreatTreePair
import Derived.Test.YtbaclinjimfncaaGreatTreeArgs
namespace Go.Proofs.YtbaclinjimfncaaGreat
namespace TreePlays
open Go.ChangeShapes Go.WideShapes Go.ChangeAt Go.RowKit Vers Num Ring Disk Blk Tree
open Go.Proofs.YtbaclinjimfncaaGreat.Code hiding Bn
attribute [local go_sem ↓] Go.wp_at_zero Go.wp_at_succ
set_option maxRecDepth 100000 in
set_option maxHeartbeats 8000000 in
theorem walk (w : World) (A : Option Addr) (c : Nat) (l : List Rc) (hl : Rs w 0 w.heap.size A l) (hb : l.length * 40 ≤ 140737488351232) (_hlc : l.length ≤ c) (A' : Option Addr) (c' : Nat) (p : List Int) (hp : Ns .i64 w w.heap.size A' p) (_hwf : ∀ z ∈ p, -9223372036854775808 ≤ z ∧ z ≤ 9223372036854775807) (hpb : p.length * 8 ≤ 140737488351232) (_hpc : p.length ≤ c') :
    Calls Tryz.prog 3 #[.slice A l.length c, .slice A' p.length c'] w fun e w' => e = .returned (.bool true) ∧ Below w.heap.size w w' := by
  obtain ⟨n, hn⟩ : ∃ n, l.length = n := ⟨_, rfl⟩
  obtain ⟨m, hm⟩ : ∃ m, p.length = m := ⟨_, rfl⟩
  rw [hn] at hb ⊢
  rw [hm] at hpb ⊢
  have HZ := Lib.hid (And.intro hl (And.intro hn (And.intro hp hm)))
  have H0 := Lib.hid (awake_any w)
  clear hl hn hp hm
  go_enter Tryz.func3, Tryz.ntmps3
  go_wp2_with fail
  refine H0.out.mono ?_
  rintro e1 w1 ⟨rfl, b1⟩
  have H1 := Lib.hid (built_tw A c n l HZ.out.2.1 (by omega) w w1 b1 HZ.out.1)
  clear b1 H0
  go_wp2_with fail
  refine H1.out.mono ?_
  rintro e2 w2 ⟨tb, Aa, na, ca, rfl, hna, h2⟩
  have HL := Lib.hid h2.out.1
  obtain ⟨L, hL⟩ : ∃ L, layG l = L := ⟨_, rfl⟩
  rw [hL] at HL h2
  have HP : Hid (∀ W v, Tw w w1.heap.size tb L v W → Ns .i64 W W.heap.size A' p) := Lib.hid fun W v h => (HZ.out.2.2.1.below h.old).more h.old.size
  have T2 := Lib.hid h2.out.2.1
  have H2 := Lib.hid (T2.out.hash (by rw [HL.out]; omega) A' c' m p HZ.out.2.2.2 (by omega) (HP.out _ _ T2.out))
  unfold hd at H2
  clear h2 H1 hL
  unfold hd
  go_wp2_with fail
  refine H2.out.mono ?_
  rintro e3 w3 ⟨rfl, T3⟩
  have H3 := Lib.hid (T3.out.refhash HL.out (by omega) A' c' m p HZ.out.2.2.2 (by omega) (HP.out _ _ T3.out))
  clear T2 H2 T3
  go_wp2_with fail
  refine H3.out.mono ?_
  rintro e4 w4 ⟨rfl, h4⟩
  have T4 := Lib.hid h4.out.1
  have H4 := Lib.hid (T4.out.kids (by rw [HL.out]; omega) A' c' m p HZ.out.2.2.2 (by omega) (HP.out _ _ T4.out))
  unfold hd at H4
  clear H3 h4 T4
  go_wp2_with fail
  refine H4.out.mono ?_
  rintro e5 w5 ⟨A5, m5, c5, rfl, h5⟩
  have T5 := Lib.hid h5.out.2.2
  have H5 := Lib.hid (T5.out.refkids HL.out (by omega) A' c' m p HZ.out.2.2.2 (by omega) (HP.out _ _ T5.out))
  clear H4
  go_wp2_with fail
  refine H5.out.mono ?_
  rintro e6 w6 ⟨A6, m6, c6, rfl, h6⟩
  have b6 := h6.out.2.2.2
  have T6 := Lib.hid h6.out.2.2.1
  have H6 := Lib.hid (same_hashes c5 c6 m5 m6 (kidsF L p) h5.out.1 h6.out.1 (kidsF_len _ _) w6 ((h5.out.2.1.below b6).more b6.size) h6.out.2.1)
  clear H5 h5 h6 b6 T5
  go_wp2_with fail
  refine H6.out.mono ?_
  rintro e7 w7 ⟨rfl, b7⟩
  have T7 := Lib.hid (T6.out.below b7)
  have H7 := Lib.hid (T7.out.recs (by rw [HL.out]; omega) A' c' m p HZ.out.2.2.2 (by omega) (HP.out _ _ T7.out))
  unfold hd at H7
  clear H6 b7 T6 T7
  go_wp2_with fail
  refine H7.out.mono ?_
  rintro e8 w8 ⟨A8, m8, c8, rfl, h8⟩
  have T8 := Lib.hid h8.out.2.2.1
  have H8 := Lib.hid (T8.out.refrecs HL.out (by omega) A' c' m p HZ.out.2.2.2 (by omega) (HP.out _ _ T8.out))
  clear H7 T8
  go_wp2_with fail
  refine H8.out.mono ?_
  rintro e9 w9 ⟨A9, m9, c9, rfl, h9⟩
  have b9 := h9.out.2.2.2
  have T9 := Lib.hid h9.out.2.2.1
  have hrl := recsF_len L p
  have H9 := Lib.hid (same_recs c8 c9 m8 m9 (recsF L p) h8.out.1 h9.out.1 (by have := HL.out; omega) w9 ((h8.out.2.1.below b9).more b9.size) h9.out.2.1)
  clear H8 h8 h9 b9 hrl
  go_wp2_with fail
  refine H9.out.mono ?_
  rintro e10 wa ⟨rfl, ba⟩
  have Ta := Lib.hid (T9.out.below ba)
  have Ha := Lib.hid (Ta.out.hash (by rw [HL.out]; omega) none 0 0 [] rfl (by omega) ns_nil)
  unfold hd at Ha
  clear H9 ba T9 Ta
  go_wp2_with fail
  refine Ha.out.mono ?_
  rintro e11 wb ⟨rfl, Tb⟩
  have Hb := Lib.hid (Tb.out.refhash HL.out (by omega) none 0 0 [] rfl (by omega) ns_nil)
  clear Ha Tb
  go_wp2_with fail
  refine Hb.out.mono ?_
  rintro e12 wc ⟨rfl, hc⟩
  have HE := Lib.hid hc.out.1.old
  clear Hb hc
  go_wp2_with fail
  go_ret
  exact ⟨rfl, HE.out⟩
-- ROW BEGIN
set_option maxRecDepth 100000 in
/-- What the walk gives, shut again. -/
theorem contract (H : Type) (enc : TypeId × Value → H) (W : World) (base : Nat) (args : Array Value) (ds gs : List (DataW H)) (before : List MemPlace)
    (hval : ∀ (j : Nat) t v, Tryz.f3.params[j]? = some t → args[j]? = some v → Value.okWide Tryz.prog W .any base t v)
    (hW : DataW.Whole enc Tryz.prog Tryz.f3.params.toList Rows.treePlaysSpec.vars false W args.toList ds gs before)
    (hsz : (DataW.weightsEach Tryz.prog (Tryz.f3.params.toList ++ Rows.treePlaysSpec.plain.varTypes Tryz.prog) (ds ++ gs)).all (· ≤ reachBytes) = true) :
    Calls Tryz.prog 3 args W fun e W' => ∃ v, e = .returned v ∧ Rows.treePlaysSpec.post enc Tryz.prog Tryz.f3 false true false false W args v W' := by
  have hW' := hW
  obtain ⟨p, q, hA0, hV, hbef, _, _⟩ := hW
  have hA : DataW.TrodAll enc Tryz.prog W 0 (fun _ => true) true Tryz.f3.params.toList args.toList ds p := hA0
  have hA1 := hA
  rw [Tryz.params3] at hA hval hsz
  obtain ⟨v0, vs0, d0, ds0, p0, q0, hargs, rfl, rfl, h0, r0⟩ := trodAll_cons hA
  obtain ⟨v1, vs1, d1, ds1, p1, q1, rfl, rfl, rfl, h1, r1⟩ := trodAll_cons r0
  obtain ⟨rfl, rfl, rfl⟩ := trodAll_nil r1
  obtain rfl : args = #[v0, v1] := by cases args; simp_all
  obtain ⟨rfl, rfl⟩ := trodVars_none hV
  clear hA hargs
  obtain ⟨A0, c0, a0, rfl, n0, l0, b0⟩ := Tree.arg_recs (hval 0 22 v0 rfl rfl) h0 (Vers.wt_arg hsz (j := 0) rfl rfl)
  obtain ⟨A1, c1, a1, rfl, n1, w1, l1, _, o1⟩ := open_ns Tryz.underlying23 Tryz.underlying3 Facts.cells3 (hval 1 23 v1 rfl rfl) h1
  have b1 := reach_ns hsz (j := 1) rfl rfl Tryz.underlying23 Facts.bytes3 l1 o1
  refine (walk W A0 c0 a0 n0 b0 l0 A1 c1 a1 n1 (fun z hz => wf_int (w1 z hz)) (by omega) l1).mono fun e W' ⟨he, hb⟩ => ?_
  subst he
  exact ⟨_, rfl, law_post Facts.laid (by rfl) Tryz.underlying4 (by rw [Tryz.params3]; decide +kernel) hW' hA1 rfl hbef rfl rfl rfl hb⟩

set_option maxRecDepth 100000 in
theorem lifted (os : Os) (started : os.Started) (H : Type) (enc : TypeId × Value → H) :
    ReturnsInHanded {} Tryz.checked os 3 .any (Rows.treePlaysSpec.pre6 enc Tryz.prog Tryz.f3 Rows.treePlaysRow.domain false) (Rows.treePlaysSpec.post enc Tryz.prog Tryz.f3 false true false false) := by
  refine returnsInHanded_of_change_sized (C := Tryz.checked) Facts.own started (by kernel_rfl) Tryz.func3
    (ChangeSpec.witness6 (enc := enc) (C := Tryz.checked) false ⟨#[], #[.slice none 0 0, .slice none 0 0], []⟩ 8 (by kernel_rfl) (by kernel_rfl) (by kernel_rfl) (by kernel_rfl)) ?_
  intro W base args ds gs before hval hW _ hsz _
  exact contract H enc W base args ds gs before hval hW hsz

theorem holds : Rows.TreePlaysSaid :=
  OpenClaim.holds_of_wide 3 Tryz.f3 rfl rfl rfl rfl rfl rfl rfl ⟨rfl, rfl, rfl, rfl, rfl⟩ rfl rfl rfl rfl rfl (by kernel_rfl) Tryz.func3 (by kernel_rfl)
    (of_decide_eq_true (by kernel_rfl)) (by unfold Func.isWrapper; first | (rw [if_pos (by decide +kernel)]; kernel_rfl) | (rw [if_neg (by decide +kernel)]; exact ⟨rfl, rfl⟩))
    (fun os started H enc _ => lifted os started H enc)
-- ROW END
end TreePlays
end Go.Proofs.YtbaclinjimfncaaGreat
