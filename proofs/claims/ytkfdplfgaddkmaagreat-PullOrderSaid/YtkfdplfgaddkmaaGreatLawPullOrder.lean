/-
 PullOrder: in whatever order a cut's answers are told, the same is staged.
-/
import Derived.Test.YtkfdplfgaddkmaaGreatK39
import Derived.Test.YtkfdplfgaddkmaaGreatK35
namespace Go.Proofs.YtkfdplfgaddkmaaGreat
namespace PullOrder
open Go.ChangeShapes Go.WideShapes Go.ChangeAt Go.RowKit Vers Num Ring Disk Blk Tree Mend Pull
open Go.Proofs.YtkfdplfgaddkmaaGreat.Code hiding Bn
attribute [local go_sem ↓] Go.wp_at_zero Go.wp_at_succ
set_option maxRecDepth 100000 in
set_option maxHeartbeats 4000000 in
theorem walk (w : World) (A : Option Addr) (c : Nat) (own : List Rc) (ha : Rs w 0 w.heap.size A own) (hb : own.length * 40 ≤ 140737488351232) (_hc : own.length ≤ c) (A' : Option Addr) (c' : Nat) (cut : List Rc) (ha' : Rs w 0 w.heap.size A' cut) (hb' : cut.length * 40 ≤ 140737488351232) (_hc' : cut.length ≤ c')
  (Ao : Option Addr) (co : Nat) (order : List Int) (ho : Ns .i64 w w.heap.size Ao order) (_hwf : ∀ z ∈ order, -9223372036854775808 ≤ z ∧ z ≤ 9223372036854775807) (hob : order.length * 8 ≤ 140737488351232) (_hoc : order.length ≤ co) :
  Calls Tryz.prog 6 #[.slice A own.length c, .slice A' cut.length c', .slice Ao order.length co] w fun e w' => e = .returned (.bool true) ∧ Below w.heap.size w w' := by
 obtain ⟨n, hn⟩ : ∃ n, own.length = n := ⟨_, rfl⟩
 obtain ⟨n', hn'⟩ : ∃ n, cut.length = n := ⟨_, rfl⟩
 obtain ⟨no, hno⟩ : ∃ n, order.length = n := ⟨_, rfl⟩
 rw [hn] at hb ⊢
 rw [hn'] at hb' ⊢
 rw [hno] at hob ⊢
 have HP : Hid ((∀ W, Below w.heap.size w W → Rs W 0 W.heap.size A own) ∧ (∀ W, Below w.heap.size w W → Rs W 0 W.heap.size A' cut) ∧ own.length = n ∧ cut.length = n' ∧ order.length = no) := Lib.hid ⟨fun W h => (ha.below h).more h.size, fun W h => (ha'.below h).more h.size, hn, hn', hno⟩
 have HO := Lib.hid ho
 have H0 := Lib.hid (awake_any w)
 clear ha ha' hn hn' ho hno
 go_enter Tryz.func6, Tryz.ntmps6
 go_wp2_with fail
 refine H0.out.mono ?_
 rintro e1 w1 ⟨rfl, b1⟩
 obtain ⟨U, hU⟩ : ∃ U, w1.alloc (.cells #[.int .i64 5] 2) = U := ⟨_, rfl⟩
 have bU1 : Below w1.heap.size w1 U := by rw [← hU]; exact (Below.refl _ w1).alloc (Nat.le_refl _) _
 have bU : Below w.heap.size w U := b1.trans (bU1.mono b1.size)
 have nU : Ns .i64 U U.heap.size (some ⟨w1.heap.size, 0, none⟩) [5] := by rw [← hU]; exact ns_lit w1 5
 obtain ⟨vb, hvb⟩ : ∃ vb, w1.heap.size = vb := ⟨_, rfl⟩
 rw [hvb] at nU
 have K1 := Lib.hid (newcut_any bU 1 (some ⟨vb, 0, none⟩) A' 1 1 n' c' [5] cut rfl HP.out.2.2.2.1 (by omega) (by omega) nU (HP.out.2.1 U bU))
 have HB := Lib.hid bU
 clear b1 bU1 bU nU H0
 go_wp2_with fail
 clear hU hvb
 refine K1.out.mono ?_
 rintro e2 w2 (⟨_, hokc, cb, rfl, h2, b2⟩ | ⟨hnoc, rfl, b2⟩)
 ·have bw2 : Below w.heap.size w w2 := HB.out.trans (b2.mono HB.out.size)
  have K2 := Lib.hid (newpull_any bw2 1 A n c own HP.out.2.2.1 (by omega) (HP.out.1 w2 bw2))
  have H2 := Lib.hid (And.intro h2.out bw2)
  clear h2 b2 bw2 K1
  unfold hd
  go_wp2_with fail
  refine K2.out.mono ?_
  rintro e3 w3 (⟨hoko, pb, rfl, h3, b3⟩ | ⟨hnoo, rfl, b3⟩)
  ·have bw3 : Below w.heap.size w w3 := H2.out.2.trans (b3.mono H2.out.2.size)
   have K3 := Lib.hid (newpull_yes bw3 1 A n c own HP.out.2.2.1 (by omega) (HP.out.1 w3 bw3) hoko)
   obtain ⟨Fc, hcn, _⟩ := H2.out.1
   obtain ⟨Fp, hpj, hpn⟩ := h3.out
   have p3 := pp_made hcn b3 hpj hpn
   have P3 := Lib.hid p3
   unfold hd at *
   clear h3 b3 bw3 hcn hpj hpn p3 K2 H2 hoko
   go_wp2_with fail
   refine K3.out.mono ?_
   rintro e4 w4 ⟨qb, rfl, h4, b4⟩
   obtain ⟨Fq, hqj, hqn⟩ := h4.out
   have t4 : TP Fc Fp Fq w w4 cb 1 [5] (layF cut) pb 1 (layF own) false [] [] [] qb 1 (layF own) false [] [] [] := ⟨P3.out.below b4, hqj, fun k hk hq => by have := P3.out.lt hk; have := hqn k hq; omega⟩
   have T := Lib.hid t4
   clear h4 b4 hqj hqn t4 P3 K3
   have Kap := Lib.hid T.out.cp.cvec
   unfold hd at Kap
   go_wp2_with fail
   refine Kap.out.mono ?_
   rintro epa wpa ⟨Apa, cpa, npa, rfl, hpa, bpa⟩
   obtain rfl : 1 = npa := hpa.out.1
   have tpa := T.out.below bpa
   have Kbp := Lib.hid tpa.cp.open_any
   have Tap := Lib.hid (And.intro tpa hpa.out.2.2.1)
   unfold hd at Kbp
   clear hpa bpa tpa Kap T
   go_wp2_with fail
   refine Kbp.out.mono ?_
   rintro epb wpb ⟨Apb, mpb, cpb, rfl, hpb⟩
   have Tbp := Lib.hid (Tap.out.1.step hpb.out.2.2.1 hpb.out.2.2.2)
   have Kcp := Lib.hid (hpb.out.2.2.1.pull.begin_yes (by simp) Apa Apb cpa cpb 1 mpb [5] (kidsF (layF cut) []) rfl hpb.out.1 (by decide) ((sta_stp Tap.out.2 hpb.out.2.2.2).less fun k hk => .inr hk) (hpb.out.2.1.less fun k hk => .inr hk))
   unfold hd at Kcp
   clear hpb Kbp Tap
   go_wp2_with fail
   refine Kcp.out.mono ?_
   rintro epc wpc ⟨rfl, Fpc, hpc⟩
   have spc := Tbp.out.cp.step hpc.out.1 hpc.out.2
   have tpc := Tbp.out.step spc.1 spc.2
   have T := Lib.hid tpc.swap
   clear hpc spc tpc Kcp Tbp
   have Kaq := Lib.hid T.out.cp.cvec
   unfold hd at Kaq
   go_wp2_with fail
   refine Kaq.out.mono ?_
   rintro eqa wqa ⟨Aqa, cqa, nqa, rfl, hqa, bqa⟩
   obtain rfl : 1 = nqa := hqa.out.1
   have tqa := T.out.below bqa
   have Kbq := Lib.hid tqa.cp.open_any
   have Taq := Lib.hid (And.intro tqa hqa.out.2.2.1)
   unfold hd at Kbq
   clear hqa bqa tqa Kaq T
   go_wp2_with fail
   refine Kbq.out.mono ?_
   rintro eqb wqb ⟨Aqb, mqb, cqb, rfl, hqb⟩
   have Tbq := Lib.hid (Taq.out.1.step hqb.out.2.2.1 hqb.out.2.2.2)
   have Kcq := Lib.hid (hqb.out.2.2.1.pull.begin_yes (by simp) Aqa Aqb cqa cqb 1 mqb [5] (kidsF (layF cut) []) rfl hqb.out.1 (by decide) ((sta_stp Taq.out.2 hqb.out.2.2.2).less fun k hk => .inr hk) (hqb.out.2.1.less fun k hk => .inr hk))
   unfold hd at Kcq
   clear hqb Kbq Taq
   go_wp2_with fail
   refine Kcq.out.mono ?_
   rintro eqc wqc ⟨rfl, Fqc, hqc⟩
   have sqc := Tbq.out.cp.step hqc.out.1 hqc.out.2
   have tqc := Tbq.out.step sqc.1 sqc.2
   have T := Lib.hid tqc.swap
   clear hqc sqc tqc Kcq Tbq
   have Ktp := Lib.hid (told_any T.out.cp (Tl.start (layF own) (layF cut)) (work_start _ _) Ao co no order HP.out.2.2.2.2 (by omega) (sta_ns (HO.out.below T.out.cp.cut.old) T.out.cp.cut.old.size fun j hj => T.out.cp.new hj))
   unfold hd at Ktp
   go_wp2_with fail
   refine Ktp.out.mono ?_
   rintro ept wpt ⟨rfl, Fpt, Tpt, spt, hpt⟩
   have Tlp := Lib.hid hpt.out.2.1
   have T := Lib.hid (T.out.step hpt.out.1 hpt.out.2.2).swap
   clear hpt Ktp
   have Ktq := Lib.hid (told_any T.out.cp (Tl.start (layF own) (layF cut)) (work_start _ _) none 0 0 [] rfl (by omega) (fun X _ _ => ns_nil))
   unfold hd at Ktq
   go_wp2_with fail
   refine Ktq.out.mono ?_
   rintro eqt wqt ⟨rfl, Fqt, Tqt, sqt, hqt⟩
   have Tlq := Lib.hid hqt.out.2.1
   have T := Lib.hid (T.out.step hqt.out.1 hqt.out.2.2).swap
   clear hqt Ktq
   have hst : sqt = spt := (Tlq.out).order (Tlp.out)
   subst hst
   have hlen := Tlq.out.stlen
   have hcl := T.out.cp.cut.few
   have Ks := Lib.hid (T.out.cp.pull.staged_any (by omega))
   unfold hd at Ks
   go_wp2_with fail
   refine Ks.out.mono ?_
   rintro es ws ⟨As, ns, cs, pss, rfl, hs, bs⟩
   obtain ⟨q1, q2, q3, q4⟩ := hs.out
   have hrs : Rs ws 0 ws.heap.size As sqt := by
    have h := q4.rs.less (Nat.zero_le _)
    rwa [q1] at h
   have Hs := Lib.hid (And.intro hrs (And.intro q2 (T.out.below bs)))
   have Ku := Lib.hid ((T.out.below bs).q.staged_any (by omega))
   unfold hd at Ku
   clear q1 q2 q3 q4 hrs hs bs Ks T
   go_wp2_with fail
   refine Ku.out.mono ?_
   rintro eu wu ⟨Au, nu, cu, psu, rfl, hu, bu⟩
   obtain ⟨q1, q2, q3, q4⟩ := hu.out
   have hru : Rs wu 0 wu.heap.size Au sqt := by
    have h := q4.rs.less (Nat.zero_le _)
    rwa [q1] at h
   have Kv := Code.srecs_any As Au cs cu ns nu sqt sqt Hs.out.2.1.symm q2.symm wu ((Hs.out.1.below bu).more bu.size) hru (by have := Hs.out.2.1; omega) (by omega)
   rw [decide_eq_true rfl] at Kv
   have Kv := Lib.hid Kv
   have Hu := Lib.hid (Hs.out.2.2.below bu).cp.cut.old
   clear q1 q2 q3 q4 hru hu bu Ku Hs hlen hcl
   go_wp2_with fail
   refine Kv.out.mono ?_
   rintro ev wv ⟨rfl, bv⟩
   have HF := Lib.hid (Hu.out.trans (bv.mono Hu.out.size))
   clear bv Kv
   go_wp2_with fail
   go_ret
   exact ⟨rfl, HF.out⟩
  ·-- what one has isn't right
   have bw3 : Below w.heap.size w w3 := H2.out.2.trans (b3.mono H2.out.2.size)
   have K3 := Lib.hid (newpull_any bw3 1 A n c own HP.out.2.2.1 (by omega) (HP.out.1 w3 bw3))
   have HB3 := Lib.hid bw3
   clear b3 bw3 K2 H2
   go_wp2_with fail
   refine K3.out.mono ?_
   rintro e4 w4 (⟨hoko, _⟩ | ⟨_, rfl, b4⟩)
   ·exact absurd hoko hnoo
   ·have HF := Lib.hid (HB3.out.trans (b4.mono HB3.out.size))
    clear b4 K3
    go_wp2_with fail
    go_ret
    exact ⟨rfl, HF.out⟩
 ·-- the cut's records aren't right
  have hbad : ¬ okL cut := fun h => hnoc ⟨by decide, h⟩
  have bw2 : Below w.heap.size w w2 := HB.out.trans (b2.mono HB.out.size)
  have K2 := Lib.hid (newpull_any bw2 1 A n c own HP.out.2.2.1 (by omega) (HP.out.1 w2 bw2))
  have H2 := Lib.hid bw2
  clear b2 bw2 K1 hnoc hbad
  go_wp2_with fail
  refine K2.out.mono ?_
  rintro e3 w3 (⟨hoko, pb, rfl, h3, b3⟩ | ⟨hnoo, rfl, b3⟩)
  ·have bw3 : Below w.heap.size w w3 := H2.out.trans (b3.mono H2.out.size)
   have K3 := Lib.hid (newpull_yes bw3 1 A n c own HP.out.2.2.1 (by omega) (HP.out.1 w3 bw3) hoko)
   have HB3 := Lib.hid bw3
   clear h3 b3 bw3 K2 H2
   unfold hd at *
   go_wp2_with fail
   refine K3.out.mono ?_
   rintro e4 w4 ⟨qb, rfl, h4, b4⟩
   have HF := Lib.hid (HB3.out.trans (b4.mono HB3.out.size))
   clear h4 b4 K3
   go_wp2_with fail
   go_ret
   exact ⟨rfl, HF.out⟩
  ·have bw3 : Below w.heap.size w w3 := H2.out.trans (b3.mono H2.out.size)
   have K3 := Lib.hid (newpull_any bw3 1 A n c own HP.out.2.2.1 (by omega) (HP.out.1 w3 bw3))
   have HB3 := Lib.hid bw3
   clear b3 bw3 K2 H2
   go_wp2_with fail
   refine K3.out.mono ?_
   rintro e4 w4 (⟨hoko, _⟩ | ⟨_, rfl, b4⟩)
   ·exact absurd hoko hnoo
   ·have HF := Lib.hid (HB3.out.trans (b4.mono HB3.out.size))
    clear b4 K3
    go_wp2_with fail
    go_ret
    exact ⟨rfl, HF.out⟩
-- ROW BEGIN
set_option maxRecDepth 100000 in
theorem contract (H : Type) (enc : TypeId × Value → H) (W : World) (base : Nat) (args : Array Value) (ds gs : List (DataW H)) (before : List MemPlace)
  (hval : ∀ (j : Nat) t v, Tryz.f6.params[j]? = some t → args[j]? = some v → Value.okWide Tryz.prog W .any base t v)
  (hW : DataW.Whole enc Tryz.prog Tryz.f6.params.toList Rows.pullOrderSpec.vars false W args.toList ds gs before)
  (hsz : (DataW.weightsEach Tryz.prog (Tryz.f6.params.toList ++ Rows.pullOrderSpec.plain.varTypes Tryz.prog) (ds ++ gs)).all (· ≤ reachBytes) = true) :
  Calls Tryz.prog 6 args W fun e W' => ∃ v, e = .returned v ∧ Rows.pullOrderSpec.post enc Tryz.prog Tryz.f6 false true false false W args v W' := by
 have hW' := hW
 obtain ⟨p, q, hA0, hV, hbef, _, _⟩ := hW
 have hA : DataW.TrodAll enc Tryz.prog W 0 (fun _ => true) true Tryz.f6.params.toList args.toList ds p := hA0
 have hA1 := hA
 rw [Tryz.params6] at hA hval hsz
 obtain ⟨v0, vs0, d0, ds0, p0, q0, hargs, rfl, rfl, h0, r0⟩ := trodAll_cons hA
 obtain ⟨v1, vs1, d1, ds1, p1, q1, rfl, rfl, rfl, h1, r1⟩ := trodAll_cons r0
 obtain ⟨v2, vs2, d2, ds2, p2, q2, rfl, rfl, rfl, h2, r2⟩ := trodAll_cons r1
 obtain ⟨rfl, rfl, rfl⟩ := trodAll_nil r2
 obtain rfl : args = #[v0, v1, v2] := by cases args; simp_all
 obtain ⟨rfl, rfl⟩ := trodVars_none hV
 clear hA hargs
 obtain ⟨A0, c0, a0, rfl, n0, l0, b0⟩ := Tree.arg_recs (hval 0 23 v0 rfl rfl) h0 (Vers.wt_arg hsz (j := 0) rfl rfl)
 obtain ⟨A1, c1, a1, rfl, n1, l1, b1⟩ := Tree.arg_recs (hval 1 23 v1 rfl rfl) h1 (Vers.wt_arg hsz (j := 1) rfl rfl)
 obtain ⟨A2, c2, a2, rfl, n2, w2, l2, _, o2⟩ := open_ns Tryz.underlying24 Tryz.underlying3 Facts.cells3 (hval 2 24 v2 rfl rfl) h2
 have b2 := reach_ns hsz (j := 2) rfl rfl Tryz.underlying24 Facts.bytes3 l2 o2
 refine (walk W A0 c0 a0 n0 b0 l0 A1 c1 a1 n1 b1 l1 A2 c2 a2 n2 (fun z hz => wf_int (w2 z hz)) (by omega) l2).mono fun e W' ⟨he, hb⟩ => ?_
 subst he
 exact ⟨_, rfl, law_post Facts.laid (by rfl) Tryz.underlying4 (by rw [Tryz.params6]; decide +kernel) hW' hA1 rfl hbef rfl rfl rfl hb⟩

set_option maxRecDepth 100000 in
theorem lifted (os : Os) (started : os.Started) (H : Type) (enc : TypeId × Value → H) :
  ReturnsInHanded {} Tryz.checked os 6 .any (Rows.pullOrderSpec.pre6 enc Tryz.prog Tryz.f6 Rows.pullOrderRow.domain false) (Rows.pullOrderSpec.post enc Tryz.prog Tryz.f6 false true false false) := by
 refine returnsInHanded_of_change_sized (C := Tryz.checked) Facts.own started (by kernel_rfl) Tryz.func6
  (ChangeSpec.witness6 (enc := enc) (C := Tryz.checked) false ⟨#[], #[.slice none 0 0, .slice none 0 0, .slice none 0 0], []⟩ 8 (by kernel_rfl) (by kernel_rfl) (by kernel_rfl) (by kernel_rfl)) ?_
 intro W base args ds gs before hval hW _ hsz _
 exact contract H enc W base args ds gs before hval hW hsz

theorem holds : Rows.PullOrderSaid :=
 OpenClaim.holds_of_wide 6 Tryz.f6 rfl rfl rfl rfl rfl rfl rfl ⟨rfl, rfl, rfl, rfl, rfl⟩ rfl rfl rfl rfl rfl (by kernel_rfl) Tryz.func6 (by kernel_rfl)
  (of_decide_eq_true (by kernel_rfl)) (by unfold Func.isWrapper; first | (rw [if_pos (by decide +kernel)]; kernel_rfl) | (rw [if_neg (by decide +kernel)]; exact ⟨rfl, rfl⟩))
  (fun os started H enc _ => lifted os started H enc)
-- ROW END
end PullOrder
end Go.Proofs.YtkfdplfgaddkmaaGreat
