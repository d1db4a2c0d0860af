/-
 PullFew: who has the same wants nothing; who differs under some keys asks for no more leaves than these keys have. Up to a bulk of the input.
-/
import Derived.Test.YtkfdplfgaddkmaaGreatK39
import Derived.Test.YtkfdplfgaddkmaaGreatK35
import Derived.Test.YtkfdplfgaddkmaaGreatK28
import Derived.Test.YtkfdplfgaddkmaaGreatK36
namespace Go.Proofs.YtkfdplfgaddkmaaGreat
namespace PullFew
open Go.ChangeShapes Go.WideShapes Go.ChangeAt Go.RowKit Vers Num Ring Disk Blk Tree Mend Pull
open Go.Proofs.YtkfdplfgaddkmaaGreat.Code hiding Bn
attribute [local go_sem ↓] Go.wp_at_zero Go.wp_at_succ
theorem lay_self {b : List Rc} (h : Lst b) : layF b = b := held_self h.1
theorem want_self (b : List Rc) : wantF b [] (kidsF b []) = [] := by
 have h : diffF (kidsF b []) (kidsF b []) = [] := by simp [diffF]
 unfold wantF
 rw [h]
 rfl
def LayUp (l' l : List Rc) (n' n : Nat) (V : World) (v q : Value) (wr : World) : Prop :=
 ∃ (i nx : Nat) (Ax : Option Addr) (cx : Nat), q = .int .i64 i ∧ i ≤ n' ∧ v = .slice Ax nx cx ∧ nx ≤ n + i ∧ Hid (((l'.take i).foldl withR l).length = nx ∧ nx ≤ cx ∧ Rb wr wr.heap.size Ax ((l'.take i).foldl withR l) ∧ Below V.heap.size V wr)
def Going (Fc : Nat → Prop) (w : World) (cb : Nat) (cut : List Rc) (qb : Nat) (own : List Rc) (v q : Value) (wr : World) : Prop :=
 ∃ (i : Nat) (T : List (Int × Int)), q = .int .i64 i ∧ v = .int .i64 T.length ∧ i ≤ 299 ∧ T.length ≤ i ∧ ∃ Fq W st, Hid (PP Fc Fq w wr cb 1 [5] cut qb 1 own true [5] W st ∧ Tl own cut T W st ∧ i + work W ≤ 299)
set_option maxRecDepth 100000 in
set_option maxHeartbeats 8000000 in
theorem walk (w : World) (A : Option Addr) (c : Nat) (l : List Rc) (ha : Rs w 0 w.heap.size A l) (_hb : l.length * 40 ≤ 140737488351232) (_hc : l.length ≤ c) (A' : Option Addr) (c' : Nat) (more : List Rc) (ha' : Rs w 0 w.heap.size A' more) (_hb' : more.length * 40 ≤ 140737488351232) (_hc' : more.length ≤ c') (hbulk : l.length + more.length ≤ 1048576) :
  Calls Tryz.prog 7 #[.slice A l.length c, .slice A' more.length c'] w fun e w' => e = .returned (.bool true) ∧ Below w.heap.size w w' := by
 obtain ⟨n, hn⟩ : ∃ n, l.length = n := ⟨_, rfl⟩
 obtain ⟨n', hn'⟩ : ∃ n, more.length = n := ⟨_, rfl⟩
 rw [hn, hn'] at hbulk ⊢
 have HP : Hid ((∀ W, Below w.heap.size w W → Rs W 0 W.heap.size A l) ∧ (∀ W, Below w.heap.size w W → Rs W 0 W.heap.size A' more) ∧ l.length = n ∧ more.length = n') := Lib.hid ⟨fun W h => (ha.below h).more h.size, fun W h => (ha'.below h).more h.size, hn, hn'⟩
 have H0 := Lib.hid (awake_any w)
 clear ha ha' hn hn'
 go_enter Tryz.func7, Tryz.ntmps7
 go_wp2_with fail
 refine H0.out.mono ?_
 rintro e1 w1 ⟨rfl, b1⟩
 have B1 := Lib.hid b1
 have H1 := Lib.hid (held_up A c n l HP.out.2.2.1 (by omega) w1 (HP.out.1 w1 b1))
 clear b1 H0
 go_wp2_with fail
 refine H1.out.mono ?_
 rintro e2 w2 (⟨hok, Aa, na, ca, rfl, h2, b2⟩ | ⟨_, rfl, b2⟩)
 rotate_left
 ·have B2 := Lib.hid (B1.out.trans (b2.mono B1.out.size))
  have H2 := Lib.hid (held_up A' c' n' more HP.out.2.2.2 (by omega) w2 (HP.out.2.1 _ B2.out))
  clear b2 H1
  go_wp2_with fail
  refine H2.out.mono ?_
  rintro e3 w3 (⟨_, Am, nm, cm, rfl, _, b3⟩ | ⟨_, rfl, b3⟩)
  all_goals
   have HF := Lib.hid (B2.out.trans (b3.mono B2.out.size))
   clear b3 H2
   go_wp2_with fail
   go_ret
   exact ⟨rfl, HF.out⟩
 ·have B2 := Lib.hid (And.intro (B1.out.trans (b2.mono B1.out.size)) (And.intro hok h2.out))
  have hna : na ≤ n := h2.out.2.2.1
  have H2 := Lib.hid (held_up A' c' n' more HP.out.2.2.2 (by omega) w2 (HP.out.2.1 _ B2.out.1))
  clear b2 H1 h2 hok
  go_wp2_with fail
  refine H2.out.mono ?_
  rintro e3 w3 (⟨hok3, Am, nm, cm, rfl, h3, b3⟩ | ⟨_, rfl, b3⟩)
  rotate_left
  ·have HF := Lib.hid (B2.out.1.trans (b3.mono B2.out.1.size))
   clear b3 H2
   go_wp2_with fail
   go_ret
   exact ⟨rfl, HF.out⟩
  ·have hnm : nm ≤ n' := h3.out.2.2.1
   obtain ⟨a, ha⟩ : ∃ a, heldF l = a := ⟨_, rfl⟩
   obtain ⟨m, hm⟩ : ∃ m, heldF more = m := ⟨_, rfl⟩
   have La : Lst a := by rw [← ha]; exact Lst.held B2.out.2.1
   have Lm : Lst m := by rw [← hm]; exact Lst.held hok3
   have hra : Rs w3 0 w3.heap.size Aa a := by rw [← ha]; exact (B2.out.2.2.2.2.2.below b3).more b3.size
   have hrm : Rs w3 0 w3.heap.size Am m := by rw [← hm]; exact h3.out.2.2.2
   have hla : a.length = na := by rw [← ha]; exact B2.out.2.2.1
   have hlm : m.length = nm := by rw [← hm]; exact h3.out.1
   have hac : na ≤ ca := B2.out.2.2.2.1
   have B3 := Lib.hid (And.intro (B2.out.1.trans (b3.mono B2.out.1.size)) (And.intro La (And.intro Lm (And.intro hra (And.intro hla (And.intro hlm (rs_rb hrm)))))))
   have HI : Hid (LayUp m a nm na w3 (.slice Aa na ca) (.int .i64 0) w3) := Lib.hid ⟨0, na, Aa, ca, rfl, by omega, rfl, by omega, Lib.hid ⟨hla, hac, rs_rb hra, Below.refl _ _⟩⟩
   clear h3 b3 hok3 ha hm La Lm hra hrm hla hlm hac H2 B2
   go_wp2_with fail
   go_loopw [9, 10] (fun v q wr => LayUp m a nm na w3 v q wr) (fun _ q _ => nm - (intOf q).toNat)
   case atStart => exact HI.out
   case round =>
    clear HI
    obtain ⟨i, nx, Ax, cx, rfl, hi3, rfl, hx, hst⟩ := hrel
    have hbw : Below w3.heap.size w3 wr := hst.out.2.2.2
    by_cases hlt : i < nm
    ·have d1 : (0 : Int) ≤ (i : Int) := by omega
     have d2 : (i : Int) < (nm : Int) := by omega
     obtain ⟨pb, off, A4, c4, rfl, _, hbB, k0, k1, k2, k3⟩ := B3.out.2.2.2.2.2.2.at B3.out.2.2.2.2.2.1 (Nat.le_refl _) hbw hlt rfl
     obtain ⟨r, hrr⟩ : ∃ r, m.getD i r0 = r := ⟨_, rfl⟩
     rw [hrr] at k0 k1 k2 k3
     obtain ⟨key, lv⟩ := r
     simp only at k0 k1 k2 k3
     obtain ⟨ml, hml⟩ : ∃ ml, lv.length = ml := ⟨_, rfl⟩
     rw [hml] at k1 k3
     obtain ⟨N, hN⟩ : ∃ N, (m.take i).foldl withR a = N := ⟨_, rfl⟩
     rw [hN] at hst
     have HW := Lib.hid (with_any Ax A4 cx c4 nx ml wr.heap.size N key lv hst.out.1 (by omega) hml k3 wr (Nat.le_refl _) hst.out.2.2.1 (k2.more hbw.size))
     have hstep : (m.take (i + 1)).foldl withR a = withR N (key, lv) := by rw [foldw_take a (by have := B3.out.2.2.2.2.2.1; omega) hrr, hN]
     have HF : Hid (∀ A8 n8 c8 (ps8 : List Pr) w7, ps8.map Prod.fst = withR N (key, lv) → (withR N (key, lv)).length = n8 → n8 ≤ c8 → RowX wr.heap.size wr.heap.size w7 (.slice A8 n8 c8) ps8 → Below wr.heap.size wr w7 → LayUp m a nm na w3 (.slice A8 n8 c8) (.int .i64 ((i : Int) + 1)) w7) := Lib.hid fun A8 n8 c8 ps8 w7 g1 g2 g3 g4 g5 => by
      have h6 := with_len N (key, lv)
      rw [hst.out.1, g2] at h6
      have hrb := g4.rb
      rw [g1] at hrb
      refine ⟨i + 1, n8, A8, c8, by push_cast; rfl, by omega, rfl, by omega, Lib.hid ?_⟩
      rw [hstep]
      exact ⟨g2, g3, rb_more hrb g5.size, hbw.trans (g5.mono hbw.size)⟩
     clear hst k2 hml k3 hrr hbw hN hstep
     go_wp2_with fail
     refine HW.out.mono ?_
     rintro e7 w7 ⟨A8, n8, c8, ps8, rfl, h8, b8⟩
     have HF2 := Lib.hid (HF.out A8 n8 c8 ps8 w7 h8.out.1 h8.out.2.1 h8.out.2.2.1 h8.out.2.2.2 b8)
     clear h8 b8 HW
     go_wp2_with fail
     go_roundw
     case rel => exact HF2.out
     case measure => simp only [intOf]; omega
    ·have him : i = nm := by omega
     subst him
     have hfull : m.take i = m := List.take_of_length_le (by have := B3.out.2.2.2.2.2.1; omega)
     rw [hfull] at hst
     obtain ⟨b, hb⟩ : ∃ b, m.foldl withR a = b := ⟨_, rfl⟩
     have Lb : Lst b := by rw [← hb]; exact B3.out.2.1.fold B3.out.2.2.1.2
     have hrb : Rs wr 0 wr.heap.size Ax b := by rw [← hb]; exact rb_rs hst.out.2.2.1 (Nat.le_refl _)
     have hlb : b.length = nx := by rw [← hb]; exact hst.out.1
     have bwr : Below w.heap.size w wr := B3.out.1.trans (hbw.mono B3.out.1.size)
     obtain ⟨U, hU⟩ : ∃ U, wr.alloc (.cells #[.int .i64 5] 2) = U := ⟨_, rfl⟩
     have bU1 : Below wr.heap.size wr U := by rw [← hU]; exact (Below.refl _ wr).alloc (Nat.le_refl _) _
     have bU : Below w.heap.size w U := bwr.trans (bU1.mono bwr.size)
     have nU : Ns .i64 U U.heap.size (some ⟨wr.heap.size, 0, none⟩) [5] := by rw [← hU]; exact ns_lit wr 5
     have hrbU : Rs U 0 U.heap.size Ax b := (hrb.below bU1).more bU1.size
     have hraU : Rs U 0 U.heap.size Aa a := ((B3.out.2.2.2.1.below hbw).below (bU1.mono hbw.size)).more (Nat.le_trans hbw.size bU1.size)
     obtain ⟨vb, hvb⟩ : ∃ vb, wr.heap.size = vb := ⟨_, rfl⟩
     rw [hvb] at nU
     have K5 := newcut_yes bU 1 (some ⟨vb, 0, none⟩) Ax 1 1 nx cx [5] b rfl hlb (by omega) (by omega) nU hrbU (by decide) Lb.2
     rw [lay_self Lb] at K5
     have K5 := Lib.hid K5
     have HU := Lib.hid (And.intro bU (And.intro hrbU (And.intro hraU (And.intro Lb (And.intro hlb hb)))))
     clear hst hfull hb Lb hrb hlb bwr bU1 bU nU hrbU hraU hbw
     go_wp2_with fail
     clear hU hvb
     refine K5.out.mono ?_
     rintro e5 w5 ⟨cb, rfl, h5, b5⟩
     have bw5 : Below w.heap.size w w5 := HU.out.1.trans (b5.mono HU.out.1.size)
     have K6 := newpull_yes bw5 1 Ax nx cx b HU.out.2.2.2.2.1 (by omega) ((HU.out.2.1.below b5).more b5.size) HU.out.2.2.2.1.2
     rw [lay_self HU.out.2.2.2.1] at K6
     have K6 := Lib.hid K6
     obtain ⟨Fc, hcn, _⟩ := h5.out
     have H5 := Lib.hid (And.intro hcn (And.intro bw5 ((HU.out.2.2.1.below b5).more b5.size)))
     clear h5 b5 bw5 hcn K5
     unfold hd at K6 ⊢
     go_wp2_with fail
     refine K6.out.mono ?_
     rintro e6 w6 ⟨pb, rfl, h6, b6⟩
     have bw6 : Below w.heap.size w w6 := H5.out.2.1.trans (b6.mono H5.out.2.1.size)
     have K7 := newpull_yes bw6 1 Aa na ca a B3.out.2.2.2.2.1 (by omega) ((H5.out.2.2.below b6).more b6.size) B3.out.2.1.2
     rw [lay_self B3.out.2.1] at K7
     have K7 := Lib.hid K7
     obtain ⟨Fp, hpj, hpn⟩ := h6.out
     have P6 := Lib.hid (pp_made H5.out.1 b6 hpj hpn)
     clear h6 b6 bw6 hpj hpn H5 K6
     unfold hd at K7
     go_wp2_with fail
     refine K7.out.mono ?_
     rintro e7 w7 ⟨qb, rfl, h7, b7⟩
     obtain ⟨Fq, hqj, hqn⟩ := h7.out
     have t7 : TP Fc Fp Fq w w7 cb 1 [5] b pb 1 b false [] [] [] qb 1 a false [] [] [] := ⟨P6.out.below b7, hqj, fun k hk hq => by have := P6.out.lt hk; have := hqn k hq; omega⟩
     have T := Lib.hid t7
     clear h7 b7 hqj hqn t7 P6 K7
     have Kap := Lib.hid T.out.cp.cvec
     unfold hd at Kap
     go_wp2_with fail
     refine Kap.out.mono ?_
     rintro epa wpa ⟨Apa, cpa, npa, rfl, hpa, bpa⟩
     obtain rfl : 1 = npa := hpa.out.1
     have tpa := T.out.below bpa
     have Kbp := Lib.hid tpa.cp.open_any
     have Tap := Lib.hid (And.intro tpa hpa.out.2.2.1)
     unfold hd at Kbp
     clear hpa bpa tpa Kap T
     go_wp2_with fail
     refine Kbp.out.mono ?_
     rintro epb wpb ⟨Apb, mpb, cpb, rfl, hpb⟩
     have Tbp := Lib.hid (Tap.out.1.step hpb.out.2.2.1 hpb.out.2.2.2)
     have Kcp := Lib.hid (hpb.out.2.2.1.pull.begin_yes (by simp) Apa Apb cpa cpb 1 mpb [5] (kidsF b []) rfl hpb.out.1 (by decide) ((sta_stp Tap.out.2 hpb.out.2.2.2).less fun k hk => .inr hk) (hpb.out.2.1.less fun k hk => .inr hk))
     unfold hd at Kcp
     clear hpb Kbp Tap
     go_wp2_with fail
     refine Kcp.out.mono ?_
     rintro epc wpc ⟨rfl, Fpc, hpc⟩
     have spc := Tbp.out.cp.step hpc.out.1 hpc.out.2
     have tpc := Tbp.out.step spc.1 spc.2
     have T := Lib.hid tpc.swap
     clear hpc spc tpc Kcp Tbp
     have Kaq := Lib.hid T.out.cp.cvec
     unfold hd at Kaq
     go_wp2_with fail
     refine Kaq.out.mono ?_
     rintro eqa wqa ⟨Aqa, cqa, nqa, rfl, hqa, bqa⟩
     obtain rfl : 1 = nqa := hqa.out.1
     have tqa := T.out.below bqa
     have Kbq := Lib.hid tqa.cp.open_any
     have Taq := Lib.hid (And.intro tqa hqa.out.2.2.1)
     unfold hd at Kbq
     clear hqa bqa tqa Kaq T
     go_wp2_with fail
     refine Kbq.out.mono ?_
     rintro eqb wqb ⟨Aqb, mqb, cqb, rfl, hqb⟩
     have Tbq := Lib.hid (Taq.out.1.step hqb.out.2.2.1 hqb.out.2.2.2)
     have Kcq := Lib.hid (hqb.out.2.2.1.pull.begin_yes (by simp) Aqa Aqb cqa cqb 1 mqb [5] (kidsF b []) rfl hqb.out.1 (by decide) ((sta_stp Taq.out.2 hqb.out.2.2.2).less fun k hk => .inr hk) (hqb.out.2.1.less fun k hk => .inr hk))
     unfold hd at Kcq
     clear hqb Kbq Taq
     go_wp2_with fail
     refine Kcq.out.mono ?_
     rintro eqc wqc ⟨rfl, Fqc, hqc⟩
     have sqc := Tbq.out.cp.step hqc.out.1 hqc.out.2
     have tqc := Tbq.out.step sqc.1 sqc.2
     have T := Lib.hid tqc.swap
     clear hqc sqc tqc Kcq Tbq
     have Kd := T.out.cp.pull.done_any
     rw [List.nil_append, want_self, show ((true && decide (([] : List (List Int)) = [])) = true) from rfl] at Kd
     have Kd := Lib.hid Kd
     unfold hd at Kd
     go_wp2_with fail
     refine Kd.out.mono ?_
     rintro e8 w8 ⟨rfl, hw8⟩
     subst hw8
     have ht0 : Tl a b [] (wantF a [] (kidsF b [])) [] := Tl.start a b
     have hT2 := T.out.swap.cp
     rw [List.nil_append] at hT2
     have hfew : (wantF a [] (kidsF b [])).length ≤ i := by
      have h := few_first (a := a) (m := m) B3.out.2.1.1.1
      rwa [HU.out.2.2.2.2.2, B3.out.2.2.2.2.2.1] at h
     have Kw := Lib.hid (PJ.wants_any hT2.pull (tl_ok ht0))
     have T2 := Lib.hid (And.intro hT2 (And.intro ht0 hfew))
     unfold hd at Kw
     clear hT2 ht0 hfew Kd T
     go_wp2_with fail
     refine Kw.out.mono ?_
     rintro e9 w9 ⟨A9, m9, c9, es9, rfl, h9, b9⟩
     have hm9 : m9 ≤ i := by rw [← h9.out.2.1]; exact T2.out.2.2
     have hg9 : decide (i < m9) = false := decide_eq_false (by omega)
     have H0' : Hid (Going Fc w cb b qb a (.int .i64 0) (.int .i64 0) w9) := Lib.hid ⟨0, [], rfl, rfl, by omega, by simp, _, _, _, Lib.hid ⟨T2.out.1.below b9, T2.out.2.1, by have := work_start a b; omega⟩⟩
     clear h9 b9 Kw T2
     go_wp2_with fail
     clear hg9 hm9
     go_loopw [17, 18] (fun v q wq => Going Fc w cb b qb a v q wq) (fun _ q _ => 300 - (intOf q).toNat)
     case atStart => exact H0'.out
     case round =>
      clear H0'
      obtain ⟨j, T1, rfl, rfl, hj, hTj, Fq1, W1, st1, hst⟩ := hrel
      have d5 : (j : Int) < 300 := by omega
      have hN := hst.out.1.cut.few
      obtain ⟨tl, htl⟩ : ∃ tl, T1.length = tl := ⟨_, rfl⟩
      rw [htl] at hTj ⊢
      have HTL := Lib.hid htl
      clear htl
      by_cases hW : W1 = []
      ·subst hW
       have Kd := hst.out.1.pull.done_any
       rw [show ((true && decide (([] : List (List Int)) = [])) = true) from rfl] at Kd
       have Kd := Lib.hid Kd
       have hlv : tl ≤ i := by
        have h2 := hst.out.2.1
        rw [← HU.out.2.2.2.2.2] at h2
        have h := Tl.few h2 B3.out.2.1.1.1
        rwa [HTL.out, B3.out.2.2.2.2.2.1] at h
       have hlv2 : (tl : Int) ≤ (i : Int) := by omega
       have HF := Lib.hid hst.out.1.cut.old
       unfold hd at Kd
       clear hst
       go_wp2_with fail
       refine Kd.out.mono ?_
       rintro e10 w10 ⟨rfl, hw10⟩
       subst hw10
       go_wp2_with fail
       refine Kd.out.mono ?_
       rintro e11 w11 ⟨rfl, hw11⟩
       subst hw11
       go_wp2_with fail
       go_ret
       exact ⟨rfl, HF.out⟩
      ·have Kd := hst.out.1.pull.done_any
       rw [show ((true && decide (W1 = [])) = false) by rw [decide_eq_false hW]; rfl] at Kd
       have Kd := Lib.hid Kd
       have Kw := Lib.hid (PJ.wants_any hst.out.1.pull (tl_ok hst.out.2.1))
       unfold hd at Kd Kw
       go_wp2_with fail
       refine Kd.out.mono ?_
       rintro e10 w10 ⟨rfl, hw10⟩
       subst hw10
       clear Kd
       go_wp2_with fail
       refine Kw.out.mono ?_
       rintro e11 w11 ⟨A1, m1, c1, es, rfl, h1, b1⟩
       have hm0 : 0 < m1 := by
        rw [← h1.out.2.1]
        exact List.length_pos_iff.2 hW
       obtain ⟨p, hp⟩ : ∃ p, W1.getD 0 [] = p := ⟨_, rfl⟩
       obtain ⟨g, Aj, cj, rfl, hgb, hgl, hg, _, hro⟩ := h1.out.2.2.2.at h1.out.1 hm0 hp
       have hpm : p ∈ W1 := by rw [← hp]; exact getD_in (by rw [h1.out.2.1]; exact hm0)
       have hFq : ∀ k, Un Fc Fq1 k → k < wr.heap.size := fun k hk => hst.out.1.lt hk
       have HW : Hid (PP Fc Fq1 w w11 cb 1 [5] b qb 1 a true [5] W1 st1 ∧ Tl a b T1 W1 st1 ∧ j + work W1 ≤ 299 ∧ Sta (Un Fc Fq1) w11 (fun X => Ns .i64 X X.heap.size Aj p) ∧ W1.length ≤ 299 ∧ p ∈ W1) := Lib.hid ⟨hst.out.1.below b1, hst.out.2.1, hst.out.2.2, sta_row hro rfl fun g hg hF => by have := (hro.lt g hg).1; have := hFq g hF; omega, by have := work_len W1; have := hst.out.2.2; omega, hpm⟩
       have d6 : (0 : Int) < (m1 : Int) := by omega
       have hokp := tl_ok hst.out.2.1 p hpm
       obtain ⟨np, hnp⟩ : ∃ np, p.length = np := ⟨_, rfl⟩
       rw [hnp] at hg
       have K2 := Lib.hid (CN.want_any HW.out.1.cut Aj cj np p hnp (by have := hokp.2; omega) HW.out.2.2.2.1.now)
       unfold hd at K2
       clear h1 b1 hst hW Kw hp hgb hgl hro hpm hFq
       rcases okW_form hokp with ⟨d, rfl⟩ | ⟨d, d', rfl⟩
       ·obtain rfl : 1 = np := hnp
        go_wp2_with fail
        refine K2.out.mono ?_
        rintro e2 w12 (⟨hok2, hl2, A5, m5, c5, rfl, h5⟩ | ⟨hok2, hl2, _⟩ | ⟨hno2, _⟩)
        ·obtain ⟨q1, q2, q3, q4, q5, q6⟩ := h5.out
         have h2 := HW.out.1.told q5 q6
         have K3 := Lib.hid (PJ.tell_one h2.1.pull (tl_ok HW.out.2.1) (by have := HW.out.2.2.2.2.1; omega) Aj A5 none cj c5 0 m5 0 [d] (kidsF b [d]) rfl q1 ((sta_stp HW.out.2.2.2.1 h2.2).less fun k hk => .inr hk) (sta_high q3 (fun a hp ha => q4 a (by omega) ha) fun k hk => HW.out.1.lt (.inr hk)) HW.out.2.2.2.2.2)
         have H2 := Lib.hid h2
         have HNX := Lib.hid (HW.out.2.1.one HW.out.2.2.2.2.2)
         unfold hd at K3
         clear q1 q2 q3 q4 q5 q6 h2 h5 K2 hg hokp
         go_wp2_with fail
         refine K3.out.mono ?_
         rintro e3 w13 ⟨rfl, F', h6⟩
         have h7 := H2.out.1.step h6.out.1 h6.out.2
         have HF : Hid (Going Fc w cb b qb a (.int .i64 tl) (.int .i64 ((j : Int) + 1)) w13) := Lib.hid ⟨j + 1, T1, by go_num, by rw [HTL.out], by have := HW.out.2.2.1; have := HNX.out.2; omega, by rw [HTL.out]; omega, F', _, _, Lib.hid ⟨h7.1, HNX.out.1, by have := HW.out.2.2.1; have := HNX.out.2; omega⟩⟩
         clear h6 h7 K3
         go_wp2_with fail
         go_roundw
         case rel => exact HF.out
         case measure => simp only [intOf]; omega
        ·simp at hl2
        ·exact absurd ⟨hokp.1, hokp.2⟩ hno2
       ·obtain rfl : 2 = np := hnp
        go_wp2_with fail
        refine K2.out.mono ?_
        rintro e2 w12 (⟨hok2, hl2, _⟩ | ⟨hok2, hl2, A5, m5, c5, ps, rfl, h5⟩ | ⟨hno2, _⟩)
        ·simp at hl2
        ·obtain ⟨q1, q2, q3, q4, q5, q6⟩ := h5.out
         have h2 := HW.out.1.told q5 (Chg.of_below q6)
         have hrec : recsF b [d, d'] = beneath b [d, d'] := by unfold recsF; rw [if_pos hok2]
         have HNX := Lib.hid (HW.out.2.1.two HU.out.2.2.2.1 HW.out.2.2.2.2.2)
         have hroom := HW.out.2.1.room HU.out.2.2.2.1 HW.out.2.2.2.2.2
         have K3 := PJ.tell_two h2.1.pull (tl_ok HW.out.2.1) (by have := HW.out.2.2.2.2.1; omega) Aj none A5 cj 0 c5 0 m5 [d, d'] (recsF b [d, d']) rfl q2.symm ((sta_stp HW.out.2.2.2.1 h2.2).less fun k hk => .inr hk) (by have h := sta_got (F := Fq1) q4 (fun k hk => HW.out.1.lt (.inr hk)); rwa [q1] at h) HW.out.2.2.2.2.2 (by rw [hrec]; exact HNX.out.2.2) (by rw [q2, hrec]; omega)
         rw [hrec] at K3
         have K3 := Lib.hid K3
         have H2 := Lib.hid h2
         unfold hd at K3
         clear q1 q2 q3 q4 q5 q6 h2 h5 K2 hg hokp hrec hroom
         go_wp2_with fail
         refine K3.out.mono ?_
         rintro e3 w13 ⟨rfl, F', h6⟩
         have h7 := H2.out.1.step h6.out.1 h6.out.2
         have HF : Hid (Going Fc w cb b qb a (.int .i64 ((tl : Int) + 1)) (.int .i64 ((j : Int) + 1)) w13) := Lib.hid ⟨j + 1, (d, d') :: T1, by go_num, by rw [List.length_cons, HTL.out]; go_num, by have := HW.out.2.2.1; have := HNX.out.2.1; omega, by rw [List.length_cons, HTL.out]; omega, F', _, _, Lib.hid ⟨h7.1, HNX.out.1, by have := HW.out.2.2.1; have := HNX.out.2.1; omega⟩⟩
         clear h6 h7 K3
         go_wp2_with fail
         go_roundw
         case rel => exact HF.out
         case measure => simp only [intOf]; omega
        ·exact absurd ⟨hokp.1, hokp.2⟩ hno2
-- ROW BEGIN
set_option maxRecDepth 100000 in
theorem contract (H : Type) (enc : TypeId × Value → H) (W : World) (base : Nat) (args : Array Value) (ds gs : List (DataW H)) (before : List MemPlace)
  (hval : ∀ (j : Nat) t v, Tryz.f7.params[j]? = some t → args[j]? = some v → Value.okWide Tryz.prog W .any base t v)
  (hW : DataW.Whole enc Tryz.prog Tryz.f7.params.toList Rows.pullFewSpec.vars false W args.toList ds gs before)
  (hsz : (DataW.weightsEach Tryz.prog (Tryz.f7.params.toList ++ Rows.pullFewSpec.plain.varTypes Tryz.prog) (ds ++ gs)).all (· ≤ reachBytes) = true) (hk : Rows.uptoSmall H (ds ++ gs) = true) :
  Calls Tryz.prog 7 args W fun e W' => ∃ v, e = .returned v ∧ Rows.pullFewSpec.post enc Tryz.prog Tryz.f7 false true false false W args v W' := by
 have hW' := hW
 obtain ⟨p, q, hA0, hV, hbef, _, _⟩ := hW
 have hA : DataW.TrodAll enc Tryz.prog W 0 (fun _ => true) true Tryz.f7.params.toList args.toList ds p := hA0
 have hA1 := hA
 rw [Tryz.params7] at hA hval hsz
 obtain ⟨v0, vs0, d0, ds0, p0, q0, hargs, rfl, rfl, h0, r0⟩ := trodAll_cons hA
 obtain ⟨v1, vs1, d1, ds1, p1, q1, rfl, rfl, rfl, h1, r1⟩ := trodAll_cons r0
 obtain ⟨rfl, rfl, rfl⟩ := trodAll_nil r1
 obtain rfl : args = #[v0, v1] := by cases args; simp_all
 obtain ⟨rfl, rfl⟩ := trodVars_none hV
 clear hA hargs
 obtain ⟨A0, c0, a0, rfl, n0, l0, b0⟩ := Tree.arg_recs (hval 0 23 v0 rfl rfl) h0 (Vers.wt_arg hsz (j := 0) rfl rfl)
 obtain ⟨A1, c1, a1, rfl, n1, l1, b1⟩ := Tree.arg_recs (hval 1 23 v1 rfl rfl) h1 (Vers.wt_arg hsz (j := 1) rfl rfl)
 have hbulk : a0.length + a1.length ≤ 1048576 := by
  have h := Bulk.bound hk
  have e0 := Mend.recs_bulk h0
  have e1 := Mend.recs_bulk h1
  simp only [List.append_nil, Rows.uptoBulkAll] at h
  omega
 refine (walk W A0 c0 a0 n0 b0 l0 A1 c1 a1 n1 b1 l1 hbulk).mono fun e W' ⟨he, hb⟩ => ?_
 subst he
 exact ⟨_, rfl, law_post Facts.laid (by rfl) Tryz.underlying4 (by rw [Tryz.params7]; decide +kernel) hW' hA1 rfl hbef rfl rfl rfl hb⟩

set_option maxRecDepth 100000 in
theorem lifted (os : Os) (started : os.Started) (H : Type) (enc : TypeId × Value → H) (F : Stop.Interp) :
  ReturnsInHanded {} Tryz.checked os 7 .any ((Rows.OpenSpec.upto Rows.pullFewSpec).pre6 enc Tryz.prog Tryz.f7 Rows.pullFewUptoRow.domain false) (((Rows.OpenSpec.upto Rows.pullFewSpec).at F).post enc Tryz.prog Tryz.f7 false true false false) := by
 refine returnsInHanded_of_cond_sized (C := Tryz.checked) (s := Rows.OpenSpec.upto Rows.pullFewSpec) (k := Rows.uptoSmall) rfl Facts.own started (by kernel_rfl) Tryz.func7
  (OpenSpec.witness (enc := enc) (C := Tryz.checked) (s := Rows.OpenSpec.upto Rows.pullFewSpec) (k := Rows.uptoSmall) rfl false ⟨#[], #[.slice none 0 0, .slice none 0 0], []⟩ 8 (by kernel_rfl) (by kernel_rfl) (by kernel_rfl)
   (x := ([.nil, .nil], [], [])) (by kernel_rfl) rfl (by kernel_rfl)) ?_
 intro W base args ds gs before hval hW _ hk hsz _
 exact contract H enc W base args ds gs before hval hW hsz hk

theorem holds : Rows.PullFewUptoSaid :=
 OpenClaim.holds_of_cond 7 Tryz.f7 rfl rfl rfl rfl rfl rfl rfl ⟨rfl, rfl, rfl, rfl, rfl⟩ rfl rfl rfl rfl rfl (by kernel_rfl) Tryz.func7 (by kernel_rfl)
  (of_decide_eq_true (by kernel_rfl)) (by unfold Func.isWrapper; first | (rw [if_pos (by decide +kernel)]; kernel_rfl) | (rw [if_neg (by decide +kernel)]; exact ⟨rfl, rfl⟩))
  (fun os started H enc _ F => lifted os started H enc F)
-- ROW END
end PullFew
end Go.Proofs.YtkfdplfgaddkmaaGreat
