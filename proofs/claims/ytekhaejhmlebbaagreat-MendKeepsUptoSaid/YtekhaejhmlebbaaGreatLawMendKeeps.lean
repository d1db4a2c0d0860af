/-
 MendKeeps: what is handed in stays and isn't kept; what is told is new memory. Up to a bulk of the input.
-/
import Derived.Test.YtekhaejhmlebbaaGreatRMendKeepRow
namespace Go.Proofs.YtekhaejhmlebbaaGreat
namespace MendKeeps
open Go.ChangeShapes Go.WideShapes Go.ChangeAt Go.RowKit Vers Num Ring Disk Blk Tree Mend
open Go.Proofs.YtekhaejhmlebbaaGreat.Code hiding Bn
attribute [local go_sem ↓] Go.wp_at_zero Go.wp_at_succ
set_option maxRecDepth 100000 in
set_option maxHeartbeats 4000000 in
theorem walk (w : World) (A : Option Addr) (c : Nat) (l : List Rc) (hl : Rs w 0 w.heap.size A l) (_hb : l.length * 40 ≤ 140737488351232) (_hlc : l.length ≤ c) (hz : ∀ r ∈ l, SzR r)
  (A' : Option Addr) (c' : Nat) (l' : List Rc) (hl' : Rs w 0 w.heap.size A' l') (_hb' : l'.length * 40 ≤ 140737488351232) (_hlc' : l'.length ≤ c') (hbulk : l.length + l'.length ≤ 1048576) :
  Calls Tryz.prog 9 #[.slice A l.length c, .slice A' l'.length c'] w fun e w' => e = .returned (.bool true) ∧ Below w.heap.size w w' := by
 obtain ⟨i0, hi0, hz0, hz1, hz2⟩ := info_parts info_rec'
 obtain ⟨n, hn⟩ : ∃ n, l.length = n := ⟨_, rfl⟩
 obtain ⟨n', hn'⟩ : ∃ n, l'.length = n := ⟨_, rfl⟩
 have hlR := take_len7 l l'
 obtain ⟨R, hR⟩ : ∃ R, takeR l l' = R := ⟨_, rfl⟩
 rw [hn, hn'] at hbulk hlR ⊢
 rw [hR] at hlR
 have hlW : ∀ W, Below w.heap.size w W → Rs W 0 W.heap.size A l := fun W h => (hl.below h).more h.size
 have hlW' : ∀ W, Below w.heap.size w W → Rs W 0 W.heap.size A' l' := fun W h => (hl'.below h).more h.size
 have HP := Lib.hid (And.intro hn (And.intro hn' (And.intro hlW (And.intro hlW' (And.intro hR hz)))))
 have H0 := Lib.hid (awake_any w)
 clear hl hl' hn hn' hlW hlW' hR hz
 go_enter Tryz.func9, Tryz.ntmps9
 go_wp2_with fail
 refine H0.out.mono ?_
 rintro e1 w1 ⟨rfl, b1⟩
 have B1 := Lib.hid b1
 clear b1 H0
 go_wp2_with fail
 go_loopw [5, 6] (fun v q wr => ∃ (i : Nat) (A1 : Option Addr) (c1 : Nat), q = .int .i64 i ∧ i ≤ n ∧ v = .slice A1 i c1 ∧ Hid (∃ ps : List Pr, ps.map Prod.fst = l.take i ∧ ps.length = i ∧ RowW w1.heap.size wr (.slice A1 i c1) ps ∧ Below w1.heap.size w1 wr)) (fun _ q _ => n - (intOf q).toNat)
 case atStart => exact ⟨0, none, 0, rfl, by omega, rfl, Lib.hid ⟨[], by simp, rfl, rowW_nil _ _, Below.refl _ _⟩⟩
 case round =>
  obtain ⟨i, A1, c1, rfl, hi, rfl, hst⟩ := hrel
  obtain ⟨ps, hst⟩ := hst.out
  have hst := Lib.hid hst
  by_cases hlt : i < n
  ·have d3 : (0 : Int) ≤ (i : Int) := by omega
   have d4 : (i : Int) < (n : Int) := by omega
   obtain ⟨pb, off, A4, c4, rfl, _, hbB, k0, k1, k2, k3⟩ := (rs_rb (HP.out.2.2.1 _ B1.out)).at HP.out.1 (Nat.le_refl _) hst.out.2.2.2 hlt rfl
   have hia : i < l.length := by rw [HP.out.1]; exact hlt
   obtain ⟨r, hrr⟩ : ∃ r, l.getD i r0 = r := ⟨_, rfl⟩
   have hmem := getD_mem hia
   have hT := take_at hia
   rw [hrr] at k0 k1 k2 k3 hmem hT
   have hzr := HP.out.2.2.2.2.2 _ hmem
   obtain ⟨key, lv⟩ := r
   simp only at k0 k1 k2 k3
   obtain ⟨ml, hml⟩ : ∃ ml, lv.length = ml := ⟨_, rfl⟩
   rw [hml] at k1 k3
   have hsz := hst.out.2.2.2.size
   have HO := Lib.hid (Own.own_any key A4 c4 ml lv hml (by have := hzr.1; simp only at this; omega) hzr.2 wr (k2.more hsz))
   have HK := Lib.hid (And.intro hT (And.intro hml k3))
   clear k2 k3 hia hrr hmem hzr hT hml
   go_wp2_with fail
   refine HO.out.mono ?_
   rintro e2 w2 ⟨A5, c5, pv, rfl, h5, b5⟩
   have hrow := hst.out.2.2.1.below b5
   have hro := hrow.1
   rw [hst.out.2.1] at hro
   have hl2 : (i + 1) * 40 ≤ 140737488355328 := by omega
   have hsz3 : w1.heap.size ≤ w2.heap.size := Nat.le_trans hsz b5.size
   have hlm : pv.length = ml := by rw [← HK.out.2.1, ← h5.out.1, List.length_map]
   have hvs5 : Vs w2 wr.heap.size w2.heap.size A5 lv := by
    have h := h5.out.2.vs (Nat.le_refl _)
    rwa [h5.out.1] at h
   have hmc : ml ≤ c5 := by have h9 := h5.out.2.1; rw [hlm] at h9; exact (own_low h9).1
   have hdis : ∀ g, (Value.slice A1 i c1).ownBlock = some g → g < wr.heap.size ∨ w2.heap.size ≤ g := fun g hg => .inl (hst.out.2.2.1.1.lt g hg).2
   have HR2 := Lib.hid (And.intro hrow (And.intro hvs5 (And.intro hmc (And.intro hdis (hst.out.2.2.2.trans (b5.mono hsz))))))
   clear h5 b5 hrow hlm hvs5 hmc hdis k0 k1 HO
   have hml := HK.out.2.1
   go_wp2_with (at_builtin; refine wpList_append_r _ rfl (.tmp 24) (.tmp 30) 22 rfl w1.heap.size 53 i0 _ 40 Tryz.underlying22 hi0 hz0 hz1 hz2 rfl _ i ps rfl hro ((key, lv), A5, c5) ml hml 1 rfl hl2 (by omega) hsz3 ?_; intro v4 w4 o4 g4 at4; obtain ⟨A6, c6, rfl⟩ := own_form o4)
   have HF : Hid (∃ ps : List Pr, ps.map Prod.fst = l.take (i + 1) ∧ ps.length = i + 1 ∧ RowW w1.heap.size w4 (.slice A6 (i + 1) c6) ps ∧ Below w1.heap.size w1 w4) := Lib.hid ⟨ps ++ [((key, lv), A5, c5)], by
    rw [List.map_append, hst.out.1, HK.out.1]
    rfl, by simp [hst.out.2.1], HR2.out.1.add (by rw [hst.out.2.1]; exact o4) g4 at4 ⟨wr.heap.size, w2.heap.size, Nat.le_refl _, HR2.out.2.1, HR2.out.2.2.2.1, by simp only; rw [hml]; exact HR2.out.2.2.1, by simp only; rw [hml]; exact HK.out.2.2.2.1, HK.out.2.2.2.2⟩, HR2.out.2.2.2.2.grown g4 hsz3 (fun j hj => (hro.lt j hj).1)⟩
   clear o4 g4 at4 hro HR2 HK hst
   go_roundw
   case rel => exact ⟨i + 1, A6, c6, by go_num, by omega, rfl, HF⟩
   case measure => simp only [intOf]; omega
  ·have hkm : i = n := by omega
   subst hkm
   have hfull : l.take i = l := List.take_of_length_le (by have := HP.out.1; omega)
   have hm : Rs wr 0 wr.heap.size A1 l := by
    have h := hst.out.2.2.1.rs
    rwa [hst.out.1, hfull] at h
   have b2 := hst.out.2.2.2
   have BW := Lib.hid (And.intro (B1.out.trans (b2.mono B1.out.size)) hm)
   have hT := take_any A1 A' c1 c' i n' l l' HP.out.1 HP.out.2.1 (by omega) (by omega) wr hm (HP.out.2.2.2.1 _ BW.out.1)
   rw [HP.out.2.2.2.2.1] at hT
   have HT := Lib.hid hT
   clear hst hfull hm b2 hT
   go_wp2_with fail
   refine HT.out.mono ?_
   rintro e5 w5 ⟨A5, n5, c5, ps5, rfl, h5, b5⟩
   have hn5 : n5 ≤ i + n' := by rw [← h5.out.2.1]; exact hlR
   have hl5 : ps5.length = n5 := by rw [← h5.out.2.1, ← h5.out.1, List.length_map]
   obtain ⟨lo2, hlo2⟩ : ∃ x, wr.heap.size = x := ⟨_, rfl⟩
   have BL : Hid (∀ W, Below lo2 w5 W → Below lo2 wr W) := Lib.hid fun W h => by rw [← hlo2] at h ⊢; exact b5.trans h
   have hss : w.heap.size ≤ lo2 := by rw [← hlo2]; exact BW.out.1.size
   have hl25 : lo2 ≤ w5.heap.size := by rw [← hlo2]; exact b5.size
   rw [hlo2] at h5
   have BW2 := Lib.hid (And.intro BW.out.1 (show Rs wr 0 lo2 A1 l by rw [← hlo2]; exact BW.out.2))
   clear BW HT b5 hlo2
   have HM5 : Hid (∀ i, i < n5 → ∃ (g : Nat) (P : Option Addr) (k c : Nat), A5 = some ⟨g, 0, none⟩ ∧ HardAt SoftV w5 g (i * 2 + 1) (.slice P k c) ∧ k ≤ 512 ∧ MV SoftV 4 lo2 w5.heap.size w5 P k) := Lib.hid fun i hi => by
    obtain ⟨g, e1, hg, hprs, ⟨cur, hcur⟩, hrec⟩ := h5.out.2.2.2 (by omega)
    have hmem : ps5.getD i (r0, none, 0) ∈ ps5 := by
     rw [List.getD_eq_getElem?_getD, List.getElem?_eq_getElem (by omega)]
     exact List.getElem_mem _
    obtain ⟨L9, B9, q1, q2, _, q4⟩ := hrec _ hmem
    exact ⟨g, _, _, _, e1, hard_cell hcur (hprs i (by omega)).2 (softV_r _), q4.2.2.1, recN_mv q4 q1 q2 (by omega) softV_v softV_v2 softV_s⟩
   clear h5 hl5
   go_wp2_with fail
   go_loopw [9] (fun q wr => ∃ i : Nat, q = .int .i64 i ∧ i ≤ n5 ∧ Hid (Spo SoftV lo2 w5.heap.size w5 wr)) (fun q _ => n5 - (intOf q).toNat)
   case atStart => exact ⟨0, rfl, by omega, Lib.hid (spo_refl _ _ _ _)⟩
   case round =>
    obtain ⟨i2, rfl, hi2, hst⟩ := hrel
    by_cases hlt2 : i2 < n5
    ·have d1 : (0 : Int) ≤ (i2 : Int) := by omega
     have d2 : (i2 : Int) < (n5 : Int) := by omega
     obtain ⟨g, P, k, cp, rfl, hh, hk512, hmv⟩ := HM5.out i2 hlt2
     have HH := Lib.hid (And.intro hh hmv)
     clear hh hmv
     go_wp2_with fail
     go_loopw [10] (fun q wr => ∃ j : Nat, q = .int .i64 j ∧ j ≤ k ∧ Hid (Spo SoftV lo2 w5.heap.size w5 wr)) (fun q _ => k - (intOf q).toNat)
     case atStart => exact ⟨0, rfl, by omega, hst⟩
     case round =>
      clear hst
      obtain ⟨j, rfl, hj, hst⟩ := hrel
      have y1 := hst.out.get HH.out.1
      by_cases hlt3 : j < k
      ·have d3 : (0 : Int) ≤ (j : Int) := by omega
       have d4 : (j : Int) < (k : Int) := by omega
       obtain ⟨g2, P2, k2, cp2, rfl, hs1, hh1, hk1, hsp⟩ := HH.out.2 j hlt3
       have HQ := Lib.hid (And.intro hh1 hsp)
       obtain ⟨⟨z, hz⟩, hfz, hput⟩ := hst.out.put hs1
       have HP2 := Lib.hid hput
       clear hst hs1 hh1 hsp hput
       go_wp2_with fail
       clear y1 hz hfz
       go_loopw [11] (fun q wr => ∃ t : Nat, q = .int .i64 t ∧ t ≤ k2 ∧ Hid (Spo SoftV lo2 w5.heap.size w5 wr)) (fun q _ => k2 - (intOf q).toNat)
       case atStart => exact ⟨0, rfl, by omega, Lib.hid (HP2.out _)⟩
       case round =>
        obtain ⟨t, rfl, ht, hst⟩ := hrel
        have y1 := hst.out.get HH.out.1
        have y2 := hst.out.get HQ.out.1
        by_cases hlt4 : t < k2
        ·have d5 : (0 : Int) ≤ (t : Int) := by omega
         have d6 : (t : Int) < (k2 : Int) := by omega
         obtain ⟨b, off, rfl, hs2⟩ := HQ.out.2 t hlt4
         obtain ⟨⟨z, hz⟩, hfz, hput⟩ := hst.out.put hs2
         have HP3 := Lib.hid hput
         clear hst hs2 hput
         go_wp2_with fail
         go_roundw
         case rel => exact ⟨t + 1, by go_num, by omega, Lib.hid (HP3.out _)⟩
         case measure => simp only [intOf]; omega
        ·have hjk : t = k2 := by omega
         subst hjk
         go_wp2_with fail
         go_roundw
         case rel => exact ⟨j + 1, by go_num, by omega, hst⟩
         case measure => simp only [intOf]; omega
      ·have hjk : j = k := by omega
       subst hjk
       go_wp2_with fail
       go_roundw
       case rel => exact ⟨i2 + 1, by go_num, by omega, hst⟩
       case measure => simp only [intOf]; omega
    ·have him2 : i2 = n5 := by omega
     subst him2
     have hbl := BL.out _ hst.out.1
     have hwz : lo2 ≤ wr.heap.size := by rw [hst.out.2.1]; exact hl25
     have hbw := BW2.out.1.trans (hbl.mono hss)
     have hm := (BW2.out.2.below hbl).more hwz
     have HM := Lib.hid (And.intro hbw hm)
     have hT := take_any A1 A' c1 c' i n' l l' HP.out.1 HP.out.2.1 (by omega) (by omega) wr hm (HP.out.2.2.2.1 _ hbw)
     rw [HP.out.2.2.2.2.1] at hT
     have HT := Lib.hid hT
     clear hst hbl hwz hbw hm hT HM5
     go_wp2_with fail
     refine HT.out.mono ?_
     rintro e6 w6 ⟨A6, n6, c6, ps6, rfl, h6, b6⟩
     have hr6 : Rs w6 0 w6.heap.size A6 R.1 := by
      have h := h6.out.2.2.2.rs.less (Nat.zero_le _)
      rwa [h6.out.1] at h
     have B6 := Lib.hid (And.intro (HM.out.1.trans (b6.mono HM.out.1.size)) (And.intro ((HM.out.2.below b6).more b6.size) (And.intro h6.out.2.1 hr6)))
     have hT2 := ref_take_any A A' c c' i n' l l' HP.out.1 HP.out.2.1 (by omega) w6 (HP.out.2.2.1 _ B6.out.1) (HP.out.2.2.2.1 _ B6.out.1)
     rw [HP.out.2.2.2.2.1] at hT2
     have HT2 := Lib.hid hT2
     clear h6 b6 hr6 hT2 HT HM
     go_wp2_with fail
     refine HT2.out.mono ?_
     rintro e7 w7 ⟨A7, n7, c7, rfl, h7, b7⟩
     have B7 := Lib.hid (And.intro (B6.out.1.trans (b7.mono B6.out.1.size)) ((B6.out.2.1.below b7).more b7.size))
     have hS := Code.srecs_any A6 A7 c6 c7 n6 n7 R.1 R.1 B6.out.2.2.1 h7.out.1 w7 ((B6.out.2.2.2.below b7).more b7.size) h7.out.2.2 (by have := B6.out.2.2.1; omega) (by have := h7.out.1; omega)
     rw [decide_eq_true rfl] at hS
     have HS := Lib.hid hS
     clear h7 b7 hS HT2 B6
     go_wp2_with fail
     refine HS.out.mono ?_
     rintro e8 w8 ⟨rfl, b8⟩
     have hbw8 := B7.out.1.trans (b8.mono B7.out.1.size)
     have hS2 := Code.srecs_any A1 A c1 c i i l l HP.out.1 HP.out.1 w8 ((B7.out.2.below b8).more b8.size) (HP.out.2.2.1 _ hbw8) (by omega) (by omega)
     rw [decide_eq_true rfl] at hS2
     have HS2 := Lib.hid hS2
     have B8 := Lib.hid hbw8
     clear b8 hbw8 hS2 HS B7
     go_wp2_with fail
     refine HS2.out.mono ?_
     rintro e9 w9 ⟨rfl, b9⟩
     have HF := Lib.hid (B8.out.trans (b9.mono B8.out.size))
     clear b9 HS2
     go_wp2_with fail
     go_ret
     exact ⟨rfl, HF.out⟩
-- ROW BEGIN
set_option maxRecDepth 100000 in
theorem contract (H : Type) (enc : TypeId × Value → H) (W : World) (base : Nat) (args : Array Value) (ds gs : List (DataW H)) (before : List MemPlace)
  (hval : ∀ (j : Nat) t v, Tryz.f9.params[j]? = some t → args[j]? = some v → Value.okWide Tryz.prog W .any base t v)
  (hW : DataW.Whole enc Tryz.prog Tryz.f9.params.toList Rows.mendKeepsSpec.vars false W args.toList ds gs before)
  (hsz : (DataW.weightsEach Tryz.prog (Tryz.f9.params.toList ++ Rows.mendKeepsSpec.plain.varTypes Tryz.prog) (ds ++ gs)).all (· ≤ reachBytes) = true) (hk : Rows.uptoSmall H (ds ++ gs) = true) :
  Calls Tryz.prog 9 args W fun e W' => ∃ v, e = .returned v ∧ Rows.mendKeepsSpec.post enc Tryz.prog Tryz.f9 false true false false W args v W' := by
 have hW' := hW
 obtain ⟨p, q, hA0, hV, hbef, _, _⟩ := hW
 have hA : DataW.TrodAll enc Tryz.prog W 0 (fun _ => true) true Tryz.f9.params.toList args.toList ds p := hA0
 have hA1 := hA
 rw [Tryz.params9] at hA hval hsz
 obtain ⟨v0, vs0, d0, ds0, p0, q0, hargs, rfl, rfl, h0, r0⟩ := trodAll_cons hA
 obtain ⟨v1, vs1, d1, ds1, p1, q1, rfl, rfl, rfl, h1, r1⟩ := trodAll_cons r0
 obtain ⟨rfl, rfl, rfl⟩ := trodAll_nil r1
 obtain rfl : args = #[v0, v1] := by cases args; simp_all
 obtain ⟨rfl, rfl⟩ := trodVars_none hV
 clear hA hargs
 obtain ⟨A0, c0, a0, rfl, n0, l0, b0, z0⟩ := Mend.arg_recz (hval 0 22 v0 rfl rfl) h0 (Vers.wt_arg hsz (j := 0) rfl rfl)
 obtain ⟨A1, c1, a1, rfl, n1, l1, b1⟩ := Tree.arg_recs (hval 1 22 v1 rfl rfl) h1 (Vers.wt_arg hsz (j := 1) rfl rfl)
 have hbulk : a0.length + a1.length ≤ 1048576 := by
  have h := Bulk.bound hk
  have e0 := Mend.recs_bulk h0
  have e1 := Mend.recs_bulk h1
  simp only [List.append_nil, Rows.uptoBulkAll] at h
  omega
 refine (walk W A0 c0 a0 n0 b0 l0 z0 A1 c1 a1 n1 b1 l1 hbulk).mono fun e W' ⟨he, hb⟩ => ?_
 subst he
 exact ⟨_, rfl, law_post Facts.laid (by rfl) Tryz.underlying4 (by rw [Tryz.params9]; decide +kernel) hW' hA1 rfl hbef rfl rfl rfl hb⟩

set_option maxRecDepth 100000 in
theorem lifted (os : Os) (started : os.Started) (H : Type) (enc : TypeId × Value → H) (F : Stop.Interp) :
  ReturnsInHanded {} Tryz.checked os 9 .any ((Rows.OpenSpec.upto Rows.mendKeepsSpec).pre6 enc Tryz.prog Tryz.f9 Rows.mendKeepsUptoRow.domain false) (((Rows.OpenSpec.upto Rows.mendKeepsSpec).at F).post enc Tryz.prog Tryz.f9 false true false false) := by
 refine returnsInHanded_of_cond_sized (C := Tryz.checked) (s := Rows.OpenSpec.upto Rows.mendKeepsSpec) (k := Rows.uptoSmall) rfl Facts.own started (by kernel_rfl) Tryz.func9
  (OpenSpec.witness (enc := enc) (C := Tryz.checked) (s := Rows.OpenSpec.upto Rows.mendKeepsSpec) (k := Rows.uptoSmall) rfl false ⟨#[], #[.slice none 0 0, .slice none 0 0], []⟩ 8 (by kernel_rfl) (by kernel_rfl) (by kernel_rfl)
   (x := ([.nil, .nil], [], [])) (by kernel_rfl) rfl (by kernel_rfl)) ?_
 intro W base args ds gs before hval hW _ hk hsz _
 exact contract H enc W base args ds gs before hval hW hsz hk

theorem holds : Rows.MendKeepsUptoSaid :=
 OpenClaim.holds_of_cond 9 Tryz.f9 rfl rfl rfl rfl rfl rfl rfl ⟨rfl, rfl, rfl, rfl, rfl⟩ rfl rfl rfl rfl rfl (by kernel_rfl) Tryz.func9 (by kernel_rfl)
  (of_decide_eq_true (by kernel_rfl)) (by unfold Func.isWrapper; first | (rw [if_pos (by decide +kernel)]; kernel_rfl) | (rw [if_neg (by decide +kernel)]; exact ⟨rfl, rfl⟩))
  (fun os started H enc _ F => lifted os started H enc F)
-- ROW END
end MendKeeps
end Go.Proofs.YtekhaejhmlebbaaGreat
