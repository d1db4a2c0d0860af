/-
  Several texts of this family in one: TreeDocRecs, TreeWith, MendHeld, MendMap.
-/
import Derived.Test.YtkfdplfgaddkmaaGreatK16
import Derived.Test.YtkfdplfgaddkmaaGreatK20
import Derived.WalkLawsBesides
import Derived.Deep.DeepCutAuto
import Derived.Deep.CutBlock
import Derived.Test.YtkfdplfgaddkmaaGreatK4
import Derived.Test.YtkfdplfgaddkmaaGreatK22
import Derived.Test.YtkfdplfgaddkmaaGreatK10
/-
 The document's records beneath a path; records with one in the place of its key's.
-/
namespace Go.Proofs.YtkfdplfgaddkmaaGreat
namespace Tree
open Go.RowKit Vers Num Ring Disk Blk
open Go.Proofs.YtkfdplfgaddkmaaGreat.Code hiding Bn
attribute [local go_sem ↓] Go.wp_at_zero Go.wp_at_succ

theorem info_rec' : (Tryz.prog.info? 70).map (fun i => (i.zero, i.size, i.bytes)) = some (some (.agg #[.string ⟨#[]⟩, .slice none 0 0]), 2, 40) := by kernel_rfl
def RowS (base : Nat) (w : World) (v : Value) (ps : List Pr) : Prop :=
 w.ownsRow base 70 2 v ps.length (rcs ps) ∧ ∀ p ∈ ps, Vs w 0 base p.2.1 p.1.2 ∧ p.1.2.length ≤ p.2.2 ∧ p.1.2.length ≤ 140737488355328 ∧ p.1.1.size ≤ 140737488355328
theorem rowS_nil (base : Nat) (w : World) : RowS base w (.slice none 0 0) [] := ⟨World.ownsRow_nil _ _ _ _, fun p hp => by cases hp⟩
theorem RowS.below {base : Nat} {w w' : World} {v : Value} {ps : List Pr} (h : RowS base w v ps) (hb : Below w.heap.size w w') (hB : base ≤ w.heap.size) : RowS base w' v ps :=
 ⟨own_below h.1 hb (Nat.le_refl _), fun p hp => ⟨(h.2 p hp).1.below (hb.mono hB), (h.2 p hp).2⟩⟩
theorem RowS.add {base : Nat} {w w' : World} {v v' : Value} {ps : List Pr} {p : Pr} (h : RowS base w v ps) (ho : w'.ownsRow base 70 2 v' (ps.length + 1) (rcs (ps ++ [p]))) (hg : w.grownBy w' v.ownBlock) (hB : base ≤ w.heap.size) (hp : Vs w 0 base p.2.1 p.1.2 ∧ p.1.2.length ≤ p.2.2 ∧ p.1.2.length ≤ 140737488355328 ∧ p.1.1.size ≤ 140737488355328) : RowS base w' v' (ps ++ [p]) := by
 have hb : Below base w w' := (Below.refl _ _).grown hg hB (fun j hj => (h.1.lt j hj).1)
 refine ⟨by simpa using ho, fun q hq => ?_⟩
 rcases List.mem_append.1 hq with hq | hq
 ·exact ⟨(h.2 q hq).1.below hb, (h.2 q hq).2⟩
 ·rw [List.mem_singleton.1 hq]
  exact ⟨hp.1.below hb, hp.2⟩
theorem RowS.rs {base n c : Nat} {w : World} {A : Option Addr} {ps : List Pr} (h : RowS base w (.slice A n c) ps) (hB : base ≤ w.heap.size) : Rs w 0 w.heap.size A (ps.map Prod.fst) := fun hp => by
 rw [List.length_map] at hp
 obtain ⟨ho, hpa⟩ := h
 rcases ho.2 with ⟨_, h0⟩ | ⟨g, cap, cur, hv, hbg, hg, rest⟩
 ·omega
 ·injection hv with h1 h2 h3
  subst h1
  refine ⟨g, 0, rfl, Nat.zero_le _, (Array.getElem?_eq_some_iff.1 hg).1, fun j hj => ?_⟩
  rw [List.length_map] at hj
  have e : (ps.map Prod.fst).getD j r0 = (ps.getD j (r0, none, 0)).1 := by simp [List.getD_eq_getElem?_getD, hj]
  have hm : ps.getD j (r0, none, 0) ∈ ps := by
   rw [List.getD_eq_getElem?_getD, List.getElem?_eq_getElem hj]
   exact List.getElem_mem _
  rw [e]
  have hat : ∀ r, r < 2 → ∀ u, (rcc (ps.getD j (r0, none, 0)))[r]? = some u → w.cell? ⟨g, 0 + j * 2 + r, none⟩ = some u := fun r hr u hu => by
   have hc := ho.cells (g := g) rfl (j * 2 + r) u (by rw [rcs_at ps j hj r hr]; exact hu)
   rw [Vers.add_plain] at hc
   rw [show 0 + j * 2 + r = 0 + (j * 2 + r) by omega]
   exact hc
  obtain ⟨q1, q2, q3, q4⟩ := hpa _ hm
  exact ⟨_, _, hat 0 (by omega) _ (by simp [rcc]), hat 1 (by omega) _ (by simp [rcc]), q1.more hB, q2, q3, q4⟩
def NewS (l : List Rc) (w : World) (e : Ending) (w' : World) : Prop :=
 ∃ A m c ps, e = .returned (.slice A m c) ∧ Hid (ps.map Prod.fst = l ∧ l.length = m ∧ m ≤ c ∧ RowS w.heap.size w' (.slice A m c) ps) ∧ Below w.heap.size w w'

def inK (key : Nm) (p : List Int) (k : Nat) : Bool := (List.range k).all fun (j : Nat) => decide (([dig0 key, dig1 key].getD j 0 : Int) = p.getD j 0)
theorem inK_succ (key : Nm) (p : List Int) (k : Nat) : inK key p (k + 1) = (inK key p k && decide (([dig0 key, dig1 key].getD k 0 : Int) = p.getD k 0)) := by simp [inK, List.range_succ]
theorem inK_full {p : List Int} (hp : okP p) (key : Nm) : inK key p p.length = inP p key := by
 rcases ok_cases hp with rfl | ⟨a, rfl, _⟩ | ⟨a, b, rfl, _, _⟩
 ·rfl
 ·simp [inK, inP, List.range_succ]
 ·simp [inK, inP, List.range_succ]
theorem take_filter {all : List Rc} {p : List Int} {k : Nat} (hk : k < all.length) : beneath (all.take (k + 1)) p = beneath (all.take k) p ++ (if inP p (all.getD k r0).1 = true then [all.getD k r0] else []) := by
 unfold beneath
 rw [List.take_succ_eq_append_getElem hk, List.filter_append]
 congr 1
 have e : all.getD k r0 = all[k] := by simp [List.getD_eq_getElem?_getD, hk]
 rw [e]
 by_cases h : inP p all[k].1 = true
 ·rw [if_pos h, List.filter_cons, if_pos h]; rfl
 ·rw [if_neg h, List.filter_cons, if_neg h]; rfl
set_option maxRecDepth 100000 in
set_option maxHeartbeats 2000000 in
theorem ref_recs_no (A A' : Option Addr) (c c' n m : Nat) (all : List Rc) (p : List Int) (_hm : all.length = m) (hm2 : m ≤ 3518437208882) (hn : p.length = n) (hbig : n ≤ 140737488355328) (w : World) (hr : Ns .i64 w w.heap.size A' p) (hp : ¬ okP p) :
  Calls Tryz.prog 53 #[.slice A m c, .slice A' n c'] w (NewS (recsF all p) w) := by
 have hF : recsF all p = [] := by unfold recsF; rw [if_neg hp]
 rw [hF]
 have hP := path_any A' c' n p hn hbig w hr
 rw [decide_eq_false hp] at hP
 have HP := Lib.hid hP
 clear hF hP hp hn hr
 go_enter Tryz.func53, Tryz.ntmps53
 go_wp2_with fail
 refine wp_loop_rounds 1 ?_
 rw [rounds_succ]
 by_cases hm0 : m = 0
 ·have e1 : ¬ 0 < m := by omega
  clear hm0
  go_wp2_with fail
  go_ret
  exact ⟨none, 0, 0, [], rfl, Lib.hid ⟨rfl, rfl, Nat.le_refl _, rowS_nil _ _⟩, Below.refl _ _⟩
 ·have e1 : 0 < m := by omega
  clear hm0
  go_wp2_with fail
  refine HP.out.mono ?_
  rintro e w1 ⟨rfl, rfl⟩
  go_wp2_with fail
  go_ret
  exact ⟨none, 0, 0, [], rfl, Lib.hid ⟨rfl, rfl, Nat.le_refl _, rowS_nil _ _⟩, Below.refl _ _⟩
set_option maxRecDepth 100000 in
set_option maxHeartbeats 2000000 in
theorem ref_recs_any (A A' : Option Addr) (c c' n m : Nat) (all : List Rc) (p : List Int) (hm : all.length = m) (hm2 : m ≤ 3518437208882) (hn : p.length = n) (hbig : n ≤ 140737488355328) (w : World) (hv : Rs w 0 w.heap.size A all) (hr : Ns .i64 w w.heap.size A' p) (hp : okP p) :
  Calls Tryz.prog 53 #[.slice A m c, .slice A' n c'] w (NewS (recsF all p) w) := by
 obtain ⟨i0, hi, hz0, hz1, hz2⟩ := info_parts info_rec'
 have hF : recsF all p = beneath all p := by unfold recsF; rw [if_pos hp]
 rw [hF]
 have hn2 : n ≤ 2 := by have := hp.2; omega
 have HP : Hid (∀ W, Below w.heap.size w W → Calls Tryz.prog 52 #[.slice A' n c'] W (fun e w' => e = .returned (.bool true) ∧ W = w')) := Lib.hid fun W hW => by
  have h := path_any A' c' n p hn hbig W ((hr.below hW).more hW.size)
  rwa [decide_eq_true hp] at h
 have HV := Lib.hid (And.intro hv (And.intro hm (And.intro hr (And.intro hn hp))))
 clear hv hm hr hn hp hF
 go_enter Tryz.func53, Tryz.ntmps53
 go_wp2_with fail
 go_loopw [5, 6] (fun v q wr => ∃ (k x : Nat) (A1 : Option Addr) (c1 : Nat) (ps : List Pr), q = .int .i64 k ∧ k ≤ m ∧ v = .slice A1 x c1 ∧ x ≤ k ∧ Hid (ps.map Prod.fst = beneath (all.take k) p ∧ ps.length = x ∧ RowS w.heap.size wr (.slice A1 x c1) ps ∧ Below w.heap.size w wr)) (fun _ q _ => m - (intOf q).toNat)
 case atStart => exact ⟨0, 0, none, 0, [], rfl, by omega, rfl, by omega, Lib.hid ⟨rfl, rfl, rowS_nil _ _, Below.refl _ _⟩⟩
 case round =>
  obtain ⟨k, x, A1, c1, ps, rfl, hk, rfl, hxk, hst⟩ := hrel
  by_cases hlt : k < m
  ·have d1 : (0 : Int) ≤ (k : Int) := by omega
   have d2 : (k : Int) < (m : Int) := by omega
   have hb := hst.out.2.2.2
   obtain ⟨pb, off, A4, c4, rfl, _, hbB, k0, k1, k2, k3⟩ := HV.out.1.at HV.out.2.1 hb hlt rfl
   have hkl : k < all.length := by have := HV.out.2.1; omega
   have HTk := Lib.hid (take_filter (p := p) hkl)
   obtain ⟨r, hrr⟩ : ∃ r, all.getD k r0 = r := ⟨_, rfl⟩
   rw [hrr] at k0 k1 k2 k3 HTk
   obtain ⟨key, lv⟩ := r
   simp only at k0 k1 k2 k3
   obtain ⟨ml, hml⟩ : ∃ ml, lv.length = ml := ⟨_, rfl⟩
   rw [hml] at k1 k3
   have hPL := Lib.hid (HP.out wr hb)
   have hsz := hb.size
   have hPC := Lib.hid (ref_place_any key wr k3.2.2)
   have HST := Lib.hid (And.intro hst.out (And.intro k0 (And.intro k1 (And.intro k2 (And.intro k3 (And.intro hml hbB))))))
   clear hst hb hrr hkl k1 k2 k3 hml
   go_wp2_with fail
   refine hPL.out.mono ?_
   rintro e w1 ⟨rfl, rfl⟩
   go_wp2_with fail
   refine hPC.out.mono ?_
   rintro e w2 ⟨g, rfl, hpl, b2⟩
   have hns := hpl.out.1
   have hgl := hpl.out.2
   obtain ⟨dd0, hdd0⟩ : ∃ d, dig0 key = d := ⟨_, rfl⟩
   obtain ⟨dd1, hdd1⟩ : ∃ d, dig1 key = d := ⟨_, rfl⟩
   have HPP : Hid (Ns .i64 w2 w2.heap.size (some ⟨g, 0, none⟩) [dig0 key, dig1 key] ∧ Below wr.heap.size wr w2 ∧ Ns .i64 w2 w2.heap.size A' p) := Lib.hid ⟨hns, b2, by
    have hbw := HST.out.1.2.2.2.trans (b2.mono hsz)
    exact (HV.out.2.2.1.below hbw).more hbw.size⟩
   clear hpl hns b2 hPL hPC k0
   obtain ⟨wo, hwo⟩ : ∃ W, W = wr := ⟨_, rfl⟩
   subst hwo
   go_wp2_with fail
   go_loopw [8, 9] (fun z q wr => ∃ (j : Nat) (b : Bool), q = .int .i64 j ∧ z = .bool b ∧ j ≤ n ∧ Hid (b = inK key p j) ∧ Hid (∃ t, wr = w2.drewN t)) (fun _ q _ => n - (intOf q).toNat)
   case atStart => exact ⟨0, true, rfl, rfl, by omega, Lib.hid rfl, Lib.hid ⟨0, rfl⟩⟩
   case round =>
    obtain ⟨j, b, rfl, rfl, hj, hbj, hwt⟩ := hrel
    by_cases hltj : j < n
    ·have j1 : (0 : Int) ≤ (j : Int) := by omega
     have j2 : (j : Int) < (n : Int) := by omega
     have j3 : (j : Int) < 2 := by omega
     obtain ⟨t, rfl⟩ := hwt.out
     obtain ⟨b', off', e9, _, hc9⟩ := HPP.out.1 (by simp)
     injection e9 with e9
     injection e9 with e9 e10
     subst e9 e10
     have c9 := hc9 j (by simp; omega)
     obtain ⟨qb, qo, rfl, _, hc8⟩ := HPP.out.2.2 (by have := HV.out.2.2.2.1; omega)
     have c8 := hc8 j (by have := HV.out.2.2.2.1; omega)
     have hin := inK_succ key p j
     obtain ⟨x9, hx9⟩ : ∃ x9, ([dig0 key, dig1 key].getD j 0 : Int) = x9 := ⟨_, rfl⟩
     obtain ⟨x8, hx8⟩ : ∃ x8, p.getD j 0 = x8 := ⟨_, rfl⟩
     rw [hx9] at c9 hin
     rw [hx8] at c8 hin
     rw [Nat.zero_add] at c9
     have HIN := Lib.hid hin
     clear hin hx9 hx8 hc9 hc8
     cases b
     ·have HF : Hid (false = inK key p (j + 1)) := Lib.hid (by rw [HIN.out, ← hbj.out]; rfl)
      clear hbj hwt
      go_wp2_with fail
      go_quiet (fail)
      go_wp2_with fail
      go_roundw
      case rel => exact ⟨j + 1, false, by go_num, rfl, by omega, HF, Lib.hid ⟨_, by first | rfl | (simp only [World.drewN_drewN]; rfl)⟩⟩
      case measure => simp only [intOf]; omega
     ·by_cases hxx : x9 = x8
      ·subst hxx
       have e1 : (x9 == x9) = true := by simp
       have HF : Hid (true = inK key p (j + 1)) := Lib.hid (by rw [HIN.out, ← hbj.out]; simp)
       clear hbj hwt
       go_wp2_with fail
       go_quiet (fail)
       go_wp2_with fail
       go_roundw
       case rel => exact ⟨j + 1, true, by go_num, rfl, by omega, HF, Lib.hid ⟨_, by first | rfl | (simp only [World.drewN_drewN]; rfl)⟩⟩
       case measure => simp only [intOf]; omega
      ·have e1 : (x9 == x8) = false := by simpa using hxx
       have HF : Hid (false = inK key p (j + 1)) := Lib.hid (by rw [HIN.out, ← hbj.out]; simp [hxx])
       clear hbj hwt hxx
       go_wp2_with fail
       go_quiet (fail)
       go_wp2_with fail
       go_roundw
       case rel => exact ⟨j + 1, false, by go_num, rfl, by omega, HF, Lib.hid ⟨_, by first | rfl | (simp only [World.drewN_drewN]; rfl)⟩⟩
       case measure => simp only [intOf]; omega
    ·have hjn : j = n := by omega
     subst hjn
     obtain ⟨t, rfl⟩ := hwt.out
     have hbi : b = inP p key := by
      rw [hbj.out, ← inK_full HV.out.2.2.2.2 key, HV.out.2.2.2.1]
     have hbw2 : Below w.heap.size w (w2.drewN t) := (HST.out.1.2.2.2.trans (HPP.out.2.1.mono hsz)).trans ⟨rfl, rfl, rfl, Nat.le_refl _, fun _ _ => rfl⟩
     have hrow : RowS w.heap.size (w2.drewN t) (.slice A1 x c1) ps := (HST.out.1.2.2.1.below HPP.out.2.1 hsz).below ⟨rfl, rfl, rfl, Nat.le_refl _, fun _ _ => rfl⟩ (Nat.le_trans hsz HPP.out.2.1.size)
     obtain ⟨W3, hW3⟩ : ∃ W3, w2.drewN t = W3 := ⟨_, rfl⟩
     rw [hW3] at hbw2 hrow ⊢
     have HR3 := Lib.hid (And.intro hrow hbw2)
     have HW23 : Hid (Below w.heap.size wo W3) := Lib.hid (by rw [← hW3]; exact (HPP.out.2.1.mono hsz).trans ⟨rfl, rfl, rfl, Nat.le_refl _, fun _ _ => rfl⟩)
     have hsz3 := hbw2.size
     cases b
     ·have HF : Hid (ps.map Prod.fst = beneath (all.take (k + 1)) p ∧ ps.length = x ∧ RowS w.heap.size W3 (.slice A1 x c1) ps ∧ Below w.heap.size w W3) := Lib.hid ⟨by
       rw [HTk.out, ← hbi, HST.out.1.1]; simp, HST.out.1.2.1, hrow, hbw2⟩
      clear hbj hwt hbi hbw2 hrow hW3
      go_wp2_with fail
      go_roundw
      case rel => exact ⟨k + 1, x, A1, c1, ps, by go_num, by omega, rfl, by omega, HF⟩
      case measure => simp only [intOf]; omega
     ·have q0 : W3.cell? ⟨pb, off + k * 2, none⟩ = some (.string key) := by
       rw [← hW3]
       exact (World.cell?_of_block (HPP.out.2.1.block pb (by have := HST.out.2.2.2.2.2.2; omega))).trans HST.out.2.1
      have q1 : W3.cell? ⟨pb, off + k * 2 + 1, none⟩ = some (.slice A4 ml c4) := by
       rw [← hW3]
       exact (World.cell?_of_block (HPP.out.2.1.block pb (by have := HST.out.2.2.2.2.2.2; omega))).trans HST.out.2.2.1
      have hro := hrow.1
      rw [HST.out.1.2.1] at hro
      have HE : Hid (∀ A2 c2, (ps ++ [(((key, lv) : Rc), A2, c2)]).map Prod.fst = beneath (all.take (k + 1)) p) := Lib.hid fun A2 c2 => by rw [List.map_append, HTk.out, ← hbi, HST.out.1.1]; rfl
      have hl1 : x + 1 ≤ 3518437208883 := by omega
      have hl2 : (x + 1) * 40 ≤ 140737488355328 := by omega
      clear hbj hwt hbi hbw2 hrow hW3
      go_wp2_with (at_builtin; refine wpList_append_r _ rfl (.tmp 45) (.tmp 50) 23 rfl w.heap.size 70 i0 _ 40 Tryz.underlying23 hi hz0 hz1 hz2 rfl _ x ps rfl hro ((key, lv), A4, c4) ml HST.out.2.2.2.2.2.1 1 rfl hl2 (by omega) hsz3 ?_; intro v4 w4 o4 g4 at4; obtain ⟨A5, c5, rfl⟩ := own_form o4)
      have HF : Hid ((ps ++ [(((key, lv) : Rc), A4, c4)]).map Prod.fst = beneath (all.take (k + 1)) p ∧ (ps ++ [(((key, lv) : Rc), A4, c4)]).length = x + 1 ∧ RowS w.heap.size w4 (.slice A5 (x + 1) c5) (ps ++ [((key, lv), A4, c4)]) ∧ Below w.heap.size w w4) := Lib.hid ⟨HE.out _ _, by simp [HST.out.1.2.1], by
       refine HR3.out.1.add (v' := .slice A5 (x + 1) c5) (p := ((key, lv), A4, c4)) (by rw [HST.out.1.2.1]; exact o4) g4 hsz3 ⟨?_, ?_, ?_, ?_⟩
       ·exact HST.out.2.2.2.1.below HW23.out
       ·rw [HST.out.2.2.2.2.2.1]; exact HST.out.2.2.2.2.1.1
       ·rw [HST.out.2.2.2.2.2.1]; exact HST.out.2.2.2.2.1.2.1
       ·exact HST.out.2.2.2.2.1.2.2, HR3.out.2.grown g4 hsz3 (fun j hj => (hro.lt j hj).1)⟩
      clear o4 g4 at4 hro q0 q1
      go_roundw
      case rel => exact ⟨k + 1, x + 1, A5, c5, _, by go_num, by omega, rfl, by omega, HF⟩
      case measure => simp only [intOf]; omega
  ·have hkm : k = m := by omega
   subst hkm
   have hfull : all.take k = all := List.take_of_length_le (by have := HV.out.2.1; omega)
   rw [hfull] at hst
   have HF : Hid (NewS (beneath all p) w (.returned (.slice A1 x c1)) wr) := Lib.hid ⟨A1, x, c1, ps, rfl, Lib.hid ⟨hst.out.1, by rw [← hst.out.1, List.length_map]; exact hst.out.2.1, by have h9 := hst.out.2.2.1.1; rw [hst.out.2.1] at h9; exact (own_low h9).1, hst.out.2.2.1⟩, hst.out.2.2.2⟩
   clear hst hfull
   go_wp2_with fail
   go_ret
   exact HF.out
end Tree
end Go.Proofs.YtkfdplfgaddkmaaGreat

/-
 firthref10.With: records, with one in the place of its key's.
-/
namespace Go.Proofs.YtkfdplfgaddkmaaGreat
namespace Tree
open Go.RowKit Vers Num Ring Disk Blk
open Go.Proofs.YtkfdplfgaddkmaaGreat.Code hiding Bn
attribute [local go_sem ↓] Go.wp_at_zero Go.wp_at_succ

def wf : List Rc → Rc → Bool → List Rc
 | [], r, laid => if laid then [] else [r]
 | x :: l, r, laid => if x.1 = r.1 then wf l r laid else if (!laid && nlt r.1 x.1) = true then r :: x :: wf l r true else x :: wf l r laid
theorem wf_true (r : Rc) : ∀ l : List Rc, wf l r true = wout l r.1
 | [] => rfl
 | x :: l => by
  have ih := wf_true r l
  unfold wf
  by_cases h : x.1 = r.1
  ·rw [if_pos h, ih]
   unfold wout
   rw [List.filter_cons, if_neg (by simp [h])]
  ·rw [if_neg h, if_neg (by simp), ih]
   unfold wout
   rw [List.filter_cons, if_pos (by simp [h])]
theorem wf_false (r : Rc) : ∀ l : List Rc, wf l r false = wit l r.1 r.2
 | [] => rfl
 | x :: l => by
  have ih := wf_false r l
  unfold wf
  by_cases h : x.1 = r.1
  ·rw [if_pos h, ih]
   unfold wit wout
   rw [List.filter_cons, if_neg (by simp [h])]
  ·rw [if_neg h]
   have e : wit (x :: l) r.1 r.2 = ins (x :: wout l r.1) r.1 r.2 := by
    unfold wit wout
    rw [List.filter_cons, if_pos (by simp [h])]
   rw [e]
   by_cases hn : nlt r.1 x.1 = true
   ·rw [if_pos (by simp [hn]), wf_true]
    unfold ins
    rw [if_pos hn]
   ·rw [if_neg (by simp [hn]), ih]
    unfold ins
    rw [if_neg hn]
    rfl
theorem wf_start (l : List Rc) (r : Rc) : wf l r (decide (r.2 = [])) = withR l r := by
 unfold withR
 by_cases h : r.2 = []
 ·rw [if_pos h, decide_eq_true h, wf_true]
 ·rw [if_neg h, decide_eq_false h, wf_false]
theorem wf_keep {x r : Rc} {l : List Rc} {laid : Bool} (hne : ¬ x.1 = r.1) (h : (!laid && nlt r.1 x.1) = false) : wf (x :: l) r laid = x :: wf l r laid := by
 rw [wf, if_neg hne, if_neg (by rw [h]; simp)]
theorem wf_lay {x r : Rc} {l : List Rc} (hne : ¬ x.1 = r.1) (h : nlt r.1 x.1 = true) : wf (x :: l) r false = r :: x :: wf l r true := by
 rw [wf, if_neg hne, if_pos (by rw [h]; rfl)]
theorem two_more {x k n : Nat} (h : x ≤ k) (h1 : k < n) (h2 : n ≤ 3518437208881) : (x + 1 + 1) * 40 ≤ 140737488355328 := by omega
theorem drop_at {l : List Rc} {k : Nat} (hk : k < l.length) : l.drop k = l.getD k r0 :: l.drop (k + 1) := by
 rw [List.drop_eq_getElem_cons hk]
 simp [List.getD_eq_getElem?_getD, hk]
def RowX (base B : Nat) (w : World) (v : Value) (ps : List Pr) : Prop :=
 w.ownsRow base 70 2 v ps.length (rcs ps) ∧ ∀ p ∈ ps, Vs w 0 B p.2.1 p.1.2 ∧ p.1.2.length ≤ p.2.2 ∧ p.1.2.length ≤ 140737488355328 ∧ p.1.1.size ≤ 140737488355328
theorem rowX_nil (base B : Nat) (w : World) : RowX base B w (.slice none 0 0) [] := ⟨World.ownsRow_nil _ _ _ _, fun p hp => by cases hp⟩
theorem RowX.drewN {base B : Nat} {w : World} {v : Value} {ps : List Pr} (h : RowX base B w v ps) (q : Nat) : RowX base B (w.drewN q) v ps :=
 ⟨own_below h.1 ⟨rfl, rfl, rfl, Nat.le_refl _, fun _ _ => rfl⟩ (Nat.le_refl _), fun p hp => ⟨(h.2 p hp).1.keep fun _ _ _ => rfl, (h.2 p hp).2⟩⟩
theorem RowX.add {base B : Nat} {w w' : World} {v v' : Value} {ps : List Pr} {p : Pr} (h : RowX base B w v ps) (ho : w'.ownsRow base 70 2 v' (ps.length + 1) (rcs (ps ++ [p]))) (hg : w.grownBy w' v.ownBlock) (hB : B ≤ base) (hbw : base ≤ w.heap.size) (hp : Vs w 0 B p.2.1 p.1.2 ∧ p.1.2.length ≤ p.2.2 ∧ p.1.2.length ≤ 140737488355328 ∧ p.1.1.size ≤ 140737488355328) : RowX base B w' v' (ps ++ [p]) := by
 have hb : Below B w w' := (Below.refl _ _).grown hg (Nat.le_trans hB hbw) (fun j hj => Nat.le_trans hB (h.1.lt j hj).1)
 refine ⟨by simpa using ho, fun q hq => ?_⟩
 rcases List.mem_append.1 hq with hq | hq
 ·exact ⟨(h.2 q hq).1.below hb, (h.2 q hq).2⟩
 ·rw [List.mem_singleton.1 hq]
  exact ⟨hp.1.below hb, hp.2⟩
theorem RowX.low {base base' B : Nat} {w : World} {v : Value} {ps : List Pr} (h : RowX base B w v ps) (hB : base' ≤ base) : RowX base' B w v ps := ⟨own_base h.1 hB, h.2⟩
theorem RowX.rowS {base B : Nat} {w : World} {v : Value} {ps : List Pr} (h : RowX base B w v ps) (hB : B ≤ base) : RowS B w v ps := ⟨own_base h.1 hB, h.2⟩
def Rb (w : World) (B : Nat) (A : Option Addr) (l : List Rc) : Prop :=
 0 < l.length → ∃ b off, A = some ⟨b, off, none⟩ ∧ b < w.heap.size ∧ ∀ j, j < l.length → ∃ A' c', Rat w 0 B b (off + j * 2) (l.getD j r0) A' c'
theorem Rb.at {w w' : World} {B n k : Nat} {A : Option Addr} {l : List Rc} {r : Rc} (h : Rb w B A l) (hn : l.length = n) (hB : B ≤ w.heap.size) (hb : Below w.heap.size w w') (hk : k < n) (hv : l.getD k r0 = r) : ∃ b off A' c', A = some ⟨b, off, none⟩ ∧ 0 ≤ b ∧ b < w.heap.size ∧ Rat w' 0 B b (off + k * 2) r A' c' := by
 obtain ⟨b, off, e, hbB, hc⟩ := h (by omega)
 obtain ⟨A', c', h0, h1, h2, h3⟩ := hc k (by omega)
 rw [hv] at h0 h1 h2 h3
 exact ⟨b, off, A', c', e, Nat.zero_le _, hbB, (hb.cell (p := ⟨b, _, none⟩) hbB).trans h0, (hb.cell (p := ⟨b, _, none⟩) hbB).trans h1, h2.below (hb.mono hB), h3⟩
theorem RowX.rb {base B n c : Nat} {w : World} {A : Option Addr} {ps : List Pr} (h : RowX base B w (.slice A n c) ps) : Rb w B A (ps.map Prod.fst) := fun hp => by
 rw [List.length_map] at hp
 obtain ⟨ho, hpa⟩ := h
 rcases ho.2 with ⟨_, h0⟩ | ⟨g, cap, cur, hv, hbg, hg, rest⟩
 ·omega
 ·injection hv with h1 h2 h3
  subst h1
  refine ⟨g, 0, rfl, (Array.getElem?_eq_some_iff.1 hg).1, fun j hj => ?_⟩
  rw [List.length_map] at hj
  have e : (ps.map Prod.fst).getD j r0 = (ps.getD j (r0, none, 0)).1 := by simp [List.getD_eq_getElem?_getD, hj]
  have hm : ps.getD j (r0, none, 0) ∈ ps := by
   rw [List.getD_eq_getElem?_getD, List.getElem?_eq_getElem hj]
   exact List.getElem_mem _
  rw [e]
  have hat : ∀ r, r < 2 → ∀ u, (rcc (ps.getD j (r0, none, 0)))[r]? = some u → w.cell? ⟨g, 0 + j * 2 + r, none⟩ = some u := fun r hr u hu => by
   have hc := ho.cells (g := g) rfl (j * 2 + r) u (by rw [rcs_at ps j hj r hr]; exact hu)
   rw [Vers.add_plain] at hc
   rw [show 0 + j * 2 + r = 0 + (j * 2 + r) by omega]
   exact hc
  obtain ⟨q1, q2, q3, q4⟩ := hpa _ hm
  exact ⟨_, _, hat 0 (by omega) _ (by simp [rcc]), hat 1 (by omega) _ (by simp [rcc]), q1, q2, q3, q4⟩
def Withing (l : List Rc) (r : Rc) (n B : Nat) (U : World) (v z q : Value) (wr : World) : Prop :=
 ∃ (k x : Nat) (A1 : Option Addr) (c1 : Nat) (ps : List Pr) (laid : Bool), q = .int .i64 k ∧ k ≤ n ∧ v = .slice A1 x c1 ∧ z = .bool laid ∧ x ≤ k + 1 ∧ Hid ((laid = false → x ≤ k) ∧ ps.map Prod.fst ++ wf (l.drop k) r laid = withR l r ∧ ps.length = x ∧ RowX U.heap.size B wr (.slice A1 x c1) ps ∧ Below U.heap.size U wr)
def NewX (B : Nat) (l : List Rc) (w : World) (e : Ending) (w' : World) : Prop :=
 ∃ A m c ps, e = .returned (.slice A m c) ∧ Hid (ps.map Prod.fst = l ∧ l.length = m ∧ m ≤ c ∧ RowX w.heap.size B w' (.slice A m c) ps) ∧ Below w.heap.size w w'
theorem RowX.put {base B x c1 : Nat} {A1 A4 : Option Addr} {c4 ml : Nat} {ps : List Pr} {key : Nm} {lv : List Vr} {W w4 U : World} {v4 : Value} (hr : RowX base B W (.slice A1 x c1) ps) (hps : ps.length = x) (hB : B ≤ base) (hbw : base ≤ W.heap.size) (hU : Below base U W) (hml : lv.length = ml) (hv : Vs W 0 B A4 lv) (hz : ml ≤ c4 ∧ ml ≤ 140737488355328 ∧ key.size ≤ 140737488355328)
  (o4 : w4.ownsRow base 70 2 v4 (x + 1) (rcs (ps ++ [((key, lv), A4, c4)]))) (g4 : W.grownBy w4 (Value.slice A1 x c1).ownBlock) : RowX base B w4 v4 (ps ++ [((key, lv), A4, c4)]) ∧ Below base U w4 := by
 subst hml
 refine ⟨hr.add (by rw [hps]; exact o4) g4 hB hbw ⟨hv, hz⟩, hU.grown g4 hbw (fun j hj => (hr.1.lt j hj).1)⟩
set_option maxRecDepth 100000 in
set_option maxHeartbeats 4000000 in
theorem with_any (A Av : Option Addr) (c cv n m B : Nat) (l : List Rc) (key : Nm) (lv : List Vr) (hn : l.length = n) (hn2 : n ≤ 3518437208881) (hm : lv.length = m) (hz : m ≤ cv ∧ m ≤ 140737488355328 ∧ key.size ≤ 140737488355328) (w : World) (hBw : B ≤ w.heap.size) (hl : Rb w B A l) (hv : Vs w 0 B Av lv) :
  Calls Tryz.prog 40 #[.slice A n c, .agg #[.string key, .slice Av m cv]] w (NewX B (withR l (key, lv)) w) := by
 obtain ⟨i0, hi, hz0, hz1, hz2⟩ := info_parts info_rec'
 obtain ⟨rb, hrb⟩ : ∃ rb, w.heap.size = rb := ⟨_, rfl⟩
 obtain ⟨U, hU⟩ : ∃ U, w.alloc (.cells #[.string key, .slice Av m cv] 70) = U := ⟨_, rfl⟩
 have bU : Below w.heap.size w U := by rw [← hU]; exact (Below.refl _ w).alloc (Nat.le_refl _) _
 have BU : Bn rb 70 [.string key, .slice Av m cv] U := by rw [← hU, ← hrb]; exact World.alloc_heap_new _ _
 have x0 := BU.cell 0
 have x1 := BU.cell 1
 simp only [List.getElem?_cons_zero, List.getElem?_cons_succ] at x0 x1
 have hUs : U.heap.size = rb + 1 := by rw [← hU, ← hrb]; simp
 have HI : Hid (Withing l (key, lv) n B U (.slice none 0 0) (.bool (decide (m = 0))) (.int .i64 0) U) := Lib.hid ⟨0, 0, none, 0, [], decide (m = 0), rfl, by omega, rfl, rfl, by omega, Lib.hid ⟨fun _ => Nat.le_refl _, by
  have e : decide (m = 0) = decide ((key, lv).2 = []) := decide_eq_decide.2 (by rw [← hm]; exact ⟨fun h => List.eq_nil_of_length_eq_zero h, fun h => by simp at h; rw [h]; rfl⟩)
  rw [e]
  simpa using wf_start l (key, lv), rfl, rowX_nil _ _ _, Below.refl _ _⟩⟩
 have HH := Lib.hid (And.intro hl (And.intro hn (And.intro hv (And.intro hm (And.intro hz (And.intro bU (And.intro BU (And.intro hrb hUs))))))))
 obtain ⟨z0, hz0'⟩ : ∃ z0, decide (m = 0) = z0 := ⟨_, rfl⟩
 have e0 : ((m : Int) == 0) = z0 := by rw [← hz0']; by_cases h : m = 0 <;> simp [h]
 rw [hz0'] at HI
 clear hl hn hv hm hz bU BU hz0' hUs
 go_enter Tryz.func40, Tryz.ntmps40
 go_wp2_with fail
 clear hU e0 x0 x1 hrb
 go_loopw [5, 6, 7] (fun v z q wr => Withing l (key, lv) n B U v z q wr) (fun _ _ q _ => n - (intOf q).toNat)
 case atStart => exact HI.out
 case round =>
  clear HI
  obtain ⟨k, x, A1, c1, ps, laid, rfl, hk, rfl, rfl, hxk, hst⟩ := hrel
  have hbU := hst.out.2.2.2.2
  have hszU := hbU.size
  have hB1 := HH.out.2.2.2.2.2.2.1.same (hbU.block rb HH.out.2.2.2.2.2.2.1.lt)
  have x0 := hB1.cell 0
  have x1 := hB1.cell 1
  simp only [List.getElem?_cons_zero, List.getElem?_cons_succ] at x0 x1
  have hUw : w.heap.size ≤ U.heap.size := by have := HH.out.2.2.2.2.2.2.2; omega
  have hUB : B ≤ U.heap.size := Nat.le_trans hBw hUw
  have hbw : Below w.heap.size w wr := HH.out.2.2.2.2.2.1.trans (hbU.mono hUw)
  by_cases hlt : k < n
  ·have d1 : (0 : Int) ≤ (k : Int) := by omega
   have d2 : (k : Int) < (n : Int) := by omega
   obtain ⟨pb, off, A4, c4, rfl, _, hbB, k0, k1, k2, k3⟩ := HH.out.1.at HH.out.2.1 hBw hbw hlt rfl
   have hkl : k < l.length := by have := HH.out.2.1; omega
   have HTk := Lib.hid (drop_at hkl)
   obtain ⟨r, hrr⟩ : ∃ r, l.getD k r0 = r := ⟨_, rfl⟩
   rw [hrr] at k0 k1 k2 k3 HTk
   obtain ⟨key', lv'⟩ := r
   simp only at k0 k1 k2 k3
   obtain ⟨ml, hml⟩ : ∃ ml, lv'.length = ml := ⟨_, rfl⟩
   rw [hml] at k1 k3
   have hvr := HH.out.2.2.1.below (hbw.mono hBw)
   have HST := Lib.hid (And.intro hst.out (And.intro hUB (And.intro k2 (And.intro k3 (And.intro hml hvr)))))
   clear hst hbU hB1 hbw hrr hkl hml hvr k2 k3
   by_cases hkk : key' = key
   ·have e1 : (key'.toList == key.toList) = true := by rw [hkk]; simp
    have HF : Hid (∀ W, (∃ q, W = wr.drewN q) → Withing l (key, lv) n B U (.slice A1 x c1) (.bool laid) (.int .i64 ((k : Int) + 1)) W) := Lib.hid fun W ⟨q, hq⟩ => ⟨k + 1, x, A1, c1, ps, laid, by go_num, by omega, rfl, rfl, by omega, Lib.hid ⟨fun h => by have := HST.out.1.1 h; omega, by
      have h9 := HST.out.1.2.1
      rw [HTk.out] at h9
      rw [wf, if_pos hkk] at h9
      exact h9, HST.out.1.2.2.1, by rw [hq]; exact HST.out.1.2.2.2.1.drewN q, by rw [hq]; exact HST.out.1.2.2.2.2.trans ⟨rfl, rfl, rfl, Nat.le_refl _, fun _ _ => rfl⟩⟩⟩
    clear hkk
    go_wp2_with fail
    go_quiet (fail)
    have HF2 := Lib.hid (HF.out (wr.drewN nq) ⟨nq, rfl⟩)
    go_wp2_with fail
    go_roundw
    case rel => exact HF2.out
    case measure => simp only [intOf]; omega
   ·have e1 : (key'.toList == key.toList) = false := by rw [nm_eq]; exact decide_eq_false hkk
    have HKK := Lib.hid hkk
    clear hkk
    have HKP : Hid ((!laid && nlt key key') = false → ∀ (We w4 : World) (A5 : Option Addr) (c5 : Nat), RowX U.heap.size B We (.slice A1 x c1) ps → Below U.heap.size U We → U.heap.size ≤ We.heap.size → w4.ownsRow U.heap.size 70 2 (.slice A5 (x + 1) c5) (x + 1) (rcs (ps ++ [((key', lv'), A4, c4)])) → We.grownBy w4 (Value.slice A1 x c1).ownBlock → Withing l (key, lv) n B U (.slice A5 (x + 1) c5) (.bool laid) (.int .i64 ((k : Int) + 1)) w4) := Lib.hid fun hno We w4 A5 c5 hRE hUe hsz3 o4 g4 => by
     have hp := RowX.put (key := key') (lv := lv') (ml := ml) hRE HST.out.1.2.2.1 HST.out.2.1 hsz3 hUe HST.out.2.2.2.2.1 (HST.out.2.2.1.keep fun p _ hp => ((hUe.mono HST.out.2.1).cell hp).trans ((HST.out.1.2.2.2.2.mono HST.out.2.1).cell hp).symm) HST.out.2.2.2.1 o4 g4
     have h9 := HST.out.1.2.1
     rw [HTk.out, wf_keep HKK.out hno] at h9
     exact ⟨k + 1, x + 1, A5, c5, ps ++ [((key', lv'), A4, c4)], laid, by go_num, by omega, rfl, rfl, by omega, Lib.hid ⟨fun h => by have := HST.out.1.1 h; omega, by rw [← h9]; simp, by simp [HST.out.1.2.2.1], hp.1, hp.2⟩⟩
    have HD0 : Hid (∀ q, RowX U.heap.size B (wr.drewN q) (.slice A1 x c1) ps ∧ Below U.heap.size U (wr.drewN q)) := Lib.hid fun q => ⟨HST.out.1.2.2.2.1.drewN q, HST.out.1.2.2.2.2.trans ⟨rfl, rfl, rfl, Nat.le_refl _, fun _ _ => rfl⟩⟩
    go_wp2_with fail
    go_quiet (fail)
    obtain ⟨Wd, hWd⟩ : ∃ Wd, wr.drewN nq = Wd := ⟨_, rfl⟩
    have HD1 : Hid (∀ q, RowX U.heap.size B (Wd.drewN q) (.slice A1 x c1) ps ∧ Below U.heap.size U (Wd.drewN q)) := Lib.hid fun q => by
     rw [← hWd]
     exact ⟨(HST.out.1.2.2.2.1.drewN nq).drewN q, HST.out.1.2.2.2.2.trans ⟨rfl, rfl, rfl, Nat.le_refl _, fun _ _ => rfl⟩⟩
    have hz9 : wr.heap = Wd.heap := by rw [← hWd]; rfl
    have cc : ∀ a, wr.cell? a = Wd.cell? a := fun a => by rw [← hWd]; rfl
    rw [cc] at k0 k1 x0 x1
    rw [hWd]
    clear hWd cc hz9
    cases laid
    ·obtain ⟨lt, hlt3⟩ : ∃ lt, Op.bytesLess key.toList key'.toList = lt := ⟨_, rfl⟩
     cases lt
     ·go_wp2_with fail
      go_quiet (fail)
      obtain ⟨We, hWe⟩ : ∃ We, Wd.drewN nq = We := ⟨_, rfl⟩
      have hde := HD1.out nq
      have k0e : (Wd.drewN nq).cell? _ = _ := k0
      have k1e : (Wd.drewN nq).cell? _ = _ := k1
      rw [hWe] at hde k0e k1e ⊢
      obtain ⟨hRE, hUe⟩ := hde
      have hsz3 := hUe.size
      have hro := hRE.1
      have HRE := Lib.hid (And.intro hRE hUe)
      rw [HST.out.1.2.2.1] at hro
      have hl2 : (x + 1) * 40 ≤ 140737488355328 := by omega
      clear hWe hRE hUe k0 k1
      go_wp2_with (at_builtin; refine wpList_append_r _ rfl (.tmp 42) (.tmp 47) 23 rfl U.heap.size 70 i0 _ 40 Tryz.underlying23 hi hz0 hz1 hz2 rfl _ x ps rfl hro ((key', lv'), A4, c4) ml HST.out.2.2.2.2.1 1 rfl hl2 (by omega) hsz3 ?_; intro v4 w4 o4 g4 at4; obtain ⟨A5, c5, rfl⟩ := own_form o4)
      have HF2 := Lib.hid (HKP.out (by show (true && Op.bytesLess key.toList key'.toList) = false; rw [hlt3]; rfl) We w4 A5 c5 HRE.out.1 HRE.out.2 hsz3 o4 g4)
      clear o4 g4 at4 hro
      go_roundw
      case rel => exact HF2.out
      case measure => simp only [intOf]; omega
     ·go_wp2_with fail
      go_quiet (fail)
      obtain ⟨We, hWe⟩ : ∃ We, Wd.drewN nq = We := ⟨_, rfl⟩
      have hde := HD1.out nq
      have k0e : (Wd.drewN nq).cell? _ = _ := k0
      have k1e : (Wd.drewN nq).cell? _ = _ := k1
      have x0e : (Wd.drewN nq).cell? _ = _ := x0
      have x1e : (Wd.drewN nq).cell? _ = _ := x1
      rw [hWe] at hde k0e k1e x0e x1e ⊢
      obtain ⟨hRE, hUe⟩ := hde
      have hsz3 := hUe.size
      have hro := hRE.1
      have HRE := Lib.hid (And.intro hRE hUe)
      rw [HST.out.1.2.2.1] at hro
      have hl2 : (x + 1) * 40 ≤ 140737488355328 := by omega
      have HX : Hid (∀ o, (⟨pb, o, none⟩ : Addr).block < U.heap.size) := Lib.hid (fun o => by show pb < _; omega)
      have HLAID : Hid (x ≤ k) := Lib.hid (HST.out.1.1 (by simp))
      clear hWe hRE hUe k0 k1 x0 x1
      have hl3 := two_more HLAID.out hlt hn2
      have HFF : Hid (∀ (w4 w5 : World) (A5 A6 : Option Addr) (c5 c6 : Nat), w4.ownsRow U.heap.size 70 2 (.slice A5 (x + 1) c5) (x + 1) (rcs (ps ++ [((key, lv), Av, cv)])) → We.grownBy w4 (Value.slice A1 x c1).ownBlock → w5.ownsRow U.heap.size 70 2 (.slice A6 (x + 1 + 1) c6) (x + 1 + 1) (rcs ((ps ++ [((key, lv), Av, cv)]) ++ [((key', lv'), A4, c4)])) → w4.grownBy w5 (Value.slice A5 (x + 1) c5).ownBlock → Withing l (key, lv) n B U (.slice A6 (x + 1 + 1) c6) (.bool true) (.int .i64 ((k : Int) + 1)) w5) := Lib.hid fun w4 w5 A5 A6 c5 c6 o4 g4 o5 g5 => by
       have hp := RowX.put (key := key) (lv := lv) (ml := m) HRE.out.1 HST.out.1.2.2.1 HST.out.2.1 hsz3 HRE.out.2 HH.out.2.2.2.1 (HH.out.2.2.1.keep fun p _ hp => ((HRE.out.2.mono HST.out.2.1).cell hp).trans ((HH.out.2.2.2.2.2.1.mono hBw).cell hp)) HH.out.2.2.2.2.1 o4 g4
       have hp2 := RowX.put (key := key') (lv := lv') (ml := ml) hp.1 (by simp [HST.out.1.2.2.1]) HST.out.2.1 hp.2.size hp.2 HST.out.2.2.2.2.1 (HST.out.2.2.1.keep fun p _ hq => ((hp.2.mono HST.out.2.1).cell hq).trans ((HST.out.1.2.2.2.2.mono HST.out.2.1).cell hq).symm) HST.out.2.2.2.1 o5 g5
       have h9 := HST.out.1.2.1
       rw [HTk.out, wf_lay (x := (key', lv')) (r := (key, lv)) HKK.out hlt3] at h9
       exact ⟨k + 1, x + 1 + 1, A6, c6, (ps ++ [((key, lv), Av, cv)]) ++ [((key', lv'), A4, c4)], true, by go_num, by omega, rfl, rfl, by have := HLAID.out; omega, Lib.hid ⟨(fun h => absurd h (by simp)), by rw [← h9]; simp, by simp [HST.out.1.2.2.1], hp2.1, hp2.2⟩⟩
      go_wp2_with (at_builtin; first
       | (refine wpList_append_r _ rfl (.tmp 38) (.tmp 40) 23 rfl U.heap.size 70 i0 _ 40 Tryz.underlying23 hi hz0 hz1 hz2 rfl _ x ps rfl hro ((key, lv), Av, cv) m HH.out.2.2.2.1 1 rfl hl2 (by omega) hsz3 ?_; intro v4 w4 o4 g4 at4; obtain ⟨A5, c5, rfl⟩ := own_form o4; have bl := (Below.refl U.heap.size We).grown g4 hsz3 (fun j hj => (hro.lt j hj).1); have k0f := (bl.cell (HX.out _)).trans k0e; have k1f := (bl.cell (HX.out _)).trans k1e; have hsz4 := Nat.le_trans hsz3 bl.size; have HG4 := Lib.hid g4; clear k0e k1e x0e x1e bl g4 at4)
       | (refine wpList_append_r _ rfl (.tmp 42) (.tmp 47) 23 rfl U.heap.size 70 i0 _ 40 Tryz.underlying23 hi hz0 hz1 hz2 rfl _ (x + 1) (ps ++ [((key, lv), Av, cv)]) rfl o4 ((key', lv'), A4, c4) ml HST.out.2.2.2.2.1 1 rfl hl3 (by omega) hsz4 ?_; intro v5 w5 o5 g5 at5; obtain ⟨A6, c6, rfl⟩ := own_form o5))
      have HF2 := Lib.hid (HFF.out w4 w5 A5 A6 c5 c6 o4 HG4.out o5 g5)
      clear o4 o5 g5 at5 hro k0f k1f
      go_roundw
      case rel => exact HF2.out
      case measure => simp only [intOf]; omega
    ·go_wp2_with fail
     go_quiet (fail)
     obtain ⟨We, hWe⟩ : ∃ We, Wd.drewN nq = We := ⟨_, rfl⟩
     have hde := HD1.out nq
     have k0e : (Wd.drewN nq).cell? _ = _ := k0
     have k1e : (Wd.drewN nq).cell? _ = _ := k1
     rw [hWe] at hde k0e k1e ⊢
     obtain ⟨hRE, hUe⟩ := hde
     have hsz3 := hUe.size
     have hro := hRE.1
     have HRE := Lib.hid (And.intro hRE hUe)
     rw [HST.out.1.2.2.1] at hro
     have hl2 : (x + 1) * 40 ≤ 140737488355328 := by omega
     clear hWe hRE hUe k0 k1
     go_wp2_with (at_builtin; refine wpList_append_r _ rfl (.tmp 42) (.tmp 47) 23 rfl U.heap.size 70 i0 _ 40 Tryz.underlying23 hi hz0 hz1 hz2 rfl _ x ps rfl hro ((key', lv'), A4, c4) ml HST.out.2.2.2.2.1 1 rfl hl2 (by omega) hsz3 ?_; intro v4 w4 o4 g4 at4; obtain ⟨A5, c5, rfl⟩ := own_form o4)
     have HF2 := Lib.hid (HKP.out rfl We w4 A5 c5 HRE.out.1 HRE.out.2 hsz3 o4 g4)
     clear o4 g4 at4 hro
     go_roundw
     case rel => exact HF2.out
     case measure => simp only [intOf]; omega
  ·have hkm : k = n := by omega
   subst hkm
   have hdr : l.drop k = [] := List.drop_eq_nil_of_le (by have := HH.out.2.1; omega)
   rw [hdr] at hst
   clear hdr
   cases laid
   ·have hro := hst.out.2.2.2.1.1
    rw [hst.out.2.2.1] at hro
    have hl2 : (x + 1) * 40 ≤ 140737488355328 := by omega
    have HF : Hid (∀ (w4 : World) (A5 : Option Addr) (c5 : Nat), w4.ownsRow U.heap.size 70 2 (.slice A5 (x + 1) c5) (x + 1) (rcs (ps ++ [((key, lv), Av, cv)])) → wr.grownBy w4 (Value.slice A1 x c1).ownBlock → NewX B (withR l (key, lv)) w (.returned (.slice A5 (x + 1) c5)) w4) := Lib.hid fun w4 A5 c5 o4 g4 => by
     have hp := RowX.put (key := key) (lv := lv) (ml := m) hst.out.2.2.2.1 hst.out.2.2.1 hUB hszU hst.out.2.2.2.2 HH.out.2.2.2.1 (HH.out.2.2.1.below (hbw.mono hBw)) HH.out.2.2.2.2.1 o4 g4
     have hE : (ps ++ [(((key, lv) : Rc), Av, cv)]).map Prod.fst = withR l (key, lv) := by
      rw [List.map_append]
      exact hst.out.2.1
     have hL : (ps ++ [(((key, lv) : Rc), Av, cv)]).length = x + 1 := by simp [hst.out.2.2.1]
     exact ⟨A5, x + 1, c5, _, rfl, Lib.hid ⟨hE, by rw [← hE, List.length_map]; exact hL, (own_low o4).1, hp.1.low hUw⟩, HH.out.2.2.2.2.2.1.trans (hp.2.mono hUw)⟩
    clear hst hbU hB1 hbw
    go_wp2_with (at_builtin; refine wpList_append_r _ rfl (.tmp 51) (.tmp 53) 23 rfl U.heap.size 70 i0 _ 40 Tryz.underlying23 hi hz0 hz1 hz2 rfl _ x ps rfl hro ((key, lv), Av, cv) m HH.out.2.2.2.1 1 rfl hl2 (by omega) hszU ?_; intro v4 w4 o4 g4 at4; obtain ⟨A5, c5, rfl⟩ := own_form o4)
    have HF2 := Lib.hid (HF.out w4 A5 c5 o4 g4)
    clear o4 g4 at4
    go_ret
    exact HF2.out
   ·have HF : Hid (NewX B (withR l (key, lv)) w (.returned (.slice A1 x c1)) wr) := Lib.hid ⟨A1, x, c1, ps, rfl, by
     have h9 := hst.out.2.1
     have hE : ps.map Prod.fst = withR l (key, lv) := by rw [← h9]; simp [wf]
     have h8 := hst.out.2.2.2.1.1
     rw [hst.out.2.2.1] at h8
     exact Lib.hid ⟨hE, by rw [← hE, List.length_map]; exact hst.out.2.2.1, (own_low h8).1, hst.out.2.2.2.1.low hUw⟩, hbw⟩
    clear hst hbU hB1 hbw
    go_wp2_with fail
    go_ret
    exact HF.out
end Tree
end Go.Proofs.YtkfdplfgaddkmaaGreat

/-
 The document's Held and Get (layer 14).
-/
namespace Go.Proofs.YtkfdplfgaddkmaaGreat
namespace Mend
open Go.RowKit Vers Num Ring Disk Blk Tree
open Go.Proofs.YtkfdplfgaddkmaaGreat.Code hiding Bn
attribute [local go_sem ↓] Go.wp_at_zero Go.wp_at_succ
theorem take_at {l : List Rc} {k : Nat} (hk : k < l.length) : l.take (k + 1) = l.take k ++ [l.getD k r0] := by
 rw [List.take_succ_eq_append_getElem hk]
 simp [List.getD_eq_getElem?_getD, hk]
theorem held_take {l : List Rc} {k : Nat} {r : Rc} (hk : k < l.length) (hr : l.getD k r0 = r) : heldF (l.take (k + 1)) = withR (heldF (l.take k)) r := by
 rw [take_at hk, hr, held_snoc]
theorem getD_mem {l : List Rc} {k : Nat} (hk : k < l.length) : l.getD k r0 ∈ l := by
 rw [List.getD_eq_getElem?_getD, List.getElem?_eq_getElem hk]
 exact List.getElem_mem _
theorem held_len (l : List Rc) : (heldF l).length ≤ l.length := by
 have h : ∀ (l acc : List Rc), (l.foldl withR acc).length ≤ acc.length + l.length := by
  intro l
  induction l with
  | nil => intro acc; simp
  | cons r l ih =>
   intro acc
   have h1 := ih (withR acc r)
   have h2 := with_len acc r
   simp only [List.foldl_cons, List.length_cons]
   omega
 simpa [heldF] using h l []
theorem RowX.keepB {base B : Nat} {w w' : World} {v : Value} {ps : List Pr} (h : RowX base B w v ps) (hb : Below w.heap.size w w') (hB : B ≤ w.heap.size) : RowX base B w' v ps := by
 refine ⟨own_below h.1 hb (Nat.le_refl _), fun p hp => ⟨(h.2 p hp).1.below (hb.mono hB), (h.2 p hp).2⟩⟩
theorem Rb.below {w w' : World} {B : Nat} {A : Option Addr} {l : List Rc} (h : Rb w B A l) (hB : B ≤ w.heap.size) (hb : Below w.heap.size w w') : Rb w' B A l := fun hp => by
 obtain ⟨b, off, e, hbB, hc⟩ := h hp
 refine ⟨b, off, e, Nat.lt_of_lt_of_le hbB hb.size, fun j hj => ?_⟩
 obtain ⟨A', c', h0, h1, h2, h3⟩ := hc j hj
 exact ⟨A', c', (hb.cell (p := ⟨b, _, none⟩) hbB).trans h0, (hb.cell (p := ⟨b, _, none⟩) hbB).trans h1, h2.below (hb.mono hB), h3⟩
def Helds (B : Nat) (l : List Rc) (V : World) (e : Ending) (w' : World) : Prop :=
 (okL l ∧ ∃ A m c ps, e = .returned (.tuple #[.slice A m c, .bool true]) ∧ Hid (ps.map Prod.fst = heldF l ∧ (heldF l).length = m ∧ m ≤ c ∧ RowX V.heap.size B w' (.slice A m c) ps) ∧ Below V.heap.size V w') ∨
 (¬ okL l ∧ e = .returned (.tuple #[.slice none 0 0, .bool false]) ∧ Below V.heap.size V w')
def HeldUp (B : Nat) (l : List Rc) (n : Nat) (V : World) (v q : Value) (wr : World) : Prop :=
 ∃ (k na : Nat) (Aa : Option Addr) (ca : Nat), q = .int .i64 k ∧ k ≤ n ∧ v = .slice Aa na ca ∧ na ≤ k ∧ Hid ((heldF (l.take k)).length = na ∧ na ≤ ca ∧ (∀ j, j < k → okR (l.getD j r0)) ∧ ∃ ps, ps.map Prod.fst = heldF (l.take k) ∧ RowX V.heap.size B wr (.slice Aa na ca) ps ∧ Below V.heap.size V wr)
set_option maxRecDepth 100000 in
set_option maxHeartbeats 4000000 in
theorem held_any (A : Option Addr) (c n B : Nat) (l : List Rc) (hn : l.length = n) (hbig : n ≤ 3518437208882) (V : World) (hB : B ≤ V.heap.size) (hr : Rb V B A l) :
  Calls Tryz.prog 35 #[.slice A n c] V (Helds B l V) := by
 have HP := Lib.hid (And.intro hn (And.intro hB hr))
 have HI : Hid (HeldUp B l n V (.slice none 0 0) (.int .i64 0) V) := Lib.hid ⟨0, 0, none, 0, rfl, by omega, rfl, Nat.le_refl _, Lib.hid ⟨rfl, Nat.le_refl _, (fun j hj => by omega), [], rfl, rowX_nil _ _ _, Below.refl _ _⟩⟩
 clear hn hB hr
 go_enter Tryz.func35, Tryz.ntmps35
 go_wp2_with fail
 go_loopw [4, 5] (fun v q wr => HeldUp B l n V v q wr) (fun _ q _ => n - (intOf q).toNat)
 case atStart => exact HI.out
 case round =>
  clear HI
  obtain ⟨k, na, Aa, ca, rfl, hk, rfl, hna, hst⟩ := hrel
  have hbV : Below V.heap.size V wr := by obtain ⟨_, _, _, ps, _, _, hb⟩ := hst.out; exact hb
  by_cases hlt : k < n
  ·have d1 : (0 : Int) ≤ (k : Int) := by omega
   have d2 : (k : Int) < (n : Int) := by omega
   obtain ⟨pb, off, A4, c4, rfl, _, hbB, k0, k1, k2, k3⟩ := HP.out.2.2.at HP.out.1 HP.out.2.1 hbV hlt rfl
   obtain ⟨r, hrr⟩ : ∃ r, l.getD k r0 = r := ⟨_, rfl⟩
   rw [hrr] at k0 k1 k2 k3
   obtain ⟨key', lv'⟩ := r
   simp only at k0 k1 k2 k3
   obtain ⟨ml, hml⟩ : ∃ ml, lv'.length = ml := ⟨_, rfl⟩
   rw [hml] at k1 k3
   have hkl : k < l.length := by have := HP.out.1; omega
   have hVw := hbV.size
   have hBw := Nat.le_trans HP.out.2.1 hVw
   have H1 := refrecord_any A4 c4 ml key' lv' hml k3.2.1 k3.2.2 wr (k2.more hBw)
   by_cases hok : okR (key', lv')
   ·rw [decide_eq_true hok] at H1
    have H1 := Lib.hid H1
    have HW : Hid (∀ w3, Below wr.heap.size wr w3 → w3.cell? ⟨pb, off + k * 2, none⟩ = some (.string key') ∧ w3.cell? ⟨pb, off + k * 2 + 1, none⟩ = some (.slice A4 ml c4) ∧ Hid (Calls Tryz.prog 40 #[.slice Aa na ca, .agg #[.string key', .slice A4 ml c4]] w3 (fun e w4 => ∃ A5 n5 c5, e = .returned (.slice A5 n5 c5) ∧ Hid (HeldUp B l n V (.slice A5 n5 c5) (.int .i64 ((k : Int) + 1)) w4)))) := Lib.hid fun w3 b3 => by
     obtain ⟨g1, g2, g3, ps, hps, hrow, hb⟩ := hst.out
     refine ⟨(b3.cell (p := ⟨pb, _, none⟩) (by show pb < _; omega)).trans k0, (b3.cell (p := ⟨pb, _, none⟩) (by show pb < _; omega)).trans k1, Lib.hid ?_⟩
     have hrow3 := RowX.keepB hrow b3 hBw
     have hrb := hrow3.rb
     rw [hps] at hrb
     refine (with_any Aa A4 ca c4 na ml B (heldF (l.take k)) key' lv' g1 (by omega) hml k3 w3 (Nat.le_trans hBw b3.size) hrb (k2.below (b3.mono hBw))).mono ?_
     rintro e w4 ⟨A5, n5, c5, ps5, rfl, h5, b4⟩
     refine ⟨A5, n5, c5, rfl, Lib.hid ⟨k + 1, n5, A5, c5, by go_num, by omega, rfl, ?_, Lib.hid ?_⟩⟩
     ·have h6 := with_len (heldF (l.take k)) (key', lv')
      rw [g1, h5.out.2.1] at h6
      omega
     ·rw [held_take hkl hrr]
      refine ⟨h5.out.2.1, h5.out.2.2.1, fun j hj => ?_, ps5, h5.out.1, h5.out.2.2.2.low (Nat.le_trans hVw b3.size), hb.trans ((b3.mono hVw).trans (b4.mono (Nat.le_trans hVw b3.size)))⟩
      rcases Nat.lt_or_ge j k with h | h
      ·exact g3 j h
      ·rw [show j = k by omega, hrr]
       exact hok
    clear hst hbV k2 k3 hrr hml hok hBw hVw
    go_wp2_with fail
    refine H1.out.mono ?_
    rintro e3 w3 ⟨rfl, b3⟩
    obtain ⟨q0, q1, HC⟩ := HW.out w3 b3
    clear b3 HW H1
    go_wp2_with fail
    refine HC.out.mono ?_
    rintro e4 w4 ⟨A5, n5, c5, rfl, HF⟩
    go_wp2_with fail
    go_roundw
    case rel => exact HF.out
    case measure => simp only [intOf]; omega
   ·rw [decide_eq_false hok] at H1
    have H1 := Lib.hid H1
    have HN : Hid (¬ okL l ∧ Below V.heap.size V wr) := Lib.hid ⟨fun h => hok (by rw [← hrr]; exact h _ (getD_mem hkl)), hbV⟩
    clear hst hbV k2 k3 hrr hml hok hBw hVw
    go_wp2_with fail
    refine H1.out.mono ?_
    rintro e3 w3 ⟨rfl, b3⟩
    have HE : Hid (Helds B l V (.returned (.tuple #[.slice none 0 0, .bool false])) w3) := Lib.hid (.inr ⟨HN.out.1, rfl, HN.out.2.trans (b3.mono HN.out.2.size)⟩)
    clear b3 H1
    go_wp2_with fail
    go_ret2
    exact HE.out
  ·have hkm : k = n := by omega
   subst hkm
   have hfull : l.take k = l := List.take_of_length_le (by have := HP.out.1; omega)
   rw [hfull] at hst
   have HF : Hid (Helds B l V (.returned (.tuple #[.slice Aa na ca, .bool true])) wr) := Lib.hid (.inl (by
    obtain ⟨g1, g2, g3, ps, hps, hrow, hb⟩ := hst.out
    refine ⟨fun r hr => ?_, Aa, na, ca, ps, rfl, Lib.hid ⟨hps, g1, g2, hrow⟩, hb⟩
    obtain ⟨j, hj, rfl⟩ := List.mem_iff_getElem.1 hr
    have h1 := g3 j (by have := HP.out.1; omega)
    rwa [List.getD_eq_getElem?_getD, List.getElem?_eq_getElem hj] at h1))
   clear hst hfull hbV
   go_wp2_with fail
   go_ret2
   exact HF.out
end Mend
end Go.Proofs.YtkfdplfgaddkmaaGreat

/-
 The map by which one holds records (layer 14).
-/
namespace Go.Proofs.YtkfdplfgaddkmaaGreat
namespace Mend
open Go.RowKit Blk Go.Maps Disk Tree Vers Num Ring
open Go.Proofs.YtkfdplfgaddkmaaGreat.Code hiding Bn
attribute [local go_sem ↓] Go.wp_at_zero Go.wp_at_succ
section
variable {w w' : World} {mb : Nat} {l : Vl}
end
def HoldR (w : World) (B : Nat) (D : Vl) (L : List Rc) : Prop := ∀ k, (find L k = none ∧ find D k = none) ∨ ∃ lv A c, find L k = some lv ∧ find D k = some (.slice A lv.length c) ∧ Vs w 0 B A lv ∧ lv.length ≤ c ∧ lv.length ≤ 512
theorem HoldR.keep {w w' : World} {B : Nat} {D : Vl} {L : List Rc} (h : HoldR w B D L) (hb : Below B w w') : HoldR w' B D L := fun k => by
 rcases h k with h | ⟨lv, A, c, h1, h2, h3, h4⟩
 ·exact .inl h
 ·exact .inr ⟨lv, A, c, h1, h2, h3.below hb, h4⟩
theorem HoldR.put {w : World} {B : Nat} {D : Vl} {L : List Rc} (h : HoldR w B D L) {key : Nm} {lv : List Vr} {A : Option Addr} {c m : Nat} (hm : lv.length = m) (hv : Vs w 0 B A lv) (hc : m ≤ c) (h5 : lv.length ≤ 512) : HoldR w B (wit D key (.slice A m c)) (wit L key lv) := fun k => by
 rw [find_wit, find_wit]
 by_cases hk : k = key
 ·rw [if_pos hk, if_pos hk]
  exact .inr ⟨lv, A, c, rfl, by rw [hm], hv, by omega, h5⟩
 ·rw [if_neg hk, if_neg hk]
  exact h k
end Mend
end Go.Proofs.YtkfdplfgaddkmaaGreat
