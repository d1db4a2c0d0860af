/-
  Several texts of this family in one: QuorumBeginW, QuorumNew, QuorumRef, QuorumGot, QuorumEach, QuorumVers, QuorumRefAll, QuorumDocPlain, QuorumRefGot, TreePlain.
-/
import Derived.Test.YtbhidndgnldheaaGreatK12
import Derived.Test.YtbhidndgnldheaaGreatK5
import Derived.Test.YtbhidndgnldheaaGreatK11
import Derived.RangeFuncNested
import Derived.RangeFuncBound
import Derived.RangeFuncCalls
import Derived.RangeFuncLeaves
import Derived.Shelf.Abstract
import Derived.Shelf.RegionOpen
import Derived.WalkKit
import Derived.OwnWalkIn
import Derived.TacticsInMore
import Derived.LoopNIn
import Derived.LoopIn
import Derived.Test.YtbhidndgnldheaaGreatK10
import Derived.Test.YtbhidndgnldheaaGreatK14
import Derived.Test.YtbhidndgnldheaaGreatK9
/-
 An asking is begun (writes). Written by gen16/begin.py.
-/
namespace Go.Proofs.YtbhidndgnldheaaGreat
namespace Quorum
open Go.RowKit Vers Span Blk
attribute [local go_sem ↓] Go.wp_at_zero Go.wp_at_succ

abbrev zeroW : List Value := [.slice none 0 0, .int .i64 0, .slice none 0 0, .slice none 0 0]
def BegunW (ls : List Int) (need : Int) (n : Nat) (w : World) (e : Ending) (w' : World) : Prop :=
 (¬ okL ls need ∧ e = .returned (.tuple #[.agg #[.slice none 0 0, .int .i64 0, .slice none 0 0, .slice none 0 0], .bool false]) ∧ Below w.heap.size w w') ∨
 (okL ls need ∧ ∃ lb cl cb ab, e = .returned (.tuple #[.agg #[.slice (some ⟨lb, 0, none⟩) n cl, .int .i64 need, .slice (some ⟨cb, 0, none⟩) n n, .slice (some ⟨ab, 0, none⟩) n n], .bool true]) ∧ Hid (Beg 62 [] w w' ls n lb cb ab))
set_option maxRecDepth 100000 in
set_option maxHeartbeats 4000000 in
theorem beginW_any (A : Option Addr) (c n : Nat) (ls : List Int) (hn : ls.length = n) (need : Int) (w : World) (hr : Ns .i64 w w.heap.size A ls) (hbig : n ≤ 140737488355328) (hnc : n ≤ c) :
  Calls Tryz.prog 41 #[.slice A n c, .int .i64 need] w (BegunW ls need n w) := by
 obtain ⟨U, hU⟩ : ∃ U, w.alloc (.cells #[.slice none 0 0, .int .i64 0, .slice none 0 0, .slice none 0 0] 59) = U := ⟨_, rfl⟩
 have bU : Below w.heap.size w U := by rw [← hU]; exact (Below.refl _ w).alloc (Nat.le_refl _) _
 have sU : U.heap.size = w.heap.size + 1 := by rw [← hU]; simp
 have BU : Bn w.heap.size 59 zeroW U := by rw [← hU]; exact heap_alloc_new w _
 obtain ⟨rk, hrk⟩ : ∃ k, w.heap.size = k := ⟨_, rfl⟩
 have HV := Lib.hid (And.intro hr hn)
 rw [hrk] at BU sU
 have HU := Lib.hid (And.intro hU (And.intro hrk (And.intro bU (And.intro BU sU))))
 clear hr hn hU bU BU sU
 have hbad : ∀ V : World, Below U.heap.size U V → ¬ okL ls need → Hid (BegunW ls need n w (.returned (.tuple #[.agg #[.slice none 0 0, .int .i64 0, .slice none 0 0, .slice none 0 0], .bool false])) ((((V.setCell ⟨rk, 0, none⟩ (.slice none 0 0)).setCell ⟨rk, 1, none⟩ (.int .i64 0)).setCell ⟨rk, 2, none⟩ (.slice none 0 0)).setCell ⟨rk, 3, none⟩ (.slice none 0 0))) := fun V hV ho => Lib.hid (.inl ⟨ho, rfl, by
  have h := HU.out.2.2.1.trans (hV.mono HU.out.2.2.1.size)
  rw [HU.out.2.1] at h ⊢
  exact (((h.setCell (Nat.le_refl _) _).setCell (Nat.le_refl _) _).setCell (Nat.le_refl _) _).setCell (Nat.le_refl _) _⟩)
 have HBAD := Lib.hid hbad
 clear hbad
 by_cases hb : (n : Int) ≤ 8 ∧ 1 ≤ need ∧ need ≤ (n : Int)
 ·obtain ⟨hb1, hb2, hb3⟩ := hb
  have g1 : ¬ (8 : Int) < (n : Int) := by omega
  have g2 : ¬ need < 1 := by omega
  have g3 : ¬ (n : Int) < need := by omega
  obtain ⟨ob, oo, rfl, hbl, _⟩ := HV.out.1 (by have := HV.out.2; omega)
  have hc0 : ¬ 0 = c := by omega
  have hc1 : ¬ c = 0 := by omega
  go_enter Tryz.func41, Tryz.ntmps41
  go_wp2_with fail
  rw [HU.out.1]
  go_loopw [6, 7, 24] (fun _ _ q wr => ∃ k : Nat, q = .int .i64 k ∧ k ≤ n ∧ Hid (Below U.heap.size U wr ∧ Good ls k)) (fun _ _ q _ => n - (intOf q).toNat)
  case atStart => exact ⟨0, rfl, by omega, Lib.hid ⟨Below.refl _ _, good_zero ls⟩⟩
  case round =>
   obtain ⟨k, rfl, hk, hst⟩ := hrel
   by_cases hlt : k < n
   ·obtain ⟨x, hx⟩ : ∃ x, ls[k]? = some x := ⟨ls[k]'(by have := HV.out.2; omega), by simp⟩
    have hbw := HU.out.2.2.1.trans (hst.out.1.mono HU.out.2.2.1.size)
    have hnw := HV.out.1.below hbw
    obtain ⟨b', o', e', _, hat⟩ := hnw (by have := HV.out.2; omega)
    injection e' with e'
    injection e' with e1 e2 _
    subst e1 e2
    have z0 := hat k (by have := HV.out.2; omega)
    rw [List.getD_eq_getElem?_getD, hx] at z0
    simp only [Option.getD_some] at z0
    have d1 : (0 : Int) ≤ (k : Int) := by omega
    have d2 : (k : Int) < (n : Int) := by omega
    have hkc : k ≤ c := by omega
    have d3 : (k : Int) ≤ (c : Int) := by omega
    have B1 := HU.out.2.2.2.1.same (hst.out.1.block rk HU.out.2.2.2.1.lt)
    have r0 := (B1.cell 0).trans rfl
    have r1 := (B1.cell 1).trans rfl
    have r2 := (B1.cell 2).trans rfl
    have r3 := (B1.cell 3).trans rfl
    have f0 := B1.frozen 0
    have f1 := B1.frozen 1
    have f2 := B1.frozen 2
    have f3 := B1.frozen 3
    by_cases hx1 : 1 ≤ x ∧ x ≤ 8
    ·have g4 : ¬ x < 1 := by omega
     have g5 : ¬ (8 : Int) < x := by omega
     have HCO := Lib.hid (Ring.contains_any (some ⟨ob, oo, none⟩) c k (ls.take k) (by rw [List.length_take]; have := HV.out.2; omega) x wr ((hnw.take k).more (Nat.le_trans HU.out.2.2.1.size hst.out.1.size)) (by omega))
     have HX := Lib.hid hx
     clear hx hnw hat
     go_wp2_with fail
     refine HCO.out.mono ?_
     rintro e w2 ⟨rfl, b2⟩
     have hb2' := hst.out.1.trans (b2.mono hst.out.1.size)
     by_cases hin : x ∈ ls.take k
     ·rw [decide_eq_true hin]
      have HBB := Lib.hid (HBAD.out w2 hb2' (good_not HX.out (.inr hin)))
      have B2 := B1.same (b2.block rk B1.lt)
      have r0 := (B2.cell 0).trans rfl
      have r1 := (B2.cell 1).trans rfl
      have r2 := (B2.cell 2).trans rfl
      have r3 := (B2.cell 3).trans rfl
      have f0 := B2.frozen 0
      have f1 := B2.frozen 1
      have f2 := B2.frozen 2
      have f3 := B2.frozen 3
      have BY := (((B2.set 0 (.slice none 0 0)).set 1 (.int .i64 0)).set 2 (.slice none 0 0)).set 3 (.slice none 0 0)
      simp only [List.set_cons_zero, List.set_cons_succ] at BY
      obtain ⟨Y, hY⟩ : ∃ Y, (((w2.setCell ⟨rk, 0, none⟩ (.slice none 0 0)).setCell ⟨rk, 1, none⟩ (.int .i64 0)).setCell ⟨rk, 2, none⟩ (.slice none 0 0)).setCell ⟨rk, 3, none⟩ (.slice none 0 0) = Y := ⟨_, rfl⟩
      rw [hY] at BY HBB
      have u0 := (BY.cell 0).trans rfl
      have u1 := (BY.cell 1).trans rfl
      have u2 := (BY.cell 2).trans rfl
      have u3 := (BY.cell 3).trans rfl
      clear BY B2 B1 b2 hb2' hst HCO
      go_wp2_with fail
      refine bodyPost_ret (v := .tuple #[.agg #[.slice none 0 0, .int .i64 0, .slice none 0 0, .slice none 0 0], .bool false]) ?_ rfl HBB.out.out
      rw [results_cell_tmp rfl]
      go_simp
     ·rw [decide_eq_false hin]
      have HN : Hid (Below U.heap.size U w2 ∧ Good ls (k + 1)) := Lib.hid ⟨hb2', good_step hst.out.2 HX.out hx1 hin⟩
      clear b2 hb2' hst HCO B1
      go_wp2_with fail
      go_roundw
      case rel => exact ⟨k + 1, rfl, by omega, HN⟩
      case measure => simp only [intOf]; omega
    ·have HBB := Lib.hid (HBAD.out wr hst.out.1 (good_not hx (.inl hx1)))
     have BY := (((B1.set 0 (.slice none 0 0)).set 1 (.int .i64 0)).set 2 (.slice none 0 0)).set 3 (.slice none 0 0)
     simp only [List.set_cons_zero, List.set_cons_succ] at BY
     obtain ⟨Y, hY⟩ : ∃ Y, (((wr.setCell ⟨rk, 0, none⟩ (.slice none 0 0)).setCell ⟨rk, 1, none⟩ (.int .i64 0)).setCell ⟨rk, 2, none⟩ (.slice none 0 0)).setCell ⟨rk, 3, none⟩ (.slice none 0 0) = Y := ⟨_, rfl⟩
     rw [hY] at BY HBB
     have u0 := (BY.cell 0).trans rfl
     have u1 := (BY.cell 1).trans rfl
     have u2 := (BY.cell 2).trans rfl
     have u3 := (BY.cell 3).trans rfl
     clear BY B1 hst hnw hat hx
     by_cases hx0 : x < 1
     ·go_wp2_with fail
      refine bodyPost_ret (v := .tuple #[.agg #[.slice none 0 0, .int .i64 0, .slice none 0 0, .slice none 0 0], .bool false]) ?_ rfl HBB.out.out
      rw [results_cell_tmp rfl]
      go_simp
     ·have hx8 : (8 : Int) < x := by omega
      go_wp2_with fail
      refine bodyPost_ret (v := .tuple #[.agg #[.slice none 0 0, .int .i64 0, .slice none 0 0, .slice none 0 0], .bool false]) ?_ rfl HBB.out.out
      rw [results_cell_tmp rfl]
      go_simp
   ·obtain rfl : k = n := by omega
    have hokl : okL ls need := good_all (by have := HV.out.2; omega) (by rw [HV.out.2]; exact hst.out.2)
    have HOK := Lib.hid hokl
    clear hokl
    have hbU := hst.out.1
    have hw0 : Below w.heap.size w wr.drew := (HU.out.2.2.1.trans (hbU.mono HU.out.2.2.1.size)).drew
    have B0 : Bn rk 59 zeroW wr.drew := HU.out.2.2.2.1.same (hbU.block rk HU.out.2.2.2.1.lt)
    have hd : Below wr.drew.heap.size wr.drew wr.drew := Below.refl _ _
    have hm1 : ∀ W : World, (Instr.makeSlice 56 (.int .i64 (k : Int)) (.int .i64 (k : Int))).run Tryz.prog W = .ok (.slice (some ⟨W.heap.size, 0, none⟩) k k) (W.alloc (.cells (List.replicate k (.bool false)).toArray 4)) := fun W => by
     rw [← made_is]
     exact run_make_row' 56 4 (.bool false) 1 Tryz.underlying56 (by kernel_rfl) rfl .i64 .i64 k (by omega) (by omega) W
    have hm2 : ∀ W : World, (Instr.makeSlice 57 (.int .i64 (k : Int)) (.int .i64 (k : Int))).run Tryz.prog W = .ok (.slice (some ⟨W.heap.size, 0, none⟩) k k) (W.alloc (.cells ([] : List Value).toArray 62)) := fun W => by
     obtain ⟨i, hi, hzz⟩ := Option.map_eq_some_iff.1 (show (Tryz.prog.info? 62).map (fun i => (i.zero, i.size, i.bytes)) = some (some (.agg #[]), 0, 0) by kernel_rfl)
     simp only [Prod.mk.injEq] at hzz
     obtain ⟨hz, hs, hbb⟩ := hzz
     have hr := run_make (P := Tryz.prog) W 57 62 i (.agg #[]) Tryz.underlying57 hi hz .i64 .i64 k k (by omega) (Int.le_refl _) (by rw [hbb]; omega) (by omega)
     simp only [Int.toNat_natCast, hs, Nat.mul_zero] at hr
     rw [show madeCells (Value.agg #[]).cells 0 = #[] from by simp [madeCells]] at hr
     exact hr
    have HCL : Hid (∀ V, Below w.heap.size w V → Calls Tryz.prog 50 #[.slice (some ⟨ob, oo, none⟩) k c] V (Ints.NewI ls k V)) := Lib.hid fun V hV => Ints.clonei_any (some ⟨ob, oo, none⟩) c k ls HV.out.2 V ((HV.out.1.below hV).more hV.size) (by omega)
    have HM1 := Lib.hid hm1
    have HM2 := Lib.hid hm2
    have hcf : ∀ (a : Array Value) (w : World), (callFunc 50 a).run Tryz.prog w = .ok (.enter 50 a) w := fun a w => by simp [go_sem]
    have hk0 : 0 < k := by omega
    have hlen := HV.out.2
    clear hst hm1 hm2
    obtain ⟨M1, hM1⟩ : ∃ o, Obj.cells (List.replicate k (.bool false)).toArray 4 = o := ⟨_, rfl⟩
    obtain ⟨M2, hM2⟩ : ∃ o, Obj.cells ([] : List Value).toArray 62 = o := ⟨_, rfl⟩
    have hm1 := HM1.out
    have hm2 := HM2.out
    rw [hM1] at hm1
    rw [hM2] at hm2
    have HM := Lib.hid (And.intro hM1 hM2)
    have hs2 := Lib.hid (show rk + 1 ≤ wr.heap.size from B0.lt)
    have ba : ∀ (V : World) (o : Obj), Below V.heap.size V (V.alloc o) := fun V o => (Below.refl _ V).alloc (Nat.le_refl _) _
    have n1 : Bn wr.heap.size 4 (List.replicate k (.bool false)) (wr.drew.alloc M1) := by rw [← hM1]; exact heap_alloc_new wr.drew _
    have n2 : Bn wr.heap.size 62 ([] : List Value) (wr.drew.alloc M2) := by rw [← hM2]; exact heap_alloc_new wr.drew _
    have n12 : Bn (wr.heap.size + 1) 62 ([] : List Value) ((wr.drew.alloc M1).alloc M2) := by
     have h : Bn (wr.drew.alloc M1).heap.size 62 ([] : List Value) ((wr.drew.alloc M1).alloc M2) := by rw [← hM2]; exact heap_alloc_new _ _
     rwa [World.size_alloc] at h
    have n21 : Bn (wr.heap.size + 1) 4 (List.replicate k (.bool false)) ((wr.drew.alloc M2).alloc M1) := by
     have h : Bn (wr.drew.alloc M2).heap.size 4 (List.replicate k (.bool false)) ((wr.drew.alloc M2).alloc M1) := by rw [← hM1]; exact heap_alloc_new _ _
     rwa [World.size_alloc] at h
    have HB0 := Lib.hid (And.intro hw0 (And.intro (show rk + 1 ≤ wr.drew.heap.size from B0.lt) B0))
    have HB1 : Hid (Below w.heap.size w (wr.drew.alloc M1) ∧ rk + 1 ≤ (wr.drew.alloc M1).heap.size ∧ Bn rk 59 zeroW (wr.drew.alloc M1)) := Lib.hid ⟨hw0.trans ((ba _ _).mono hw0.size), Nat.le_trans B0.lt (ba wr.drew M1).size, bn_below B0 (ba _ _)⟩
    have HB2 : Hid (Below w.heap.size w (wr.drew.alloc M2) ∧ rk + 1 ≤ (wr.drew.alloc M2).heap.size ∧ Bn rk 59 zeroW (wr.drew.alloc M2)) := Lib.hid ⟨hw0.trans ((ba _ _).mono hw0.size), Nat.le_trans B0.lt (ba wr.drew M2).size, bn_below B0 (ba _ _)⟩
    have HB12 : Hid (Below w.heap.size w ((wr.drew.alloc M1).alloc M2) ∧ rk + 1 ≤ ((wr.drew.alloc M1).alloc M2).heap.size ∧ Bn rk 59 zeroW ((wr.drew.alloc M1).alloc M2)) := Lib.hid ⟨HB1.out.1.trans ((ba _ _).mono HB1.out.1.size), Nat.le_trans HB1.out.2.1 (ba _ M2).size, bn_below HB1.out.2.2 (ba _ _)⟩
    have HB21 : Hid (Below w.heap.size w ((wr.drew.alloc M2).alloc M1) ∧ rk + 1 ≤ ((wr.drew.alloc M2).alloc M1).heap.size ∧ Bn rk 59 zeroW ((wr.drew.alloc M2).alloc M1)) := Lib.hid ⟨HB2.out.1.trans ((ba _ _).mono HB2.out.1.size), Nat.le_trans HB2.out.2.1 (ba _ M1).size, bn_below HB2.out.2.2 (ba _ _)⟩
    have HB1M := Lib.hid n1
    have HB2M := Lib.hid n2
    have HB12M := Lib.hid (And.intro (bn_below n1 (ba (wr.drew.alloc M1) M2)) n12)
    have HB21M := Lib.hid (And.intro (bn_below n2 (ba (wr.drew.alloc M2) M1)) n21)
    clear hM1 hM2 HM1 HM2 ba n1 n2 n12 n21 B0 hw0 hbU hd
    go_wp2_with fail
    go_region_law (first
     | (refine step_call (by rfl) 50 _ _ (by rfl) (hcf _ _) #[.slice (some ⟨ob, oo, none⟩) k c] (by simp [Act.eval, Act.put]) (HCL.out _ HB0.out.1) (fun e w' h => by obtain ⟨_, _, rfl, _⟩ := h; exact ⟨_, rfl⟩) ?_; rintro v2 w2 ⟨A2, c2, hv2, h2, b2⟩; injection hv2 with hv2; subst hv2; obtain ⟨lb, hlb, hlst0⟩ := new_lst (c := c2) hlen hk0 h2.out; rw [hlb]; have hlst := hlst0.base (base' := rk + 1) HB0.out.2.1; clear hlst0 hlb; have hbel := HB0.out.1.trans (b2.mono HB0.out.1.size); have hrkB := bn_below HB0.out.2.2 b2; have Fa := fin_of (n := k) (cl := c2) (need := need) HU.out.2.1 hbel hrkB hlst (((Below.refl _ w2).alloc (Nat.le_refl _) _).alloc (by simp) _) (up_bn (nw_bn w2 4 _ HM.out.1) M2) (Nat.le_trans HB0.out.2.1 b2.size) (nw_bn1 w2 62 _ HM.out.2) (Nat.le_succ_of_le (Nat.le_trans HB0.out.2.1 b2.size)) (by decide) (by decide); obtain ⟨⟨ra0, ra1, ra2, ra3⟩, ⟨fa0, fa1, fa2, fa3⟩, HEa⟩ := Fa; have Fb := fin_of (n := k) (cl := c2) (need := need) HU.out.2.1 hbel hrkB hlst (((Below.refl _ w2).alloc (Nat.le_refl _) _).alloc (by simp) _) (nw_bn1 w2 4 _ HM.out.1) (Nat.le_succ_of_le (Nat.le_trans HB0.out.2.1 b2.size)) (up_bn (nw_bn w2 62 _ HM.out.2) M1) (Nat.le_trans HB0.out.2.1 b2.size) (by decide) (by decide); obtain ⟨⟨rb0, rb1, rb2, rb3⟩, ⟨fb0, fb1, fb2, fb3⟩, HEb⟩ := Fb; clear hrkB hlst hbel b2 h2)
     | (refine step_call (by rfl) 50 _ _ (by rfl) (hcf _ _) #[.slice (some ⟨ob, oo, none⟩) k c] (by simp [Act.eval]) (HCL.out _ HB1.out.1) (fun e w' h => by obtain ⟨_, _, rfl, _⟩ := h; exact ⟨_, rfl⟩) ?_; rintro v2 w2 ⟨A2, c2, hv2, h2, b2⟩; injection hv2 with hv2; subst hv2; obtain ⟨lb, hlb, hlst0⟩ := new_lst (c := c2) hlen hk0 h2.out; rw [hlb]; have hlst := hlst0.base (base' := rk + 1) HB1.out.2.1; clear hlst0 hlb; have hbel := HB1.out.1.trans (b2.mono HB1.out.1.size); have hrkB := bn_below HB1.out.2.2 b2; have Fa := fin_of (n := k) (cl := c2) (need := need) HU.out.2.1 hbel hrkB hlst ((Below.refl _ w2).alloc (Nat.le_refl _) _) (up_bn (bn_below HB1M.out b2) M2) hs2.out (nw_bn w2 62 _ HM.out.2) (Nat.le_trans HB1.out.2.1 b2.size) (by decide) (by decide); obtain ⟨⟨ra0, ra1, ra2, ra3⟩, ⟨fa0, fa1, fa2, fa3⟩, HEa⟩ := Fa; clear hrkB hlst hbel b2 h2)
     | (refine step_call (by rfl) 50 _ _ (by rfl) (hcf _ _) #[.slice (some ⟨ob, oo, none⟩) k c] (by simp [Act.eval]) (HCL.out _ HB2.out.1) (fun e w' h => by obtain ⟨_, _, rfl, _⟩ := h; exact ⟨_, rfl⟩) ?_; rintro v2 w2 ⟨A2, c2, hv2, h2, b2⟩; injection hv2 with hv2; subst hv2; obtain ⟨lb, hlb, hlst0⟩ := new_lst (c := c2) hlen hk0 h2.out; rw [hlb]; have hlst := hlst0.base (base' := rk + 1) HB2.out.2.1; clear hlst0 hlb; have hbel := HB2.out.1.trans (b2.mono HB2.out.1.size); have hrkB := bn_below HB2.out.2.2 b2; have Fa := fin_of (n := k) (cl := c2) (need := need) HU.out.2.1 hbel hrkB hlst ((Below.refl _ w2).alloc (Nat.le_refl _) _) (nw_bn w2 4 _ HM.out.1) (Nat.le_trans HB2.out.2.1 b2.size) (up_bn (bn_below HB2M.out b2) M1) hs2.out (by decide) (by decide); obtain ⟨⟨ra0, ra1, ra2, ra3⟩, ⟨fa0, fa1, fa2, fa3⟩, HEa⟩ := Fa; clear hrkB hlst hbel b2 h2)
     | (refine step_call (by rfl) 50 _ _ (by rfl) (hcf _ _) #[.slice (some ⟨ob, oo, none⟩) k c] (by simp [Act.eval]) (HCL.out _ HB12.out.1) (fun e w' h => by obtain ⟨_, _, rfl, _⟩ := h; exact ⟨_, rfl⟩) ?_; rintro v2 w2 ⟨A2, c2, hv2, h2, b2⟩; injection hv2 with hv2; subst hv2; obtain ⟨lb, hlb, hlst0⟩ := new_lst (c := c2) hlen hk0 h2.out; rw [hlb]; have hlst := hlst0.base (base' := rk + 1) HB12.out.2.1; clear hlst0 hlb; have hbel := HB12.out.1.trans (b2.mono HB12.out.1.size); have hrkB := bn_below HB12.out.2.2 b2; have Fa := fin_of (n := k) (cl := c2) (need := need) HU.out.2.1 hbel hrkB hlst (Below.refl _ w2) (bn_below HB12M.out.1 b2) hs2.out (bn_below HB12M.out.2 b2) (Nat.le_succ_of_le hs2.out) (by decide) (by decide); obtain ⟨⟨ra0, ra1, ra2, ra3⟩, ⟨fa0, fa1, fa2, fa3⟩, HEa⟩ := Fa; clear hrkB hlst hbel b2 h2)
     | (refine step_call (by rfl) 50 _ _ (by rfl) (hcf _ _) #[.slice (some ⟨ob, oo, none⟩) k c] (by simp [Act.eval]) (HCL.out _ HB21.out.1) (fun e w' h => by obtain ⟨_, _, rfl, _⟩ := h; exact ⟨_, rfl⟩) ?_; rintro v2 w2 ⟨A2, c2, hv2, h2, b2⟩; injection hv2 with hv2; subst hv2; obtain ⟨lb, hlb, hlst0⟩ := new_lst (c := c2) hlen hk0 h2.out; rw [hlb]; have hlst := hlst0.base (base' := rk + 1) HB21.out.2.1; clear hlst0 hlb; have hbel := HB21.out.1.trans (b2.mono HB21.out.1.size); have hrkB := bn_below HB21.out.2.2 b2; have Fa := fin_of (n := k) (cl := c2) (need := need) HU.out.2.1 hbel hrkB hlst (Below.refl _ w2) (bn_below HB21M.out.2 b2) (Nat.le_succ_of_le hs2.out) (bn_below HB21M.out.1 b2) hs2.out (by decide) (by decide); obtain ⟨⟨ra0, ra1, ra2, ra3⟩, ⟨fa0, fa1, fa2, fa3⟩, HEa⟩ := Fa; clear hrkB hlst hbel b2 h2))
    all_goals
     clear HB0 HB1 HB2 HB12 HB21 HB1M HB2M HB12M HB21M HCL HM
     first
      | (have u0 := (HEa.out.2.cell 0).trans rfl; have u1 := (HEa.out.2.cell 1).trans rfl; have u2 := (HEa.out.2.cell 2).trans rfl; have u3 := (HEa.out.2.cell 3).trans rfl; unfold four at u0 u1 u2 u3; go_wp2_with fail; refine bodyPost_ret (v := .tuple #[.agg #[.slice (some ⟨lb, 0, none⟩) k c2, .int .i64 need, .slice (some ⟨_, 0, none⟩) k k, .slice (some ⟨_, 0, none⟩) k k], .bool true]) ?_ rfl (.inr ⟨HOK.out, lb, c2, _, _, rfl, Lib.hid HEa.out.1⟩); rw [results_cell_tmp rfl]; go_simp)
      | (have u0 := (HEb.out.2.cell 0).trans rfl; have u1 := (HEb.out.2.cell 1).trans rfl; have u2 := (HEb.out.2.cell 2).trans rfl; have u3 := (HEb.out.2.cell 3).trans rfl; unfold four at u0 u1 u2 u3; go_wp2_with fail; refine bodyPost_ret (v := .tuple #[.agg #[.slice (some ⟨lb, 0, none⟩) k c2, .int .i64 need, .slice (some ⟨_, 0, none⟩) k k, .slice (some ⟨_, 0, none⟩) k k], .bool true]) ?_ rfl (.inr ⟨HOK.out, lb, c2, _, _, rfl, Lib.hid HEb.out.1⟩); rw [results_cell_tmp rfl]; go_simp)
 ·have hno : ¬ okL ls need := fun ho => hb (by have := ho.1; have := HV.out.2; omega)
  have B1 := HU.out.2.2.2.1
  have r0 := (B1.cell 0).trans rfl
  have r1 := (B1.cell 1).trans rfl
  have r2 := (B1.cell 2).trans rfl
  have r3 := (B1.cell 3).trans rfl
  have f0 := B1.frozen 0
  have f1 := B1.frozen 1
  have f2 := B1.frozen 2
  have f3 := B1.frozen 3
  have HBB := Lib.hid (HBAD.out U (Below.refl _ _) hno)
  have BY := (((B1.set 0 (.slice none 0 0)).set 1 (.int .i64 0)).set 2 (.slice none 0 0)).set 3 (.slice none 0 0)
  simp only [List.set_cons_zero, List.set_cons_succ] at BY
  obtain ⟨Y, hY⟩ : ∃ Y, (((U.setCell ⟨rk, 0, none⟩ (.slice none 0 0)).setCell ⟨rk, 1, none⟩ (.int .i64 0)).setCell ⟨rk, 2, none⟩ (.slice none 0 0)).setCell ⟨rk, 3, none⟩ (.slice none 0 0) = Y := ⟨_, rfl⟩
  rw [hY] at BY HBB
  have u0 := (BY.cell 0).trans rfl
  have u1 := (BY.cell 1).trans rfl
  have u2 := (BY.cell 2).trans rfl
  have u3 := (BY.cell 3).trans rfl
  clear BY B1 hno
  by_cases h1 : (8 : Int) < (n : Int)
  ·have g1 : decide ((8 : Int) < (n : Int)) = true := decide_eq_true h1
   go_enter Tryz.func41, Tryz.ntmps41
   go_upto_region 1 with fail
   rw [HU.out.1]
   go_wp2_with fail
   refine bodyPost_ret (v := .tuple #[.agg #[.slice none 0 0, .int .i64 0, .slice none 0 0, .slice none 0 0], .bool false]) ?_ rfl HBB.out.out
   rw [results_cell_tmp rfl]
   go_simp
  ·by_cases h2 : need < 1
   ·go_enter Tryz.func41, Tryz.ntmps41
    go_upto_region 1 with fail
    rw [HU.out.1]
    go_wp2_with fail
    refine bodyPost_ret (v := .tuple #[.agg #[.slice none 0 0, .int .i64 0, .slice none 0 0, .slice none 0 0], .bool false]) ?_ rfl HBB.out.out
    rw [results_cell_tmp rfl]
    go_simp
   ·have h3 : (n : Int) < need := by omega
    go_enter Tryz.func41, Tryz.ntmps41
    go_upto_region 1 with fail
    rw [HU.out.1]
    go_wp2_with fail
    refine bodyPost_ret (v := .tuple #[.agg #[.slice none 0 0, .int .i64 0, .slice none 0 0, .slice none 0 0], .bool false]) ?_ rfl HBB.out.out
    rw [results_cell_tmp rfl]
    go_simp
end Quorum
end Go.Proofs.YtbhidndgnldheaaGreat

/-
 An asking is made; a node answers. Written by gen16/new.py.
-/
namespace Go.Proofs.YtbhidndgnldheaaGreat
namespace Quorum
open Go.RowKit Vers Span Blk
attribute [local go_sem ↓] Go.wp_at_zero Go.wp_at_succ

theorem start_len (ls : List Int) : (startF ls).length = ls.length := by simp [startF]
theorem start_fst (ls : List Int) : (startF ls).map Prod.fst = ls := by simp [startF, List.map_map, Function.comp_def]
theorem start_at {ls : List Int} {j : Nat} {e : En} (h : (startF ls)[j]? = some e) : ∃ x, ls[j]? = some x ∧ e = (x, false, []) := by
 unfold startF at h
 rw [List.getElem?_map] at h
 obtain ⟨x, hx, rfl⟩ := Option.map_eq_some_iff.1 h
 exact ⟨x, hx, rfl⟩
theorem map_const {α β : Type} (l : List α) (b : β) : l.map (fun _ => b) = List.replicate l.length b := by
 induction l with
 | nil => rfl
 | cons x l ih => rw [List.map_cons, ih]; rfl
theorem beg_core {t T : TypeId} {z : List Value} {w w1 W : World} {ls : List Int} {need : Int} {n rb lb cl cb ab : Nat} (h : Beg t z w w1 ls n lb cb ab) (hb : Below w1.heap.size w1 W) (hr : Bn rb T [.slice (some ⟨lb, 0, none⟩) n cl, .int .i64 need, .slice (some ⟨cb, 0, none⟩) n n, .slice (some ⟨ab, 0, none⟩) n n] W) (hw : w1.heap.size ≤ rb) (hn : ls.length = n) (ho : okL ls need) :
  Core T (fun k => w.heap.size ≤ k ∧ k < W.heap.size) W rb need (startF ls) n lb cl cb ab [] := by
 obtain ⟨h1, ⟨h2, h3, h4⟩, ⟨h5, h6⟩, h7, h8, h9⟩ := h
 have hs := hb.size
 have hcl := h7.lt
 have hal := h8.lt
 have hrl := hr.lt
 refine ⟨⟨by simpa using hr, by rw [start_len]; exact hn, by have := ho.1; omega, by have := ho.1; omega⟩, ⟨by omega, fun j e he => ?_⟩, ?_, ⟨⟨by have := h1.size; omega, hrl⟩, ⟨h2, by omega⟩, ⟨h3, by omega⟩, ⟨h4, by omega⟩, fun k hk => hk.2⟩, ⟨h9.1, h9.2.1, by omega, by omega, h9.2.2, by omega⟩⟩
 ·obtain ⟨x, hx, rfl⟩ := start_at he
  exact (hb.cell (p := ⟨lb, j, none⟩) h5).trans (h6 j x hx)
 ·have := bn_below h7 hb
  rwa [show (startF ls).map (fun e => Value.bool e.2.1) = List.replicate n (.bool false) by rw [← hn, startF, List.map_map, ← map_const]; rfl]
theorem beg_ans {w w1 W : World} {ls : List Int} {n lb cb ab : Nat} (h : Beg 22 (List.replicate n (.slice none 0 0)) w w1 ls n lb cb ab) (hb : Below w1.heap.size w1 W) (hn : ls.length = n) (F : Nat → Prop) : Ans F W (startF ls) (List.replicate n (none, 0)) cb ab := by
 refine ⟨by rw [List.length_replicate, start_len, hn], ?_, fun j e p he hp => ?_⟩
 ·have := bn_below h.2.2.2.2.1 hb
  have e : ((startF ls).zip (List.replicate n ((none, 0) : Plc))).map (fun e => Value.slice e.2.1 e.1.2.2.length e.2.2) = List.replicate n (.slice none 0 0) := by
   subst hn
   unfold startF
   clear this h
   induction ls with
   | nil => rfl
   | cons x l ih =>
    rw [List.length_cons, List.replicate_succ, List.map_cons, List.zip_cons_cons, List.map_cons, ih, List.replicate_succ]
    rfl
  rwa [e]
 ·obtain ⟨x, hx, rfl⟩ := start_at he
  have hp' : p = (none, 0) := (List.eq_of_mem_replicate (List.mem_of_getElem? hp))
  subst hp'
  exact ⟨Nat.zero_le _, Nat.zero_le _, 0, 0, fun h => absurd h (by simp), Nat.zero_le _, fun k _ hk => absurd hk (Nat.not_lt_zero k)⟩
def NewedR (ls : List Int) (need : Int) (n : Nat) (w : World) (e : Ending) (w' : World) : Prop :=
 (¬ okL ls need ∧ e = .returned (.tuple #[.pointer none, .int .i64 1]) ∧ Below w.heap.size w w') ∨
 (okL ls need ∧ ∃ rb lb cl cb ab, e = .returned (.tuple #[hd rb, .int .i64 0]) ∧ Hid (Core 68 (fun k => w.heap.size ≤ k ∧ k < w'.heap.size) w' rb need (startF ls) n lb cl cb ab [] ∧ Ans (fun k => w.heap.size ≤ k ∧ k < w'.heap.size) w' (startF ls) (List.replicate n (none, 0)) cb ab ∧ Below w.heap.size w w'))
set_option maxRecDepth 100000 in
set_option maxHeartbeats 1000000 in
theorem newR_any (A : Option Addr) (c n : Nat) (ls : List Int) (hn : ls.length = n) (need : Int) (w : World) (hr : Ns .i64 w w.heap.size A ls) (hbig : n ≤ 140737488355328) (hnc : n ≤ c) :
  Calls Tryz.prog 6 #[.slice A n c, .int .i64 need] w (NewedR ls need n w) := by
 have HB := Lib.hid (beginR_any A c n ls hn need w hr hbig hnc)
 have HN := Lib.hid hn
 clear hr hn
 go_enter Tryz.func6, Tryz.ntmps6
 go_wp2_with fail
 refine HB.out.mono ?_
 rintro e w1 (⟨hno, rfl, b1⟩ | ⟨hok, lb, cl, cb, ab, rfl, hbeg⟩)
 ·have b2 : Below w.heap.size w (w1.alloc (.cells #[.slice none 0 0, .int .i64 0, .slice none 0 0, .slice none 0 0] 66)) := b1.alloc b1.size _
  have HE := Lib.hid (And.intro hno b2)
  clear hno b1 b2 HB
  go_wp2_with fail
  go_ret2
  exact .inl ⟨HE.out.1, rfl, HE.out.2⟩
 ·obtain ⟨W1, hW1⟩ : ∃ W, w1.alloc (.cells #[.slice (some ⟨lb, 0, none⟩) n cl, .int .i64 need, .slice (some ⟨cb, 0, none⟩) n n, .slice (some ⟨ab, 0, none⟩) n n] 66) = W := ⟨_, rfl⟩
  have b1 : Below w1.heap.size w1 W1 := by rw [← hW1]; exact (Below.refl _ w1).alloc (Nat.le_refl _) _
  have B1 : Bn w1.heap.size 66 [.slice (some ⟨lb, 0, none⟩) n cl, .int .i64 need, .slice (some ⟨cb, 0, none⟩) n n, .slice (some ⟨ab, 0, none⟩) n n] W1 := by rw [← hW1]; exact heap_alloc_new w1 _
  obtain ⟨W2, hW2⟩ : ∃ W, W1.alloc (.cells #[.slice (some ⟨lb, 0, none⟩) n cl, .int .i64 need, .slice (some ⟨cb, 0, none⟩) n n, .slice (some ⟨ab, 0, none⟩) n n] 68) = W := ⟨_, rfl⟩
  have b2 : Below W1.heap.size W1 W2 := by rw [← hW2]; exact (Below.refl _ W1).alloc (Nat.le_refl _) _
  have B2 : Bn W1.heap.size 68 [.slice (some ⟨lb, 0, none⟩) n cl, .int .i64 need, .slice (some ⟨cb, 0, none⟩) n n, .slice (some ⟨ab, 0, none⟩) n n] W2 := by rw [← hW2]; exact heap_alloc_new W1 _
  have b12 := b1.trans (b2.mono b1.size)
  have hc := beg_core hbeg.out b12 B2 b1.size HN.out hok
  have hbw := hbeg.out.1.trans (b12.mono hbeg.out.1.size)
  have x0 := (B1.cell 0).trans rfl
  have x1 := (B1.cell 1).trans rfl
  have x2 := (B1.cell 2).trans rfl
  have x3 := (B1.cell 3).trans rfl
  obtain ⟨rb, hrb⟩ : ∃ k, W1.heap.size = k := ⟨_, rfl⟩
  rw [hrb] at hc
  have HE : Hid (Core 68 (fun k => w.heap.size ≤ k ∧ k < W2.heap.size) W2 rb need (startF ls) n lb cl cb ab [] ∧ Ans (fun k => w.heap.size ≤ k ∧ k < W2.heap.size) W2 (startF ls) (List.replicate n (none, 0)) cb ab ∧ Below w.heap.size w W2) := Lib.hid ⟨hc, beg_ans hbeg.out b12 HN.out _, hbw⟩
  have HO := Lib.hid hok
  have HW := Lib.hid (And.intro hW1 (And.intro hW2 hrb))
  clear hbeg hc hbw b1 b2 b12 B1 B2 hW1 hW2 hrb hok HB
  go_upto_region 2 with fail
  rw [HW.out.1]
  go_wp2_with fail
  rw [HW.out.2.1, HW.out.2.2]
  go_ret2
  exact .inr ⟨HO.out, rb, lb, cl, cb, ab, rfl, HE⟩
def NewedW (ls : List Int) (need : Int) (n : Nat) (w : World) (e : Ending) (w' : World) : Prop :=
 (¬ okL ls need ∧ e = .returned (.tuple #[.pointer none, .int .i64 1]) ∧ Below w.heap.size w w') ∨
 (okL ls need ∧ ∃ rb lb cl cb ab, e = .returned (.tuple #[hd rb, .int .i64 0]) ∧ Hid (Core 61 (fun k => w.heap.size ≤ k ∧ k < w'.heap.size) w' rb need (startF ls) n lb cl cb ab [] ∧ Below w.heap.size w w'))
set_option maxRecDepth 100000 in
set_option maxHeartbeats 1000000 in
theorem newW_any (A : Option Addr) (c n : Nat) (ls : List Int) (hn : ls.length = n) (need : Int) (w : World) (hr : Ns .i64 w w.heap.size A ls) (hbig : n ≤ 140737488355328) (hnc : n ≤ c) :
  Calls Tryz.prog 15 #[.slice A n c, .int .i64 need] w (NewedW ls need n w) := by
 have HB := Lib.hid (beginW_any A c n ls hn need w hr hbig hnc)
 have HN := Lib.hid hn
 clear hr hn
 go_enter Tryz.func15, Tryz.ntmps15
 go_wp2_with fail
 refine HB.out.mono ?_
 rintro e w1 (⟨hno, rfl, b1⟩ | ⟨hok, lb, cl, cb, ab, rfl, hbeg⟩)
 ·have b2 : Below w.heap.size w (w1.alloc (.cells #[.slice none 0 0, .int .i64 0, .slice none 0 0, .slice none 0 0] 59)) := b1.alloc b1.size _
  have HE := Lib.hid (And.intro hno b2)
  clear hno b1 b2 HB
  go_wp2_with fail
  go_ret2
  exact .inl ⟨HE.out.1, rfl, HE.out.2⟩
 ·obtain ⟨W1, hW1⟩ : ∃ W, w1.alloc (.cells #[.slice (some ⟨lb, 0, none⟩) n cl, .int .i64 need, .slice (some ⟨cb, 0, none⟩) n n, .slice (some ⟨ab, 0, none⟩) n n] 59) = W := ⟨_, rfl⟩
  have b1 : Below w1.heap.size w1 W1 := by rw [← hW1]; exact (Below.refl _ w1).alloc (Nat.le_refl _) _
  have B1 : Bn w1.heap.size 59 [.slice (some ⟨lb, 0, none⟩) n cl, .int .i64 need, .slice (some ⟨cb, 0, none⟩) n n, .slice (some ⟨ab, 0, none⟩) n n] W1 := by rw [← hW1]; exact heap_alloc_new w1 _
  obtain ⟨W2, hW2⟩ : ∃ W, W1.alloc (.cells #[.slice (some ⟨lb, 0, none⟩) n cl, .int .i64 need, .slice (some ⟨cb, 0, none⟩) n n, .slice (some ⟨ab, 0, none⟩) n n] 61) = W := ⟨_, rfl⟩
  have b2 : Below W1.heap.size W1 W2 := by rw [← hW2]; exact (Below.refl _ W1).alloc (Nat.le_refl _) _
  have B2 : Bn W1.heap.size 61 [.slice (some ⟨lb, 0, none⟩) n cl, .int .i64 need, .slice (some ⟨cb, 0, none⟩) n n, .slice (some ⟨ab, 0, none⟩) n n] W2 := by rw [← hW2]; exact heap_alloc_new W1 _
  have b12 := b1.trans (b2.mono b1.size)
  have hc := beg_core hbeg.out b12 B2 b1.size HN.out hok
  have hbw := hbeg.out.1.trans (b12.mono hbeg.out.1.size)
  have x0 := (B1.cell 0).trans rfl
  have x1 := (B1.cell 1).trans rfl
  have x2 := (B1.cell 2).trans rfl
  have x3 := (B1.cell 3).trans rfl
  obtain ⟨rb, hrb⟩ : ∃ k, W1.heap.size = k := ⟨_, rfl⟩
  rw [hrb] at hc
  have HE : Hid (Core 61 (fun k => w.heap.size ≤ k ∧ k < W2.heap.size) W2 rb need (startF ls) n lb cl cb ab [] ∧ Below w.heap.size w W2) := Lib.hid ⟨hc, hbw⟩
  have HO := Lib.hid hok
  have HW := Lib.hid (And.intro hW1 (And.intro hW2 hrb))
  clear hbeg hc hbw b1 b2 b12 B1 B2 hW1 hW2 hrb hok HB
  go_upto_region 2 with fail
  rw [HW.out.1]
  go_wp2_with fail
  rw [HW.out.2.1, HW.out.2.2]
  go_ret2
  exact .inr ⟨HO.out, rb, lb, cl, cb, ab, rfl, HE⟩
set_option maxRecDepth 100000 in
theorem ack_any {T : TypeId} {F : Nat → Prop} {w : World} {rb n lb cl cb ab : Nat} {need : Int} {l : List En} {x : List Value} (h : Core T F w rb need l n lb cl cb ab x) (hnd : (l.map Prod.fst).Nodup) (node : Int) {b : Bool} {l' : List En} (hc : countF l node [] = (b, l')) :
  Calls Tryz.prog 16 #[hd rb, .int .i64 node] w (fun e w' => e = .returned (.bool b) ∧ Hid (Core T F w' rb need l' n lb cl cb ab x ∧ Chg F w w')) := by
 have HC := Lib.hid (countW_any h hnd node hc)
 clear h hnd hc
 go_enter Tryz.func16, Tryz.ntmps16
 go_wp2_with fail
 refine HC.out.mono ?_
 rintro e w1 ⟨rfl, h1⟩
 go_wp2_with fail
 go_ret
 exact ⟨rfl, h1⟩
end Quorum
end Go.Proofs.YtbhidndgnldheaaGreat

/-
 The document's asking: where a node stands, its mark, which lists are right.
-/
namespace Go.Proofs.YtbhidndgnldheaaGreat
namespace Quorum
open Go.RowKit Vers Span Blk
attribute [local go_sem ↓] Go.wp_at_zero Go.wp_at_succ

end Quorum
end Go.Proofs.YtbhidndgnldheaaGreat

/-
 A node answers a reading.
-/
namespace Go.Proofs.YtbhidndgnldheaaGreat
namespace Quorum
open Go.RowKit Vers Span Blk
attribute [local go_sem ↓] Go.wp_at_zero Go.wp_at_succ

def gotF (l : List En) (node : Int) (a : List Vr) : Bool × List En := if RightV a then countF l node a else (false, l)
theorem right_past {a : List Vr} (h : RightV a) : ∀ v ∈ a, v.past.length ≤ 1024 := fun v hv => (h.2.1.1 v hv).2.1.1
section
variable {T : TypeId} {F F' : Nat → Prop} {w w' : World} {rb n lb cl cb ab : Nat} {need : Int} {l : List En} {x : List Value} {ps : List Plc}
theorem Core.wide (h : Core T F w rb need l n lb cl cb ab x) (hF : ∀ k, F k → F' k) (hlt : ∀ k, F' k → k < w.heap.size) : Core T F' w rb need l n lb cl cb ab x := by
 obtain ⟨h1, h2, h3, ⟨f1, f2, f3, f4, _⟩, h5⟩ := h
 exact ⟨h1, h2, h3, ⟨hF _ f1, hF _ f2, hF _ f3, hF _ f4, hlt⟩, h5⟩
theorem Ans.wide (h : Ans F w l ps cb ab) (hF : ∀ k, F k → F' k) : Ans F' w l ps cb ab := by
 obtain ⟨h0, h1, h2⟩ := h
 refine ⟨h0, h1, fun j e p he hp => ?_⟩
 obtain ⟨a, b, L, B, c, d, f⟩ := h2 j e p he hp
 exact ⟨a, b, L, B, c, d, fun k q1 q2 => ⟨hF _ (f k q1 q2).1, (f k q1 q2).2⟩⟩
end
def NewV (l : List Vr) (m : Nat) (w : World) (e : Ending) (w' : World) : Prop := ∃ A1 c1, e = .returned (.slice A1 m c1) ∧ Hid (Vs w' w.heap.size w'.heap.size A1 l ∧ m ≤ c1) ∧ Below w.heap.size w w'
theorem fresh_any (A : Option Addr) (c m : Nat) (l : List Vr) (hm : l.length = m) (hbig : m ≤ 1024) (hp : ∀ v ∈ l, v.past.length ≤ 4294967296) (w : World) (hv : Vs w 0 w.heap.size A l) :
  Calls Tryz.prog 28 #[.slice A m c] w (NewV l m w) := by
 have h := Lib.hid (list_any A c m l hm 0 w.heap.size w (Nat.le_refl _) hv hbig hp)
 have HM := Lib.hid hm
 clear hm hv
 go_enter Tryz.func28, Tryz.ntmps28
 go_wp2_with fail
 refine h.out.mono ?_
 rintro e w2 ⟨A1, c1, ps, rfl, h2, b2⟩
 rw [HM.out]
 go_wp2_with fail
 go_ret
 have h3 : m ≤ c1 := by
  have h4 := h2.out.1.1
  rw [show ps.length = l.length by rw [← h2.out.2, List.length_map]] at h4
  have h5 := (own_low h4).1
  rwa [HM.out] at h5
 refine ⟨A1, c1, rfl, Lib.hid ⟨?_, h3⟩, b2⟩
 have := h2.out.1.vs (Nat.le_refl _) (Nat.le_refl _)
 rwa [h2.out.2] at this
set_option maxRecDepth 100000 in
set_option maxHeartbeats 1000000 in
theorem got_any {T : TypeId} {F : Nat → Prop} {w : World} {rb n lb cl cb ab : Nat} {need : Int} {l : List En} {x : List Value} {ps : List Plc} (h : Core T F w rb need l n lb cl cb ab x) (ha : Ans F w l ps cb ab) (hnd : (l.map Prod.fst).Nodup) (node : Int) (Aa : Option Addr) (ca m : Nat) (an : List Vr) (hm : an.length = m) (hbig : m ≤ 140737488355328) (hv : Vs w 0 w.heap.size Aa an) {b : Bool} {l' : List En} (hc : gotF l node an = (b, l')) :
  Calls Tryz.prog 8 #[hd rb, .int .i64 node, .slice Aa m ca] w (fun e w' => e = .returned (.bool b) ∧ Hid (∃ F' ps', Core T F' w' rb need l' n lb cl cb ab x ∧ Ans F' w' l' ps' cb ab ∧ Stp F w F' w')) := by
 have HRI := Lib.hid (rightV_any Aa ca m an hm w.drew hv hbig)
 by_cases hr : RightV an
 ·rw [decide_eq_true hr] at HRI
  unfold gotF at hc
  rw [if_pos hr] at hc
  have hm4 : m ≤ 512 := by rw [← hm]; exact hr.1
  have HCO : Hid (∀ V, Below w.heap.size w V → Calls Tryz.prog 28 #[.slice Aa m ca] V (NewV an m V)) := Lib.hid fun V hV => fresh_any Aa ca m an hm (by omega) (fun v hv => by have := right_past hr v hv; omega) V ((hv.below hV).more hV.size)
  have HCN : Hid (∀ V V' A1 c1, Below w.heap.size w V → NewV an m V (.returned (.slice A1 m c1)) V' → Calls Tryz.prog 27 #[hd rb, .int .i64 node, .slice A1 m c1] V' (fun e w' => e = .returned (.bool b) ∧ Hid (∃ F' ps', Core T F' w' rb need l' n lb cl cb ab x ∧ Ans F' w' l' ps' cb ab ∧ Stp F w F' w'))) := Lib.hid fun V V' A1 c1 hV hn => by
   obtain ⟨A1', c1', he, h2, b2⟩ := hn
   injection he with he
   injection he with he1 _ he2
   subst he1 he2
   have hV' : Below w.heap.size w V' := hV.trans (b2.mono hV.size)
   have hs := hV.size
   have hs2 := b2.size
   have hF' : ∀ k, (F k ∨ (V.heap.size ≤ k ∧ k < V'.heap.size)) → k < V'.heap.size := fun k hk => hk.elim (fun h1 => Nat.lt_of_lt_of_le (h.lt k h1) hV'.size) fun h1 => h1.2
   have hcore := (h.below hV').wide (F' := fun k => F k ∨ (V.heap.size ≤ k ∧ k < V'.heap.size)) (fun _ h1 => .inl h1) hF'
   have hans := (ha.below hV').wide (F' := fun k => F k ∨ (V.heap.size ≤ k ∧ k < V'.heap.size)) fun _ h1 => .inl h1
   have hcb := h.lt cb h.2.2.2.1.2.2.1
   have hab := h.lt ab h.2.2.2.1.2.2.2.1
   refine (countR_any hcore hans hnd node A1 c1 m an hm h2.out.2 (by omega) h2.out.1 (Nat.le_refl _) (fun k q1 q2 => ⟨.inr ⟨q1, q2⟩, by omega, by omega⟩) hc).mono fun e w' ⟨g1, g2⟩ => ⟨g1, Lib.hid ?_⟩
   obtain ⟨k1, ⟨ps', k2⟩, k3⟩ := g2.out
   refine ⟨_, ps', k1, k2, (Chg.of_below (F := F) hV').trans k3 fun k hk => ?_, fun k hk => ?_⟩
   ·exact hk.elim .inl fun h1 => .inr (by omega)
   ·exact hk.elim .inl fun h1 => .inr (by omega)
  have hcf1 : ∀ (a : Array Value) (w : World), (callFunc 26 a).run Tryz.prog w = .ok (.enter 26 a) w := fun a w => by simp [go_sem]
  have hcf2 : ∀ (a : Array Value) (w : World), (callFunc 28 a).run Tryz.prog w = .ok (.enter 28 a) w := fun a w => by simp [go_sem]
  have hcf3 : ∀ (a : Array Value) (w : World), (callFunc 27 a).run Tryz.prog w = .ok (.enter 27 a) w := fun a w => by simp [go_sem]
  have hwd : Below w.heap.size w w.drew := (Below.refl _ w).drew
  clear h ha hnd hm hv hc hr
  go_enter Tryz.func8, Tryz.ntmps8
  go_wp2_with fail
  go_region_held3 (fun _ => True) (first | trivial)
   (first
    | (go_at_call 26; refine HRI.out.mono ?_; rintro e w1 ⟨rfl, b1⟩; have hb1 := hwd.trans (b1.mono hwd.size); have HC1 := Lib.hid (HCO.out w1 hb1))
    | (go_at_call 28; refine HC1.out.mono ?_; rintro e w2 ⟨A1, c1, rfl, h2, b2⟩; have HC2 := Lib.hid (HCN.out w1 w2 A1 c1 hb1 ⟨A1, c1, rfl, h2, b2⟩))
    | (go_at_call 27; refine HC2.out.mono ?_; rintro e w3 ⟨rfl, h3⟩))
  all_goals
   have HE := h3
   clear h3 h2 b2 b1 hb1 HC1 HC2 HRI
   go_wp2_with fail
   go_ret
   exact ⟨rfl, HE⟩
 ·rw [decide_eq_false hr] at HRI
  unfold gotF at hc
  rw [if_neg hr] at hc
  injection hc with e1 e2
  subst e1 e2
  have hwd : Below w.heap.size w w.drew := (Below.refl _ w).drew
  have HK : Hid (∀ V, Below w.heap.size w V → ∃ F' ps', Core T F' V rb need l n lb cl cb ab x ∧ Ans F' V l ps' cb ab ∧ Stp F w F' V) := Lib.hid fun V hV => ⟨F, ps, h.below hV, ha.below hV, Stp.of_below hV⟩
  clear h ha hnd hm hv hr
  go_enter Tryz.func8, Tryz.ntmps8
  go_wp2_with fail
  refine wp_region_held_drew (S := fun _ => True) (by kernel_rfl) trivial (fun hHeld => ?_)
  refine wpAnyH_take (i := 0) (oi := { dst := some 7, op := Op.move (Operand.tmp 2), type := 22, pos := "quorum.go:104", after := #[], guard := none }) (v := ?vg1) rfl (by kernel_rfl) (by kernel_rfl) (by kernel_rfl) (fun _ _ _ h => h) (Or.inl ⟨by rfl, ?hyg1⟩) (by assumption) ?restg1
  case hyg1 =>
   intro w hSw
   (try dsimp only at hSw)
   go_simp
   (try with_reducible rfl)
  (try simp only [Act.put, List.setIfInBounds_toArray, List.set_cons_zero, List.set_cons_succ])
  refine wpAnyH_ready (rs := [1]) (by kernel_rfl) (by simp) ?_
  refine AllReadyH.cons (o := { dst := some 8, op := Op.call { callee := Callee.value (Operand.func 26), args := #[Operand.tmp 7], argTypes := #[22] }, type := 4, pos := "quorum.go:104", after := #[{ on := 0, ground := Ground.data }], guard := none }) rfl (fun K hK => ?_) AllReadyH.nil
  go_simp
  (go_at_call 26; refine HRI.out.mono ?_; rintro e w1 ⟨rfl, b1⟩)
  go_wp2_with fail
  refine hK.out _ _ trivial (fun hHeld => ?_)
  clear hK K
  (try simp only [Act.put, List.setIfInBounds_toArray, List.set_cons_zero, List.set_cons_succ])
  refine wpAnyH_take (i := 2) (oi := { dst := some 9, op := Op.move (Operand.tmp 8), type := 4, pos := "quorum.go:104", after := #[{ on := 1, ground := Ground.data }, { on := 1, ground := Ground.chain }], guard := none }) (v := ?vg2) rfl (by kernel_rfl) (by kernel_rfl) (by kernel_rfl) (fun _ _ _ h => h) (Or.inl ⟨by rfl, ?hyg2⟩) (by assumption) ?restg2
  case hyg2 =>
   intro w hSw
   (try dsimp only at hSw)
   go_simp
   (try with_reducible rfl)
  (try simp only [Act.put, List.setIfInBounds_toArray, List.set_cons_zero, List.set_cons_succ])
  refine wpAnyH_take (i := 3) (oi := { dst := some 10, op := Op.move (Operand.tmp 0), type := 27, pos := "quorum.go:104", after := #[{ on := 2, ground := Ground.guard }], guard := some (2, true) }) (v := undef) rfl (by kernel_rfl) (by kernel_rfl) (by kernel_rfl) (fun _ _ _ h => h) (Or.inr ⟨by rfl, rfl⟩) (by assumption) ?_
  (try simp only [Act.put, List.setIfInBounds_toArray, List.set_cons_zero, List.set_cons_succ])
  refine wpAnyH_take (i := 4) (oi := { dst := some 11, op := Op.nilCheck (Operand.tmp 10), type := 0, pos := "quorum.go:104", after := #[{ on := 3, ground := Ground.data }, { on := 2, ground := Ground.guard }], guard := some (2, true) }) (v := undef) rfl (by kernel_rfl) (by kernel_rfl) (by kernel_rfl) (fun _ _ _ h => h) (Or.inr ⟨by rfl, rfl⟩) (by assumption) ?_
  (try simp only [Act.put, List.setIfInBounds_toArray, List.set_cons_zero, List.set_cons_succ])
  refine wpAnyH_take (i := 5) (oi := { dst := some 12, op := Op.fieldAddr 68 (Operand.tmp 11) 0, type := 0, pos := "quorum.go:104", after := #[{ on := 4, ground := Ground.data }, { on := 2, ground := Ground.guard }], guard := some (2, true) }) (v := undef) rfl (by kernel_rfl) (by kernel_rfl) (by kernel_rfl) (fun _ _ _ h => h) (Or.inr ⟨by rfl, rfl⟩) (by assumption) ?_
  (try simp only [Act.put, List.setIfInBounds_toArray, List.set_cons_zero, List.set_cons_succ])
  refine wpAnyH_take (i := 6) (oi := { dst := some 13, op := Op.move (Operand.tmp 1), type := 3, pos := "quorum.go:104", after := #[{ on := 2, ground := Ground.guard }], guard := some (2, true) }) (v := undef) rfl (by kernel_rfl) (by kernel_rfl) (by kernel_rfl) (fun _ _ _ h => h) (Or.inr ⟨by rfl, rfl⟩) (by assumption) ?_
  (try simp only [Act.put, List.setIfInBounds_toArray, List.set_cons_zero, List.set_cons_succ])
  refine wpAnyH_take (i := 7) (oi := { dst := some 14, op := Op.move (Operand.tmp 2), type := 22, pos := "quorum.go:104", after := #[{ on := 2, ground := Ground.guard }], guard := some (2, true) }) (v := undef) rfl (by kernel_rfl) (by kernel_rfl) (by kernel_rfl) (fun _ _ _ h => h) (Or.inr ⟨by rfl, rfl⟩) (by assumption) ?_
  (try simp only [Act.put, List.setIfInBounds_toArray, List.set_cons_zero, List.set_cons_succ])
  refine wpAnyH_take (i := 8) (oi := { dst := some 15, op := Op.call { callee := Callee.value (Operand.func 28), args := #[Operand.tmp 14], argTypes := #[22] }, type := 22, pos := "quorum.go:104", after := #[{ on := 7, ground := Ground.data }, { on := 2, ground := Ground.chain }, { on := 2, ground := Ground.guard }], guard := some (2, true) }) (v := undef) rfl (by kernel_rfl) (by kernel_rfl) (by kernel_rfl) (fun _ _ _ h => h) (Or.inr ⟨by rfl, rfl⟩) (by assumption) ?_
  (try simp only [Act.put, List.setIfInBounds_toArray, List.set_cons_zero, List.set_cons_succ])
  refine wpAnyH_take (i := 9) (oi := { dst := some 16, op := Op.call { callee := Callee.value (Operand.func 27), args := #[Operand.tmp 12, Operand.tmp 13, Operand.tmp 15], argTypes := #[66, 3, 22] }, type := 4, pos := "quorum.go:104", after := #[{ on := 5, ground := Ground.data }, { on := 6, ground := Ground.data }, { on := 8, ground := Ground.data }, { on := 8, ground := Ground.chain }, { on := 2, ground := Ground.guard }], guard := some (2, true) }) (v := undef) rfl (by kernel_rfl) (by kernel_rfl) (by kernel_rfl) (fun _ _ _ h => h) (Or.inr ⟨by rfl, rfl⟩) (by assumption) ?_
  (try simp only [Act.put, List.setIfInBounds_toArray, List.set_cons_zero, List.set_cons_succ])
  refine wpAnyH_take (i := 10) (oi := { dst := some 17, op := Op.pick (Operand.tmp 9) (Operand.tmp 16) (Operand.const (Value.bool false)), type := 4, pos := "quorum.go:104", after := #[{ on := 2, ground := Ground.data }, { on := 9, ground := Ground.data }], guard := none }) (v := ?vg10) rfl (by kernel_rfl) (by kernel_rfl) (by kernel_rfl) (fun _ _ _ h => h) (Or.inl ⟨by rfl, ?hyg10⟩) (by assumption) ?restg10
  case hyg10 =>
   intro w hSw
   (try dsimp only at hSw)
   go_simp
   (try with_reducible rfl)
  (try simp only [Act.put, List.setIfInBounds_toArray, List.set_cons_zero, List.set_cons_succ])
  refine wpAnyH_take (i := 11) (oi := { dst := some 6, op := Op.assign (Operand.tmp 17), type := 4, pos := "quorum.go:104", after := #[{ on := 10, ground := Ground.data }, { on := 9, ground := Ground.chain }, { on := 0, ground := Ground.phase }, { on := 1, ground := Ground.phase }, { on := 2, ground := Ground.phase }, { on := 3, ground := Ground.phase }, { on := 4, ground := Ground.phase }, { on := 5, ground := Ground.phase }, { on := 6, ground := Ground.phase }, { on := 7, ground := Ground.phase }, { on := 8, ground := Ground.phase }, { on := 9, ground := Ground.phase }, { on := 10, ground := Ground.phase }], guard := none }) (v := ?vg11) rfl (by kernel_rfl) (by kernel_rfl) (by kernel_rfl) (fun _ _ _ h => h) (Or.inl ⟨by rfl, ?hyg11⟩) (by assumption) ?restg11
  case hyg11 =>
   intro w hSw
   (try dsimp only at hSw)
   go_simp
   (try with_reducible rfl)
  (try simp only [Act.put, List.setIfInBounds_toArray, List.set_cons_zero, List.set_cons_succ])
  refine wpAnyH_done (by kernel_rfl) ?_ _
  have HE := Lib.hid (HK.out w1 (hwd.trans (b1.mono hwd.size)))
  clear b1 HRI
  go_wp2_with fail
  go_ret
  exact ⟨rfl, HE.out⟩
end Quorum
end Go.Proofs.YtbhidndgnldheaaGreat

/-
 The iterator over the nodes that are counted: what it tells.
-/
namespace Go.Proofs.YtbhidndgnldheaaGreat
namespace Quorum
open Go.RowKit Go.Shelf Vers Span Blk
attribute [local go_sem] Oper.semAt_some

def toldF (z : List EP) : List EP := z.filter fun e => e.1.2.1
theorem told_snoc (z : List EP) (e : EP) : toldF (z ++ [e]) = if e.1.2.1 = true then toldF z ++ [e] else toldF z := by
 unfold toldF
 rw [List.filter_append]
 cases h : e.1.2.1 <;> simp [h]
theorem told_len (z : List EP) : (toldF z).length ≤ z.length := List.length_filter_le _ _
def argsE (x : EP) : Array Value := #[.int .i64 x.1.1, .slice x.2.1 x.1.2.2.length x.2.2]
def Told (m : Nat) (x : EP) (W : World) : Prop := x.1.2.2.length ≤ x.2.2 ∧ x.1.2.2.length ≤ 1024 ∧ Vs W 0 m x.2.1 x.1.2.2
theorem vs_low {w : World} {L B m : Nat} {A : Option Addr} {l : List Vr} (h : Vs w L B A l) (hm : ∀ k, L ≤ k → k < B → k < m) : Vs w 0 m A l := by
 intro hp
 obtain ⟨b, _, _, h1, h2, _⟩ := h hp
 have := hm (B - 1) (by omega) (by omega)
 exact ((h.less (Nat.zero_le _)).more (show B ≤ m by omega)) hp
set_option maxRecDepth 100000 in
set_option maxHeartbeats 1000000 in
theorem each_in (q : Nat) (hq : 1 ≤ q) (lq m : Nat) (J Jx : List EP → World → Prop) {T : TypeId} {F : Nat → Prop} {rb n lb cl cb ab : Nat} {need : Int} {l : List En} {x : List Value} {ps : List Plc}
  (hY : ∀ pre y W0, pre.length < 8 → J pre W0 → Told m y W0 → YieldAt Fence.wide (q - 1) Tryz.prog lq (argsE y) W0 fun e W' => (e = .returned (.bool true) ∧ J (pre ++ [y]) W' ∧ Below m W0 W') ∨ (e = .returned (.bool false) ∧ Jx (pre ++ [y]) W'))
  (W : World) (_hm : m ≤ W.heap.size) (hC : Core T F W rb need l n lb cl cb ab x) (hA : Ans F W l ps cb ab) (hF : ∀ k, F k → k < m) (h0 : J [] W) :
  CallsIn Fence.wide q Tryz.prog 32 #[hd rb, .func (.yield lq) #[] #[]] W fun e W' => (∃ v, e = .returned v) ∧ (J (toldF (l.zip ps)) W' ∨ ∃ pre y, Jx (pre ++ [y]) W') := by
 have hn8 : n ≤ 8 := hC.1.2.2.2
 have HC : Hid (∀ V, Below m W V → Core T F V rb need l n lb cl cb ab x ∧ Ans F V l ps cb ab) := Lib.hid fun V hV => ⟨hC.keep hV.size fun k hk => hV.block k (hF k hk), hA.keep hV.size (hV.block ab (hF ab hC.2.2.2.1.2.2.2.1)) fun k hk _ _ => hV.block k (hF k hk)⟩
 have HL := Lib.hid (And.intro hC.len hA.1)
 obtain ⟨x0, x1, x2, x3⟩ := hC.head
 have HY := Lib.hid hY
 have HF := Lib.hid hF
 clear hC hA hF hY
 refine callsIn_of_wp Tryz.func32 rfl trivial ?_ rfl
 simp only [Tryz.ntmps32, List.size_toArray, List.length_cons, List.length_nil, Nat.reduceAdd, Nat.reduceSub, Array.replicate_succ, Array.replicate_zero, List.push_toArray, List.append_toArray, List.nil_append, List.cons_append]
 gi_wp2
 gi_loopw [4, 5, 11] (fun _ _ p wr => ∃ k : Nat, p = .int .i64 k ∧ k ≤ n ∧ J (toldF ((l.zip ps).take k)) wr ∧ Below m W wr) (fun _ _ p _ => n - (intOf p).toNat)
 case atStart => exact ⟨0, rfl, by omega, by simpa [toldF] using h0, Below.refl _ _⟩
 case round =>
  clear x0 x1 x2 x3
  obtain ⟨k, rfl, hk, hJ, hb⟩ := hrel
  obtain ⟨hCw, hAw⟩ := HC.out wr hb
  obtain ⟨x0, x1, x2, x3⟩ := hCw.head
  by_cases hlt : k < n
  ·obtain ⟨⟨nd, bo, an⟩, he⟩ : ∃ e, l[k]? = some e := ⟨l[k]'(by have := HL.out.1; omega), by simp⟩
   obtain ⟨y0, y1⟩ := hCw.at he
   obtain ⟨p, hp, y2, hpc, hp4, _⟩ := hAw.at he
   have hpv : Vs wr 0 m p.1 (nd, bo, an).2.2 := by
    obtain ⟨_, _, L, B, c1, _, f1⟩ := hAw.2.2 k _ _ he hp
    exact vs_low c1 fun q q1 q2 => HF.out q (f1 q q1 q2).1
   simp only at y0 y1 y2 hpc hp4 hpv
   have hz : (l.zip ps)[k]? = some ((nd, bo, an), p) := List.getElem?_zip_eq_some.2 ⟨he, hp⟩
   have HT := Lib.hid (take_one hz)
   have HTS := Lib.hid (told_snoc ((l.zip ps).take k) ((nd, bo, an), p))
   have d1 : (0 : Int) ≤ (k : Int) := by omega
   have d2 : (k : Int) < (n : Int) := by omega
   obtain ⟨Ap, cp⟩ := p
   simp only at y2 hpc hpv
   obtain ⟨man, hman⟩ : ∃ r, an.length = r := ⟨_, rfl⟩
   cases bo
   ·have HJ := Lib.hid hJ
    have HB := Lib.hid hb
    have HN : Hid (J (toldF ((l.zip ps).take (k + 1))) wr) := Lib.hid (by
     rw [HT.out, HTS.out]
     simpa using HJ.out)
    clear hJ hb he hp hz hCw hAw hpv
    gi_wp2
    refine ⟨fun f hf => (by cases hf), ?_⟩
    gi_wp2
    go_roundw
    case rel => exact ⟨k + 1, rfl, by omega, HN.out, HB.out⟩
    case measure => simp only [intOf]; omega
   ·obtain ⟨fn, tmps, assign, body, hy, hR⟩ := HY.out _ ((nd, true, an), (Ap, cp)) wr (by have h1 := told_len ((l.zip ps).take k); have h2 := List.length_take_le k (l.zip ps); omega) hJ ⟨hpc, hp4, hpv⟩
    simp only [argsE, hman] at hy
    try simp only [argsE, hman] at hR
    rw [hman] at y2
    have HB := Lib.hid hb
    clear hJ hb he hp hz hCw hAw hpv hpc hp4
    gi_wp2
    refine hR.mono ?_
    rintro e2 W3 (⟨rfl, hJ3, hk3⟩ | ⟨rfl, hJx3⟩)
    ·have B3 := Lib.hid (HB.out.trans hk3)
     have HN : Hid (J (toldF ((l.zip ps).take (k + 1))) W3) := Lib.hid (by
      rw [HT.out, HTS.out]
      simpa using hJ3)
     clear hJ3 hk3 hR hy
     gi_wp2
     go_roundw
     case rel => exact ⟨k + 1, rfl, by omega, HN.out, B3.out⟩
     case measure => simp only [intOf]; omega
    ·have J3 := Lib.hid hJx3
     clear hJx3 hR hy
     gi_wp2
     refine bodyPost_ret (results_none rfl _ _ _) rfl ?_
     exact ⟨⟨_, rfl⟩, .inr ⟨_, _, J3.out⟩⟩
  ·obtain rfl : k = n := by omega
   have hlk : (l.zip ps).take k = l.zip ps := List.take_of_length_le (by rw [List.length_zip]; have := HL.out.1; omega)
   rw [hlk] at hJ
   have HJ := Lib.hid hJ
   clear hJ hlk
   gi_wp2
   go_end0
   exact ⟨⟨_, rfl⟩, .inl HJ.out⟩
end Quorum
end Go.Proofs.YtbhidndgnldheaaGreat

/-
 What comes of the versions of all nodes that are counted.
-/
namespace Go.Proofs.YtbhidndgnldheaaGreat
namespace Quorum
open Go.RowKit Go.Shelf Vers Span Blk Rounds
attribute [local go_sem] Oper.semAt_some

def accF (z : List EP) : List Vr := z.foldl (fun all e => mrg all e.1.2.2) []
theorem acc_snoc (z : List EP) (e : EP) : accF (z ++ [e]) = mrg (accF z) e.1.2.2 := by
 unfold accF
 rw [List.foldl_append]
 rfl
theorem snoc_induct {α : Type} {P : List α → Prop} (h0 : P []) (h1 : ∀ l x, P l → P (l ++ [x])) (l : List α) : P l := by
 have : ∀ r : List α, P r.reverse := fun r => by
  induction r with
  | nil => exact h0
  | cons x r ih => rw [List.reverse_cons]; exact h1 _ x ih
 have h := this l.reverse
 rwa [List.reverse_reverse] at h
theorem acc_told (z : List EP) : accF (toldF z) = versF (z.map Prod.fst) := by
 revert z
 refine snoc_induct rfl ?_
 intro z e ih
 ·rw [told_snoc, List.map_append, List.map_singleton, vers_snoc, ← ih]
  split
  ·rw [acc_snoc]
  ·rfl
theorem zip_fst {l : List En} {ps : List Plc} (h : ps.length = l.length) : (l.zip ps).map Prod.fst = l := List.map_fst_zip (by omega)
theorem mrg_len {a b : List Vr} (h : a.length ≤ 1024) : (mrg a b).length ≤ 1024 := by
 unfold mrg
 split
 ·have := merge_len a b
  omega
 ·exact h
theorem vers_small (l : List En) : (versF l).length ≤ 1024 := by
 refine snoc_induct (P := fun l => (versF l).length ≤ 1024) (by simp [versF]) ?_ l
 intro l x h
 rw [vers_snoc]
 split
 ·exact mrg_len h
 ·exact h
theorem below_put {W w : World} {B l : Nat} {o : Obj} (h : Below B w W) (hl : B ≤ l) : Below B w (W.putObj l o) := ⟨h.os, h.tape, h.output, by simpa using h.size, fun k hk => (World.putObj_heap_other (by omega)).trans (h.block k hk)⟩
def Mid (m : Nat) (w : World) (pre : List EP) (W : World) : Prop :=
 Below m w W ∧ m + 3 ≤ W.heap.size ∧ ∃ A c, Bn m 22 [.slice A (accF pre).length c] W ∧ (accF pre).length ≤ c ∧ (accF pre).length ≤ 1024 ∧ Vs W (m + 3) W.heap.size A (accF pre)
theorem mid_put {m : Nat} {w : World} (pre : List EP) (W : World) (o : Obj) (h : Mid m w pre W) : Mid m w pre (W.putObj (m + 1 + 1) o) := by
 obtain ⟨h1, h2, A, c, h3, h4, h5, h6⟩ := h
 refine ⟨⟨h1.os, h1.tape, h1.output, by simpa using h1.size, fun k hk => (World.putObj_heap_other (by omega)).trans (h1.block k hk)⟩, by simpa using h2, A, c, h3.same (World.putObj_heap_other (by omega)), h4, h5, ?_⟩
 have h7 : Vs (W.putObj (m + 1 + 1) o) (m + 3) W.heap.size A (accF pre) := h6.keep fun p h1 _ => World.cell?_of_block (World.putObj_heap_other (by omega))
 simpa using h7
def GotVs (all : List Vr) (w : World) (e : Ending) (w' : World) : Prop := ∃ A c, e = .returned (.slice A all.length c) ∧ Hid (all.length ≤ c ∧ Vs w' w.heap.size w'.heap.size A all) ∧ Below w.heap.size w w'
set_option maxRecDepth 100000 in
set_option maxHeartbeats 2000000 in
theorem vers_any {T : TypeId} {F : Nat → Prop} {w : World} {rb n lb cl cb ab : Nat} {need : Int} {l : List En} {x : List Value} {ps : List Plc} (h : Core T F w rb need l n lb cl cb ab x) (ha : Ans F w l ps cb ab) :
  Calls Tryz.prog 10 #[hd rb] w (GotVs (versF l) w) := by
 refine (callsIn_wide (n := 3)).1 ?_
 refine callsIn_of_wp_marks Tryz.func10 rfl trivial ?_ rfl
 simp only [Tryz.ntmps10, List.size_toArray, List.length_cons, List.length_nil, Nat.reduceAdd, Nat.reduceSub, Array.replicate_succ, Array.replicate_zero, List.push_toArray, List.append_toArray, List.nil_append, List.cons_append]
 obtain ⟨m, hm⟩ : ∃ m, w.heap.size = m := ⟨_, rfl⟩
 obtain ⟨W1, hW1⟩ : ∃ W, w.alloc (.cells #[.slice none 0 0] 22) = W := ⟨_, rfl⟩
 have b1 : Below w.heap.size w W1 := by rw [← hW1]; exact (Below.refl _ w).alloc (Nat.le_refl _) _
 have s1 : W1.heap.size = m + 1 := by rw [← hW1]; simp [hm]
 have B1 : Bn m 22 [.slice none 0 0] W1 := by rw [← hm, ← hW1]; exact heap_alloc_new w _
 obtain ⟨V, hV⟩ : ∃ V, versF l = V := ⟨_, rfl⟩
 have hF : ∀ k, F k → k < m := fun k hk => by rw [← hm]; exact h.lt k hk
 have HH := Lib.hid (And.intro h (And.intro ha (And.intro hF (And.intro b1 (And.intro B1 (And.intro hV hm))))))
 have HW1 := Lib.hid hW1
 rw [hV]
 clear h ha hF b1 B1 hV hW1
 gi_wp2
 rw [HW1.out]
 refine range_bound (F := Fence.wide) (n := 3) (α := EP) (D := m + 1) s1 rfl (by omega) (gf := 32) (lb := #[hd rb]) rfl trivial (enters_of Tryz.func32 (by kernel_rfl) rfl)
  argsE (fun x => rfl)
  (fun pre W0 x W1 => W0 = W1 ∧ Told m x W0)
  (fun pre W0 x W1 h => by rw [h.1]; exact Below.refl _ _)
  (fun W1 W' => Below m W1 W')
  (Mid m w) (fun _ _ _ => False) mid_put (fun _ _ _ _ h => h)
  (fun xs => xs = toldF (l.zip ps))
  (fun _ => True)
  ?seq ?start ?round ?done ?stop
 case seq =>
  intro J Jx W hb hs h0 hY
  obtain ⟨hC, hA, hF, b1, B1, hV, hm⟩ := HH.out
  have b2 : Below m w W := by rw [← hm]; exact (b1.trans (hb.mono (by omega)))
  refine (each_in 2 (by omega) (m + 1 + 1) m J Jx (T := T) (F := F) (x := x) (fun pre y W0 _ h1 h2 => hY pre y W0 W0 ⟨rfl, h2⟩ h1) W (by omega) (hC.keep b2.size fun k hk => b2.block k (hF k hk)) (hA.keep b2.size (b2.block ab (hF ab hC.2.2.2.1.2.2.2.1)) fun k hk _ _ => b2.block k (hF k hk)) hF h0).mono ?_
  rintro e W' ⟨hv, h | ⟨_, _, h⟩⟩
  ·exact ⟨hv, .inl ⟨_, rfl, h⟩⟩
  ·exact ⟨hv, .inr ⟨_, trivial, h⟩⟩
 case start =>
  intro W hb hs
  obtain ⟨hC, hA, hF, b1, B1, hV, hm⟩ := HH.out
  refine ⟨by rw [← hm]; exact b1.trans (hb.mono (by omega)), by omega, none, 0, ?_, by simp [accF], by simp [accF], Vs.nil _⟩
  exact B1.same (hb.block m (by omega))
 case round =>
  rintro pre x W0 W1 hs0 ⟨i1, i2, A, c, i3, i4, i5, i6⟩ ⟨rfl, t1, t2, t3⟩
  obtain ⟨⟨nd, bo, an⟩, Ap, cp⟩ := x
  simp only at t1 t2 t3
  have HS := Lib.hid (acc_snoc pre ((nd, bo, an), Ap, cp))
  obtain ⟨P, hP⟩ : ∃ P, accF pre = P := ⟨_, rfl⟩
  rw [hP] at i3 i4 i5 i6 HS
  obtain ⟨N, hN⟩ : ∃ N, P.length = N := ⟨_, rfl⟩
  obtain ⟨M, hM⟩ : ∃ M, an.length = M := ⟨_, rfl⟩
  rw [hN] at i3 i4 i5
  rw [hM] at t1 t2
  have HT := Lib.hid (And.intro i1 (And.intro i2 (And.intro i3 (And.intro i4 (And.intro i5 (And.intro i6 (And.intro t1 (And.intro t2 (And.intro t3 (And.intro hN hM))))))))))
  have HP := Lib.hid hP
  simp only [argsE, hM]
  clear hP hN hM i1 i2 i3 i4 i5 i6 t1 t2 t3
  gi_wp2
  refine ⟨Held.refl _ _, fun o => ?_⟩
  obtain ⟨i1, i2, i3, i4, i5, i6, t1, t2, t3, hN, hM⟩ := HT.out
  obtain ⟨Wb, hWb⟩ : ∃ Wb, W0.putObj (m + 1 + 1) o = Wb := ⟨_, rfl⟩
  have sb : Wb.heap.size = W0.heap.size := by rw [← hWb]; simp
  have fb : ∀ k, k ≠ m + 1 + 1 → Wb.heap[k]? = W0.heap[k]? := fun k hne => by rw [← hWb, World.putObj_heap_other hne]
  have pb : Below m W0 Wb := by rw [← hWb]; exact below_put (Below.refl _ _) (by omega)
  have B3 : Bn m 22 [.slice A N c] Wb := i3.same (fb m (by omega))
  have v6 : Vs Wb 0 Wb.heap.size A P := (i6.keep fun p h1 h2 => World.cell?_of_block (fb _ (by omega))).less (Nat.zero_le _) |>.more (by omega)
  have v3 : Vs Wb 0 Wb.heap.size Ap an := (t3.below pb).more (by omega)
  have HM := Lib.hid (merge_any A Ap c cp N M P an hN hM i4 t1 Wb v6 v3 (by omega) (by omega))
  have c0 := B3.cell 0
  have HB := Lib.hid (And.intro pb (And.intro sb B3))
  have HW := Lib.hid hWb.symm
  rw [hWb]
  obtain ⟨r1, r2, hr⟩ : ∃ r1 r2, mergeF P an = (r1, r2) := ⟨_, _, rfl⟩
  have HL := Lib.hid (show r1.length ≤ 512 by have := merge_len P an; rw [hr] at this; exact this)
  rw [hr] at HM
  have HR := Lib.hid hr
  have HI := Lib.hid (And.intro i1 i2)
  clear hWb fb pb sb B3 v6 v3 i1 i2 i3 i4 i5 i6 t1 t2 t3 hN hM hr
  cases hz : r2 == 0
  ·gi_wp2_with (refine ⟨trivial, ?_⟩; gi_at_call 33; refine (callsIn_wide.2 HM.out).mono ?_; rintro e1 w1 ⟨A', c', rfl, g1, g2, g3⟩)
   obtain ⟨pb, sb, B3⟩ := HB.out
   obtain ⟨i1, i2, i3, i4, i5, i6, t1, t2, t3, hN, hM⟩ := HT.out
   have hmr : mrg P an = P := by unfold mrg; rw [HR.out, if_neg (fun h => by simp only at h; rw [h] at hz; cases hz)]
   have g4 : Below (m + 1 + 1) Wb w1 := g3.mono (by omega)
   refine ⟨Held.below g3 (by omega), ⟨(i1.trans pb).trans (g4.mono (by omega)), by have := g3.size; omega, A, c, ?_, ?_, ?_, ?_⟩, fun o => below_put (pb.trans (g4.mono (by omega))) (by omega)⟩
   all_goals rw [HS.out, hmr]
   ·rw [hN]
    exact B3.same (g3.block m (by omega))
   ·omega
   ·omega
   ·have h7 : Vs Wb (m + 3) W0.heap.size A P := i6.keep fun p h1 _ => World.cell?_of_block (by rw [HW.out]; exact World.putObj_heap_other (by omega))
    exact ((h7.more (by omega)).below g3).more g3.size
  ·gi_wp2_with (refine ⟨trivial, ?_⟩; gi_at_call 33; refine (callsIn_wide.2 HM.out).mono ?_; rintro e1 w1 ⟨A', c', rfl, g1, g2, g3⟩
                have B4 : Bn m 22 [.slice A N c] w1 := HB.out.2.2.same (g3.block m (by have := HB.out.2.1; omega))
                have c4 := B4.cell 0
                have z4 := B4.frozen 0
                have G := Lib.hid (And.intro g1 (And.intro g2 (And.intro g3 B4)))
                clear g1 g2 g3 B4)
   obtain ⟨pb, sb, B3⟩ := HB.out
   obtain ⟨i1, i2, i3, i4, i5, i6, t1, t2, t3, hN, hM⟩ := HT.out
   obtain ⟨g1, g2, g3, B4⟩ := G.out
   have hmr : mrg P an = r1 := by unfold mrg; rw [HR.out, if_pos (by simpa using hz)]
   have hl := HL.out
   have B5 := B4.set 0 (.slice A' r1.length c')
   have g4 : Below m Wb (w1.setCell ⟨m, 0, none⟩ (.slice A' r1.length c')) := (g3.mono (by omega)).setCell (by simp only; omega) _
   have g5 := g3.size
   refine ⟨(Held.below g3 (by omega)).trans (Held.setCell _ _ _ (by simp only; omega) (by simp only; omega)), ⟨(i1.trans pb).trans g4, by simp [World.setCell]; omega, A', c', ?_, ?_, ?_, ?_⟩, fun o => below_put (pb.trans g4) (by omega)⟩
   all_goals rw [HS.out, hmr]
   ·exact B5
   ·exact g1
   ·omega
   ·have h7 : Vs (w1.setCell ⟨m, 0, none⟩ (.slice A' r1.length c')) Wb.heap.size w1.heap.size A' r1 := g2.keep fun p h1 _ => World.cell?_of_block (Below.heap_setCell _ _ _ _ (by simp only; omega))
    exact (h7.less (by omega)).more (by simp [World.setCell])
 case done =>
  rintro xs W rfl ⟨j1, j2, A, c, j3, j4, j5, j6⟩ hd
  obtain ⟨hC, hA, hF, b1, B1, hV, hm⟩ := HH.out
  have hacc : accF (toldF (l.zip ps)) = V := by
   rw [acc_told, zip_fst hA.1, hV]
  rw [hacc] at j3 j4 j5 j6
  have c0 := j3.cell 0
  have J := Lib.hid (And.intro j1 (And.intro j2 (And.intro j4 (And.intro j6 hm))))
  clear hC hA hF b1 B1 hV hm hacc j1 j2 j3 j4 j5 j6
  gi_wp2
  refine ⟨by simp, .inl ⟨_, _, rfl, run_takeDeferred (w := W) hd, ?_⟩⟩
  refine ⟨_, results_tmp rfl _ _ _, ?_⟩
  obtain ⟨j1, j2, j4, j6, hm⟩ := J.out
  have h7 : Vs (W.putObj (m + 1) (.deferred none)) (m + 3) W.heap.size A V := j6.keep fun p h1 _ => World.cell?_of_block (World.putObj_heap_other (by omega))
  refine ⟨A, c, rfl, Lib.hid ⟨j4, ?_⟩, ?_⟩
  ·rw [hm]
   exact (h7.less (by omega)).more (by simp)
  ·rw [hm]
   exact below_put j1 (by omega)
 case stop =>
  rintro c0 xs W _ h
  exact h.elim
end Quorum
end Go.Proofs.YtbhidndgnldheaaGreat

/-
 What comes of all, and who lacks something of it: the document's word.
-/
namespace Go.Proofs.YtbhidndgnldheaaGreat
namespace Quorum
open Go.RowKit Vers Span Blk
attribute [local go_sem ↓] Go.wp_at_zero Go.wp_at_succ

end Quorum
end Go.Proofs.YtbhidndgnldheaaGreat

/-
 What the document takes of all is what comes of the counted.
-/
namespace Go.Proofs.YtbhidndgnldheaaGreat
namespace Quorum
open Vers

end Quorum
end Go.Proofs.YtbhidndgnldheaaGreat

/-
 A node answers the document's asking with versions.
-/
namespace Go.Proofs.YtbhidndgnldheaaGreat
namespace Quorum
open Go.RowKit Vers Span Blk
attribute [local go_sem ↓] Go.wp_at_zero Go.wp_at_succ

end Quorum
end Go.Proofs.YtbhidndgnldheaaGreat

/-
 Plain words of layer 11: a tree is its records; a place's hash is made of what is beneath it.
-/
namespace Go.Proofs.YtbhidndgnldheaaGreat
namespace Tree
open Vers Num Ring Disk Go.Proofs.YtbhidndgnldheaaGreat.Code

def keyH (k : Nm) : Int := hashL (strNums k)
def dig0 (k : Nm) : Int := keyH k / 1152921504606846976
def dig1 (k : Nm) : Int := keyH k / 72057594037927936 % 16
theorem dig0_range (k : Nm) : 0 ≤ dig0 k ∧ dig0 k < 16 := by
 have h := hash_range (strNums k)
 unfold U at h
 unfold dig0 keyH
 omega
theorem dig1_range (k : Nm) : 0 ≤ dig1 k ∧ dig1 k < 16 := by unfold dig1; omega
def leafN (k : Nm) : Nat := (dig0 k * 16 + dig1 k).toNat
theorem leaf_lt (k : Nm) : leafN k < 256 := by
 have h0 := dig0_range k
 have h1 := dig1_range k
 unfold leafN
 omega
def inP : List Int → Nm → Bool
 | [], _ => true
 | [p], k => decide (dig0 k = p)
 | p :: q :: _, k => decide (dig0 k = p) && decide (dig1 k = q)
def okP (p : List Int) : Prop := (∀ d ∈ p, 0 ≤ d ∧ d < 16) ∧ p.length ≤ 2
instance (p : List Int) : Decidable (okP p) := by unfold okP; infer_instance
def beneath (all : List Rc) (p : List Int) : List Rc := all.filter fun r => inP p r.1
def leafR (all : List Rc) (i : Nat) : List Rc := all.filter fun r => decide (leafN r.1 = i)
def halves (h : Int) : List Int := putL (h / 4294967296) ++ putL (h % 4294967296)
def dotL (v : Vr) : List Int := putL v.s ++ putL v.n
def markL (r : Rc) : List Int := textL r.1 ++ r.2.flatMap dotL
def markF (r : Rc) : Int := hashL (markL r)
def leafT (l : List Rc) : List Int := l.flatMap fun r => halves (markF r)
def kidsT (f : Nat → Int) (n : Nat) : List Int := (List.range n).flatMap fun d => halves (f d)
def hF : Nat → List Rc → List Int → Int
 | 0, all, p => if beneath all p = [] then 0 else hashL (leafT (beneath all p))
 | k + 1, all, p => if beneath all p = [] then 0 else hashL (kidsT (fun d => hF k all (p ++ [(d : Int)])) 16)
def hashF (all : List Rc) (p : List Int) : Int := if okP p then hF (2 - p.length) all p else 0
def withR (all : List Rc) (r : Rc) : List Rc := if r.2 = [] then wout all r.1 else wit all r.1 r.2
/-! ### The records, beneath paths and in leaves -/
def spotN : List Int → Nat
 | [] => 0
 | [p] => (1 + p).toNat
 | p :: q :: _ => (17 + p * 16 + q).toNat
theorem ok_one {p : Int} : okP [p] ↔ 0 ≤ p ∧ p < 16 := by simp [okP]
theorem ok_two {p q : Int} : okP [p, q] ↔ (0 ≤ p ∧ p < 16) ∧ 0 ≤ q ∧ q < 16 := by simp [okP]
theorem ok_cases {p : List Int} (h : okP p) : p = [] ∨ (∃ a, p = [a] ∧ 0 ≤ a ∧ a < 16) ∨ ∃ a b, p = [a, b] ∧ (0 ≤ a ∧ a < 16) ∧ 0 ≤ b ∧ b < 16 := by
 match p, h with
 | [], _ => exact .inl rfl
 | [a], h => exact .inr (.inl ⟨a, rfl, ok_one.1 h⟩)
 | [a, b], h => exact .inr (.inr ⟨a, b, rfl, ok_two.1 h⟩)
 | _ :: _ :: _ :: _, h => exact absurd h.2 (by simp)
theorem spot_inj {p q : List Int} (h : okP p) (h' : okP q) (e : spotN p = spotN q) : p = q := by
 rcases ok_cases h with rfl | ⟨a, rfl, ha⟩ | ⟨a, b, rfl, ha, hb⟩
 ·rcases ok_cases h' with rfl | ⟨c, rfl, hc⟩ | ⟨c, d, rfl, hc, hd⟩
  ·rfl
  ·simp only [spotN] at e; omega
  ·simp only [spotN] at e; omega
 ·rcases ok_cases h' with rfl | ⟨c, rfl, hc⟩ | ⟨c, d, rfl, hc, hd⟩
  ·simp only [spotN] at e; omega
  ·simp only [spotN] at e
   have : a = c := by omega
   rw [this]
  ·simp only [spotN] at e; omega
 ·rcases ok_cases h' with rfl | ⟨c, rfl, hc⟩ | ⟨c, d, rfl, hc, hd⟩
  ·simp only [spotN] at e; omega
  ·simp only [spotN] at e; omega
  ·simp only [spotN] at e
   have h1 : a = c := by omega
   have h2 : b = d := by omega
   rw [h1, h2]
theorem leaf_mem {all : List Rc} {i : Nat} {r : Rc} : r ∈ leafR all i ↔ r ∈ all ∧ leafN r.1 = i := by simp [leafR]
theorem leaf_srt {all : List Rc} (h : Srt all) (i : Nat) : Srt (leafR all i) := List.Pairwise.filter _ h
theorem srt_mem {β : Type} {l m : List (Nm × β)} (hl : Srt l) (hm : Srt m) (h : ∀ x, x ∈ l ↔ x ∈ m) : l = m := by
 refine srt_ext hl hm fun s => ?_
 cases hf : find l s with
 | none =>
  refine Eq.symm (find_none.2 fun x hx => ?_)
  exact find_none.1 hf x ((h x).2 hx)
 | some b =>
  have h1 := (h _).1 (find_some hf)
  exact (find_mem hm h1).symm
theorem with_mem {all : List Rc} {r x : Rc} : x ∈ withR all r ↔ (x = r ∧ r.2 ≠ []) ∨ (x ∈ all ∧ x.1 ≠ r.1) := by
 unfold withR
 by_cases h : r.2 = []
 ·rw [if_pos h, mem_wout]
  simp [h]
 ·rw [if_neg h, mem_wit]
  simp [h]
theorem with_srt {all : List Rc} (h : Srt all) (r : Rc) : Srt (withR all r) := by
 unfold withR
 split
 ·exact h.wout _
 ·exact h.wit _ _
theorem wout_len {β : Type} (l : List (Nm × β)) (s : Nm) : (wout l s).length ≤ l.length := List.length_filter_le _ _
theorem ins_len {β : Type} (l : List (Nm × β)) (s : Nm) (b : β) : (ins l s b).length = l.length + 1 := by
 induction l with
 | nil => rfl
 | cons y l ih =>
  unfold ins
  split
  ·rfl
  ·simp only [List.length_cons, ih]
theorem with_len (all : List Rc) (r : Rc) : (withR all r).length ≤ all.length + 1 := by
 unfold withR
 split
 ·have := wout_len all r.1; omega
 ·rw [wit, ins_len]; have := wout_len all r.1; omega
theorem leaf_with_ne {all : List Rc} (hs : Srt all) (r : Rc) {i : Nat} (hi : i ≠ leafN r.1) : leafR (withR all r) i = leafR all i := by
 refine srt_mem (leaf_srt (with_srt hs r) i) (leaf_srt hs i) fun x => ?_
 rw [leaf_mem, leaf_mem, with_mem]
 constructor
 ·rintro ⟨⟨rfl, _⟩ | ⟨h1, _⟩, h2⟩
  ·exact absurd h2.symm hi
  ·exact ⟨h1, h2⟩
 ·rintro ⟨h1, h2⟩
  exact ⟨.inr ⟨h1, fun e => hi (by rw [← h2, e])⟩, h2⟩
theorem leaf_with_eq {all : List Rc} (hs : Srt all) (r : Rc) : leafR (withR all r) (leafN r.1) = withR (leafR all (leafN r.1)) r := by
 refine srt_mem (leaf_srt (with_srt hs r) _) (with_srt (leaf_srt hs _) r) fun x => ?_
 rw [leaf_mem, with_mem, with_mem, leaf_mem]
 constructor
 ·rintro ⟨⟨rfl, h⟩ | ⟨h1, h3⟩, h2⟩
  ·exact .inl ⟨rfl, h⟩
  ·exact .inr ⟨⟨h1, h2⟩, h3⟩
 ·rintro (⟨rfl, h⟩ | ⟨⟨h1, h2⟩, h3⟩)
  ·exact ⟨.inl ⟨rfl, h⟩, rfl⟩
  ·exact ⟨.inr ⟨h1, h3⟩, h2⟩
end Tree
end Go.Proofs.YtbhidndgnldheaaGreat
