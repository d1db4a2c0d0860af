/-
  Several texts of this family in one: PullWanted, PullBegin, PullLess, PullWants, PullTell, PullTold, PullShow.
-/
import Derived.Test.YtkfdplfgaddkmaaGreatK37
import Derived.Test.YtkfdplfgaddkmaaGreatK11
import Derived.Test.YtkfdplfgaddkmaaGreatK13
import Derived.Deep.RegionHeld3
import Derived.Deep.DrawnRows
import Derived.Deep.AppendLies
import Derived.Deep.RegionLaw
import Derived.Test.YtkfdplfgaddkmaaGreatK12
import Derived.Test.YtkfdplfgaddkmaaGreatK36
import Derived.Test.YtkfdplfgaddkmaaGreatK19
import Derived.Test.YtkfdplfgaddkmaaGreatK33
import Derived.Test.YtkfdplfgaddkmaaGreatK24
/-
 Paths come to be wanted (layer 19).
-/
namespace Go.Proofs.YtkfdplfgaddkmaaGreat
namespace Pull
open Go.RowKit Blk Go.Maps Disk Tree Vers Num Ring Mend
open Go.Proofs.YtkfdplfgaddkmaaGreat.Code hiding Bn
attribute [local go_sem ↓] Go.wp_at_zero Go.wp_at_succ
theorem ns_app {V : World} {base n c : Nat} {A : Option Addr} {l : List Int} {x : Int} (h : V.ownsRow base 3 1 (.slice A (n + 1) c) (n + 1) (nums .i64 l ++ [.int .i64 x])) (hl : l.length = n) : Ns .i64 V V.heap.size A (l ++ [x]) := by
 subst hl
 have e : nums .i64 l ++ [.int .i64 x] = nums .i64 (l ++ [x]) := by simp [nums]
 rw [e] at h
 have h' : V.ownsRow base 3 1 (.slice A (l ++ [x]).length c) (l ++ [x]).length (nums .i64 (l ++ [x])) := by simpa using h
 exact own_ns h'
theorem info_intW : (Tryz.prog.info? 3).map (fun i => (i.zero, i.size, i.bytes)) = some (some (.int .i64 0), 1, 8) := by kernel_rfl
theorem want_take {own : List Rc} {fr hs : List Int} {i : Nat} {x : Int} (hi : i < (diffF (kidsF own fr) hs).length) (hx : (diffF (kidsF own fr) hs).getD i 0 = x) : (wantF own fr hs).take (i + 1) = (wantF own fr hs).take i ++ [fr ++ [x]] := by
 unfold wantF
 rw [← List.map_take, List.take_succ_eq_append_getElem hi, List.map_append, List.map_take]
 rw [List.getD_eq_getElem?_getD, List.getElem?_eq_getElem hi, Option.getD_some] at hx
 rw [hx]
 rfl
section
variable {F : Nat → Prop} {w V : World} {pb : Nat} {id : Int} {vec : List Int} {own st : List Rc} {bg : Bool} {W : List (List Int)}
def WantQ (F : Nat → Prop) (w V : World) (pb : Nat) (id : Int) (own : List Rc) (bg : Bool) (vec : List Int) (W : List (List Int)) (st : List Rc) (e : Ending) (w' : World) : Prop := e = .returned (.tuple #[]) ∧ ∃ F', Hid (PJ F' w w' pb id own bg vec W st ∧ Stp F V F' w')
set_option maxRecDepth 100000 in
set_option maxHeartbeats 4000000 in
theorem PJ.want (h : PJ F w V pb id own bg vec W st) (hW : W.length ≤ 900) (Af Ah : Option Addr) (cf ch nf nh : Nat) (fr hs : List Int) (hnf : fr.length = nf) (hnh : hs.length = nh) (hf1 : nf ≤ 1) (hfr : Sta F V (fun X => Ns .i64 X X.heap.size Af fr)) (hhs : Sta F V (fun X => Ns .u64 X X.heap.size Ah hs)) :
  Calls Tryz.prog 56 #[hd pb, .slice Af nf cf, .slice Ah nh ch] V (WantQ F w V pb id own bg vec (W ++ wantF own fr hs) st) := by
 obtain ⟨i0, hi0, hz0, hz1, hz2⟩ := info_parts info_intW
 obtain ⟨j0, hj0, hy0, hy1, hy2⟩ := info_parts info_path
 have HI := Lib.hid (And.intro (And.intro hi0 (And.intro hz0 (And.intro hz1 hz2))) (And.intro hj0 (And.intro hy0 (And.intro hy1 hy2))))
 clear hi0 hz0 hz1 hz2 hj0 hy0 hy1 hy2
 obtain ⟨tb, Ft, mb, Av, nv, cv, Aw, nw, cw, D, hp⟩ := h
 obtain ⟨c0, c1, c2, c3, c4, c5⟩ := hp.cells
 have K0 := Lib.hid (hp.tree.kids hp.few Af cf nf fr hnf (by omega) hfr.now)
 have HP := Lib.hid (And.intro hp (And.intro hfr (And.intro hhs (And.intro hnf (And.intro hnh hW)))))
 unfold hd at *
 clear hp hfr hhs hnf hnh hW c0 c2 c3 c4 c5
 go_enter Tryz.func56, Tryz.ntmps56
 go_wp2_with fail
 refine K0.out.mono ?_
 rintro e w1 ⟨A1, m1, c1', rfl, h1⟩
 have HW1 : Hid (PI F w w1 pb id own bg vec W st tb Ft mb Av nv cv Aw nw cw D ∧ Stp F V F w1 ∧ Sta F w1 (fun X => Ns .i64 X X.heap.size Af fr) ∧ Sta F w1 (fun X => Ns .u64 X X.heap.size Ah hs)) := Lib.hid (by
  obtain ⟨_, _, _, _, q5, q6⟩ := h1.out
  have hc : Chg F V w1 := q6.mono fun k e => by rw [e]; exact HP.out.1.sub _ HP.out.1.tree.own
  exact ⟨HP.out.1.turn q5 q6, ⟨hc, fun k hk => .inl hk⟩, sta_chg HP.out.2.1 hc, sta_chg HP.out.2.2.1 hc⟩)
 have K1 := Lib.hid (differ_any A1 Ah c1' ch m1 nh (kidsF own fr) hs h1.out.1 HP.out.2.2.2.2.1 w1 h1.out.2.2.1 HW1.out.2.2.2.now)
 clear h1 K0 c1
 go_wp2_with fail
 refine K1.out.mono ?_
 rintro e w2 ⟨Ad, md, cd, rfl, h2, b2⟩
 obtain ⟨ds, hds⟩ : ∃ ds, diffF (kidsF own fr) hs = ds := ⟨_, rfl⟩
 have HD : Hid (diffF (kidsF own fr) hs = ds ∧ ds.length = md ∧ md ≤ 16) := Lib.hid ⟨hds, by rw [← hds]; exact h2.out.1, by rw [← h2.out.1]; exact diff_16 _ _⟩
 have H0 : Hid (PJ F w w2 pb id own bg vec (W ++ (wantF own fr hs).take 0) st ∧ Stp F V F w2 ∧ Sta F w2 (fun X => Ns .i64 X X.heap.size Af fr) ∧ Sta F w2 (fun X => Ns .i64 X X.heap.size Ad ds)) := Lib.hid (by
  rw [List.take_zero, List.append_nil]
  have hr := h2.out.2.2
  rw [hds] at hr
  exact ⟨⟨tb, Ft, mb, Av, nv, cv, Aw, nw, cw, D, HW1.out.1.below b2⟩, HW1.out.2.1.trans (Stp.of_below b2), sta_below HW1.out.2.2.1 b2, sta_row hr HD.out.2.1 fun g hg hF => by have := (hr.lt g hg).1; have := HW1.out.1.lt g hF; omega⟩)
 have hmd := HD.out.2.2
 clear h2 b2 hds HW1 K1
 go_wp2_with fail
 go_loopw [17] (fun q wr => ∃ (i : Nat) (F1 : Nat → Prop), q = .int .i64 i ∧ i ≤ md ∧ Hid (PJ F1 w wr pb id own bg vec (W ++ (wantF own fr hs).take i) st ∧ Stp F V F1 wr ∧ Sta F1 wr (fun X => Ns .i64 X X.heap.size Af fr) ∧ Sta F1 wr (fun X => Ns .i64 X X.heap.size Ad ds))) (fun q _ => md - (intOf q).toNat)
 case atStart => exact ⟨0, F, rfl, by omega, H0⟩
 case round =>
  clear H0
  obtain ⟨i, F1, rfl, hi, hst⟩ := hrel
  by_cases hlt : i < md
  ·have d1 : (0 : Int) ≤ (i : Int) := by omega
   have d2 : (i : Int) < (md : Int) := by omega
   obtain ⟨W1, hW1⟩ : ∃ W1, W ++ (wantF own fr hs).take i = W1 := ⟨_, rfl⟩
   have hp := hst.out.1
   rw [hW1] at hp
   obtain ⟨tb1, Ft1, mb1, Av1, nv1, cv1, Aw1, nw1, cw1, D1, hp⟩ := hp
   obtain ⟨gd, od, rfl, hgd, hcd⟩ := hst.out.2.2.2.now (by have := HD.out.2.1; omega)
   obtain ⟨x, hx⟩ : ∃ x, ds.getD i 0 = x := ⟨_, rfl⟩
   have xd := hcd i (by have := HD.out.2.1; omega)
   rw [hx] at xd
   have HTK : Hid (W ++ (wantF own fr hs).take (i + 1) = W1 ++ [fr ++ [x]]) := Lib.hid (by
    rw [want_take (x := x) (by rw [HD.out.1, HD.out.2.1]; exact hlt) (by rw [HD.out.1]; exact hx), ← List.append_assoc, hW1])
   have hnw : nw1 ≤ 916 := by
    rw [← hp.wlen, ← hW1, List.length_append, List.length_take]
    have := HP.out.2.2.2.2.2
    omega
   obtain ⟨c0, c1, c2, c3, c4, c5⟩ := hp.cells
   have HPI := Lib.hid hp
   have hfrn : ∀ X, Below wr.heap.size wr X → Calls Tryz.prog 66 #[.slice Af nf cf] X (Ints.OwnI fr nf X) := fun X hX => Ints.clone_row Af cf nf fr HP.out.2.2.2.1 X ((hst.out.2.2.1.now.below hX).more hX.size) (by omega)
   obtain ⟨y0, hy0⟩ : ∃ y : Int, (((fr ++ [x]).length : Nat) : Int) = y := ⟨_, rfl⟩
   obtain ⟨y1, hy1⟩ : ∃ y, (fr ++ [x]).getD 0 0 = y := ⟨_, rfl⟩
   obtain ⟨y2, hy2⟩ : ∃ y, (fr ++ [x]).getD 1 0 = y := ⟨_, rfl⟩
   have hpo : ∀ X A c, Ns .i64 X X.heap.size A (fr ++ [x]) → Calls Tryz.prog 59 #[.slice A (nf + 1) c] X (fun e w' => e = .returned (.agg #[.int .i64 y0, .int .i64 y1, .int .i64 y2]) ∧ Below X.heap.size X w') := fun X A c hN => by
    have h := pathOf_any A c (nf + 1) (fr ++ [x]) (by simp [HP.out.2.2.2.1]) X hN
    unfold pV at h
    rw [hy0, hy1, hy2] at h
    exact h
   have how : ∀ X, Below wr.heap.size wr X → X.ownsRow w.heap.size 101 3 (.slice Aw1 nw1 cw1) nw1 (pcells W1) ∧ Bn pb 96 [.int .i64 id, hd tb1, .bool bg, .slice Av1 nv1 cv1, .slice Aw1 nw1 cw1, .map (some mb1)] X ∧ w.heap.size ≤ X.heap.size := fun X hX => ⟨own_below HPI.out.want hX (Nat.le_refl _), HPI.out.blk.same (hX.block _ HPI.out.blk.lt), Nat.le_trans HPI.out.old.size hX.size⟩
   have HC := Lib.hid (And.intro hfrn (And.intro hpo how))
   have hpw : (Value.slice Aw1 nw1 cw1).ownBlock ≠ some pb := own_ne hp.want hp.blk (by decide)
   have HQ : Hid (∀ X, Below wr.heap.size wr X → X.cell? ⟨pb, 4, none⟩ = some (.slice Aw1 nw1 cw1)) := Lib.hid fun X hX => (hX.cell (p := ⟨pb, 4, none⟩) (hp.lt _ hp.hpb)).trans c4
   have p0 := HQ.out (wr.alloc (.cells #[.int .i64 x] 3)) ((Below.refl _ wr).alloc (Nat.le_refl _) _)
   have hcf : ∀ (a : Array Value) (w : World), (callFunc 66 a).run Tryz.prog w = .ok (.enter 66 a) w := fun a w => by simp [go_sem]
   have hcf2 : ∀ (a : Array Value) (w : World), (callFunc 59 a).run Tryz.prog w = .ok (.enter 59 a) w := fun a w => by simp [go_sem]
   have HNF := Lib.hid HP.out.2.2.2.1
   have HPC : Hid (pcell (fr ++ [x]) = [.int .i64 y0, .int .i64 y1, .int .i64 y2]) := Lib.hid (by unfold pcell; rw [hy0, hy1, hy2])
   clear hp hcd hx hW1 hfrn hpo how hy0 hy1 hy2 c0 c1 c2 c3 c5
   go_wp2_with fail
   go_region_law (first
    | (refine Blk.step_call (by rfl) 66 _ _ (by rfl) (hcf _ _) #[.slice Af nf cf] (by first | rfl | (simp [Act.eval, Act.put]; done)) (HC.out.1 _ (by first | exact (Below.refl _ wr).drew | exact ((Below.refl _ wr).alloc (Nat.le_refl _) _).drew | exact (Below.refl _ wr).drew.alloc (by simp) _ | exact (Below.refl _ wr).alloc (Nat.le_refl _) _)) (fun e w' h => by obtain ⟨_, _, rfl, _⟩ := h; exact ⟨_, rfl⟩) ?_; rintro v3 w3 ⟨A3, c3, hv3, o3, b3⟩; injection hv3 with hv3; subst hv3; have bw3 : Below wr.heap.size wr w3 := (by first | exact (show Below wr.heap.size wr w3 from ⟨b3.os, b3.tape, b3.output, b3.size, b3.block⟩) | exact ((Below.refl _ wr).alloc (Nat.le_refl _) (.cells #[.int .i64 x] 3)).trans (Below.mono (show Below (wr.alloc (.cells #[.int .i64 x] 3)).heap.size (wr.alloc (.cells #[.int .i64 x] 3)) w3 from ⟨b3.os, b3.tape, b3.output, b3.size, b3.block⟩) (by simp))); have q3 := HQ.out w3 bw3; have p3 := HQ.out (w3.alloc (.cells #[.int .i64 x] 3)) (bw3.alloc bw3.size _))
    | (refine Blk.step_call (by rfl) 59 _ _ (by rfl) (hcf2 _ _) #[.slice (some ⟨g5, 0, none⟩) (nf + 1) cap5] (by first | rfl | (simp [Act.eval]; done)) (HC.out.2.1 _ _ _ (ns_app o5 HNF.out)) (fun e w' h => by obtain ⟨rfl, _⟩ := h; exact ⟨_, rfl⟩) ?_; rintro v6 w6 ⟨hv6, b6⟩; injection hv6 with hv6; subst hv6; have bw6 : Below wr.heap.size wr w6 := bw5.trans (b6.mono bw5.size); have q6 := HQ.out w6 bw6; have p6 := HQ.out (w6.alloc (.cells #[.int .i64 y0, .int .i64 y1, .int .i64 y2] 101)) (bw6.alloc bw6.size _))
    | (refine step_append_lies _ (by rfl) _ _ _ (by rfl) wr.heap.size 3 i0 _ 1 8 Tryz.underlying24 HI.out.1.1 HI.out.1.2.1 HI.out.1.2.2.1 HI.out.1.2.2.2 (by rfl) (by omega) (.slice A3 nf c3) nf (nums .i64 fr) (by rfl) ((own_base o3.out (by simp)).alloc _) ⟨w3.heap.size, 0, none⟩ 1 1 [.int .i64 x] (by rfl) (by rfl) (World.news_of_block (World.alloc_heap_new w3 _)) (by simp [Value.oneCell']) (by omega) (by unfold maxLen; omega) (by omega) (Nat.le_trans b3.size (by simp)) (w3.heap.size + 1) (by simp) ?_; intro g5 cap5 w5 o5 gr5 at5 hl5; have bw5 : Below wr.heap.size wr w5 := (bw3.alloc bw3.size _).grown gr5 (Nat.le_trans bw3.size (by simp)) (fun g hg => Nat.le_trans (by simp) (o3.out.lt g hg).1); have q5 := HQ.out w5 bw5)
    | (refine step_append_lies _ (by rfl) _ _ _ (by rfl) wr.heap.size 3 i0 _ 1 8 Tryz.underlying24 HI.out.1.1 HI.out.1.2.1 HI.out.1.2.2.1 HI.out.1.2.2.2 (by rfl) (by omega) (.slice A3 nf c3) nf (nums .i64 fr) (by rfl) (own_base o3.out (by simp)) ⟨wr.heap.size, 0, none⟩ 1 1 [.int .i64 x] (by rfl) (by rfl) (World.news_of_block ((b3.block _ (by simp)).trans (World.alloc_heap_new wr _))) (by simp [Value.oneCell']) (by omega) (by unfold maxLen; omega) (by omega) (Nat.le_trans (by simp) b3.size) w3.heap.size rfl ?_; intro g5 cap5 w5 o5 gr5 at5 hl5; have bw5 : Below wr.heap.size wr w5 := bw3.grown gr5 bw3.size (fun g hg => Nat.le_trans (by simp) (o3.out.lt g hg).1); have q5 := HQ.out w5 bw5)
    | (refine step_append_lies _ (by rfl) _ _ _ (by rfl) w.heap.size 101 j0 _ 3 24 Tryz.underlying94 HI.out.2.1 HI.out.2.2.1 HI.out.2.2.2.1 HI.out.2.2.2.2 (by rfl) (by omega) (.slice Aw1 nw1 cw1) nw1 (pcells W1) (by rfl) (HC.out.2.2 _ (bw6.alloc bw6.size _)).1 ⟨w6.heap.size, 0, none⟩ 1 1 [.int .i64 y0, .int .i64 y1, .int .i64 y2] (by rfl) (by rfl) (World.news_of_block (World.alloc_heap_new w6 _)) (by simp [Value.oneCell']) (by omega) (by unfold maxLen; omega) (by omega) (HC.out.2.2 _ (bw6.alloc bw6.size _)).2.2 (w6.heap.size + 1) (by simp) ?_; intro g7 cap7 w7 o7 gr7 at7 hl7; have B7 := (HC.out.2.2 _ (bw6.alloc bw6.size _)).2.1.kept gr7 (fun e => hpw e.symm); have z4 := B7.frozen 4; have y4 : w7.cell? ⟨pb, 4, none⟩ = some (.slice Aw1 nw1 cw1) := B7.cell 4))
   all_goals
    have HZ : Hid (PJ (fun k => F1 k ∨ k = g7) w (w7.setCell ⟨pb, 4, none⟩ (.slice (some ⟨g7, 0, none⟩) (nw1 + 1) cap7)) pb id own bg vec (W ++ (wantF own fr hs).take (i + 1)) st ∧ Stp F V (fun k => F1 k ∨ k = g7) (w7.setCell ⟨pb, 4, none⟩ (.slice (some ⟨g7, 0, none⟩) (nw1 + 1) cap7)) ∧ Sta (fun k => F1 k ∨ k = g7) (w7.setCell ⟨pb, 4, none⟩ (.slice (some ⟨g7, 0, none⟩) (nw1 + 1) cap7)) (fun X => Ns .i64 X X.heap.size Af fr) ∧ Sta (fun k => F1 k ∨ k = g7) (w7.setCell ⟨pb, 4, none⟩ (.slice (some ⟨g7, 0, none⟩) (nw1 + 1) cap7)) (fun X => Ns .i64 X X.heap.size (some ⟨gd, od, none⟩) ds)) := Lib.hid (by
     have hP := HPI.out.push (p := fr ++ [x]) (bw6.alloc bw6.size _) (by rw [HPC.out]; exact o7) gr7 (at7.imp (fun q => q) fun q => by rw [q]; simp) (by omega)
     rw [HTK.out]
     exact ⟨⟨_, _, _, _, _, _, _, _, _, _, hP.1⟩, hst.out.2.1.trans hP.2, sta_stp hst.out.2.2.1 hP.2, sta_stp hst.out.2.2.2 hP.2⟩)
    clear hst bw6 o7 gr7 at7 hl7 B7 q6 p6 b6 q5 bw5 o5 gr5 at5 hl5 q3 p3 bw3 b3 o3 hcf hcf2 p0
    go_wp2_with fail
    go_roundw
    case rel => exact ⟨i + 1, _, by go_num, by omega, HZ⟩
    case measure => simp only [intOf]; omega
  ·have him : i = md := by omega
   subst him
   have HF : Hid (WantQ F w V pb id own bg vec (W ++ wantF own fr hs) st (.returned (.tuple #[])) wr) := Lib.hid ⟨rfl, F1, Lib.hid ⟨by
    have h := hst.out.1
    rwa [List.take_of_length_le (by unfold wantF; rw [List.length_map, HD.out.1, HD.out.2.1]; omega)] at h, hst.out.2.1⟩⟩
   clear hst
   go_wp2_with fail
   refine bodyPost_end (v := .tuple #[]) (results_none rfl _ _ _) rfl HF.out
end
end Pull
end Go.Proofs.YtkfdplfgaddkmaaGreat

/-
 A pull is begun (layer 19).
-/
namespace Go.Proofs.YtkfdplfgaddkmaaGreat
namespace Pull
open Go.RowKit Blk Go.Maps Disk Tree Vers Num Ring Mend
open Go.Proofs.YtkfdplfgaddkmaaGreat.Code hiding Bn
attribute [local go_sem ↓] Go.wp_at_zero Go.wp_at_succ
section
variable {F F' G Ft : Nat → Prop} {w V Z : World} {pb tb mb nv cv nw cw : Nat} {id : Int} {vec : List Int} {own st : List Rc} {bg : Bool} {W : List (List Int)} {Av Aw : Option Addr} {D : Vl}
theorem PI.restamp (h : PI F w V pb id own bg vec W st tb Ft mb Av nv cv Aw nw cw D) (hc : Chg (fun k => k = pb) V Z) {bg' : Bool} {vec' : List Int} {Av' : Option Addr} {nv' cv' : Nat} (hblk : Bn pb 96 [.int .i64 id, hd tb, .bool bg', .slice Av' nv' cv', .slice Aw nw cw, .map (some mb)] Z) (hlen : vec'.length = nv') (hrow : Z.ownsRow w.heap.size 2 1 (.slice Av' nv' cv') nv' (nums .i64 vec')) (h16 : nv' ≤ 16)
  (hvo : ∀ g, (Value.slice Av' nv' cv').ownBlock = some g → (F g ∧ ¬ Ft g) ∨ V.heap.size ≤ g) (hF : ∀ k, F k → F' k) (hF' : ∀ k, F' k → F k ∨ (Value.slice Av' nv' cv').ownBlock = some k) (hvF : ∀ g, (Value.slice Av' nv' cv').ownBlock = some g → F' g) : PI F' w Z pb id own bg' vec' W st tb Ft mb Av' nv' cv' Aw nw cw D ∧ Stp F V F' Z := by
 have hnew : ∀ k, k = pb → w.heap.size ≤ k := fun k e => by rw [e]; exact h.new _ h.hpb
 have hk : ∀ k, k < V.heap.size → k ≠ pb → Z.heap[k]? = V.heap[k]? := fun k hk h1 => hc.block k hk h1
 refine ⟨⟨hblk, h.tree.chg hc (fun k hk e => h.notb.1 (e ▸ hk)) hnew, hlen, hrow, h.wlen, own_keep h.want (fun g hg => hk g (h.want.lt g hg).2 (fun e => own_ne h.want h.blk (by decide) (e ▸ hg))), h.map.same (hk mb h.map.lt (fun e => h.map.ne h.blk e.symm)), (h.hold.keep hc.size fun j hj _ hM => hk j hj (fun e => hM (.inl e))).mono hF (fun _ _ _ e => e), fun k hk => hF k (h.sub k hk), h.notb, fun g hg => ⟨hvF g hg, ?_⟩, fun g hg => ⟨hF g (h.wown g hg).1, (h.wown g hg).2⟩, hF _ h.mown, hF _ h.hpb, fun k hk => ?_, fun k hk => ?_, h.old.trans (hc.below hnew h.old.size), h.few, h16, h.wfew, h.lst, h.dlen⟩, hc.mono fun k e => by rw [e]; exact h.hpb, fun k hk => ?_⟩
 ·rcases hvo g hg with q | q
  ·exact q.2
  ·exact fun e => by have := h.lt _ (h.sub _ e); omega
 ·rcases hF' k hk with e | e
  ·exact Nat.lt_of_lt_of_le (h.lt k e) hc.size
  ·exact (hrow.lt k e).2
 ·rcases hF' k hk with e | e
  ·exact h.new k e
  ·exact (hrow.lt k e).1
 ·rcases hF' k hk with e | e
  ·exact .inl e
  ·exact (hvo k e).imp (fun q => q.1) fun q => q
set_option maxRecDepth 100000 in
theorem PJ.begin_no (h : PJ F w V pb id own bg vec W st) (A Ah : Option Addr) (c ch n nh : Nat) (v : List Int) (hn : v.length = n) (hbig : n ≤ 140737488355328) (hv : Ns .i64 V V.heap.size A v) (hno : bg = true ∨ ¬ Vect.RightV v) :
  Calls Tryz.prog 24 #[hd pb, .slice A n c, .slice Ah nh ch] V (fun e w' => e = .returned (.bool false) ∧ Below V.heap.size V w') := by
 obtain ⟨tb, Ft, mb, Av, nv, cv, Aw, nw, cw, D, h⟩ := h
 obtain ⟨c0, c1, c2, c3, c4, c5⟩ := h.cells
 have K := Lib.hid (Vect.right_v A c n v hn V hv hbig)
 unfold hd at *
 cases bg
 ·rw [decide_eq_false (hno.resolve_left (by simp))] at K
  clear h hn hbig hv hno c0 c1 c3 c4 c5
  go_enter Tryz.func24, Tryz.ntmps24
  go_wp2_with fail
  refine K.out.mono ?_
  rintro e w1 ⟨rfl, b1⟩
  have HB := Lib.hid b1
  clear b1 K
  go_wp2_with fail
  go_ret
  exact ⟨rfl, HB.out⟩
 ·clear h hn hbig hv hno c0 c1 c3 c4 c5 K
  go_enter Tryz.func24, Tryz.ntmps24
  go_wp2_with fail
  go_ret
  exact ⟨rfl, Below.refl _ _⟩
def DoneP (F : Nat → Prop) (w V : World) (pb : Nat) (id : Int) (own : List Rc) (bg : Bool) (vec : List Int) (W : List (List Int)) (st : List Rc) (e : Ending) (w' : World) : Prop := e = .returned (.bool true) ∧ ∃ F', Hid (PJ F' w w' pb id own bg vec W st ∧ Stp F V F' w')
set_option maxRecDepth 100000 in
set_option maxHeartbeats 1000000 in
theorem PJ.begin_yes (h : PJ F w V pb id own false vec W st) (hW : W.length ≤ 900) (A Ah : Option Addr) (c ch n nh : Nat) (v hs : List Int) (hn : v.length = n) (hnh : hs.length = nh) (hok : Vect.RightV v) (hv : Sta F V (fun X => Ns .i64 X X.heap.size A v)) (hhs : Sta F V (fun X => Ns .u64 X X.heap.size Ah hs)) :
  Calls Tryz.prog 24 #[hd pb, .slice A n c, .slice Ah nh ch] V (DoneP F w V pb id own true v (W ++ wantF own [] hs) st) := by
 have h16 : n ≤ 16 := by rw [← hn]; exact hok.2.1
 obtain ⟨tb, Ft, mb, Av, nv, cv, Aw, nw, cw, D, h⟩ := h
 obtain ⟨c0, c1, c2, c3, c4, c5⟩ := h.cells
 have K := Lib.hid (Vect.right_v A c n v hn V hv.now (by omega))
 rw [decide_eq_true hok] at K
 have HP := Lib.hid (And.intro h (And.intro hv (And.intro hhs (And.intro hn (And.intro hnh (And.intro hW h16))))))
 unfold hd at *
 clear h hn hv hhs hnh hW hok c0 c1 c3 c4 c5 h16
 go_enter Tryz.func24, Tryz.ntmps24
 go_wp2_with fail
 refine K.out.mono ?_
 rintro e w1 ⟨rfl, b1⟩
 have h1 := HP.out.1.below b1
 obtain ⟨U, hU⟩ : ∃ U, w1.setCell ⟨pb, 2, none⟩ (.bool true) = U := ⟨_, rfl⟩
 have hgU : w1.grownBy U (some pb) := by rw [← hU]; exact Blk.gset w1 pb 2 _
 have hcU : Chg (fun k => k = pb) w1 U := Chg.of_grown hgU fun g e => by injection e with e; exact e.symm
 have hbU : Bn pb 96 [.int .i64 id, hd tb, .bool true, .slice Av nv cv, .slice Aw nw cw, .map (some mb)] U := by rw [← hU]; exact h1.blk.set 2 _
 have h2 := h1.restamp (F' := F) hcU hbU h1.len (own_keep h1.row fun g hg => hcU.block g (h1.row.lt g hg).2 fun e => own_ne h1.row h1.blk (by decide) (e ▸ hg)) h1.vfew (fun g hg => .inl (h1.vown g hg)) (fun k hk => hk) (fun k hk => .inl hk) (fun g hg => (h1.vown g hg).1)
 have hS : Stp F V F U := (Stp.of_below b1).trans h2.2
 have d2 := h1.blk.cell 2
 have f2 := h1.blk.frozen 2
 simp only [List.getElem?_cons_zero, List.getElem?_cons_succ] at d2
 have K3 := Lib.hid (cloneW_any A c n v HP.out.2.2.2.1 U (sta_stp HP.out.2.1 hS).now (by have := HP.out.2.2.2.2.2.2; omega))
 have H2 := Lib.hid (And.intro h2.1 hS)
 clear K b1 h1 h2 hS hcU hbU hgU c2
 go_wp2_with fail
 refine K3.out.mono ?_
 rintro e w3 ⟨A1, c1', rfl, h3, b3⟩
 have h4 := H2.out.1.below b3
 obtain ⟨Z, hZ⟩ : ∃ Z, w3.setCell ⟨pb, 3, none⟩ (.slice A1 n c1') = Z := ⟨_, rfl⟩
 have hgZ : w3.grownBy Z (some pb) := by rw [← hZ]; exact Blk.gset w3 pb 3 _
 have hcZ : Chg (fun k => k = pb) w3 Z := Chg.of_grown hgZ fun g e => by injection e with e; exact e.symm
 have hbZ : Bn pb 96 [.int .i64 id, hd tb, .bool true, .slice A1 n c1', .slice Aw nw cw, .map (some mb)] Z := by rw [← hZ]; exact h4.blk.set 3 _
 have h3l : ∀ g, (Value.slice A1 n c1').ownBlock = some g → U.heap.size ≤ g := fun g hg => (h3.out.lt g hg).1
 have h5 := H2.out.1.below b3
 have hrZ : Z.ownsRow w.heap.size 2 1 (.slice A1 n c1') n (nums .i64 v) := own_base (own_keep h3.out fun g hg => hcZ.block g (h3.out.lt g hg).2 fun e => by have := h3l g hg; have := H2.out.1.lt _ H2.out.1.hpb; omega) H2.out.1.old.size
 -- over the world behind the clone, whose new row is none of the pull's yet
 have h6 : PI (fun k => F k ∨ (Value.slice A1 n c1').ownBlock = some k) w Z pb id own true v W st tb Ft mb A1 n c1' Aw nw cw D ∧ Stp F U (fun k => F k ∨ (Value.slice A1 n c1').ownBlock = some k) Z := by
  have hcUZ : Chg (fun k => k = pb) U Z := (Chg.of_below (F := fun k => k = pb) b3).trans hcZ fun k e => .inl e
  exact H2.out.1.restamp hcUZ hbZ HP.out.2.2.2.1 hrZ HP.out.2.2.2.2.2.2 (fun g hg => .inr (h3l g hg)) (fun k hk => .inl hk) (fun k hk => hk) (fun g hg => .inr hg)
 have hS := H2.out.2.trans h6.2
 have d3 := h4.blk.cell 3
 have f3 := h4.blk.frozen 3
 simp only [List.getElem?_cons_zero, List.getElem?_cons_succ] at d3
 have K4 := Lib.hid (PJ.want ⟨_, _, _, _, _, _, _, _, _, _, h6.1⟩ HP.out.2.2.2.2.2.1 none Ah 0 ch 0 nh [] hs rfl HP.out.2.2.2.2.1 (by omega) (fun X _ _ => ns_nil) (sta_stp HP.out.2.2.1 hS))
 have H6 := Lib.hid hS
 clear K3 h3 b3 h4 h5 h6 hS hcZ hbZ hgZ hrZ h3l hU f2 d2 H2
 unfold hd at K4
 go_wp2_with fail
 refine K4.out.mono ?_
 rintro e w5 ⟨rfl, F5, h7⟩
 have HF : Hid (DoneP F w V pb id own true v (W ++ wantF own [] hs) st (.returned (.bool true)) w5) := Lib.hid ⟨rfl, F5, Lib.hid ⟨h7.out.1, H6.out.trans h7.out.2⟩⟩
 clear h7 K4 hZ d3 f3
 go_wp2_with fail
 go_ret
 exact HF.out
end
end Pull
end Go.Proofs.YtkfdplfgaddkmaaGreat

/-
 A path is no more wanted; records are staged (layer 19).
-/
namespace Go.Proofs.YtkfdplfgaddkmaaGreat
namespace Pull
open Go.RowKit Blk Go.Maps Disk Tree Vers Num Ring Mend
open Go.Proofs.YtkfdplfgaddkmaaGreat.Code hiding Bn
attribute [local go_sem ↓] Go.wp_at_zero Go.wp_at_succ
theorem own_up {w : World} {base base' : Nat} {e : TypeId} {size : Nat} {v : Value} {n : Nat} {xs : List Value} (h : w.ownsRow base e size v n xs) (hB : ∀ g, v.ownBlock = some g → base' ≤ g) : w.ownsRow base' e size v n xs := by
 refine ⟨h.1, ?_⟩
 rcases h.2 with h2 | ⟨g, cap, cur, hv, hb, h1⟩
 ·exact .inl h2
 ·exact .inr ⟨g, cap, cur, hv, hB g (by rw [hv]; rfl), h1⟩
theorem erase_idx {p : List Int} : ∀ (W : List (List Int)) (i : Nat), i < W.length → W.getD i [] = p → (∀ j, j < i → W.getD j [] ≠ p) → W.erase p = W.eraseIdx i
 | [], i, h, _, _ => by simp at h
 | x :: W, 0, _, h, _ => by
  have h : x = p := h
  subst h
  simp
 | x :: W, i + 1, hl, h, hn => by
  have h0 : x ≠ p := hn 0 (by omega)
  rw [List.erase_cons_tail (by simpa using h0), List.eraseIdx_cons_succ, erase_idx W i (by simpa using hl) h fun j hj => hn (j + 1) (by omega)]
section
variable {F F' G Ft : Nat → Prop} {w V Z : World} {pb tb mb nv cv nw cw : Nat} {id : Int} {vec : List Int} {own st : List Rc} {bg : Bool} {W : List (List Int)} {Av Aw : Option Addr} {D : Vl}
theorem PI.less (h : PI F w V pb id own bg vec W st tb Ft mb Av nv cv Aw nw cw D) {X Y : World} {W' : List (List Int)} {n' : Nat} (hX : Below V.heap.size V X) (ho : Y.ownsRow w.heap.size 101 3 (.slice Aw n' cw) n' (pcells W')) (hl : W'.length = n') (hg : X.grownBy Y (Value.slice Aw nw cw).ownBlock) (hn : n' ≤ nw) :
  PI F w (Y.setCell ⟨pb, 4, none⟩ (.slice Aw n' cw)) pb id own bg vec W' st tb Ft mb Av nv cv Aw n' cw D ∧ Stp F V F (Y.setCell ⟨pb, 4, none⟩ (.slice Aw n' cw)) := by
 have hs := hX.size
 have hob : (Value.slice Aw n' cw).ownBlock = (Value.slice Aw nw cw).ownBlock := by cases Aw <;> rfl
 have hgw : ∀ g, (Value.slice Aw nw cw).ownBlock = some g → F g := fun g e => (h.wown g e).1
 obtain ⟨Z, hZ⟩ : ∃ Z, Y.setCell ⟨pb, 4, none⟩ (.slice Aw n' cw) = Z := ⟨_, rfl⟩
 have gZ : Y.grownBy Z (some pb) := by rw [← hZ]; exact Blk.gset Y pb 4 _
 have hpw : (Value.slice Aw nw cw).ownBlock ≠ some pb := own_ne h.want h.blk (by decide)
 have bX := h.blk.same (hX.block _ h.blk.lt)
 have bY : Bn pb 96 [.int .i64 id, hd tb, .bool bg, .slice Av nv cv, .slice Aw nw cw, .map (some mb)] Y := bX.kept hg (fun e => hpw e.symm)
 have bZ := bY.set 4 (.slice Aw n' cw)
 rw [hZ] at bZ ⊢
 have hk : ∀ k, k < V.heap.size → k ≠ pb → (Value.slice Aw nw cw).ownBlock ≠ some k → Z.heap[k]? = V.heap[k]? := fun k hk h1 h2 => (gZ.block k (by have := hg.size; omega) (fun e => h1 (by injection e))).trans ((hg.block k (by omega) (fun e => h2 e.symm)).trans (hX.block k hk))
 have hc : Chg (fun k => k = pb ∨ (Value.slice Aw nw cw).ownBlock = some k) V Z := ⟨gZ.os.trans (hg.os.trans hX.os), gZ.tape.trans (hg.tape.trans hX.tape), gZ.output.trans (hg.output.trans hX.output), Nat.le_trans hs (Nat.le_trans hg.size gZ.size), fun k h1 h2 => hk k h1 (fun e => h2 (.inl e)) fun e => h2 (.inr e)⟩
 have hnew : ∀ k, k = pb ∨ (Value.slice Aw nw cw).ownBlock = some k → w.heap.size ≤ k := fun k e => e.elim (fun e => by rw [e]; exact h.new _ h.hpb) fun e => h.new _ (hgw k e)
 have hft : ∀ k, Ft k → ¬ (k = pb ∨ (Value.slice Aw nw cw).ownBlock = some k) := fun k hk e => e.elim (fun e => h.notb.1 (e ▸ hk)) fun e => (h.wown k e).2 hk
 refine ⟨⟨bZ, h.tree.chg hc hft hnew, h.len, own_keep h.row (fun g hg => hk g (h.row.lt g hg).2 (fun e => own_ne h.row h.blk (by decide) (e ▸ hg)) (own_ne2 h.row h.want (by decide) hg)), hl, own_keep ho fun g hg => gZ.block g (ho.lt g hg).2 fun e => ?_, h.map.same (hk mb h.map.lt (fun e => h.map.ne h.blk e.symm) (fun e => ?_)), ?_, h.sub, h.notb, h.vown, fun g hg => h.wown g (hob ▸ hg), h.mown, h.hpb, fun k hk => ?_, h.new, h.old.trans (hc.below hnew h.old.size), h.few, h.vfew, by have := h.wfew; omega, h.lst, h.dlen⟩, hc.mono fun k e => e.elim (fun e => by rw [e]; exact h.hpb) (hgw k), fun k hk => .inl hk⟩
 ·exact hpw (by rw [← hob, hg]; injection e with e; rw [e])
 ·obtain ⟨cur, hcur⟩ := own_block h.want e
  exact h.map.ne hcur rfl
 ·refine (h.hold.keep hc.size fun j hj _ hM => hk j hj (fun e => hM (.inl e)) fun e => hM (.inr (.inr (.inr e)))).mono (fun j hj => hj) fun j _ _ hM => ?_
  rcases hM with e | e | e | e
  ·exact .inl e
  ·exact .inr (.inl e)
  ·exact .inr (.inr (.inl e))
  ·exact .inr (.inr (.inr (hob ▸ e)))
 ·have hz := gZ.size
  have hy := hg.size
  have := h.lt k hk
  omega
theorem PI.stage (h : PI F w V pb id own bg vec W st tb Ft mb Av nv cv Aw nw cw D) {X Y : World} {D' : Vl} {st' : List Rc} (hX : Below V.heap.size V X) (hg : X.grownBy Y (some mb)) (hm : MI Y mb D') (hst : Lst st') (hd : D'.length ≤ st'.length) (hF : ∀ k, F k → F' k) (hF' : ∀ k, F' k → F k ∨ (V.heap.size ≤ k ∧ k < X.heap.size)) (hh : HoldP F' (Mp pb tb mb (.slice Aw nw cw)) Y D' st') :
  PI F' w Y pb id own bg vec W st' tb Ft mb Av nv cv Aw nw cw D' ∧ Stp F V F' Y := by
 have hs := hX.size
 have hy := hg.size
 have hk : ∀ k, k < V.heap.size → k ≠ mb → Y.heap[k]? = V.heap[k]? := fun k hk h1 => (hg.block k (by omega) (fun e => h1 (by injection e))).trans (hX.block k hk)
 have hc : Chg (fun k => k = mb) V Y := ⟨hg.os.trans hX.os, hg.tape.trans hX.tape, hg.output.trans hX.output, Nat.le_trans hs hy, fun k h1 h2 => hk k h1 h2⟩
 have hnew : ∀ k, k = mb → w.heap.size ≤ k := fun k e => by rw [e]; exact h.new _ h.mown
 have hne : ∀ {v : Value} {n : Nat} {xs : List Value} {t : TypeId} {sz base : Nat}, V.ownsRow base t sz v n xs → ∀ g, v.ownBlock = some g → g ≠ mb := fun ho g hg e => by
  obtain ⟨cur, hcur⟩ := own_block ho hg
  exact h.map.ne hcur e
 refine ⟨⟨h.blk.same (hk pb h.blk.lt (h.map.ne h.blk)), h.tree.chg hc (fun k hk e => h.notb.2 (e ▸ hk)) hnew, h.len, own_keep h.row (fun g hg => hk g (h.row.lt g hg).2 (hne h.row g hg)), h.wlen, own_keep h.want (fun g hg => hk g (h.want.lt g hg).2 (hne h.want g hg)), hm, hh, fun k hk => hF k (h.sub k hk), h.notb, fun g hg => ⟨hF g (h.vown g hg).1, (h.vown g hg).2⟩, fun g hg => ⟨hF g (h.wown g hg).1, (h.wown g hg).2⟩, hF _ h.mown, hF _ h.hpb, fun k hk => ?_, fun k hk => ?_, h.old.trans (hc.below hnew h.old.size), h.few, h.vfew, h.wfew, hst, hd⟩, hc.mono fun k e => by rw [e]; exact h.mown, fun k hk => ?_⟩
 ·rcases hF' k hk with e | e
  ·have := h.lt k e; omega
  ·omega
 ·rcases hF' k hk with e | e
  ·exact h.new k e
  ·have := h.old.size; omega
 ·exact (hF' k hk).imp (fun e => e) fun e => e.1
end
end Pull
end Go.Proofs.YtkfdplfgaddkmaaGreat

/-
 The paths that are wanted, told in new memory (layer 19).
-/
namespace Go.Proofs.YtkfdplfgaddkmaaGreat
namespace Pull
open Go.RowKit Blk Go.Maps Disk Tree Vers Num Ring Mend
open Go.Proofs.YtkfdplfgaddkmaaGreat.Code hiding Bn
attribute [local go_sem ↓] Go.wp_at_zero Go.wp_at_succ
structure Pw where
 A : Option Addr
 p : List Int
 c : Nat
def pwc (e : Pw) : Value := .slice e.A e.p.length e.c
def OwnP (base : Nat) (V : World) (v : Value) (m : Nat) (es : List Pw) : Prop := es.length = m ∧ V.ownsRow base 24 1 v m (es.map pwc) ∧ ∀ e ∈ es, V.ownsRow base 3 1 (pwc e) e.p.length (nums .i64 e.p)
theorem ownP_nil (base : Nat) (V : World) : OwnP base V (.slice none 0 0) 0 [] := ⟨rfl, World.ownsRow_nil _ _ _ _, fun e he => by cases he⟩
theorem OwnP.below {base m : Nat} {V V' : World} {v : Value} {es : List Pw} (h : OwnP base V v m es) (hb : Below V.heap.size V V') : OwnP base V' v m es :=
 ⟨h.1, own_below h.2.1 hb (Nat.le_refl _), fun e he => own_below (h.2.2 e he) hb (Nat.le_refl _)⟩
theorem OwnP.chg {G : Nat → Prop} {base m : Nat} {V V' : World} {v : Value} {es : List Pw} (h : OwnP base V v m es) (hc : Chg G V V') (hG : ∀ k, G k → k < base) : OwnP base V' v m es :=
 ⟨h.1, own_keep h.2.1 fun g hg => hc.block g (h.2.1.lt g hg).2 fun e => by have := hG g e; have := (h.2.1.lt g hg).1; omega, fun e he => own_keep (h.2.2 e he) fun g hg => hc.block g ((h.2.2 e he).lt g hg).2 fun q => by have := hG g q; have := ((h.2.2 e he).lt g hg).1; omega⟩
theorem OwnP.add {base m : Nat} {X Y : World} {v v' : Value} {es : List Pw} {e : Pw} (h : OwnP base X v m es) (he : X.ownsRow base 3 1 (pwc e) e.p.length (nums .i64 e.p)) (ho : Y.ownsRow base 24 1 v' (m + 1) (es.map pwc ++ [pwc e])) (hg : X.grownBy Y v.ownBlock) : OwnP base Y v' (m + 1) (es ++ [e]) :=
 ⟨by rw [List.length_append, h.1]; rfl, by rw [List.map_append]; exact ho, fun q hq => by
  rcases List.mem_append.1 hq with hq | hq
  ·exact own_keep (h.2.2 q hq) fun g hg' => hg.block g ((h.2.2 q hq).lt g hg').2 fun e => own_ne2 (h.2.2 q hq) h.2.1 (by decide) hg' e.symm
  ·obtain rfl := List.mem_singleton.1 hq
   exact own_keep he fun g hg' => hg.block g (he.lt g hg').2 fun e => own_ne2 he h.2.1 (by decide) hg' e.symm⟩
section
variable {P : Program} {w : World}
theorem wpList_append_pw {ops : Array Oper} {rest : List Oper} {o : Oper} {a : Act} {Q : Exit → Act → World → Prop} (hgd : o.guard = none) (s x : Operand) (t : TypeId)
  (ho : o.op = .call { callee := .builtin .append, args := #[s, x], argTypes := #[t, t] })
  (base : Nat) (e : TypeId) (i : TypeInfo) (z : Value) (bytes : Nat) (ht : P.underlying t = some (.slice e)) (hi : P.info? e = some i) (hz : i.zero = some z)
  (hsize : i.size = 1) (hby : i.bytes = bytes) (hzs : z.cells.size = 1)
  (v : Value) (n : Nat) (l : List Value) (hs : a.eval s = v) (hown : w.ownsRow base e 1 v n l) (A : Option Addr) (k c1 : Nat) (c : Nat)
  (hx : a.eval x = .slice (some ⟨w.heap.size, 0, none⟩) 1 c)
  (hbytes : (n + 1) * bytes ≤ 140737488355328) (hn : n + 1 ≤ 140737488355328) (hbase : base ≤ w.heap.size)
  (h : ∀ v' w', w'.ownsRow base e 1 v' (n + 1) (l ++ [.slice A k c1]) → w.grownBy w' v.ownBlock → wpList P ops Q rest (a.put o.dst v') w') :
  wpList P ops Q (o :: rest) a (w.alloc (.cells #[.slice A k c1] e)) := by
 refine wpList_append_own_at _ hgd s x t ho base e i z 1 bytes ht hi hz hsize hby hzs (by omega) v n l hs (hown.alloc _) ⟨w.heap.size, 0, none⟩ 1 c [.slice A k c1] hx rfl ?_ ?_ (by unfold maxLen; omega) hbytes (by simp; omega) ?_
 ·intro j u' hj
  match j, hj with
  | 0, hj => simp at hj; subst hj; simp [Addr.add]
 ·intro u' hu
  simp at hu
  subst hu
  rfl
 ·intro v' w' hown' hg _ _
  exact h v' w' hown' ⟨hg.os, hg.tape, hg.output, Nat.le_trans (by simp) hg.size, fun k hk hne => (hg.block k (by simp; omega) hne).trans (Below.heap_alloc w _ k hk)⟩
end
theorem info_ints : (Tryz.prog.info? 24).map (fun i => (i.zero, i.size, i.bytes)) = some (some (.slice none 0 0), 1, 24) := by kernel_rfl
def WantsN (W : List (List Int)) (V : World) (e : Ending) (w' : World) : Prop := ∃ A m c es, e = .returned (.slice A m c) ∧ Hid (es.map Pw.p = W ∧ W.length = m ∧ m ≤ c ∧ OwnP V.heap.size w' (.slice A m c) m es) ∧ Below V.heap.size V w'
section
variable {F : Nat → Prop} {w V : World} {pb : Nat} {id : Int} {vec : List Int} {own st : List Rc} {bg : Bool} {W : List (List Int)}
theorem okW_form {p : List Int} (h : okW p) : (∃ d, p = [d]) ∨ ∃ d e, p = [d, e] := by
 rcases h.2 with hl | hl
 ·match p, hl with
  | [d], _ => exact .inl ⟨d, rfl⟩
 ·match p, hl with
  | [d, e], _ => exact .inr ⟨d, e, rfl⟩
theorem get_snoc {W : List (List Int)} {k : Nat} (hk : k < W.length) {x : List Int} (hx : W.getD k [] = x) : W.take (k + 1) = W.take k ++ [x] := by
 rw [List.take_succ_eq_append_getElem hk]
 rw [List.getD_eq_getElem?_getD, List.getElem?_eq_getElem hk, Option.getD_some] at hx
 rw [hx]
set_option maxRecDepth 100000 in
set_option maxHeartbeats 2000000 in
theorem PJ.wants_any (h : PJ F w V pb id own bg vec W st) (hok : ∀ p ∈ W, okW p) : Calls Tryz.prog 31 #[hd pb] V (WantsN W V) := by
 obtain ⟨j0, hj0, hy0, hy1, hy2⟩ := info_parts info_ints
 obtain ⟨tb, Ft, mb, Av, nv, cv, Aw, nw, cw, D, h⟩ := h
 obtain ⟨c0, c1, c2, c3, c4, c5⟩ := h.cells
 have hnw := h.wfew
 have HP := Lib.hid (And.intro h hok)
 unfold hd at *
 clear h hok c0 c1 c2 c3 c5
 go_enter Tryz.func31, Tryz.ntmps31
 go_wp2_with fail
 go_loopw [3, 11] (fun v q wr => ∃ (k : Nat) (A : Option Addr) (c : Nat) (es : List Pw), v = .slice A k c ∧ q = .int .i64 k ∧ k ≤ nw ∧ Hid (es.map Pw.p = W.take k ∧ OwnP V.heap.size wr (.slice A k c) k es ∧ Below V.heap.size V wr)) (fun _ q _ => nw - (intOf q).toNat)
 case atStart => exact ⟨0, none, 0, [], rfl, rfl, by omega, Lib.hid ⟨by simp, ownP_nil _ _, Below.refl _ _⟩⟩
 case round =>
  obtain ⟨k, A, c, es, rfl, rfl, hk, hst⟩ := hrel
  have hb := hst.out.2.2
  by_cases hlt : k < nw
  ·have d1 : (0 : Int) ≤ (k : Int) := by omega
   have d2 : (k : Int) < (nw : Int) := by omega
   have hkW : k < W.length := by have := HP.out.1.wlen; omega
   obtain ⟨x, hx⟩ : ∃ x, W.getD k [] = x := ⟨_, rfl⟩
   have hxm : x ∈ W := by
    rw [List.getD_eq_getElem?_getD, List.getElem?_eq_getElem hkW, Option.getD_some] at hx
    exact hx ▸ List.getElem_mem hkW
   obtain ⟨g, rfl, _, hgl, a0, a1, a2⟩ := pat (own_below HP.out.1.want hb (Nat.le_refl _)) HP.out.1.wlen hlt hx
   have hsn := get_snoc hkW hx
   have hs := hb.size
   rcases okW_form (HP.out.2 x hxm) with ⟨d, rfl⟩ | ⟨d, d', rfl⟩
   ·have a0 : wr.cell? ⟨g, k * 3, none⟩ = some (.int .i64 1) := a0
    have a1 : wr.cell? ⟨g, k * 3 + 1, none⟩ = some (.int .i64 d) := a1
    have a2 : wr.cell? ⟨g, k * 3 + 2, none⟩ = some (.int .i64 0) := a2
    obtain ⟨rb, hrb⟩ : ∃ rb, wr.heap.size = rb := ⟨_, rfl⟩
    obtain ⟨U, hU⟩ : ∃ U, wr.alloc (.cells #[.int .i64 1, .int .i64 d, .int .i64 0] 101) = U := ⟨_, rfl⟩
    have bU : Below wr.heap.size wr U := by rw [← hU]; exact (Below.refl _ wr).alloc (Nat.le_refl _) _
    have BU : Bn rb 101 [.int .i64 1, .int .i64 d, .int .i64 0] U := by rw [← hU, ← hrb]; exact World.alloc_heap_new _ _
    have x0 := BU.cell 0
    simp only [List.getElem?_cons_zero] at x0
    have hns : Ns .i64 U U.heap.size (some ⟨rb, 1, none⟩) [d] := fun _ => ⟨rb, 1, rfl, BU.lt, fun j hj => by
     obtain rfl : j = 0 := by simp at hj; omega
     exact BU.cell 1⟩
    have K := Lib.hid (Ints.clone_row (some ⟨rb, 1, none⟩) 2 1 [d] rfl U hns (by omega))
    have H0 := Lib.hid (And.intro hst.out.1 (And.intro (hst.out.2.1.below bU) (And.intro (hb.trans (bU.mono hs)) hsn)))
    have HU := Lib.hid hU
    clear hst hb hx hxm hsn bU BU hns hU x0
    go_wp2_with fail
    rw [HU.out]
    refine K.out.mono ?_
    rintro e w3 ⟨A3, c3, rfl, o3, b3⟩
    have h3 := H0.out.2.1.below b3
    have hV3 := H0.out.2.2.1.trans (b3.mono H0.out.2.2.1.size)
    have ho3 : w3.ownsRow V.heap.size 3 1 (pwc ⟨A3, [d], c3⟩) 1 (nums .i64 [d]) := own_base o3.out H0.out.2.2.1.size
    have HO := Lib.hid (And.intro h3 (And.intro hV3 ho3))
    have hs3 := hV3.size
    have hcol := h3.2.1
    clear h3 hV3 ho3 o3 b3 K HU a0 a1 a2 hs
    go_wp2_with (at_builtin; refine wpList_append_pw rfl (.tmp 15) (.tmp 21) 57 rfl V.heap.size 24 j0 _ 24 Tryz.underlying57 hj0 hy0 hy1 hy2 rfl _ k _ rfl hcol A3 1 c3 1 rfl (by omega) (by omega) (by omega) ?_; intro v4 w4 o4 g4)
    have HZ : Hid (OwnP V.heap.size w4 v4 (k + 1) (es ++ [⟨A3, [d], c3⟩]) ∧ Below V.heap.size V w4) := Lib.hid ⟨HO.out.1.add HO.out.2.2 o4 g4, HO.out.2.1.grown g4 hs3 (fun j hj => (HO.out.1.2.1.lt j hj).1)⟩
    obtain ⟨A4, c4', rfl⟩ := own_form o4
    have HR : Hid ((es ++ [(⟨A3, [d], c3⟩ : Pw)]).map Pw.p = W.take (k + 1)) := Lib.hid (by rw [List.map_append, H0.out.1, H0.out.2.2.2]; rfl)
    clear o4 g4 hcol hs3
    go_wp2_with fail
    go_roundw
    case rel => exact ⟨k + 1, A4, c4', _, rfl, by go_num, by omega, Lib.hid ⟨HR.out, HZ.out.1, HZ.out.2⟩⟩
    case measure => simp only [intOf]; omega
   ·have a0 : wr.cell? ⟨g, k * 3, none⟩ = some (.int .i64 2) := a0
    have a1 : wr.cell? ⟨g, k * 3 + 1, none⟩ = some (.int .i64 d) := a1
    have a2 : wr.cell? ⟨g, k * 3 + 2, none⟩ = some (.int .i64 d') := a2
    obtain ⟨rb, hrb⟩ : ∃ rb, wr.heap.size = rb := ⟨_, rfl⟩
    obtain ⟨U, hU⟩ : ∃ U, wr.alloc (.cells #[.int .i64 2, .int .i64 d, .int .i64 d'] 101) = U := ⟨_, rfl⟩
    have bU : Below wr.heap.size wr U := by rw [← hU]; exact (Below.refl _ wr).alloc (Nat.le_refl _) _
    have BU : Bn rb 101 [.int .i64 2, .int .i64 d, .int .i64 d'] U := by rw [← hU, ← hrb]; exact World.alloc_heap_new _ _
    have x0 := BU.cell 0
    simp only [List.getElem?_cons_zero] at x0
    have hns : Ns .i64 U U.heap.size (some ⟨rb, 1, none⟩) [d, d'] := fun _ => ⟨rb, 1, rfl, BU.lt, fun j hj => by
     match j, hj with
     | 0, _ => exact BU.cell 1
     | 1, _ => exact BU.cell 2⟩
    have K := Lib.hid (Ints.clone_row (some ⟨rb, 1, none⟩) 2 2 [d, d'] rfl U hns (by omega))
    have H0 := Lib.hid (And.intro hst.out.1 (And.intro (hst.out.2.1.below bU) (And.intro (hb.trans (bU.mono hs)) hsn)))
    have HU := Lib.hid hU
    clear hst hb hx hxm hsn bU BU hns hU x0
    go_wp2_with fail
    rw [HU.out]
    refine K.out.mono ?_
    rintro e w3 ⟨A3, c3, rfl, o3, b3⟩
    have h3 := H0.out.2.1.below b3
    have hV3 := H0.out.2.2.1.trans (b3.mono H0.out.2.2.1.size)
    have ho3 : w3.ownsRow V.heap.size 3 1 (pwc ⟨A3, [d, d'], c3⟩) 2 (nums .i64 [d, d']) := own_base o3.out H0.out.2.2.1.size
    have HO := Lib.hid (And.intro h3 (And.intro hV3 ho3))
    have hs3 := hV3.size
    have hcol := h3.2.1
    clear h3 hV3 ho3 o3 b3 K HU a0 a1 a2 hs
    go_wp2_with (at_builtin; refine wpList_append_pw rfl (.tmp 15) (.tmp 21) 57 rfl V.heap.size 24 j0 _ 24 Tryz.underlying57 hj0 hy0 hy1 hy2 rfl _ k _ rfl hcol A3 2 c3 1 rfl (by omega) (by omega) (by omega) ?_; intro v4 w4 o4 g4)
    have HZ : Hid (OwnP V.heap.size w4 v4 (k + 1) (es ++ [⟨A3, [d, d'], c3⟩]) ∧ Below V.heap.size V w4) := Lib.hid ⟨HO.out.1.add HO.out.2.2 o4 g4, HO.out.2.1.grown g4 hs3 (fun j hj => (HO.out.1.2.1.lt j hj).1)⟩
    obtain ⟨A4, c4', rfl⟩ := own_form o4
    have HR : Hid ((es ++ [(⟨A3, [d, d'], c3⟩ : Pw)]).map Pw.p = W.take (k + 1)) := Lib.hid (by rw [List.map_append, H0.out.1, H0.out.2.2.2]; rfl)
    clear o4 g4 hcol hs3
    go_wp2_with fail
    go_roundw
    case rel => exact ⟨k + 1, A4, c4', _, rfl, by go_num, by omega, Lib.hid ⟨HR.out, HZ.out.1, HZ.out.2⟩⟩
    case measure => simp only [intOf]; omega
  ·have hkn : k = nw := by omega
   subst hkn
   have HF : Hid (WantsN W V (.returned (.slice A k c)) wr) := Lib.hid ⟨A, k, c, es, rfl, Lib.hid ⟨by
    have h1 := hst.out.1
    rwa [List.take_of_length_le (by have := HP.out.1.wlen; omega)] at h1, HP.out.1.wlen, (own_low hst.out.2.1.2.1).1, hst.out.2.1⟩, hb⟩
   clear hst hb
   go_wp2_with fail
   go_ret
   exact HF.out
end
end Pull
end Go.Proofs.YtkfdplfgaddkmaaGreat

/-
 What a pull is told at a path (layer 19).
-/
namespace Go.Proofs.YtkfdplfgaddkmaaGreat
namespace Pull
open Go.RowKit Blk Go.Maps Disk Tree Vers Num Ring Mend
open Go.Proofs.YtkfdplfgaddkmaaGreat.Code hiding Bn
attribute [local go_sem ↓] Go.wp_at_zero Go.wp_at_succ
theorem first_idx {p : List Int} : ∀ {W : List (List Int)}, p ∈ W → ∃ i, i < W.length ∧ W.getD i [] = p ∧ ∀ j, j < i → W.getD j [] ≠ p
 | [], h => by cases h
 | x :: W, h => by
  by_cases hx : x = p
  ·exact ⟨0, by simp, hx, fun j hj => by omega⟩
  ·obtain ⟨i, h1, h2, h3⟩ := first_idx ((List.mem_cons.1 h).resolve_left fun e => hx e.symm)
   refine ⟨i + 1, by simpa using h1, h2, fun j hj => ?_⟩
   cases j with
   | zero => exact hx
   | succ j => exact h3 j (by omega)
theorem getD_in {W : List (List Int)} {j : Nat} (hj : j < W.length) : W.getD j [] ∈ W := by
 rw [List.getD_eq_getElem?_getD, List.getElem?_eq_getElem hj]
 exact List.getElem_mem hj
theorem found_in {W : List (List Int)} {p : List Int} {n i : Nat} {w w' : World} {e : Ending} (hn : W.length = n) (hok : ∀ x ∈ W, okW x) (hi : i < n) (h1 : W.getD i [] = p) (h2 : ∀ j, j < i → W.getD j [] ≠ p) (h : Found W p n w e w') : e = .returned (.int .i64 i) ∧ Below w.heap.size w w' := by
 obtain ⟨h | ⟨h, _⟩, hb⟩ := h
 ·obtain ⟨k, hk, k1, k2, rfl⟩ := h
  refine ⟨?_, hb⟩
  have kp : W.getD k [] = p := pkey_inj (hok _ (getD_in (by omega))) k1
  rcases Nat.lt_trichotomy k i with q | q | q
  ·exact absurd kp (h2 k q)
  ·rw [q]
  ·exact absurd (by rw [h1]) (k2 i q)
 ·exact absurd (by rw [h1]) (h i hi)
section
variable {F : Nat → Prop} {w V : World} {pb : Nat} {id : Int} {vec : List Int} {own st : List Rc} {bg : Bool} {W : List (List Int)}
def Wat (U : World) (pb : Nat) (v : Value) (X : World) : Prop := X.cell? ⟨pb, 4, none⟩ = some v ∧ Below U.heap.size U X ∧ pb < U.heap.size
theorem wat_below {U X Y : World} {pb : Nat} {v : Value} (hb : Below X.heap.size X Y) (h : Wat U pb v X) : Wat U pb v Y := ⟨(hb.cell (p := ⟨pb, 4, none⟩) (Nat.lt_of_lt_of_le h.2.2 h.2.1.size)).trans h.1, h.2.1.trans (hb.mono h.2.1.size), h.2.2⟩
end
end Pull
end Go.Proofs.YtkfdplfgaddkmaaGreat

/-
 What a pull is told at a path that is wanted (layer 19).
-/
namespace Go.Proofs.YtkfdplfgaddkmaaGreat
namespace Pull
open Go.RowKit Blk Go.Maps Disk Tree Vers Num Ring Mend
open Go.Proofs.YtkfdplfgaddkmaaGreat.Code hiding Bn
attribute [local go_sem ↓] Go.wp_at_zero Go.wp_at_succ
section
variable {F : Nat → Prop} {w V : World} {pb : Nat} {id : Int} {vec : List Int} {own st : List Rc} {bg : Bool} {W : List (List Int)}
set_option maxRecDepth 100000 in
set_option maxHeartbeats 2000000 in
theorem PJ.tell_one (h : PJ F w V pb id own bg vec W st) (hok : ∀ x ∈ W, okW x) (hW : W.length ≤ 900) (Ap Ah Al : Option Addr) (cp ch cl nh n : Nat) (p hs : List Int) (hnp : p.length = 1) (hnh : hs.length = nh) (hp : Sta F V (fun X => Ns .i64 X X.heap.size Ap p)) (hhs : Sta F V (fun X => Ns .u64 X X.heap.size Ah hs)) (hin : p ∈ W) :
  Calls Tryz.prog 26 #[hd pb, .slice Ap 1 cp, .slice Ah nh ch, .slice Al n cl] V (DoneP F w V pb id own bg vec (W.erase p ++ wantF own p hs) st) := by
 obtain ⟨tb, Ft, mb, Av, nv, cv, Aw, nw, cw, D, h⟩ := h
 obtain ⟨c0, c1, c2, c3, c4, c5⟩ := h.cells
 obtain ⟨y0, hy0⟩ : ∃ y : Int, ((p.length : Nat) : Int) = y := ⟨_, rfl⟩
 obtain ⟨y1, hy1⟩ : ∃ y, p.getD 0 0 = y := ⟨_, rfl⟩
 obtain ⟨y2, hy2⟩ : ∃ y, p.getD 1 0 = y := ⟨_, rfl⟩
 have hpv : pV p = .agg #[.int .i64 y0, .int .i64 y1, .int .i64 y2] := by unfold pV; rw [hy0, hy1, hy2]
 have hpo : ∀ X, Wat V pb (.slice Aw nw cw) X → Calls Tryz.prog 59 #[.slice Ap 1 cp] X (fun e w' => e = .returned (.agg #[.int .i64 y0, .int .i64 y1, .int .i64 y2]) ∧ Below X.heap.size X w') := fun X hX => by
  have h := pathOf_any Ap cp 1 p hnp X ((hp.now.below hX.2.1).more hX.2.1.size)
  rwa [hpv] at h
 have HS : Hid (Wat V pb (.slice Aw nw cw) V.drew) := Lib.hid ⟨c4, (Below.refl _ _).drew, h.lt _ h.hpb⟩
 obtain ⟨i, hi, hi1, hi2⟩ := first_idx hin
 have hwl := h.wlen
 have hwf := h.wfew
 rw [hwl] at hi
 obtain ⟨n', hn'⟩ : ∃ n', n' + 1 = nw := ⟨nw - 1, by omega⟩
 have hix : ∀ X, Wat V pb (.slice Aw nw cw) X → Calls Tryz.prog 58 #[.slice Aw nw cw, .func (.func 60) #[.agg #[.int .i64 y0, .int .i64 y1, .int .i64 y2]] #[]] X (fun e w' => e = .returned (.int .i64 i) ∧ Below X.heap.size X w') := fun X hX => by
  have h := index_any Aw w.heap.size cw nw W X (own_below h.want hX.2.1 (Nat.le_refl _)) h.wlen p (by omega)
  rw [hpv] at h
  exact h.mono fun e w' hf => found_in hwl hok hi hi1 hi2 hf
 have hdel : ∀ X, Below V.heap.size V X → Calls Tryz.prog 62 #[.slice Aw nw cw, .int .i64 i, .int .i64 ((i : Int) + 1)] X (fun e w' => e = .returned (.slice Aw n' cw) ∧ Hid (w'.ownsRow 0 101 3 (.slice Aw n' cw) n' (pcells (W.eraseIdx i)) ∧ X.grownBy w' (Value.slice Aw nw cw).ownBlock)) := fun X hX => del_any (own_base (own_below h.want hX (Nat.le_refl _)) (Nat.zero_le _)) hwl hn' hi rfl (by omega)
 have e1 : decide ((i : Int) < 0) = false := decide_eq_false (by omega)
 have hers : W.erase p = W.eraseIdx i := erase_idx W i (by omega) hi1 hi2
 have HC := Lib.hid (And.intro hpo (And.intro hix hdel))
 have HP := Lib.hid (And.intro h (And.intro hp (And.intro hhs (And.intro hnp (And.intro hers (And.intro hnh hW))))))
 unfold hd at *
 clear h hpo hix hdel hwl hok hnp hp hhs hin hi1 hi2 hpv hy0 hy1 hy2 c0 c1 c2 c3 c5 hers hW hnh
 go_enter Tryz.func26, Tryz.ntmps26
 go_wp2_with fail
 go_region_held3 (fun X => X.cell? ⟨pb, 4, none⟩ = some (.slice Aw nw cw) ∧ Below V.heap.size V X ∧ pb < V.heap.size)
  (first
   | exact HS.out
   | exact wat_below (by assumption) (by assumption))
  (first
   | (go_at_call 59; refine (HC.out.1 _ (by assumption)).mono ?_; rintro e w3 ⟨rfl, b3⟩)
   | (go_at_call 58; refine (HC.out.2.1 _ (by assumption)).mono ?_; rintro e w4 ⟨rfl, b4⟩))
 have hb4 : Below V.heap.size V w4 := ((Below.refl _ V).drew).trans (b3.trans (b4.mono b3.size))
 have K := Lib.hid (HC.out.2.2 w4 hb4)
 have c4' : w4.cell? ⟨pb, 4, none⟩ = some (.slice Aw nw cw) := (hb4.cell (p := ⟨pb, 4, none⟩) HS.out.2.2).trans c4
 have HB := Lib.hid hb4
 clear hb4 b3 b4 HC HS c4
 go_wp2_with fail
 refine K.out.mono ?_
 rintro e w5 ⟨rfl, h5⟩
 have hX5 := HB.out
 obtain ⟨Z, hZ⟩ : ∃ Z, w5.setCell ⟨pb, 4, none⟩ (.slice Aw n' cw) = Z := ⟨_, rfl⟩
 have H7 : Hid (PI F w Z pb id own bg vec (W.erase p) st tb Ft mb Av nv cv Aw n' cw D ∧ Stp F V F Z) := Lib.hid (by
  have hlo : ∀ g, (Value.slice Aw n' cw).ownBlock = some g → w.heap.size ≤ g := fun g hg => HP.out.1.new _ (HP.out.1.wown g (by have q : (Value.slice Aw n' cw).ownBlock = (Value.slice Aw nw cw).ownBlock := (by cases Aw <;> rfl); rw [← q]; exact hg)).1
  rw [HP.out.2.2.2.2.1, ← hZ]
  exact HP.out.1.less hX5 (own_up h5.out.1 hlo) (by rw [List.length_eraseIdx_of_lt (by have := HP.out.1.wlen; omega)]; have := HP.out.1.wlen; omega) h5.out.2 (by omega))
 have B5 : Bn pb 96 [.int .i64 id, .pointer (some ⟨tb, 0, none⟩), .bool bg, .slice Av nv cv, .slice Aw nw cw, .map (some mb)] w5 := (HP.out.1.blk.same (hX5.block _ HP.out.1.blk.lt)).kept h5.out.2 (fun e => own_ne HP.out.1.want HP.out.1.blk (by decide) e.symm)
 have d4 := B5.cell 4
 have f4 := B5.frozen 4
 simp only [List.getElem?_cons_zero, List.getElem?_cons_succ] at d4
 have K8 := Lib.hid (PJ.want ⟨_, _, _, _, _, _, _, _, _, _, H7.out.1⟩ (by have := H7.out.1.wlen; have := H7.out.1.wfew; have := HP.out.2.2.2.2.2.2; have := HP.out.1.wlen; omega) Ap Ah cp ch 1 nh p hs HP.out.2.2.2.1 HP.out.2.2.2.2.2.1 (Nat.le_refl _) (sta_stp HP.out.2.1 H7.out.2) (sta_stp HP.out.2.2.1 H7.out.2))
 unfold hd at K8
 clear h5 K hX5 c4' B5
 go_wp2_with fail
 refine K8.out.mono ?_
 rintro e w9 ⟨rfl, F9, h9⟩
 have HF : Hid (DoneP F w V pb id own bg vec (W.erase p ++ wantF own p hs) st (.returned (.bool true)) w9) := Lib.hid ⟨rfl, F9, Lib.hid ⟨h9.out.1, H7.out.2.trans h9.out.2⟩⟩
 clear h9 K8 d4 f4 hZ
 go_wp2_with fail
 go_ret
 exact HF.out
end
end Pull
end Go.Proofs.YtkfdplfgaddkmaaGreat

/-
 What is staged, told in new memory, rising by keys (layer 19).
-/
namespace Go.Proofs.YtkfdplfgaddkmaaGreat
namespace Pull
open Go.RowKit Blk Go.Maps Disk Tree Vers Num Ring Mend
open Go.Proofs.YtkfdplfgaddkmaaGreat.Code hiding Bn
attribute [local go_sem ↓] Go.wp_at_zero Go.wp_at_succ
section
variable {F : Nat → Prop} {w V : World} {pb : Nat} {id : Int} {vec : List Int} {own st : List Rc} {bg : Bool} {W : List (List Int)}
set_option maxRecDepth 100000 in
set_option maxHeartbeats 2000000 in
theorem PJ.staged_any (h : PJ F w V pb id own bg vec W st) (hN : st.length ≤ 3518437208882) : Calls Tryz.prog 32 #[hd pb] V (NewRs st V) := by
 obtain ⟨i0, hi, hz0, hz1, hz2⟩ := info_parts Tree.info_rec
 obtain ⟨tb, Ft, mb, Av, nv, cv, Aw, nw, cw, D, h⟩ := h
 obtain ⟨c0, c1, c2, c3, c4, c5⟩ := h.cells
 obtain ⟨D0, n0, hown, hm, hsr, hok, hsz⟩ := h.map
 have hmb := h.map.lt
 have HP := Lib.hid h
 have HMM := Lib.hid (And.intro hm (And.intro hsr hok))
 have HN := Lib.hid hN
 have hit := h.want
 unfold hd at *
 clear h c0 c1 c2 c3 c4 hm hsr hok hsz hit hN
 go_enter Tryz.func32, Tryz.ntmps32
 go_wp2_with (first
  | (at_range; refine wpList_range_own _ rfl _ 93 rfl 9 67 keyed Tryz.underlying93 _ mb n0 _ rfl hown ?_; intro w0 hrg0 hg0 hs0)
  | fail)
 go_frame
 have hb0 : Below V.heap.size V w0 := (Below.refl _ _).grown hg0 (Nat.le_refl _) (fun j hj => by cases hj)
 have HI := Lib.hid (And.intro hrg0 (And.intro hb0 hs0))
 clear hrg0 hg0 hb0 hs0 hown c5
 go_loopw [3] (fun v wq => ∃ (left : Lit → Bool) (cnt : Nat) (qs : List Pr), wq.ranges Tryz.prog 9 heldE mb V.heap.size n0 D0 left cnt ∧ Hid (RowT V.heap.size V.heap.size wq v qs ∧ CollT st (fun _ => true) (fun r => ∃ kl, keyOf Tryz.prog 9 (.string r.1) = some kl ∧ left kl = false) qs ∧ Below V.heap.size V wq ∧ V.heap.size < wq.heap.size))
  (fun _ wq => wq.rangeLeft mb V.heap.size)
 case atStart =>
  refine ⟨_, _, [], HI.out.1, Lib.hid ⟨rowT_nil _ _ _, ⟨by simp, fun r => ⟨fun h => by simp at h, ?_⟩⟩, HI.out.2.1, by rw [HI.out.2.2]; omega⟩⟩
  rintro ⟨hr, _, kl, h1, h2⟩
  rw [HMM.out.1.has h1] at h2
  have h4 := find_mem HP.out.lst.1.1 hr
  rcases HP.out.hold r.1 with ⟨h5, _⟩ | ⟨_, _, _, _, _, _, h6, _⟩
  ·rw [h5] at h4; cases h4
  ·rw [h6] at h2; cases h2
 case round =>
  obtain ⟨left, cnt, qs, hrg, hst⟩ := hrel
  go_wp2_with (first
   | (at_next; refine wpList_next_ranges _ rfl _ rfl 9 keyed heldE Value.string (fun v : Value => v) (fun key kl hk => by obtain ⟨x, hx, _⟩ := key_inv hk; exact ⟨x, hx⟩) (fun v y hv => ⟨v, rfl⟩) mb V.heap.size n0 _ _ _ rfl hrg ?_ ?_)
   | fail)
  ·intro hc0 hl0
   have hcol : CollT st (fun _ => true) (fun _ => True) qs := hst.out.2.1.same fun r hr _ => ⟨fun _ => trivial, fun _ => by
    rcases HP.out.hold r.1 with ⟨h5, _⟩ | ⟨_, _, _, _, _, _, h6, _⟩
    ·have h4 := find_mem HP.out.lst.1.1 hr
     rw [h5] at h4; cases h4
    ·obtain ⟨kl, hkl⟩ := key_of (HMM.out.2.2 _ (find_some h6))
     exact ⟨kl, hkl, hl0 kl⟩⟩
   have hrow := hst.out.1
   have hps := hcol.len
   have hN2 := HN.out
   have hb := hst.out.2.2.1
   have hbs := hb.size
   have hend : ∀ {ps' : List Pr}, ps'.Perm qs → (ps'.Pairwise fun x y => nlt y.1.1 x.1.1 = false) → ps'.map Prod.fst = st := fun h1 h2 => by
    have h := collT_end HP.out.lst.1.1 hcol (fun _ _ => trivial) h1 h2
    rwa [List.filter_eq_self.2 fun _ _ => rfl] at h
   rcases hrow.1.2 with ⟨hv, h0⟩ | ⟨g, cap, cur, hv, hbg, hg, hnc, _⟩
   ·have hnil : qs = [] := List.eq_nil_of_length_eq_zero h0
    subst hnil
    have hR := hend (List.Perm.refl _) List.Pairwise.nil
    have HF : Hid (NewRs st V (.returned (.slice none 0 0)) wr) := Lib.hid ⟨none, 0, 0, [], rfl, Lib.hid ⟨hR, by rw [← hR]; rfl, Nat.le_refl _, fun h => absurd h (by simp)⟩, hb⟩
    subst hv
    clear hst hrow hcol hps hR hb hrg hbs hend
    go_wp2_with fail
    refine (sort_none none 0 _ wr).mono ?_
    rintro e w4 ⟨rfl, rfl⟩
    go_wp2_with fail
    go_ret
    exact HF.out
   ·obtain ⟨nn, hnn⟩ : ∃ nn, qs.length = nn := ⟨_, rfl⟩
    have ho := hrow.1
    rw [hv, hnn] at ho
    rw [hnn] at hv hnc hps
    have hgl := (ho.lt g rfl).2
    have hS := Lib.hid (Pull.sort_any g cap nn V.heap.size qs hnn wr ho (by omega))
    have HF : Hid (∀ w', (∃ l', Hid (l'.Perm qs ∧ l'.Pairwise (fun p q => nlt q.1.1 p.1.1 = false) ∧ Prs w' g l' ∧ wr.grownBy w' (some g) ∧ ∃ cur, w'.heap[g]? = some (.cells cur 70 (0, 0)))) → NewRs st V (.returned (.slice (some ⟨g, 0, none⟩) nn cap)) w') := Lib.hid fun w' ⟨l'', hh⟩ => by
     obtain ⟨h1, h2, h3, h4, h5⟩ := hh.out
     have hR := hend h1 h2
     refine ⟨some ⟨g, 0, none⟩, nn, cap, l'', rfl, Lib.hid ⟨hR, by rw [← hR, List.length_map, h1.length_eq, hnn], hnc, fun hp => ⟨g, rfl, hbg, h3, h5, fun p hp => ?_⟩⟩, hb.grown h4 hbs (fun j hj => by injection hj with hj; omega)⟩
     obtain ⟨L, B, q1, q2, q3, q4, q5⟩ := hrow.2 p (h1.mem_iff.1 hp)
     have q3' := q3 g (by rw [hv]; rfl)
     exact ⟨L, B, q1, Nat.le_trans q2 h4.size, q3', q5.keep fun j a1 a2 => h4.block j (by omega) fun e => by injection e with e; omega⟩
    subst hv
    clear hst hrow hcol hps hb ho hg hnn hnc hrg hbs hend
    go_wp2_with fail
    refine hS.out.mono ?_
    rintro e w4 ⟨rfl, hw4⟩
    have HG := Lib.hid (HF.out w4 hw4)
    clear hw4
    go_wp2_with fail
    go_ret
    exact HG.out
  ·intro x cv kl yd yp w2 cnt2 hkey hlk hv hat hrg2 hlt2 hg2 hs2 hen
   have hfx := find_mem HMM.out.2.1 (map_entry HMM.out.1 hkey hv hat)
   rcases HP.out.hold x with ⟨_, h5⟩ | ⟨lv, Av4, cvv, L4, B4, hf1, hf2, hvs, hlc, hB4, _⟩
   ·rw [h5] at hfx; cases hfx
   ·have hcv : cv = .slice Av4 lv.length cvv := by
     rw [hf2] at hfx
     injection hfx with hfx
     exact hfx.symm
    have hall : (x, lv) ∈ st := find_some hf1
    have hokr := HP.out.lst.2 _ hall
    have hno : ¬ ∃ kl', keyOf Tryz.prog 9 (.string (x, lv).1) = some kl' ∧ left kl' = false := by
     rintro ⟨kl', h1, h2⟩
     rw [hkey] at h1
     injection h1 with h1
     subst h1
     rw [hlk] at h2
     cases h2
    have hmore : ∀ q, q ∈ st → ((∃ kl', keyOf Tryz.prog 9 (.string q.1) = some kl' ∧ (left kl' && !kl'.sameKey kl) = false) ↔ (∃ kl', keyOf Tryz.prog 9 (.string q.1) = some kl' ∧ left kl' = false) ∨ q = (x, lv)) := fun q hq => by
     constructor
     ·rintro ⟨kl', h1, h2⟩
      by_cases e : q.1 = x
      ·refine .inr ?_
       have g1 := find_mem HP.out.lst.1.1 hq
       rw [e, hf1] at g1
       exact Prod.ext e (by injection g1 with g1; exact g1.symm)
      ·refine .inl ⟨kl', h1, ?_⟩
       have hs : kl'.sameKey kl = false := by
        rw [Bool.eq_false_iff]
        intro h3
        refine e ?_
        have h4 := WideAt.sameKey_eq h3
        rw [h4] at h1
        have h5 := keyed.inj h1 hkey
        injection h5
       rw [hs] at h2
       simpa using h2
     ·rintro (⟨kl', h1, h2⟩ | rfl)
      ·exact ⟨kl', h1, by rw [h2]; rfl⟩
      ·refine ⟨kl, hkey, ?_⟩
       rw [WideAt.sameKey_self (keyed.key hkey)]
       simp
    have hrow2 := hst.out.1.step hg2 (row_ne_iter hst.out.1.1 hrg)
    have b2 : Below V.heap.size V w2 := hst.out.2.2.1.grown hg2 hst.out.2.2.1.size (fun j hj => by cases hj; omega)
    have HC : Hid (∀ A1 c1, CollT st (fun _ => true) (fun r => ∃ kl', keyOf Tryz.prog 9 (.string r.1) = some kl' ∧ (left kl' && !kl'.sameKey kl) = false) (qs ++ [((x, lv), A1, c1)])) := Lib.hid fun A1 c1 => hst.out.2.1.add ((x, lv), A1, c1) hall rfl hno fun r hr _ => hmore r hr
    obtain ⟨ml, hml⟩ : ∃ ml, lv.length = ml := ⟨_, rfl⟩
    rw [hml] at hcv hlc
    subst hcv
    have hvs2 : Vs w2 0 w2.heap.size Av4 lv := (((hvs.more hB4).below b2).more b2.size).less (Nat.zero_le _)
    have HR2 := Lib.hid (And.intro hrow2 (And.intro b2 (And.intro hg2.size hst.out.2.2.2)))
    have HH := Lib.hid (And.intro hrg2 (And.intro hlt2 hml))
    have HRG := Lib.hid hrg
    have hN2 := HN.out
    have hlq : qs.length + 1 ≤ st.length := by
     have h := (HC.out none 0).len
     simpa using h
    have hK := Lib.hid (vers_new x (by have h9 : x.size ≤ 32 := hokr.2.1; omega) Av4 cvv ml lv hml hokr.2.2 w2 hvs2)
    clear hfx hf1 hf2 hvs hvs2 hall hno hmore hrow2 b2 hlc hml hst hkey hlk hv hat hrg2 hlt2 hg2 hs2 hrg hokr hB4
    go_wp2_with fail
    refine hK.out.mono ?_
    rintro e w3 ⟨A1, c1, rfl, hrec, b3⟩
    have hs3 := b3.size
    have hown3 := own_below HR2.out.1.1 b3 (Nat.le_refl _)
    have hb23 := HR2.out.2.1.size
    have hl2 : qs.length + 1 ≤ 3518437208882 := by omega
    have hl3 : (qs.length + 1) * 40 ≤ 140737488355328 := by omega
    have hl4 : V.heap.size ≤ w3.heap.size := by omega
    go_wp2_with (at_builtin; refine wpList_append_r _ rfl (.tmp 16) (.tmp 21) 23 rfl V.heap.size 70 i0 _ 40 Tryz.underlying23 hi hz0 hz1 hz2 rfl _ qs.length qs rfl hown3 ((x, lv), A1, c1) ml HH.out.2.2 1 rfl hl3 (by omega) hl4 ?_; intro v4 w4 o4 g4 at4)
    have hg3 : w2.grownBy w3 none := ⟨b3.os, b3.tape, b3.output, b3.size, fun j hj _ => b3.block j hj⟩
    have hrg3 := HH.out.1.kept hg3 (by simp) (by simp)
    have hrg4 := hrg3.kept g4 (row_ne_low hown3 hmb) (row_ne_iter hown3 hrg3)
    have b4 : Below V.heap.size V w4 := (HR2.out.2.1.trans (b3.mono hb23)).grown g4 hl4 (fun j hj => (hown3.lt j hj).1)
    have s4 := g4.size
    have hit2 := HR2.out.2.2.1
    have hit3 := HR2.out.2.2.2
    refine ⟨⟨_, cnt2, qs ++ [((x, lv), A1, c1)], hrg4, Lib.hid ⟨HR2.out.1.add (by omega) b3 hrec.out hb23 o4 g4 at4, HC.out A1 c1, b4, by omega⟩⟩, ?_⟩
    rw [hrg4.left_eq, HRG.out.left_eq]
    exact HH.out.2.1
end
end Pull
end Go.Proofs.YtkfdplfgaddkmaaGreat
