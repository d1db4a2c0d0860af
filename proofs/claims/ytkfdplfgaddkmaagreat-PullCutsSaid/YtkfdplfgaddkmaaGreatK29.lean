/-
  Several texts of this family in one: TreeSet, TreeNew.
-/
import Derived.Test.YtkfdplfgaddkmaaGreatK20
import Derived.Test.YtkfdplfgaddkmaaGreatK16
import Derived.Test.YtkfdplfgaddkmaaGreatK25
import Derived.Test.YtkfdplfgaddkmaaGreatK10
import Derived.WalkSpells
import Derived.Deep.DeepCutAuto
import Derived.Deep.CutBlock
import Derived.Deep.RegionHeld3
import Derived.Deep.DrawnRows
/-
 A key gets versions.
-/
namespace Go.Proofs.YtkfdplfgaddkmaaGreat
namespace Tree
open Go.RowKit Vers Num Ring Disk Blk
open Go.Proofs.YtkfdplfgaddkmaaGreat.Code hiding Bn
attribute [local go_sem ↓] Go.wp_at_zero Go.wp_at_succ

section
variable {F : Nat → Prop} {w : World} {tb : Nat} {mv : Nat → Option Nat} {f : Fp} {all : List Rc}
theorem set_bad (_h : TR F w tb mv f all fun _ => False) (key : Nm) (A : Option Addr) (c m : Nat) (lv : List Vr) (hm : lv.length = m) (hm2 : m ≤ 140737488355328) (hk2 : key.size ≤ 140737488355328) (hv : Vs w 0 w.heap.size A lv) (hbad : ¬ okR (key, lv)) :
  Calls Tryz.prog 72 #[hd tb, .agg #[.string key, .slice A m c]] w (fun e w' => e = .returned (.int .i64 1) ∧ Below w.heap.size w w') := by
 obtain ⟨U, hU⟩ : ∃ U, w.alloc (.cells #[.string key, .slice A m c] 70) = U := ⟨_, rfl⟩
 have bU : Below w.heap.size w U := by rw [← hU]; exact (Below.refl _ w).alloc (Nat.le_refl _) _
 have BU : Bn w.heap.size 70 [.string key, .slice A m c] U := by rw [← hU]; exact World.alloc_heap_new _ _
 have x0 := BU.cell 0
 have x1 := BU.cell 1
 simp only [List.getElem?_cons_zero, List.getElem?_cons_succ] at x0 x1
 have H1 := Lib.hid (rrecord_any A c m key lv hm hm2 hk2 U ((hv.below bU).more bU.size))
 rw [decide_eq_false hbad] at H1
 have HB := Lib.hid bU
 clear hbad hv hm bU BU
 unfold hd
 go_enter Tryz.func72, Tryz.ntmps72
 go_wp2_with fail
 refine H1.out.mono ?_
 rintro e w1 ⟨rfl, b1⟩
 have HB1 := Lib.hid (HB.out.trans (b1.mono HB.out.size))
 clear b1
 go_wp2_with fail
 go_ret
 exact ⟨rfl, HB1.out⟩

def Put (F : Nat → Prop) (tb : Nat) (all : List Rc) (w : World) (e : Ending) (w' : World) : Prop :=
 ∃ F' mv' f', e = .returned (.int .i64 0) ∧ Hid (TR F' w' tb mv' f' all (fun _ => False) ∧ Stp F w F' w')
set_option maxRecDepth 100000 in
set_option maxHeartbeats 2000000 in
theorem set_ok (h : TR F w tb mv f all fun _ => False) (hN : all.length ≤ 3518437208882) (key : Nm) (A : Option Addr) (c m : Nat) (lv : List Vr) (hm : lv.length = m) (hv : Vs w 0 w.heap.size A lv) (hok : okR (key, lv)) :
  Calls Tryz.prog 72 #[hd tb, .agg #[.string key, .slice A m c]] w (Put F tb (withR all (key, lv)) w) := by
 have h512 : lv.length ≤ 512 := hok.2.2.1
 obtain ⟨rb, hrb⟩ : ∃ rb, w.heap.size = rb := ⟨_, rfl⟩
 obtain ⟨U, hU⟩ : ∃ U, w.alloc (.cells #[.string key, .slice A m c] 70) = U := ⟨_, rfl⟩
 have bU : Below w.heap.size w U := by rw [← hU]; exact (Below.refl _ w).alloc (Nat.le_refl _) _
 have BU : Bn rb 70 [.string key, .slice A m c] U := by rw [← hU, ← hrb]; exact World.alloc_heap_new _ _
 have x0 := BU.cell 0
 have x1 := BU.cell 1
 simp only [List.getElem?_cons_zero, List.getElem?_cons_succ] at x0 x1
 have H1 := Lib.hid (rrecord_any A c m key lv hm (by omega) (by have := hok.2.1; simp only at this; omega) U ((hv.below bU).more bU.size))
 rw [decide_eq_true hok] at H1
 have H2 := Lib.hid (fun W => place_any key W (by have := hok.2.1; simp only at this; omega))
 have HB := Lib.hid (And.intro bU (And.intro BU hrb))
 have HT := Lib.hid (And.intro h (And.intro hN (And.intro hm (And.intro hv hok))))
 obtain ⟨d0, hd0⟩ : ∃ d, dig0 key = d := ⟨_, rfl⟩
 obtain ⟨d1, hd1⟩ : ∃ d, dig1 key = d := ⟨_, rfl⟩
 have r0 := dig0_range key
 have r1 := dig1_range key
 have hlf : ((leafN key : Nat) : Int) = d0 * 16 + d1 := by unfold leafN; rw [hd0, hd1] at *; omega
 rw [hd0] at r0
 rw [hd1] at r1
 have HD := Lib.hid (And.intro hd0 (And.intro hd1 hlf))
 have HW := Lib.hid (And.intro (show IntKind.i64.wrap (d0 * 16) = d0 * 16 from IntWalk.i64_in _ (by omega)) (show IntKind.i64.wrap (d0 * 16 + d1) = d0 * 16 + d1 from IntWalk.i64_in _ (by omega)))
 have hlt := leaf_lt key
 obtain ⟨i, hi⟩ : ∃ i, leafN key = i := ⟨_, rfl⟩
 rw [hi] at hlt hlf
 have HI := Lib.hid hi
 clear hv hm bU BU h hok h512 hd0 hd1 hi hN
 unfold hd
 go_enter Tryz.func72, Tryz.ntmps72
 go_wp2_with fail
 refine H1.out.mono ?_
 rintro e w1 ⟨rfl, b1⟩
 have B1 := HB.out.2.1.same (b1.block _ HB.out.2.1.lt)
 have x0' := B1.cell 0
 simp only [List.getElem?_cons_zero] at x0'
 have HB1 := Lib.hid (And.intro (HB.out.1.trans (b1.mono HB.out.1.size)) B1)
 clear b1 B1 H1 x0 x1 hU hrb
 go_wp2_with fail
 refine (H2.out w1).mono ?_
 rintro e w2 ⟨g, rfl, hpl, b2⟩
 have hns := hpl.out.1
 rw [HD.out.1, HD.out.2.1] at hns
 obtain ⟨b', off', hg', _, hc⟩ := hns (by simp)
 injection hg' with hg'
 injection hg' with hg1 hg2
 subst hg1 hg2
 have c0 := hc 0 (by simp)
 have c1 := hc 1 (by simp)
 simp at c0 c1
 have B2 := HB1.out.2.same (b2.block _ HB1.out.2.lt)
 have HB2 := Lib.hid (And.intro (HB1.out.1.trans (b2.mono HB1.out.1.size)) (And.intro B2 (And.intro hns (Nat.le_trans HB1.out.1.size hpl.out.2))))
 clear hc hns hpl b2 B2 x0'
 obtain ⟨v1, v2⟩ := HW.out
 go_wp2_with fail
 go_quiet (fail)
 clear v1 v2
 rw [← hlf]
 obtain ⟨W, hW⟩ : ∃ W, w2.drewN nq = W := ⟨_, rfl⟩
 have HWW : Hid (Below w.heap.size w W ∧ Bn rb 70 [.string key, .slice A m c] W ∧ Ns .i64 W W.heap.size (some ⟨g, 0, none⟩) [d0, d1] ∧ w.heap.size ≤ g ∧ TR F W tb mv f all (fun _ => False)) := Lib.hid (by
  have b : Below w.heap.size w W := by rw [← hW]; exact HB2.out.1.trans ⟨rfl, rfl, rfl, Nat.le_refl _, fun _ _ => rfl⟩
  exact ⟨b, by rw [← hW]; exact HB2.out.2.1, by rw [← hW]; exact HB2.out.2.2.1, HB2.out.2.2.2, HT.out.1.below b⟩)
 rw [hW]
 clear hW c0 c1 HB2 hlf
 have hcell := HWW.out.2.2.2.2.cell hlt
 obtain ⟨mm, hmm⟩ : ∃ mm, mv i = mm := ⟨_, rfl⟩
 rw [hmm] at hcell
 have heq := run_eql_map_nil (P := Tryz.prog) W 93 9 67 mm Tryz.underlying93
 have HMM := Lib.hid hmm
 clear hmm
 go_upto_if 28 with (fail)
 go_cut [28] (fun _ V => Hid (∃ (F' : Nat → Prop) (mv' : Nat → Option Nat) (L : List Value) (mb : Nat), TI F' V tb mv' f all ∧ Bn tb 139 L V ∧ Cells L mv' all (fun _ => False) ∧ mv' i = some mb ∧ Chg (fun k => k = tb) W V ∧ (∀ k, F k → F' k) ∧ ∀ k, F' k → F k ∨ W.heap.size ≤ k))
 case first =>
  rcases mm with _ | mb
  ·have HF : Hid (∀ V, V = (W.setCell ⟨tb, i, none⟩ (.map (some W.heap.size))).alloc (.map #[] 0) → Hid (∃ (F' : Nat → Prop) (mv' : Nat → Option Nat) (L : List Value) (mb : Nat), TI F' V tb mv' f all ∧ Bn tb 139 L V ∧ Cells L mv' all (fun _ => False) ∧ mv' i = some mb ∧ Chg (fun k => k = tb) W V ∧ (∀ k, F k → F' k) ∧ ∀ k, F' k → F k ∨ W.heap.size ≤ k)) := Lib.hid fun V hV => by
    have hT := HWW.out.2.2.2.2
    obtain ⟨⟨L, hL1, hL2⟩, _⟩ := id hT
    have hg := gset W tb i (.map (some W.heap.size))
    have hB := hL1.set i (.map (some W.heap.size))
    have hsz : (W.setCell ⟨tb, i, none⟩ (.map (some W.heap.size))).heap.size = W.heap.size := by simp [World.setCell]
    obtain ⟨W1, hW1⟩ : ∃ W1, W.setCell ⟨tb, i, none⟩ (.map (some W.heap.size)) = W1 := ⟨_, rfl⟩
    rw [hW1] at hg hB hsz hV
    have hb1 : Below W1.heap.size W1 V := by rw [hV]; exact (Below.refl _ _).alloc (Nat.le_refl _) _
    have hti := (hT.ti.turn hg).mkmap hlt HMM.out hb1 (by rw [hV]; exact World.alloc_heap_new _ _)
    rw [hsz] at hti
    exact Lib.hid ⟨_, _, _, W.heap.size, hti, hB.same (hb1.block tb hB.lt), cells_mk hL2 hlt, by unfold mkM; rw [if_pos rfl], (Chg.of_grown (F := fun k => k = tb) hg (fun j hj => by injection hj with hj; exact hj.symm)).trans (Chg.of_below (F := fun k => k = tb) hb1) (fun j hj => .inl hj), fun k hk => .inl hk, fun k hk => hk.elim .inl fun q => .inr (by rw [q]; exact Nat.le_refl _)⟩
   have hmk := @run_makeMap Tryz.prog
   have hfz := HWW.out.2.2.2.2.spots ok_zero
   obtain ⟨_, _, _, _, _, _, hfr, _⟩ := hfz
   have hfi := hfr i
   clear hfr
   have htl : tb < W.heap.size := HWW.out.2.2.2.2.lt _ HWW.out.2.2.2.2.own
   have hca : (W.alloc (.map #[] 0)).cell? ⟨tb, i, none⟩ = some (.map none) := (World.cell?_alloc_lt W _ ⟨tb, i, none⟩ htl).trans hcell
   have hfa : (W.alloc (.map #[] 0)).frozen? ⟨tb, i, none⟩ = false := (World.frozen?_alloc_past _ _ _ htl).trans hfi
   go_wp2_with fail
   go_meet
   exact HF.out _ rfl
  ·have HF : Hid (∃ (F' : Nat → Prop) (mv' : Nat → Option Nat) (L : List Value) (mb : Nat), TI F' W tb mv' f all ∧ Bn tb 139 L W ∧ Cells L mv' all (fun _ => False) ∧ mv' i = some mb ∧ Chg (fun k => k = tb) W W ∧ (∀ k, F k → F' k) ∧ ∀ k, F' k → F k ∨ W.heap.size ≤ k) := Lib.hid (by
    have hT := HWW.out.2.2.2.2
    obtain ⟨⟨L, hL1, hL2⟩, _⟩ := id hT
    exact ⟨F, mv, L, mb, hT.ti, hL1, hL2, HMM.out, Chg.refl _ _, fun _ h => h, fun _ h => .inl h⟩)
   go_wp2_with fail
   go_meet
   exact HF
 case rest =>
  obtain ⟨F1, mv1, L1, mb, hti, hB1, hC1, hm1, hch1, hF1, hF2⟩ := hcut.out
  have HC := Lib.hid hcut.out
  have hx := HWW.out.2.1.same (hch1.block rb HWW.out.2.1.lt (by intro q; have := HT.out.1.lt _ HT.out.1.own; have := HB.out.2.2; omega))
  have x0 := hx.cell 0
  have x1 := hx.cell 1
  simp only [List.getElem?_cons_zero, List.getElem?_cons_succ] at x0 x1
  have c0 : wc.cell? ⟨tb, i, none⟩ = some (.map (some mb)) := by rw [hB1.cell i, hC1.2.1 i hlt, hm1]
  obtain ⟨Wa, hWa⟩ : ∃ V, V = wc := ⟨_, rfl⟩
  subst hWa
  have hsz1 := hch1.size
  have hvA : Vs Wa 0 Wa.heap.size A lv := HWW.out.2.2.2.2.vs hch1 ((HT.out.2.2.2.1.below HWW.out.1).more HWW.out.1.size)
  have b1 : (0 : Int) ≤ (i : Int) := by omega
  have b2 : (i : Int) < 256 := by omega
  have HD1 := Lib.hid (And.intro hti (And.intro hB1 (And.intro hC1 (And.intro hm1 (And.intro hch1 (And.intro hF1 (And.intro hF2 (And.intro hx hvA))))))))
  clear hcut HC hx hti hB1 hC1 hm1 hch1 hF1 hF2 hvA
  go_upto_if 38 with (fail)
  go_cut [38] (fun _ V => Hid (∃ (F2 : Nat → Prop) (f2 : Fp), TI F2 V tb mv1 f2 (withR all (key, lv)) ∧ Bn tb 139 L1 V ∧ Stp F1 Wa F2 V))
  case first =>
   have htbl := HD1.out.2.1.lt
   have hmbF := ((HD1.out.1.leaf _ hlt).2 mb HD1.out.2.2.2.1).1
   have hmbl := HD1.out.1.lt _ hmbF
   have hmbt := HD1.out.1.ne _ _ hlt HD1.out.2.2.2.1
   have hmbr : mb ≠ rb := fun q => by
    have h9 := ((HD1.out.1.leaf _ hlt).2 mb HD1.out.2.2.2.1).2
    exact h9.ne (g := rb) HD1.out.2.2.2.2.2.2.2.1 q.symm
   have hMI := ((HD1.out.1.leaf _ hlt).2 mb HD1.out.2.2.2.1).2
   have hNN := HT.out.2.1
   have hll : ((leafR all i).map (vOf f)).length < 140737488355328 := by
    have h9 : (leafR all i).length ≤ all.length := List.length_filter_le _ _
    rw [List.length_map]; omega
   have hkz : okN key := by have h9 : key.size ≤ 32 := HT.out.2.2.2.2.2.1; unfold okN maxLen; omega
   have HMB := Lib.hid (And.intro hmbF (And.intro hmbl (And.intro hmbt hmbr)))
   by_cases hm0 : m = 0
   ·have e0 : ((m : Int) == 0) = true := by rw [hm0]; rfl
    obtain ⟨W4, hrun, hM4, hg4⟩ := MI.drop (w := Wa.drew) (hMI.same rfl) key hkz 0
    have z0 : W4.cell? ⟨tb, i, none⟩ = some (.map (some mb)) := (World.cell?_of_block (hg4.block tb htbl (by intro q; injection q with q; exact hmbt q.symm))).trans c0
    have z1 : W4.cell? ⟨rb, 0, none⟩ = some (.string key) := (World.cell?_of_block (hg4.block rb HD1.out.2.2.2.2.2.2.2.1.lt (by intro q; injection q with q; exact hmbr q.symm))).trans x0
    have hlv : lv = [] := List.eq_nil_of_length_eq_zero (by have := HT.out.2.2.1; omega)
    have hgg : Wa.grownBy W4 (some mb) := ⟨hg4.os, hg4.tape, hg4.output, hg4.size, hg4.block⟩
    have HFIN : Hid (∃ (F2 : Nat → Prop) (f2 : Fp), TI F2 W4 tb mv1 f2 (withR all (key, lv)) ∧ Bn tb 139 L1 W4 ∧ Stp F1 Wa F2 W4) := Lib.hid (by
     rw [hlv]
     have hii := HI.out
     refine ⟨F1, f, HD1.out.1.drop (by rw [hii]; exact HD1.out.2.2.2.1) (by rw [hii]; exact hM4) hgg, HD1.out.2.1.kept hgg (by intro q; injection q with q; exact hmbt q.symm), Chg.of_grown hgg (fun j hj => by injection hj with hj; rw [← hj]; exact hmbF), fun k hk => .inl hk⟩)
    clear hM4 hg4 hMI hgg hlv
    have HM0 := Lib.hid hm0
    clear hm0
    go_wp2_with fail
    go_region_held3 (fun V => V.cell? ⟨tb, i, none⟩ = some (.map (some mb)) ∧ V.cell? ⟨rb, 0, none⟩ = some (.string key))
     (first | exact ⟨c0, x0⟩ | exact ⟨z0, z1⟩) (first | fail)
    all_goals
     go_wp2_with fail
     go_meet
     exact HFIN.out
   ·have e0 : ((m : Int) == 0) = false := by simp; omega
    have hlv : lv ≠ [] := fun q => by have := HT.out.2.2.1; rw [q] at this; simp at this; omega
    have HK : Hid (Calls Tryz.prog 63 #[.slice A m c] Wa.drew fun e w3 => ∃ A1 c1 W4, e = .returned (.slice A1 m c1) ∧ w3.cell? ⟨tb, i, none⟩ = some (.map (some mb)) ∧ w3.cell? ⟨rb, 0, none⟩ = some (.string key) ∧ w3.cell? ⟨rb, 1, none⟩ = some (.slice A m c) ∧ (Instr.mapUpdate 93 (.map (some mb)) (.string key) (.slice A1 m c1)).run Tryz.prog w3 = .ok () W4 ∧
      W4.cell? ⟨tb, i, none⟩ = some (.map (some mb)) ∧ W4.cell? ⟨rb, 0, none⟩ = some (.string key) ∧ W4.cell? ⟨rb, 1, none⟩ = some (.slice A m c) ∧ Hid (∃ (F2 : Nat → Prop) (f2 : Fp), TI F2 W4 tb mv1 f2 (withR all (key, lv)) ∧ Bn tb 139 L1 W4 ∧ Stp F1 Wa F2 W4)) := Lib.hid (by
     refine (vers_new key (by have h9 : key.size ≤ 32 := HT.out.2.2.2.2.2.1; omega) A c m lv HT.out.2.2.1 HT.out.2.2.2.2.2.2 Wa.drew HD1.out.2.2.2.2.2.2.2.2).mono ?_
     rintro e w3 ⟨A1, c1, he, hrec, b3⟩
     have b3' : Below Wa.heap.size Wa w3 := (show Below Wa.heap.size Wa Wa.drew from (Below.refl _ _).drew).trans b3
     obtain ⟨W4, hrun, hM4, hg4⟩ := MI.store (w := w3) (hMI.same (b3'.block _ hmbl)) hll key hkz (.slice A1 m c1)
     have hbr := HD1.out.2.2.2.2.2.2.2.1.lt
     have s3 := b3'.size
     have k4 : ∀ b, b < Wa.heap.size → b ≠ mb → W4.heap[b]? = Wa.heap[b]? := fun b hb hn => (hg4.block b (by omega) (by intro q; injection q with q; exact hn q)).trans (b3'.block b hb)
     refine ⟨A1, c1, W4, he, (World.cell?_of_block (b3'.block tb htbl)).trans c0, (World.cell?_of_block (b3'.block rb hbr)).trans x0, (World.cell?_of_block (b3'.block rb hbr)).trans x1, hrun, (World.cell?_of_block (k4 tb htbl (fun q => hmbt q.symm))).trans c0, (World.cell?_of_block (k4 rb hbr (fun q => hmbr q.symm))).trans x0, (World.cell?_of_block (k4 rb hbr (fun q => hmbr q.symm))).trans x1, Lib.hid ?_⟩
     have hii := HI.out
     have hti3 := HD1.out.1.below b3'
     have hvs := hrec.out.vs
     have hml := HT.out.2.2.1
     have hput := hti3.put (key := key) (lv := lv) (A := A1) (c := c1) (L := Wa.heap.size) (B := w3.heap.size) hlv HT.out.2.2.2.2 (by rw [hii]; exact HD1.out.2.2.2.1) hvs hrec.out.1 (Nat.le_refl _) (fun k hk1 hk2 hF => by have := HD1.out.1.lt k hF; omega) (by rw [hii, hml]; exact hM4) hg4
     refine ⟨_, _, hput, (HD1.out.2.1.same (b3'.block tb htbl)).kept hg4 (by intro q; injection q with q; exact hmbt q.symm), (Chg.of_below b3').trans (Chg.of_grown (F := F1) hg4 (fun j hj => by injection hj with hj; rw [← hj]; exact hmbF)) (fun k hk => .inl hk), fun k hk => ?_⟩
     rcases hk with hk | hk
     ·exact .inl hk
     ·exact .inr hk.1)
    clear hMI hlv hll hkz hm0
    go_wp2_with fail
    go_region_held3 (fun V => V.cell? ⟨tb, i, none⟩ = some (.map (some mb)) ∧ V.cell? ⟨rb, 0, none⟩ = some (.string key) ∧ V.cell? ⟨rb, 1, none⟩ = some (.slice A m c))
     (first | exact ⟨c0, x0, x1⟩ | (refine ⟨?_, ?_, ?_⟩ <;> assumption))
     (first
      | (go_at_call 63; refine HK.out.mono ?_; rintro e w3 ⟨A1, c1, W4, rfl, q0, q1, q2, hrun, q3, q4, q5, hfin⟩))
    all_goals
     go_wp2_with fail
     go_meet
     exact hfin
  case rest =>
   obtain ⟨F2, f2, hti2, hB2, hst2⟩ := hcut.out
   have htb0 := HT.out.1.lt _ HT.out.1.own
   have hgtb : g ≠ tb := by have := HWW.out.2.2.2.1; omega
   have hgl : g < W.heap.size := by
    obtain ⟨b', off', e9, h9, _⟩ := HWW.out.2.2.1 (by simp)
    injection e9 with e9
    injection e9 with e9 _
    omega
   have hgF : ¬ F1 g := fun q => by
    rcases HD1.out.2.2.2.2.2.2.1 g q with q | q
    ·have := HT.out.1.lt _ q
     have := HWW.out.2.2.2.1
     omega
    ·omega
   have hns : Ns .i64 wc wc.heap.size (some ⟨g, 0, none⟩) [d0, d1] := fun hp => by
    obtain ⟨b', off', e9, h9, hc9⟩ := HWW.out.2.2.1 hp
    injection e9 with e9
    injection e9 with e9 e10
    subst e9 e10
    have k1 : wc.heap[g]? = W.heap[g]? := (hst2.1.block g (by have := HD1.out.2.2.2.2.1.size; omega) hgF).trans (HD1.out.2.2.2.2.1.block g hgl hgtb)
    exact ⟨g, 0, rfl, by have := hst2.1.size; have := HD1.out.2.2.2.2.1.size; omega, fun j hj => (World.cell?_of_block k1).trans (hc9 j hj)⟩
   have HI0 : Hid (∃ L, TI F2 wc tb mv1 f2 (withR all (key, lv)) ∧ Bn tb 139 L wc ∧ Stale L mv1 (withR all (key, lv)) key 0 ∧ Chg (fun k => k = tb) wc wc) := Lib.hid ⟨L1, hti2, hB2, stale_start HD1.out.2.2.1 (key, lv) HT.out.1.ok.1, Chg.refl _ _⟩
   have HST2 := Lib.hid (And.intro hst2 (And.intro hns (And.intro hgtb hti2.own)))
   have hpl : ∀ n, n ≤ 2 → (pre key n).length = n := fun n hn => by unfold pre; rw [List.length_take]; exact Nat.min_eq_left hn
   have HPL := Lib.hid hpl
   obtain ⟨Wb, hWb⟩ : ∃ V, V = wc := ⟨_, rfl⟩
   subst hWb
   clear hcut hst2 hB2 hti2 hns hpl hgF hgl
   go_wp2_with fail
   go_loopw [58] (fun q wr => ∃ n : Nat, q = .int .i64 n ∧ n ≤ 3 ∧ Hid (∃ L, TI F2 wr tb mv1 f2 (withR all (key, lv)) ∧ Bn tb 139 L wr ∧ Stale L mv1 (withR all (key, lv)) key n ∧ Chg (fun k => k = tb) Wb wr)) (fun q _ => 3 - (intOf q).toNat)
   case atStart => exact ⟨0, rfl, by omega, HI0.out⟩
   case round =>
    clear HI0
    obtain ⟨n, rfl, hn3, hst⟩ := hrel
    obtain ⟨L, hti, hB, hsl, hch⟩ := hst.out
    by_cases hlt3 : n < 3
    ·have n1 : (0 : Int) ≤ (n : Int) := by omega
     have n2 : (n : Int) < 3 := by omega
     have n3 : (n : Int) ≤ 2 := by omega
     have hns : Ns .i64 wr.drew wr.drew.heap.size (some ⟨g, 0, none⟩) (pre key n) := fun hp => by
      obtain ⟨b', off', e9, h9, hc9⟩ := HST2.out.2.1 (by simp)
      injection e9 with e9
      injection e9 with e9 e10
      subst e9 e10
      have k1 : wr.heap[g]? = Wb.heap[g]? := hch.block g h9 HST2.out.2.2.1
      have hl9 := HPL.out n (by omega)
      refine ⟨g, 0, rfl, by have := hch.size; show g < wr.heap.size; omega, fun j hj => ?_⟩
      refine (show wr.cell? ⟨g, 0 + j, none⟩ = _ from (World.cell?_of_block k1).trans (hc9 j (by simp; omega))).trans ?_
      unfold pre
      rw [HD.out.1, HD.out.2.1]
      simp only [List.getD_eq_getElem?_getD]
      rw [List.getElem?_take_of_lt (by omega)]
     have hS := Lib.hid (spot_any (some ⟨g, 0, none⟩) 2 n (pre key n) (HPL.out n (by omega)) (pre_ok key n) wr.drew hns)
     obtain ⟨s, hs⟩ : ∃ s, spotN (pre key n) = s := ⟨_, rfl⟩
     have hsl273 := spot_lt (pre_ok key n)
     rw [hs] at hS hsl273
     have s0 : (0 : Int) ≤ (s : Int) := by omega
     have s1 : (s : Int) < 273 := by omega
     obtain ⟨d, x, q0, q1, q2, q3, _, _⟩ := hsl.2.2 _ (pre_ok key n)
     rw [hs] at q0 q1 q2 q3
     rw [show 4 * s = s * 4 by omega] at q0 q1 q2 q3
     have k0 := (hB.cell _).trans q0
     have k1 := (hB.cell _).trans q1
     have k2 := (hB.cell _).trans q2
     have k3 := (hB.cell _).trans q3
     have z0 := hB.frozen (256 + s * 4)
     have z1 := hB.frozen (256 + s * 4 + 1)
     have z2 := hB.frozen (256 + s * 4 + 2)
     have z3 := hB.frozen (256 + s * 4 + 3)
     have HB := Lib.hid (And.intro hti (And.intro hB (And.intro hsl (And.intro hch hs))))
     clear hti hB hsl hch hs hns q0 q1 q2 q3 hst
     go_wp2_with fail
     go_region_held3 (fun _ => True) (trivial)
      (first
       | (go_at_call 92; refine hS.out.mono ?_; rintro e w3 ⟨rfl, q, rfl⟩))
     have hd : Bn tb 139 L (wr.drewN (1 + q)) := HB.out.2.1.same rfl
     obtain ⟨L', hB', hsl', hg'⟩ := zero_spot hd HB.out.2.2.1 hlt3 (o := 256 + s * 4) (by rw [HB.out.2.2.2.2]; omega)
     obtain ⟨X, hX⟩ : ∃ X, (((((wr.drewN (1 + q)).setCell ⟨tb, 256 + s * 4, none⟩ (.int .u32 0)).setCell ⟨tb, 256 + s * 4 + 1, none⟩ (.int .i32 0)).setCell ⟨tb, 256 + s * 4 + 2, none⟩ (.int .u32 0)).setCell ⟨tb, 256 + s * 4 + 3, none⟩ (.int .u64 0)) = X := ⟨_, rfl⟩
     rw [hX] at hB' hg' ⊢
     have hgg : wr.grownBy X (some tb) := ⟨hg'.os, hg'.tape, hg'.output, hg'.size, hg'.block⟩
     have HF : Hid (∃ L, TI F2 X tb mv1 f2 (withR all (key, lv)) ∧ Bn tb 139 L X ∧ Stale L mv1 (withR all (key, lv)) key (n + 1) ∧ Chg (fun k => k = tb) Wb X) := Lib.hid ⟨L', HB.out.1.turn hgg, hB', hsl', HB.out.2.2.2.1.trans (Chg.of_grown (F := fun k => k = tb) hgg (fun j hj => by injection hj with hj; exact hj.symm)) (fun j hj => .inl hj)⟩
     clear hd hB' hsl' hg' hX hgg k0 k1 k2 k3 z0 z1 z2 z3
     go_wp2_with fail
     go_roundw
     case rel => exact ⟨n + 1, by go_num, by omega, HF⟩
     case measure => simp only [intOf]; omega
    ·have hn : n = 3 := by omega
     subst hn
     have HF : Hid (TR F2 wr tb mv1 f2 (withR all (key, lv)) (fun _ => False) ∧ Stp F w F2 wr) := Lib.hid (by
      refine ⟨hti.tr hB hsl.cells, ?_, fun k hk => ?_⟩
      ·have c1 : Chg F w W := Chg.of_below HWW.out.1
       have c2 : Chg F w Wa := c1.trans HD1.out.2.2.2.2.1 fun k hk => .inl (by have hk : k = tb := hk; rw [hk]; exact HT.out.1.own)
       have c3 : Chg F w Wb := c2.trans HST2.out.1.1 fun k hk => by
        rcases HD1.out.2.2.2.2.2.2.1 k hk with q | q
        ·exact .inl q
        ·exact .inr (Nat.le_trans HWW.out.1.size q)
       exact c3.trans hch fun k hk => .inl (by have hk : k = tb := hk; rw [hk]; exact HT.out.1.own)
      ·rcases HST2.out.1.2 k hk with q | q
       ·rcases HD1.out.2.2.2.2.2.2.1 k q with q | q
        ·exact .inl q
        ·exact .inr (Nat.le_trans HWW.out.1.size q)
       ·exact .inr (by have := HWW.out.1.size; have := HD1.out.2.2.2.2.1.size; omega))
     clear hst hti hB hsl hch
     go_wp2_with fail
     go_ret
     exact ⟨F2, mv1, f2, rfl, HF⟩
end
end Tree
end Go.Proofs.YtkfdplfgaddkmaaGreat

/-
 A new tree; trees made of lists.
-/
namespace Go.Proofs.YtkfdplfgaddkmaaGreat
namespace Tree
open Go.RowKit Vers Num Ring Disk Blk
open Go.Proofs.YtkfdplfgaddkmaaGreat.Code hiding Bn
attribute [local go_sem ↓] Go.wp_at_zero Go.wp_at_succ

def z4 : Nat → List Value
 | 0 => []
 | n + 1 => .int .u32 0 :: .int .i32 0 :: .int .u32 0 :: .int .u64 0 :: z4 n
theorem z4_at : ∀ (n s : Nat), s < n → (z4 n)[4 * s]? = some (.int .u32 0) ∧ (z4 n)[4 * s + 1]? = some (.int .i32 0) ∧ (z4 n)[4 * s + 2]? = some (.int .u32 0) ∧ (z4 n)[4 * s + 3]? = some (.int .u64 0)
 | n + 1, 0, _ => ⟨rfl, rfl, rfl, rfl⟩
 | n + 1, s + 1, h => by
  have ih := z4_at n s (by omega)
  unfold z4
  rw [show 4 * (s + 1) = 4 * s + 1 + 1 + 1 + 1 by omega, show 4 * s + 1 + 1 + 1 + 1 + 1 = 4 * s + 1 + 1 + 1 + 1 + 1 from rfl]
  refine ⟨?_, ?_, ?_, ?_⟩
  ·simp only [List.getElem?_cons_succ]; exact ih.1
  ·rw [show 4 * s + 1 + 1 + 1 + 1 + 1 = (4 * s + 1) + 1 + 1 + 1 + 1 by omega]; simp only [List.getElem?_cons_succ]; exact ih.2.1
  ·rw [show 4 * s + 1 + 1 + 1 + 1 + 2 = (4 * s + 2) + 1 + 1 + 1 + 1 by omega]; simp only [List.getElem?_cons_succ]; exact ih.2.2.1
  ·rw [show 4 * s + 1 + 1 + 1 + 1 + 3 = (4 * s + 3) + 1 + 1 + 1 + 1 by omega]; simp only [List.getElem?_cons_succ]; exact ih.2.2.2
theorem z4_len : ∀ n, (z4 n).length = 4 * n
 | 0 => rfl
 | n + 1 => by simp only [z4, List.length_cons, z4_len n]; omega
def zt : List Value := List.replicate 256 (.map none) ++ z4 273
theorem rep_at (n i : Nat) (h : i < n) (v : Value) (B : List Value) : (List.replicate n v ++ B)[i]? = some v := by
 rw [List.getElem?_append_left (by rw [List.length_replicate]; exact h), List.getElem?_replicate_of_lt h]
theorem app_at (n j : Nat) (v : Value) (B : List Value) : (List.replicate n v ++ B)[n + j]? = B[j]? := by
 rw [List.getElem?_append_right (by rw [List.length_replicate]; omega), List.length_replicate, Nat.add_sub_cancel_left]
theorem cells_zero : Cells zt (fun _ => none) [] fun _ => False := by
 refine ⟨?_, fun i hi => rep_at 256 i hi _ _, fun p hp => ?_⟩
 ·unfold zt
  rw [List.length_append, List.length_replicate, z4_len]
 ·have hs := z4_at 273 (spotN p) (spot_lt hp)
  have e : ∀ r, zt[256 + 4 * spotN p + r]? = (z4 273)[4 * spotN p + r]? := fun r => by
   rw [Nat.add_assoc]
   exact app_at 256 _ _ _
  exact ⟨0, 0, 0, (e 0).trans hs.1, (e 1).trans hs.2.1, (e 2).trans hs.2.2.1, (e 3).trans hs.2.2.2, fun h => h.elim, fun _ => ⟨rfl, .inl rfl⟩⟩
theorem zc_eq : Tryz.zeroCells139 = zt.toArray := by kernel_rfl
theorem tr_new (w : World) : TR (fun k => k = w.heap.size) (w.alloc (.cells Tryz.zeroCells139 139)) w.heap.size (fun _ => none) (fun _ => (none, 0)) [] fun _ => False :=
 ⟨⟨zt, (by rw [zc_eq]; exact World.alloc_heap_new _ _), cells_zero⟩, fun _ _ => ⟨fun _ => rfl, (fun mb h => by cases h)⟩, (fun _ _ k _ _ h => by cases h), (fun r hr => by cases hr), ⟨Srt.nil, (fun r hr => by cases hr)⟩, rfl, (fun k hk => by rw [hk, World.size_alloc]; omega)⟩
def layF (l : List Rc) : List Rc := l.foldl withR []
theorem layF_snoc (l : List Rc) (r : Rc) : layF (l ++ [r]) = withR (layF l) r := by simp [layF]
theorem fold_len (l : List Rc) : ∀ acc : List Rc, (l.foldl withR acc).length ≤ acc.length + l.length := by
 induction l with
 | nil => intro acc; simp
 | cons r l ih =>
  intro acc
  have h1 := ih (withR acc r)
  have h2 := with_len acc r
  simp only [List.foldl_cons, List.length_cons]
  omega
theorem layF_len (l : List Rc) : (layF l).length ≤ l.length := by
 have h := fold_len l []
 unfold layF
 simpa using h
def NewT (l : List Rc) (w : World) (e : Ending) (w' : World) : Prop :=
 ((∀ r ∈ l, okR r) ∧ ∃ F tb mv f, e = .returned (.tuple #[hd tb, .int .i64 0]) ∧ Hid (TR F w' tb mv f (layF l) (fun _ => False) ∧ (∀ k, F k → w.heap.size ≤ k) ∧ Below w.heap.size w w')) ∨
 ((¬ ∀ r ∈ l, okR r) ∧ e = .returned (.tuple #[.pointer none, .int .i64 1]) ∧ Below w.heap.size w w')
set_option maxRecDepth 100000 in
set_option maxHeartbeats 2000000 in
theorem new_any (A : Option Addr) (c n : Nat) (l : List Rc) (hn : l.length = n) (hbig : n ≤ 3518437208882) (w : World) (hr : Rs w 0 w.heap.size A l) :
  Calls Tryz.prog 45 #[.slice A n c] w (NewT l w) := by
 obtain ⟨tb, htb⟩ : ∃ tb, w.heap.size = tb := ⟨_, rfl⟩
 have HI : Hid (∀ V, V = w.alloc (.cells Tryz.zeroCells139 139) → ∃ (F : Nat → Prop) (mv : Nat → Option Nat) (f : Fp), (∀ r ∈ l.take 0, okR r) ∧ TR F V tb mv f (layF (l.take 0)) (fun _ => False) ∧ (∀ k, F k → w.heap.size ≤ k) ∧ Below w.heap.size w V) := Lib.hid fun V hV => ⟨fun k => k = w.heap.size, fun _ => none, fun _ => (none, 0), by simp, by rw [hV, ← htb]; exact tr_new w, (fun k hk => by rw [hk]; exact Nat.le_refl _), by rw [hV]; exact (Below.refl _ _).alloc (Nat.le_refl _) _⟩
 have HP := Lib.hid (And.intro hr (And.intro hn htb))
 clear hr hn
 go_enter Tryz.func45, Tryz.ntmps45
 go_wp2_with fail
 obtain ⟨V, hV⟩ : ∃ V, w.alloc (.cells Tryz.zeroCells139 139) = V := ⟨_, rfl⟩
 have HI2 := Lib.hid (HI.out V hV.symm)
 rw [hV]
 clear hV htb HI
 go_loopw [12] (fun q wr => ∃ k : Nat, q = .int .i64 k ∧ k ≤ n ∧ Hid (∃ (F : Nat → Prop) (mv : Nat → Option Nat) (f : Fp), (∀ r ∈ l.take k, okR r) ∧ TR F wr tb mv f (layF (l.take k)) (fun _ => False) ∧ (∀ k, F k → w.heap.size ≤ k) ∧ Below w.heap.size w wr)) (fun q _ => n - (intOf q).toNat)
 case atStart => exact ⟨0, rfl, by omega, HI2⟩
 case round =>
  clear HI2
  obtain ⟨k, rfl, hk, hst⟩ := hrel
  obtain ⟨F, mv, f, hok, hT, hF, hb⟩ := hst.out
  by_cases hlt : k < n
  ·have d1 : (0 : Int) ≤ (k : Int) := by omega
   have d2 : (k : Int) < (n : Int) := by omega
   obtain ⟨pb, off, A4, c4, rfl, _, hbB, k0, k1, k2, k3⟩ := HP.out.1.at HP.out.2.1 hb hlt rfl
   have hkl : k < l.length := by have := HP.out.2.1; omega
   have HTk : Hid (l.take (k + 1) = l.take k ++ [l.getD k r0]) := Lib.hid (by
    rw [List.take_succ_eq_append_getElem hkl]
    simp [List.getD_eq_getElem?_getD, hkl])
   have hmem : l.getD k r0 ∈ l := by
    rw [List.getD_eq_getElem?_getD, List.getElem?_eq_getElem hkl]
    exact List.getElem_mem _
   obtain ⟨r, hrr⟩ : ∃ r, l.getD k r0 = r := ⟨_, rfl⟩
   rw [hrr] at k0 k1 k2 k3 HTk hmem
   obtain ⟨key, lv⟩ := r
   simp only at k0 k1 k2 k3
   obtain ⟨ml, hml⟩ : ∃ ml, lv.length = ml := ⟨_, rfl⟩
   rw [hml] at k1 k3
   have hsz := hb.size
   obtain ⟨V2, hV2⟩ : ∃ V2, wr.alloc (.cells #[.string key, .slice A4 ml c4] 70) = V2 := ⟨_, rfl⟩
   have hbV : Below wr.heap.size wr V2 := by rw [← hV2]; exact (Below.refl _ _).alloc (Nat.le_refl _) _
   have hBV : Bn wr.heap.size 70 [.string key, .slice A4 ml c4] V2 := by rw [← hV2]; exact World.alloc_heap_new _ _
   have v0 := hBV.cell 0
   have v1 := hBV.cell 1
   simp only [List.getElem?_cons_zero, List.getElem?_cons_succ] at v0 v1
   have hTV := hT.below hbV
   have hvs : Vs V2 0 V2.heap.size A4 lv := ((k2.below (hbV.mono hsz)).more (Nat.le_trans hsz hbV.size)).less (Nat.zero_le _)
   have hlen : (layF (l.take k)).length ≤ 3518437208882 := by have := layF_len (l.take k); rw [List.length_take] at this; omega
   have bV : Below w.heap.size w V2 := hb.trans (hbV.mono hsz)
   by_cases hokr : okR (key, lv)
   ·have hS := Lib.hid (set_ok hTV hlen key A4 c4 ml lv hml hvs hokr)
    have HO := Lib.hid (And.intro hok (And.intro hF (And.intro bV hokr)))
    clear hst hok hT hF hb hTV hvs hbV hBV k2 hmem hrr hml hlen bV hokr
    unfold hd at hS
    go_wp2_with fail
    refine hS.out.mono ?_
    rintro e w3 ⟨F', mv', f', rfl, h3⟩
    have HF : Hid (∃ (F : Nat → Prop) (mv : Nat → Option Nat) (f : Fp), (∀ r ∈ l.take (k + 1), okR r) ∧ TR F w3 tb mv f (layF (l.take (k + 1))) (fun _ => False) ∧ (∀ k, F k → w.heap.size ≤ k) ∧ Below w.heap.size w w3) := Lib.hid (by
     have ho := h3.out.2.old HO.out.2.2.1 HO.out.2.1
     refine ⟨F', mv', f', fun r hr => ?_, by rw [HTk.out, layF_snoc]; exact h3.out.1, ho.2, ho.1⟩
     rw [HTk.out] at hr
     rcases List.mem_append.1 hr with hr | hr
     ·exact HO.out.1 r hr
     ·rw [List.mem_singleton.1 hr]; exact HO.out.2.2.2)
    clear h3 hS
    go_wp2_with fail
    go_roundw
    case rel => exact ⟨k + 1, by go_num, by omega, HF⟩
    case measure => simp only [intOf]; omega
   ·have hS := Lib.hid (set_bad hTV key A4 c4 ml lv hml (by omega) (by omega) hvs hokr)
    have HF : Hid (¬ ∀ r ∈ l, okR r) := Lib.hid fun h9 => hokr (h9 _ hmem)
    have HO := Lib.hid bV
    clear hst hok hT hF hb hTV hvs hbV hBV k2 hmem hrr hml hlen bV hokr
    unfold hd at hS
    go_wp2_with fail
    refine hS.out.mono ?_
    rintro e w3 ⟨rfl, b3⟩
    have HB3 := Lib.hid (HO.out.trans (b3.mono HO.out.size))
    clear b3 hS
    go_wp2_with fail
    go_ret2
    exact .inr ⟨HF.out, rfl, HB3.out⟩
  ·have hkn : k = n := by omega
   subst hkn
   have hfull : l.take k = l := List.take_of_length_le (by have := HP.out.2.1; omega)
   rw [hfull] at hok hT
   have HF : Hid (NewT l w (.returned (.tuple #[hd tb, .int .i64 0])) wr) := Lib.hid (.inl ⟨hok, F, tb, mv, f, rfl, Lib.hid ⟨hT, hF, hb⟩⟩)
   clear hst hok hT hF hb hfull
   unfold hd at HF
   go_wp2_with fail
   go_ret2
   exact HF.out
end Tree
end Go.Proofs.YtkfdplfgaddkmaaGreat
