/-
  Several texts of this family in one: PullStaged, PullPair, PullGoes, PullAwake, PullAwakes.
-/
import Derived.Test.YtkfdplfgaddkmaaGreatK38
import Derived.Test.YtkfdplfgaddkmaaGreatK37
import Derived.Deep.DeepCutAuto
import Derived.Deep.CutBlock
import Derived.Test.YtkfdplfgaddkmaaGreatK33
import Derived.Test.YtkfdplfgaddkmaaGreatK22
/-
 What a pull is told at a leaf that is wanted: records are staged (layer 19).
-/
namespace Go.Proofs.YtkfdplfgaddkmaaGreat
namespace Pull
open Go.RowKit Blk Go.Maps Disk Tree Vers Num Ring Mend
open Go.Proofs.YtkfdplfgaddkmaaGreat.Code hiding Bn
attribute [local go_sem ↓] Go.wp_at_zero Go.wp_at_succ
theorem wout_lenR {l : List Rc} (h : Srt l) (s : Nm) : (wout l s).length + (if (find l s).isSome then 1 else 0) = l.length := by
 induction l with
 | nil => rfl
 | cons y l ih =>
  obtain ⟨h1, h2⟩ := List.pairwise_cons.1 h
  have ih := ih h2
  have e : wout (y :: l) s = if y.1 = s then wout l s else y :: wout l s := by
   unfold wout
   by_cases h : y.1 = s
   ·simp [h]
   ·simp [h]
  rw [e]
  unfold find
  by_cases hs : y.1 = s
  ·have n1 : find l s = none := find_none.2 fun z hz e2 => nlt_ne (h1 z hz) (hs.trans e2.symm)
   rw [n1] at ih
   rw [if_pos hs, if_pos hs]
   simp at ih ⊢
   omega
  ·rw [if_neg hs, if_neg hs]
   simp only [List.length_cons]
   omega
section
variable {F F' M : Nat → Prop} {w : World} {D : Vl} {st : List Rc}
theorem HoldP.same (h : HoldP F M w D st) (k : Nm) : (find D k).isSome = (find st k).isSome := by
 rcases h k with ⟨h1, h2⟩ | ⟨lv, A, c, L, B, h1, h2, _⟩
 ·rw [h1, h2]; rfl
 ·rw [h1, h2]; rfl
theorem hold_wout (h : HoldP F M w D st) (hD : Srt D) (hS : Srt st) (hl : D.length ≤ st.length) (k : Nm) : (wout D k).length ≤ (wout st k).length := by
 have h1 := len_wout hD k
 have h2 : (wout st k).length + (if (find st k).isSome then 1 else 0) = st.length := wout_lenR hS k
 rw [h.same k] at h1
 omega
end
section
variable {F : Nat → Prop} {w V : World} {pb : Nat} {id : Int} {vec : List Int} {own st : List Rc} {bg : Bool} {W : List (List Int)}
def TellI (F : Nat → Prop) (w V : World) (pb : Nat) (id : Int) (own : List Rc) (bg : Bool) (vec : List Int) (W : List (List Int)) (st l : List Rc) (Al : Option Addr) (n tb : Nat) (Ft : Nat → Prop) (mb : Nat) (Av : Option Addr) (nv cv : Nat) (Aw : Option Addr) (nw cw : Nat) (q : Value) (wr : World) : Prop :=
 ∃ k : Nat, q = .int .i64 k ∧ k ≤ n ∧ ∃ F1 D1, Hid (PI F1 w wr pb id own bg vec W ((l.take k).foldl withR st) tb Ft mb Av nv cv Aw nw cw D1 ∧ Stp F V F1 wr ∧ Sta F1 wr (fun X => Rs X 0 X.heap.size Al l))
set_option maxRecDepth 100000 in
set_option maxHeartbeats 2000000 in
theorem PJ.tell_two (h : PJ F w V pb id own bg vec W st) (hok : ∀ x ∈ W, okW x) (hW : W.length ≤ 900) (Ap Ah Al : Option Addr) (cp ch cl nh n : Nat) (p : List Int) (l : List Rc) (hnp : p.length = 2) (hn : l.length = n) (hp : Sta F V (fun X => Ns .i64 X X.heap.size Ap p)) (hl : Sta F V (fun X => Rs X 0 X.heap.size Al l)) (hin : p ∈ W) (har : areF p l = true) (hN : st.length + n ≤ 3518437208882) :
  Calls Tryz.prog 26 #[hd pb, .slice Ap 2 cp, .slice Ah nh ch, .slice Al n cl] V (DoneP F w V pb id own bg vec (W.erase p) (l.foldl withR st)) := by
 obtain ⟨tb, Ft, mb, Av, nv, cv, Aw, nw, cw, D, h⟩ := h
 obtain ⟨c0, c1, c2, c3, c4, c5⟩ := h.cells
 obtain ⟨y0, hy0⟩ : ∃ y : Int, ((p.length : Nat) : Int) = y := ⟨_, rfl⟩
 obtain ⟨y1, hy1⟩ : ∃ y, p.getD 0 0 = y := ⟨_, rfl⟩
 obtain ⟨y2, hy2⟩ : ∃ y, p.getD 1 0 = y := ⟨_, rfl⟩
 have hpv : pV p = .agg #[.int .i64 y0, .int .i64 y1, .int .i64 y2] := by unfold pV; rw [hy0, hy1, hy2]
 have hpo : ∀ X, Wat V pb (.slice Aw nw cw) X → Calls Tryz.prog 59 #[.slice Ap 2 cp] X (fun e w' => e = .returned (.agg #[.int .i64 y0, .int .i64 y1, .int .i64 y2]) ∧ Below X.heap.size X w') := fun X hX => by
  have h := pathOf_any Ap cp 2 p hnp X ((hp.now.below hX.2.1).more hX.2.1.size)
  rwa [hpv] at h
 have HS : Hid (Wat V pb (.slice Aw nw cw) V.drew) := Lib.hid ⟨c4, (Below.refl _ _).drew, h.lt _ h.hpb⟩
 obtain ⟨i, hi, hi1, hi2⟩ := first_idx hin
 have hwl := h.wlen
 have hwf := h.wfew
 rw [hwl] at hi
 obtain ⟨n', hn'⟩ : ∃ n', n' + 1 = nw := ⟨nw - 1, by omega⟩
 have hix : ∀ X, Wat V pb (.slice Aw nw cw) X → Calls Tryz.prog 58 #[.slice Aw nw cw, .func (.func 60) #[.agg #[.int .i64 y0, .int .i64 y1, .int .i64 y2]] #[]] X (fun e w' => e = .returned (.int .i64 i) ∧ Below X.heap.size X w') := fun X hX => by
  have h := index_any Aw w.heap.size cw nw W X (own_below h.want hX.2.1 (Nat.le_refl _)) h.wlen p (by omega)
  rw [hpv] at h
  exact h.mono fun e w' hf => found_in hwl hok hi hi1 hi2 hf
 have hdel : ∀ X, Below V.heap.size V X → Calls Tryz.prog 62 #[.slice Aw nw cw, .int .i64 i, .int .i64 ((i : Int) + 1)] X (fun e w' => e = .returned (.slice Aw n' cw) ∧ Hid (w'.ownsRow 0 101 3 (.slice Aw n' cw) n' (pcells (W.eraseIdx i)) ∧ X.grownBy w' (Value.slice Aw nw cw).ownBlock)) := fun X hX => del_any (own_base (own_below h.want hX (Nat.le_refl _)) (Nat.zero_le _)) hwl hn' hi rfl (by omega)
 have e1 : decide ((i : Int) < 0) = false := decide_eq_false (by omega)
 have hers : W.erase p = W.eraseIdx i := erase_idx W i (by omega) hi1 hi2
 have hben : ∀ X, Below V.heap.size V X → Calls Tryz.prog 61 #[.slice Ap 2 cp, .slice Al n cl] X (fun e w' => e = .returned (.bool true) ∧ Below X.heap.size X w') := fun X hX => by
  have h := beneath_any Ap Al cp cl 2 n p l hnp hn (by omega) (by omega) X ((hp.now.below hX).more hX.size) (rs_rb ((hl.now.below hX).more hX.size))
  rwa [har] at h
 have hokl : okL l := fun r hr => by
  have h := List.all_eq_true.1 har r hr
  simp only [Bool.and_eq_true, decide_eq_true_eq] at h
  exact h.1
 have HC := Lib.hid (And.intro hpo (And.intro hix (And.intro hdel hben)))
 have HP := Lib.hid (And.intro h (And.intro hl (And.intro hokl (And.intro hn (And.intro hers hN)))))
 unfold hd at *
 clear h hpo hix hdel hben hwl hok hnp hp hl hin hi1 hi2 hpv hy0 hy1 hy2 c0 c1 c2 c3 c5 hers hW hn har hokl
 go_enter Tryz.func26, Tryz.ntmps26
 go_wp2_with fail
 go_region_held3 (fun X => X.cell? ⟨pb, 4, none⟩ = some (.slice Aw nw cw) ∧ Below V.heap.size V X ∧ pb < V.heap.size)
  (first
   | exact HS.out
   | exact wat_below (by assumption) (by assumption))
  (first
   | (go_at_call 59; refine (HC.out.1 _ (by assumption)).mono ?_; rintro e w3 ⟨rfl, b3⟩)
   | (go_at_call 58; refine (HC.out.2.1 _ (by assumption)).mono ?_; rintro e w4 ⟨rfl, b4⟩))
 have hb4 : Below V.heap.size V w4 := ((Below.refl _ V).drew).trans (b3.trans (b4.mono b3.size))
 have K := Lib.hid (HC.out.2.2.2 w4 hb4)
 have HB := Lib.hid hb4
 have HS4 := Lib.hid HS.out.2.2
 clear hb4 b3 b4 HS
 go_wp2_with fail
 refine K.out.mono ?_
 rintro e w44 ⟨rfl, b44⟩
 have hb44 := HB.out.trans (b44.mono HB.out.size)
 have K := Lib.hid (HC.out.2.2.1 w44 hb44)
 have c4' : w44.cell? ⟨pb, 4, none⟩ = some (.slice Aw nw cw) := (hb44.cell (p := ⟨pb, 4, none⟩) HS4.out).trans c4
 have HB := Lib.hid hb44
 clear hb44 b44 HC HS4 c4
 go_wp2_with fail
 refine K.out.mono ?_
 rintro e w5 ⟨rfl, h5⟩
 have hX5 := HB.out
 obtain ⟨Z, hZ⟩ : ∃ Z, w5.setCell ⟨pb, 4, none⟩ (.slice Aw n' cw) = Z := ⟨_, rfl⟩
 have H7 : Hid (PI F w Z pb id own bg vec (W.erase p) st tb Ft mb Av nv cv Aw n' cw D ∧ Stp F V F Z) := Lib.hid (by
  have hlo : ∀ g, (Value.slice Aw n' cw).ownBlock = some g → w.heap.size ≤ g := fun g hg => HP.out.1.new _ (HP.out.1.wown g (by have q : (Value.slice Aw n' cw).ownBlock = (Value.slice Aw nw cw).ownBlock := (by cases Aw <;> rfl); rw [← q]; exact hg)).1
  rw [HP.out.2.2.2.2.1, ← hZ]
  exact HP.out.1.less hX5 (own_up h5.out.1 hlo) (by rw [List.length_eraseIdx_of_lt (by have := HP.out.1.wlen; omega)]; have := HP.out.1.wlen; omega) h5.out.2 (by omega))
 have B5 : Bn pb 96 [.int .i64 id, .pointer (some ⟨tb, 0, none⟩), .bool bg, .slice Av nv cv, .slice Aw nw cw, .map (some mb)] w5 := (HP.out.1.blk.same (hX5.block _ HP.out.1.blk.lt)).kept h5.out.2 (fun e => own_ne HP.out.1.want HP.out.1.blk (by decide) e.symm)
 have d4 := B5.cell 4
 have f4 := B5.frozen 4
 simp only [List.getElem?_cons_zero, List.getElem?_cons_succ] at d4
 have H8 : Hid (TellI F w V pb id own bg vec (W.erase p) st l Al n tb Ft mb Av nv cv Aw n' cw (.int .i64 0) Z) := Lib.hid ⟨0, rfl, by omega, F, D, Lib.hid ⟨H7.out.1, H7.out.2, sta_stp HP.out.2.1 H7.out.2⟩⟩
 clear h5 K hX5 c4' B5 H7
 go_wp2_with fail
 clear hZ d4 f4
 go_loopw [53] (fun q wr => TellI F w V pb id own bg vec (W.erase p) st l Al n tb Ft mb Av nv cv Aw n' cw q wr) (fun q _ => n - (intOf q).toNat)
 case atStart => exact H8.out
 case round =>
  clear H8
  obtain ⟨k, rfl, hk, F1, D1, hst⟩ := hrel
  have hN := HP.out.2.2.2.2.2
  by_cases hlt : k < n
  ·have d1 : (0 : Int) ≤ (k : Int) := by omega
   have d2 : (k : Int) < (n : Int) := by omega
   obtain ⟨gl, off, A4, c4, rfl, _, hbB, k0, k1, k2, k3⟩ := hst.out.2.2.now.at HP.out.2.2.2.1 (Below.refl _ wr) hlt rfl
   obtain ⟨r, hrr⟩ : ∃ r, l.getD k r0 = r := ⟨_, rfl⟩
   rw [hrr] at k0 k1 k2 k3
   have hkl : k < l.length := by have := HP.out.2.2.2.1; omega
   have hok : okR r := HP.out.2.2.1 r (by rw [← hrr]; exact getD_mem hkl)
   obtain ⟨key, lv⟩ := r
   simp only at k0 k1 k2 k3
   obtain ⟨ml, hml⟩ : ∃ ml, lv.length = ml := ⟨_, rfl⟩
   rw [hml] at k1 k3
   obtain ⟨Y, hY⟩ : ∃ Y, wr.alloc (.cells #[.string key, .slice A4 ml c4] 70) = Y := ⟨_, rfl⟩
   obtain ⟨rb, hrb⟩ : ∃ rb, wr.heap.size = rb := ⟨_, rfl⟩
   have bY : Below wr.heap.size wr Y := by rw [← hY]; exact (Below.refl _ wr).alloc (Nat.le_refl _) _
   have BY : Blk.Bn rb 70 [.string key, .slice A4 ml c4] Y := by rw [← hY, ← hrb]; exact World.alloc_heap_new _ _
   have x0 := BY.cell 0
   have x1 := BY.cell 1
   simp only [List.getElem?_cons_zero, List.getElem?_cons_succ] at x0 x1
   obtain ⟨st1, hst1⟩ : ∃ s, (l.take k).foldl withR st = s := ⟨_, rfl⟩
   have hI := hst.out.1
   rw [hst1] at hI
   have hfold : (l.take (k + 1)).foldl withR st = withR st1 (key, lv) := by rw [Mend.take_at hkl, hrr, List.foldl_append, hst1]; rfl
   have hslen : st1.length ≤ 3518437208882 := by
    have h := fold_len (l.take k) st
    rw [hst1, List.length_take] at h
    omega
   have hIY := hI.below bY
   have p5 := hIY.blk.cell 5
   simp only [List.getElem?_cons_zero, List.getElem?_cons_succ] at p5
   have hkz : okN key := by have h9 : key.size ≤ 32 := hok.2.1; unfold okN maxLen; omega
   have hDl := hI.dlen
   have hmr : mb ≠ rb := fun e => hIY.map.ne (g := rb) BY e.symm
   have hpm : pb ≠ mb := hIY.map.ne hIY.blk
   have hpl := hIY.blk.lt
   have hsY := bY.size
   by_cases hm0 : ml = 0
   ·have e0 : ((ml : Int) == 0) = true := by rw [hm0]; rfl
    obtain ⟨W4, hrun, hM4, hg4⟩ := MI.drop (w := Y.drew) (hIY.map.same rfl) key hkz 0
    have hgg : Y.grownBy W4 (some mb) := ⟨hg4.os, hg4.tape, hg4.output, hg4.size, hg4.block⟩
    have z5 : W4.cell? ⟨pb, 5, none⟩ = some (.map (some mb)) := (World.cell?_of_block (hgg.block pb hpl (by intro q; injection q with q; exact hpm q))).trans p5
    have z0 : W4.cell? ⟨rb, 0, none⟩ = some (.string key) := (World.cell?_of_block (hgg.block rb BY.lt (by intro q; injection q with q; exact hmr q.symm))).trans x0
    have HFIN : Hid (TellI F w V pb id own bg vec (W.erase p) st l (some ⟨gl, off, none⟩) n tb Ft mb Av nv cv Aw n' cw (.int .i64 ((k : Int) + 1)) W4) := Lib.hid (by
     have hlv : lv = [] := List.eq_nil_of_length_eq_zero (by omega)
     have hw : withR st1 (key, lv) = wout st1 key := by unfold withR; rw [if_pos hlv]
     have hS := hI.stage (F' := F1) bY hgg hM4 (st' := wout st1 key) (by rw [← hw]; exact hI.lst.fold (m := [(key, lv)]) fun x hx => by rw [List.mem_singleton.1 hx]; exact hok) (hold_wout hI.hold hI.map.srt hI.lst.1.1 hDl key) (fun k hk => hk) (fun k hk => .inl hk) ((hIY.hold.drop key).keep hgg.size fun j hj _ hM => hgg.block j hj fun e => hM (.inr (.inr (.inl (by injection e)))))
     refine ⟨k + 1, by go_num, by omega, F1, wout D1 key, Lib.hid ⟨?_, hst.out.2.1.trans hS.2, sta_stp hst.out.2.2 hS.2⟩⟩
     rw [hfold, hw]
     exact hS.1)
    clear hm0 hst hI hIY hM4 hg4 hgg hDl hmr hpm hpl bY BY hfold hst1 hrr hml hok k2 k3 hkl hslen hkz
    go_wp2_with fail
    go_region_held3 (fun X => X.cell? ⟨pb, 5, none⟩ = some (.map (some mb)) ∧ X.cell? ⟨rb, 0, none⟩ = some (.string key))
     (first | exact ⟨p5, x0⟩ | exact ⟨z5, z0⟩) (first | fail)
    go_wp2_with fail
    go_roundw
    case rel => exact HFIN.out
    case measure => simp only [intOf]; omega
   ·have e0 : ((ml : Int) == 0) = false := by simp; omega
    have HK : Hid (Calls Tryz.prog 63 #[.slice A4 ml c4] Y.drew fun e w3 => ∃ A1 c1 W4, e = .returned (.slice A1 ml c1) ∧ w3.cell? ⟨pb, 5, none⟩ = some (.map (some mb)) ∧ w3.cell? ⟨rb, 0, none⟩ = some (.string key) ∧ w3.cell? ⟨rb, 1, none⟩ = some (.slice A4 ml c4) ∧ (Instr.mapUpdate 93 (.map (some mb)) (.string key) (.slice A1 ml c1)).run Tryz.prog w3 = .ok () W4 ∧
      W4.cell? ⟨pb, 5, none⟩ = some (.map (some mb)) ∧ W4.cell? ⟨rb, 0, none⟩ = some (.string key) ∧ W4.cell? ⟨rb, 1, none⟩ = some (.slice A4 ml c4) ∧ Hid (TellI F w V pb id own bg vec (W.erase p) st l (some ⟨gl, off, none⟩) n tb Ft mb Av nv cv Aw n' cw (.int .i64 ((k : Int) + 1)) W4)) := Lib.hid (by
     refine (vers_new key (by have h9 : key.size ≤ 32 := hok.2.1; omega) A4 c4 ml lv hml hok.2.2 Y.drew ((k2.below bY).more bY.size)).mono ?_
     rintro e w3 ⟨A1, c1, he, hrec, b3⟩
     have b3' : Below Y.heap.size Y w3 := (show Below Y.heap.size Y Y.drew from (Below.refl _ _).drew).trans b3
     have hY3 : Y.drew.heap.size = Y.heap.size := rfl
     have s3 := b3'.size
     have hI3 := hIY.below b3'
     obtain ⟨W4, hrun, hM4, hg4⟩ := MI.store (w := w3) hI3.map (by omega) key hkz (.slice A1 ml c1)
     have k4 : ∀ b, b < Y.heap.size → b ≠ mb → W4.heap[b]? = Y.heap[b]? := fun b hb hn => (hg4.block b (by omega) (by intro q; injection q with q; exact hn q)).trans (b3'.block b hb)
     refine ⟨A1, c1, W4, he, (World.cell?_of_block (b3'.block pb hpl)).trans p5, (World.cell?_of_block (b3'.block rb BY.lt)).trans x0, (World.cell?_of_block (b3'.block rb BY.lt)).trans x1, hrun, (World.cell?_of_block (k4 pb hpl hpm)).trans p5, (World.cell?_of_block (k4 rb BY.lt (fun q => hmr q.symm))).trans x0, (World.cell?_of_block (k4 rb BY.lt (fun q => hmr q.symm))).trans x1, Lib.hid ?_⟩
     have hlv : lv ≠ [] := fun q => by rw [q] at hml; simp at hml; omega
     have hw : withR st1 (key, lv) = wit st1 key lv := by unfold withR; rw [if_neg hlv]
     have hbw : Below wr.heap.size wr w3 := bY.trans (b3'.mono hsY)
     have hFn : ∀ k, F1 k → k < wr.heap.size := fun k hk => hI.lt k hk
     have hS := hI.stage (F' := fun k => F1 k ∨ (Y.heap.size ≤ k ∧ k < w3.heap.size)) hbw hg4 hM4 (st' := wit st1 key lv) (by rw [← hw]; exact hI.lst.fold (m := [(key, lv)]) fun x hx => by rw [List.mem_singleton.1 hx]; exact hok) (by rw [wit, wit, len_ins, len_ins]; have := hold_wout hI.hold hI.map.srt hI.lst.1.1 hDl key; omega) (fun k hk => .inl hk) (fun k hk => hk.imp (fun e => e) fun e => ⟨by omega, e.2⟩)
      (((hI3.hold.mono (F' := fun k => F1 k ∨ (Y.heap.size ≤ k ∧ k < w3.heap.size)) (fun j hj => .inl hj) (fun _ _ _ e => e)).put (key := key) hml hrec.out.vs (by have := hrec.out.1; simp only at this; omega) (Nat.le_refl _) (fun j hj hjB => ⟨.inr ⟨hj, hjB⟩, fun e => by
        have hj2 : Y.heap.size ≤ j := hj
        rcases e with e | e | e | e
        ·omega
        ·have := hFn _ (hI.sub _ hI.tree.own); omega
        ·have := hFn _ hI.mown; omega
        ·have := hFn _ (hI.wown j e).1; omega⟩)).keep hg4.size fun j hj _ hM => hg4.block j hj fun e => hM (.inr (.inr (.inl (by injection e)))))
     refine ⟨k + 1, by go_num, by omega, _, wit D1 key (.slice A1 ml c1), Lib.hid ⟨?_, hst.out.2.1.trans hS.2, sta_stp hst.out.2.2 hS.2⟩⟩
     rw [hfold, hw]
     exact hS.1)
    clear hst hI hIY hDl hmr hpm hpl bY BY hfold hst1 hrr hml hok k2 k3 hkl hslen hkz
    go_wp2_with fail
    go_region_held3 (fun X => X.cell? ⟨pb, 5, none⟩ = some (.map (some mb)) ∧ X.cell? ⟨rb, 0, none⟩ = some (.string key) ∧ X.cell? ⟨rb, 1, none⟩ = some (.slice A4 ml c4))
     (first | exact ⟨p5, x0, x1⟩ | (refine ⟨?_, ?_, ?_⟩ <;> assumption))
     (first
      | (go_at_call 63; refine HK.out.mono ?_; rintro e w3 ⟨A1, c1, W4, rfl, q0, q1, q2, hrun, q3, q4, q5, hfin⟩))
    all_goals
     go_wp2_with fail
     go_roundw
     case rel => exact hfin.out
     case measure => simp only [intOf]; omega
  ·have hkn : k = n := by omega
   subst hkn
   have HF : Hid (DoneP F w V pb id own bg vec (W.erase p) (l.foldl withR st) (.returned (.bool true)) wr) := Lib.hid ⟨rfl, F1, Lib.hid ⟨⟨_, _, _, _, _, _, _, _, _, D1, by
    have h := hst.out.1
    rwa [List.take_of_length_le (by have := HP.out.2.2.2.1; omega)] at h⟩, hst.out.2.1⟩⟩
   clear hst
   go_wp2_with fail
   go_ret
   exact HF.out
end
end Pull
end Go.Proofs.YtkfdplfgaddkmaaGreat

/-
 A cut and a pull in one world (layer 19).
-/
namespace Go.Proofs.YtkfdplfgaddkmaaGreat
namespace Pull
open Go.RowKit Blk Go.Maps Disk Tree Vers Num Ring Mend
open Go.Proofs.YtkfdplfgaddkmaaGreat.Code hiding Bn
attribute [local go_sem ↓] Go.wp_at_zero Go.wp_at_succ
def Un (F G : Nat → Prop) (k : Nat) : Prop := F k ∨ G k
structure PP (Fc Fp : Nat → Prop) (w V : World) (cb : Nat) (id : Int) (cv : List Int) (cut : List Rc) (pb : Nat) (id' : Int) (own : List Rc) (bg : Bool) (pv : List Int) (W : List (List Int)) (st : List Rc) : Prop where
 cut : CN Fc w V cb id cv cut
 pull : PJ Fp w V pb id' own bg pv W st
 dis : ∀ k, Fc k → ¬ Fp k
theorem sta_high {F : Nat → Prop} {k : IntKind} {V : World} {B : Nat} {A : Option Addr} {zs : List Int} (h : Ns k V V.heap.size A zs) (hA : ∀ a, 0 < zs.length → A = some a → B ≤ a.block) (hF : ∀ j, F j → j < B) : Sta F V (fun X => Ns k X X.heap.size A zs) := fun X hs hk hp => by
 obtain ⟨b, off, e, hb, hc⟩ := h hp
 refine ⟨b, off, e, by omega, fun j hj => (World.cell?_of_block (hk b hb fun q => ?_)).trans (hc j hj)⟩
 have := hA _ hp e
 have := hF b q
 simp only at *
 omega
theorem sta_got {F : Nat → Prop} {V : World} {B : Nat} {A : Option Addr} {ps : List Pr} (h : Got B V A ps) (hF : ∀ j, F j → j < B) : Sta F V (fun X => Rs X 0 X.heap.size A (ps.map Prod.fst)) := fun X hs hk => by
 have h2 : Got B X A ps := h.keep hs fun k h1 h2 => hk k h2 fun q => by have := hF k q; omega
 exact h2.rs.less (Nat.zero_le _)
section
variable {Fc Fp G : Nat → Prop} {w V V' : World} {cb pb : Nat} {id id' : Int} {cv pv : List Int} {cut own st : List Rc} {bg : Bool} {W : List (List Int)}
theorem PP.below (h : PP Fc Fp w V cb id cv cut pb id' own bg pv W st) (hb : Below V.heap.size V V') : PP Fc Fp w V' cb id cv cut pb id' own bg pv W st := ⟨h.1.below hb, h.2.below hb, h.3⟩
theorem PP.chg (h : PP Fc Fp w V cb id cv cut pb id' own bg pv W st) (hc : Chg G V V') (hG : ∀ k, Un Fc Fp k → ¬ G k) (hw : ∀ k, G k → w.heap.size ≤ k) : PP Fc Fp w V' cb id cv cut pb id' own bg pv W st := ⟨h.1.chg hc (fun k hk => hG k (.inl hk)) hw, h.2.chg hc (fun k hk => hG k (.inr hk)) hw, h.3⟩
theorem PP.lt (h : PP Fc Fp w V cb id cv cut pb id' own bg pv W st) {k : Nat} (hk : Un Fc Fp k) : k < V.heap.size := hk.elim h.1.lt h.2.lt
theorem PP.new (h : PP Fc Fp w V cb id cv cut pb id' own bg pv W st) {k : Nat} (hk : Un Fc Fp k) : w.heap.size ≤ k := hk.elim h.1.new h.2.new
theorem PP.step {bg' : Bool} {pv' : List Int} {W' : List (List Int)} {st' : List Rc} {F' : Nat → Prop} (h : PP Fc Fp w V cb id cv cut pb id' own bg pv W st) (hp : PJ F' w V' pb id' own bg' pv' W' st') (hs : Stp Fp V F' V') : PP Fc F' w V' cb id cv cut pb id' own bg' pv' W' st' ∧ Stp (Un Fc Fp) V (Un Fc F') V' := by
 refine ⟨⟨h.1.chg hs.1 (fun k hk => h.3 k hk) fun k hk => h.2.new hk, hp, fun k hk hk' => ?_⟩, hs.1.mono fun k hk => .inr hk, fun k hk => ?_⟩
 ·rcases hs.2 k hk' with q | q
  ·exact h.3 k hk q
  ·have := h.1.lt hk; omega
 ·rcases hk with q | q
  ·exact .inl (.inl q)
  ·exact (hs.2 k q).imp .inr fun e => e
theorem PP.told (h : PP Fc Fp w V cb id cv cut pb id' own bg pv W st) (hc : CN Fc w V' cb id cv cut) (hs : Chg Fc V V') : PP Fc Fp w V' cb id cv cut pb id' own bg pv W st ∧ Stp (Un Fc Fp) V (Un Fc Fp) V' :=
 ⟨⟨hc, h.2.chg hs (fun _k hk hk' => h.3 _k hk' hk) fun _k hk => h.1.new hk, h.3⟩, hs.mono fun _k hk => .inl hk, fun _k hk => .inl hk⟩
theorem PP.open_any (h : PP Fc Fp w V cb id cv cut pb id' own bg pv W st) : Calls Tryz.prog 19 #[hd cb] V (fun e w' => ∃ A m c, e = .returned (.slice A m c) ∧ Hid ((kidsF cut []).length = m ∧ Sta (Un Fc Fp) w' (fun X => Ns .u64 X X.heap.size A (kidsF cut [])) ∧ PP Fc Fp w w' cb id cv cut pb id' own bg pv W st ∧ Stp (Un Fc Fp) V (Un Fc Fp) w')) := by
 refine (CN.open_any h.1).mono ?_
 rintro e w' ⟨A, m, c, rfl, hh⟩
 obtain ⟨q1, q2, q3, q4, q5, q6⟩ := hh.out
 have h2 := h.told q5 q6
 exact ⟨A, m, c, rfl, Lib.hid ⟨q1, sta_high q3 (fun a hp ha => q4 a (by omega) ha) (fun j hj => h.lt hj), h2.1, h2.2⟩⟩
def VecQ (F : Nat → Prop) (vec : List Int) (V : World) (e : Ending) (w' : World) : Prop := ∃ A c n, e = .returned (.slice A n c) ∧ Hid (vec.length = n ∧ n ≤ 16 ∧ Sta F w' (fun X => Ns .i64 X X.heap.size A vec) ∧ w'.ownsRow V.heap.size 2 1 (.slice A n c) n (nums .i64 vec)) ∧ Below V.heap.size V w'
theorem vecN_Q {F : Nat → Prop} {vec : List Int} {V w' : World} {e : Ending} (h : VecN vec V e w') (hF : ∀ j, F j → j < V.heap.size) : VecQ F vec V e w' := by
 obtain ⟨A, c, n, rfl, hh, hb⟩ := h
 obtain ⟨q1, q2, q3⟩ := hh.out
 exact ⟨A, c, n, rfl, Lib.hid ⟨q1, q2, sta_row q3 q1 fun g hg q => by have := (q3.lt g hg).1; have := hF g q; omega, q3⟩, hb⟩
theorem PP.cvec (h : PP Fc Fp w V cb id cv cut pb id' own bg pv W st) : Calls Tryz.prog 18 #[hd cb] V (VecQ (Un Fc Fp) cv V) := (CN.vec_any h.1).mono fun _ _ hh => vecN_Q hh fun _ hj => h.lt hj
theorem OwnP.at {base m j : Nat} {X : World} {A : Option Addr} {c : Nat} {es : List Pw} {W : List (List Int)} (h : OwnP base X (.slice A m c) m es) (hW : es.map Pw.p = W) (hj : j < m) {p : List Int} (hp : W.getD j [] = p) :
  ∃ g A1 c1, A = some ⟨g, 0, none⟩ ∧ base ≤ g ∧ g < X.heap.size ∧ X.cell? ⟨g, j, none⟩ = some (.slice A1 p.length c1) ∧ p.length ≤ c1 ∧ X.ownsRow base 3 1 (.slice A1 p.length c1) p.length (nums .i64 p) := by
 obtain ⟨h1, h2, h3⟩ := h
 have hj2 : j < es.length := by omega
 have he : es[j].p = p := by
  rw [← hp, ← hW]
  simp [List.getD_eq_getElem?_getD, hj2]
 have hr := h3 es[j] (List.getElem_mem hj2)
 rcases h2.2 with ⟨_, h0⟩ | ⟨g, cap, cur, hv, hbg, hg, rest⟩
 ·omega
 ·injection hv with e1 e2 e3
  subst e1
  have hc := World.ownsRow.cellAt h2 j (by omega)
  have hat : (es.map pwc)[j]? = some (pwc es[j]) := by rw [List.getElem?_map, List.getElem?_eq_getElem hj2]; rfl
  unfold pwc at hat hr
  rw [he] at hat hr
  exact ⟨g, es[j].A, es[j].c, rfl, hbg, (Array.getElem?_eq_some_iff.1 hg).1, hc.trans hat, (own_low hr).1, hr⟩
end
theorem Tl.room {own cut st : List Rc} {T : List (Int × Int)} {W : List (List Int)} (h : Tl own cut T W st) (hc : Lst cut) {d e : Int} (hd : [d, e] ∈ W) : st.length + (beneath cut [d, e]).length ≤ cut.length := by
 have hT : (d, e) ∉ T := by
  rcases h.shape _ hd with ⟨d', e', _⟩ | ⟨d', e', e2, _, _, _, r4⟩
  ·simp at e'
  ·injection e2 with e3 e4
   have e5 := one_inj e4
   subst e3 e5
   exact r4
 have hnd : ∀ {l : List Rc}, Srt l → l.Nodup := fun hs => by
  unfold Srt at hs
  exact List.Pairwise.imp (fun hxy e => nlt_ne hxy (congrArg Prod.fst e)) hs
 have h1 : (st ++ beneath cut [d, e]).Nodup := by
  rw [List.nodup_append]
  refine ⟨hnd h.lst.1.1, hnd (beneath_hel hc.1 _).1, fun x hx y hy exy => ?_⟩
  subst exy
  have g1 := h.get x.1
  rw [getF_mem h.lst.1.1 hx] at g1
  have hleaf : leafOf x.1 = (d, e) := (in_leafOf d e x.1).1 (beneath_mem.1 hy).2
  rw [hleaf, if_neg hT] at g1
  exact h.lst.1.2 x hx g1
 have h2 := nodup_len (m := cut) h1 fun x hx => by
  rcases List.mem_append.1 hx with hx | hx
  ·have h3 := h.theirs hx
   have h4 := h.lst.1.2 x hx
   unfold getF at h3
   cases hf : find cut x.1 with
   | none => rw [hf] at h3; exact absurd h3.symm h4
   | some lv =>
    rw [hf] at h3
    have := find_some hf
    rwa [show lv = x.2 from h3] at this
  ·exact (beneath_mem.1 hx).1
 rwa [List.length_append] at h2
end Pull
end Go.Proofs.YtkfdplfgaddkmaaGreat

/-
 firthlaw19.told: all that is wanted is told as the cut has it (layer 19).
-/
namespace Go.Proofs.YtkfdplfgaddkmaaGreat
namespace Pull
open Go.RowKit Blk Go.Maps Disk Tree Vers Num Ring Mend
open Go.Proofs.YtkfdplfgaddkmaaGreat.Code hiding Bn
attribute [local go_sem ↓] Go.wp_at_zero Go.wp_at_succ
def ToldQ (Fc Fp : Nat → Prop) (w V : World) (cb : Nat) (id : Int) (cv : List Int) (cut : List Rc) (pb : Nat) (id' : Int) (own : List Rc) (pv : List Int) (e : Ending) (w' : World) : Prop :=
 e = .returned (.bool true) ∧ ∃ Fp' T' st', Hid (PP Fc Fp' w w' cb id cv cut pb id' own true pv [] st' ∧ Tl own cut T' [] st' ∧ Stp (Un Fc Fp) V (Un Fc Fp') w')
def Telling (Fc Fp : Nat → Prop) (w V : World) (cb : Nat) (id : Int) (cv : List Int) (cut : List Rc) (pb : Nat) (id' : Int) (own : List Rc) (pv : List Int) (Ao : Option Addr) (order : List Int) (q : Value) (wr : World) : Prop :=
 ∃ i : Nat, q = .int .i64 i ∧ i ≤ 299 ∧ ∃ Fp1 T W st, Hid (PP Fc Fp1 w wr cb id cv cut pb id' own true pv W st ∧ Tl own cut T W st ∧ Stp (Un Fc Fp) V (Un Fc Fp1) wr ∧ Sta (Un Fc Fp1) wr (fun X => Ns .i64 X X.heap.size Ao order) ∧ i + work W ≤ 299)
theorem tl_ok {own cut st : List Rc} {T : List (Int × Int)} {W : List (List Int)} (h : Tl own cut T W st) : ∀ p ∈ W, okW p := fun p hp => by
 have hd : ∀ {a b : List Int} {d : Int}, d ∈ diffF a b → 0 ≤ d ∧ d < 16 := fun hd => by
  unfold diffF at hd
  obtain ⟨i, hi, rfl⟩ := List.mem_map.1 hd
  have := List.mem_range.1 (List.mem_filter.1 hi).1
  omega
 rcases h.shape p hp with ⟨d, rfl, h1⟩ | ⟨d, e, rfl, h1, h2, _⟩
 ·exact ⟨ok_one.2 (hd h1), .inl rfl⟩
 ·exact ⟨ok_two.2 ⟨hd h1, hd h2⟩, .inr rfl⟩
theorem work_len (W : List (List Int)) : W.length ≤ work W := by
 induction W with
 | nil => exact Nat.zero_le _
 | cons x W ih =>
  unfold work at ih ⊢
  simp only [List.map_cons, List.sum_cons, List.length_cons]
  split <;> omega
theorem u64_pos (x : Int) : 0 ≤ IntKind.u64.wrap x := by
 unfold IntKind.wrap
 simp [IntKind.bits, IntKind.signed]
 omega
theorem okA_lst {l : List Rc} (h : okAll l) : Lst l := ⟨⟨h.1, fun r hr => (h.2 r hr).2⟩, fun r hr => (h.2 r hr).1⟩
section
variable {Fc Fp : Nat → Prop} {w V : World} {cb pb : Nat} {id id' : Int} {cv pv : List Int} {cut own st : List Rc} {W : List (List Int)} {T : List (Int × Int)}
set_option maxRecDepth 100000 in
set_option maxHeartbeats 4000000 in
theorem told_any (h : PP Fc Fp w V cb id cv cut pb id' own true pv W st) (ht : Tl own cut T W st) (hw : work W ≤ 272) (Ao : Option Addr) (co no : Nat) (order : List Int) (hno : order.length = no) (hbo : no ≤ 140737488355328) (hor : Sta (Un Fc Fp) V (fun X => Ns .i64 X X.heap.size Ao order)) :
  Calls Tryz.prog 37 #[hd cb, hd pb, .slice Ao no co] V (ToldQ Fc Fp w V cb id cv cut pb id' own pv) := by
 have H0 : Hid (Telling Fc Fp w V cb id cv cut pb id' own pv Ao order (.int .i64 0) V) := Lib.hid ⟨0, rfl, by omega, Fp, T, W, st, Lib.hid ⟨h, ht, Stp.refl _ _, hor, by omega⟩⟩
 have HC := Lib.hid (And.intro (okA_lst h.1.okA) (And.intro hno (And.intro hbo h.1.few)))
 have hu := @hd
 unfold hd at *
 clear h ht hw hor hno hu
 go_enter Tryz.func37, Tryz.ntmps37
 go_wp2_with fail
 go_loopw [7] (fun q wr => Telling Fc Fp w V cb id cv cut pb id' own pv Ao order q wr) (fun q _ => 300 - (intOf q).toNat)
 case atStart => exact H0.out
 case round =>
  clear H0
  obtain ⟨i, rfl, hi, Fp1, T1, W1, st1, hst⟩ := hrel
  have d1 : (i : Int) < 300 := by omega
  have K1 := Lib.hid (PJ.wants_any hst.out.1.pull (tl_ok hst.out.2.1))
  have hN := HC.out.2.2.2
  unfold hd at K1
  by_cases hW : W1 = []
  ·subst hW
   go_wp2_with fail
   refine K1.out.mono ?_
   rintro e w1 ⟨A1, m1, c1, es, rfl, h1, b1⟩
   obtain rfl : 0 = m1 := h1.out.2.1
   have HF : Hid (ToldQ Fc Fp w V cb id cv cut pb id' own pv (.returned (.bool true)) w1) := Lib.hid ⟨rfl, Fp1, T1, st1, Lib.hid ⟨hst.out.1.below b1, hst.out.2.1, hst.out.2.2.1.trans (Stp.of_below b1)⟩⟩
   clear h1 b1 K1 hst
   go_wp2_with fail
   go_ret
   exact HF.out
  ·go_wp2_with fail
   refine K1.out.mono ?_
   rintro e w1 ⟨A1, m1, c1, es, rfl, h1, b1⟩
   have hm0 : 0 < m1 := by
    rw [← h1.out.2.1]
    exact List.length_pos_iff.2 hW
   have hm9 : m1 ≤ 299 := by
    have h2 := work_len W1
    have h3 := hst.out.2.2.2.2
    rw [h1.out.2.1] at h2
    omega
   have e1 : ((m1 : Int) == 0) = false := by simp; omega
   have HW : Hid (PP Fc Fp1 w w1 cb id cv cut pb id' own true pv W1 st1 ∧ Stp (Un Fc Fp) V (Un Fc Fp1) w1 ∧ Sta (Un Fc Fp1) w1 (fun X => Ns .i64 X X.heap.size Ao order) ∧ Tl own cut T1 W1 st1 ∧ i + work W1 ≤ 299 ∧ es.map Pw.p = W1 ∧ OwnP wr.heap.size w1 (.slice A1 m1 c1) m1 es ∧ (∀ j, Un Fc Fp1 j → j < wr.heap.size) ∧ W1.length = m1) := Lib.hid ⟨hst.out.1.below b1, hst.out.2.2.1.trans (Stp.of_below b1), sta_below hst.out.2.2.2.1 b1, hst.out.2.1, hst.out.2.2.2.2, h1.out.1, h1.out.2.2.2, fun j hj => hst.out.1.lt hj, h1.out.2.1⟩
   clear h1 b1 K1 hst hW
   have HJ : Hid (∀ j, j < m1 → ∃ p g Aj cj, Hid (W1.getD j [] = p ∧ p ∈ W1) ∧ A1 = some ⟨g, 0, none⟩ ∧ w1.cell? ⟨g, j, none⟩ = some (.slice Aj p.length cj) ∧ g < w1.heap.size ∧ (∀ k, Un Fc Fp1 k → k ≠ g) ∧ Hid (Sta (Un Fc Fp1) w1 (fun X => Ns .i64 X X.heap.size Aj p))) := Lib.hid fun j hj => by
    obtain ⟨g, Aj, cj, h1, h2, h3, h4, _, h6⟩ := HW.out.2.2.2.2.2.2.1.at HW.out.2.2.2.2.2.1 hj rfl
    exact ⟨_, g, Aj, cj, Lib.hid ⟨rfl, getD_in (by have := HW.out.2.2.2.2.2.2.2.2; omega)⟩, h1, h4, h3, fun k hk e => by have := HW.out.2.2.2.2.2.2.2.1 k hk; omega, Lib.hid (sta_row h6 rfl fun g hg hF => by have := (h6.lt g hg).1; have := HW.out.2.2.2.2.2.2.2.1 g hF; omega)⟩
   go_upto_if 25 with (fail)
   go_cut [9] (fun q X => Hid (X = w1) ∧ ∃ j : Nat, j < m1 ∧ q = .int .i64 j)
   case first =>
    by_cases hlt : i < no
    ·have d2 : (0 : Int) ≤ (i : Int) := by omega
     have d3 : (i : Int) < (no : Int) := by omega
     obtain ⟨go, oo, rfl, hgo, hco⟩ := HW.out.2.2.1.now (by have := HC.out.2.1; omega)
     obtain ⟨x, hx⟩ : ∃ x, order.getD i 0 = x := ⟨_, rfl⟩
     have xo := hco i (by have := HC.out.2.1; omega)
     rw [hx] at xo
     clear hco hx
     go_wp2_with fail
     go_meet
     refine ⟨Lib.hid rfl, ?_⟩
     have hy := u64_pos x
     obtain ⟨y, hy2⟩ : ∃ y, IntKind.u64.wrap x = y := ⟨_, rfl⟩
     rw [hy2] at hy ⊢
     have t1 : 0 ≤ y.tmod (m1 : Int) := Int.tmod_nonneg _ hy
     have t2 : y.tmod (m1 : Int) < (m1 : Int) := Int.tmod_lt_of_pos _ (by omega)
     refine ⟨(y.tmod (m1 : Int)).toNat, by omega, ?_⟩
     rw [IntWalk.wrap64_in _ (by omega)]
     congr 1
     omega
    ·have d3 : ¬ (i : Int) < (no : Int) := by omega
     go_wp2_with fail
     go_meet
     exact ⟨Lib.hid rfl, 0, hm0, rfl⟩
   case rest =>
    obtain ⟨hwc, j, hj, rfl⟩ := hcut
    obtain ⟨p, g, Aj, cj, hp, rfl, hg, hgl, hgF, hSp⟩ := HJ.out j hj
    obtain ⟨Wc, hWc⟩ : ∃ X, X = wc := ⟨_, rfl⟩
    subst hWc
    have hwc := hwc.out
    subst hwc
    have j1 : (0 : Int) ≤ (j : Int) := by omega
    have j2 : (j : Int) < (m1 : Int) := by omega
    obtain ⟨np, hnp⟩ : ∃ np, p.length = np := ⟨_, rfl⟩
    rw [hnp] at hg
    have hokp := tl_ok HW.out.2.2.2.1 p hp.out.2
    have K2 := Lib.hid (CN.want_any HW.out.1.cut Aj cj np p hnp (by have := hokp.2; omega) hSp.out.now)
    unfold hd at K2
    rcases okW_form hokp with ⟨d, rfl⟩ | ⟨d, d', rfl⟩
    ·obtain rfl : 1 = np := hnp
     go_wp2_with fail
     refine K2.out.mono ?_
     rintro e w2 (⟨hok2, hl2, A5, m5, c5, rfl, h5⟩ | ⟨hok2, hl2, _⟩ | ⟨hno2, _⟩)
     ·obtain ⟨q1, q2, q3, q4, q5, q6⟩ := h5.out
      have h2 := HW.out.1.told q5 q6
      have gc : w2.cell? ⟨g, j, none⟩ = some (.slice Aj 1 cj) := (World.cell?_of_block (q6.block g hgl fun e => hgF g (.inl e) rfl)).trans hg
      have K3 := Lib.hid (PJ.tell_one h2.1.pull (tl_ok HW.out.2.2.2.1) (by have := HW.out.2.2.2.2.2.2.2.2; omega) Aj A5 none cj c5 0 m5 0 [d] (kidsF cut [d]) rfl q1 ((sta_stp hSp.out h2.2).less fun k hk => .inr hk) (sta_high q3 (fun a hp ha => q4 a (by omega) ha) fun k hk => HW.out.1.lt (.inr hk)) hp.out.2)
      have H2 := Lib.hid h2
      have HNX := Lib.hid (HW.out.2.2.2.1.one hp.out.2)
      unfold hd at K3
      clear q1 q2 q3 q4 q5 q6 h2 h5 K2 hg hokp
      go_wp2_with fail
      refine K3.out.mono ?_
      rintro e w3 ⟨rfl, F', h6⟩
      have h7 := H2.out.1.step h6.out.1 h6.out.2
      have HF : Hid (Telling Fc Fp w V cb id cv cut pb id' own pv Ao order (.int .i64 ((i : Int) + 1)) w3) := Lib.hid ⟨i + 1, by go_num, by have := HW.out.2.2.2.2.1; have := HNX.out.2; omega, F', _, _, _, Lib.hid ⟨h7.1, HNX.out.1, (HW.out.2.1.trans H2.out.2).trans h7.2, sta_stp (sta_stp HW.out.2.2.1 H2.out.2) h7.2, by have := HW.out.2.2.2.2.1; have := HNX.out.2; omega⟩⟩
      clear h6 h7 K3 gc
      go_wp2_with fail
      go_roundw
      case rel => exact HF.out
      case measure => simp only [intOf]; omega
     ·simp at hl2
     ·exact absurd ⟨hokp.1, hokp.2⟩ hno2
    ·obtain rfl : 2 = np := hnp
     go_wp2_with fail
     refine K2.out.mono ?_
     rintro e w2 (⟨hok2, hl2, _⟩ | ⟨hok2, hl2, A5, m5, c5, ps, rfl, h5⟩ | ⟨hno2, _⟩)
     ·simp at hl2
     ·obtain ⟨q1, q2, q3, q4, q5, q6⟩ := h5.out
      have h2 := HW.out.1.told q5 (Chg.of_below q6)
      have gc : w2.cell? ⟨g, j, none⟩ = some (.slice Aj 2 cj) := (q6.cell (p := ⟨g, j, none⟩) hgl).trans hg
      have hrec : recsF cut [d, d'] = beneath cut [d, d'] := by unfold recsF; rw [if_pos hok2]
      have HNX := Lib.hid (HW.out.2.2.2.1.two HC.out.1 hp.out.2)
      have hroom := HW.out.2.2.2.1.room HC.out.1 hp.out.2
      have K3 := Lib.hid (PJ.tell_two h2.1.pull (tl_ok HW.out.2.2.2.1) (by have := HW.out.2.2.2.2.2.2.2.2; omega) Aj none A5 cj 0 c5 0 m5 [d, d'] (recsF cut [d, d']) rfl q2.symm ((sta_stp hSp.out h2.2).less fun k hk => .inr hk) (by have h := sta_got (F := Fp1) q4 (fun k hk => HW.out.1.lt (.inr hk)); rwa [q1] at h) hp.out.2 (by rw [hrec]; exact HNX.out.2.2) (by rw [q2, hrec]; omega))
      rw [hrec] at K3
      have H2 := Lib.hid h2
      unfold hd at K3
      clear q1 q2 q3 q4 q5 q6 h2 h5 K2 hg hokp hrec hroom
      go_wp2_with fail
      refine K3.out.mono ?_
      rintro e w3 ⟨rfl, F', h6⟩
      have h7 := H2.out.1.step h6.out.1 h6.out.2
      have HF : Hid (Telling Fc Fp w V cb id cv cut pb id' own pv Ao order (.int .i64 ((i : Int) + 1)) w3) := Lib.hid ⟨i + 1, by go_num, by have := HW.out.2.2.2.2.1; have := HNX.out.2.1; omega, F', _, _, _, Lib.hid ⟨h7.1, HNX.out.1, (HW.out.2.1.trans H2.out.2).trans h7.2, sta_stp (sta_stp HW.out.2.2.1 H2.out.2) h7.2, by have := HW.out.2.2.2.2.1; have := HNX.out.2.1; omega⟩⟩
      clear h6 h7 K3 gc
      go_wp2_with fail
      go_roundw
      case rel => exact HF.out
      case measure => simp only [intOf]; omega
     ·exact absurd ⟨hokp.1, hokp.2⟩ hno2
end
end Pull
end Go.Proofs.YtkfdplfgaddkmaaGreat

/-
 firthlaw19.awake.
-/
namespace Go.Proofs.YtkfdplfgaddkmaaGreat
namespace Pull
open Go.RowKit Blk Go.Maps Disk Tree Vers Num Ring Mend
open Go.Proofs.YtkfdplfgaddkmaaGreat.Code hiding Bn
attribute [local go_sem ↓] Go.wp_at_zero Go.wp_at_succ
theorem aw_lay : layF [kR] = [kR] := by decide
set_option maxRecDepth 100000 in
theorem aw_D : D0 [] [kR] = [dig0 kN] := by decide +kernel
set_option maxRecDepth 100000 in
theorem aw_E : E0 [] [kR] (dig0 kN) = [dig1 kN] := by decide +kernel
theorem aw_W : wantF [] [] (kidsF [kR] []) = [[dig0 kN]] := by
 have h : wantF [] [] (kidsF [kR] []) = (D0 [] [kR]).map fun d => [d] := rfl
 rw [h, aw_D]
 rfl
theorem aw_st {T : List (Int × Int)} {st : List Rc} (h : Tl [] [kR] T [] st) : st = [kR] := by
 have hk : Hel [kR] := ⟨List.pairwise_singleton _ _, fun r hr => by rw [List.mem_singleton.1 hr]; decide⟩
 refine hel_ext h.lst.1 hk fun k => ?_
 rw [h.done]
 by_cases hkk : k = kN
 ·subst hkk
  rw [if_pos]
  rw [aw_D, aw_E]
  exact ⟨by simp, by simp⟩
 ·have h0 : getF [kR] k = [] := by
   unfold getF find kR
   rw [if_neg fun e => hkk e.symm]
   rfl
  rw [h0]
  split <;> rfl
theorem aw_rv : Vect.RightV [1] := by decide
def KL (w : World) (e : Ending) (w' : World) : Prop := ∃ rb, e = .returned (.slice (some ⟨rb, 0, none⟩) 1 1) ∧ Hid (Rs w' 0 w'.heap.size (some ⟨rb, 0, none⟩) [kR]) ∧ Below w.heap.size w w'
set_option maxRecDepth 100000 in
theorem k_any (w : World) : Calls Tryz.prog 49 #[] w (KL w) := by
 obtain ⟨o1, ho1⟩ : ∃ o, Obj.cells #[.int .i64 1, .int .i64 1, .slice none 0 0, .bool false, .string ⟨#[118]⟩] 119 = o := ⟨_, rfl⟩
 have HF : Hid (Rs ((w.alloc (.cells #[.int .i64 1, .int .i64 1, .slice none 0 0, .bool false, .string ⟨#[118]⟩] 119)).alloc (.cells #[.string ⟨#[107]⟩, .slice (some ⟨w.heap.size, 0, none⟩) 1 1] 70)) 0 ((w.alloc (.cells #[.int .i64 1, .int .i64 1, .slice none 0 0, .bool false, .string ⟨#[118]⟩] 119)).alloc (.cells #[.string ⟨#[107]⟩, .slice (some ⟨w.heap.size, 0, none⟩) 1 1] 70)).heap.size (some ⟨w.heap.size + 1, 0, none⟩) [kR] ∧ Below w.heap.size w ((w.alloc (.cells #[.int .i64 1, .int .i64 1, .slice none 0 0, .bool false, .string ⟨#[118]⟩] 119)).alloc (.cells #[.string ⟨#[107]⟩, .slice (some ⟨w.heap.size, 0, none⟩) 1 1] 70))) := Lib.hid ⟨by
  have h := rs_one (w.alloc (.cells #[.int .i64 1, .int .i64 1, .slice none 0 0, .bool false, .string ⟨#[118]⟩] 119)) (key := ⟨#[107]⟩) (A := some ⟨w.heap.size, 0, none⟩) (n := 1) (c := 1) (lv := [kV]) rfl (Nat.le_refl _) (by omega) (by decide) ((vs_kk w).more (by simp))
  have e : (w.alloc (.cells #[.int .i64 1, .int .i64 1, .slice none 0 0, .bool false, .string ⟨#[118]⟩] 119)).heap.size = w.heap.size + 1 := by simp
  rw [e] at h
  exact h, ((Below.refl _ w).alloc (Nat.le_refl _) _).alloc (by simp) _⟩
 clear ho1
 go_enter Tryz.func49, Tryz.ntmps49
 go_wp2_with fail
 go_ret
 exact ⟨w.heap.size + 1, by simp, Lib.hid HF.out.1, HF.out.2⟩
theorem ns_lit (w : World) (x : Int) : Ns .i64 (w.alloc (.cells #[.int .i64 x] 2)) (w.alloc (.cells #[.int .i64 x] 2)).heap.size (some ⟨w.heap.size, 0, none⟩) [x] := fun _ => ⟨w.heap.size, 0, rfl, by simp, fun j hj => by
 obtain rfl : j = 0 := by simp at hj; omega
 have h1 := World.alloc_heap_new w (.cells #[.int .i64 x] 2)
 unfold World.cell?
 rw [h1]
 rfl⟩
end Pull
end Go.Proofs.YtkfdplfgaddkmaaGreat

/-
 firthlaw19.awake: the walk.
-/
namespace Go.Proofs.YtkfdplfgaddkmaaGreat
namespace Pull
open Go.RowKit Blk Go.Maps Disk Tree Vers Num Ring Mend
open Go.Proofs.YtkfdplfgaddkmaaGreat.Code hiding Bn
attribute [local go_sem ↓] Go.wp_at_zero Go.wp_at_succ
theorem newcut_yes {w V : World} (hb : Below w.heap.size w V) (id : Int) (Av Al : Option Addr) (nv cv n c : Nat) (vec : List Int) (l : List Rc) (hnv : vec.length = nv) (hn : l.length = n) (hvb : nv ≤ 140737488355328) (hbig : n ≤ 3518437208882) (hrv : Ns .i64 V V.heap.size Av vec) (hr : Rs V 0 V.heap.size Al l) (hv : Vect.RightV vec) (hok : okL l) :
  Calls Tryz.prog 10 #[.int .i64 id, .slice Av nv cv, .slice Al n c] V (fun e w' => ∃ cb, e = .returned (.tuple #[hd cb, .int .i64 0]) ∧ Hid (∃ F, CN F w w' cb id vec (layF l) ∧ (∀ k, F k → V.heap.size ≤ k)) ∧ Below V.heap.size V w') := by
 refine (newcut_any hb id Av Al nv cv n c vec l hnv hn hvb hbig hrv hr).mono ?_
 rintro e w' (⟨_, _, cb, h⟩ | ⟨hno, _⟩)
 ·exact ⟨cb, h⟩
 ·exact absurd ⟨hv, hok⟩ hno
theorem newpull_yes {w V : World} (hb : Below w.heap.size w V) (id : Int) (Al : Option Addr) (n c : Nat) (l : List Rc) (hn : l.length = n) (hbig : n ≤ 3518437208882) (hr : Rs V 0 V.heap.size Al l) (hok : okL l) :
  Calls Tryz.prog 22 #[.int .i64 id, .slice Al n c] V (fun e w' => ∃ pb, e = .returned (.tuple #[hd pb, .int .i64 0]) ∧ Hid (∃ F, PJ F w w' pb id (layF l) false [] [] [] ∧ (∀ k, F k → V.heap.size ≤ k)) ∧ Below V.heap.size V w') := by
 refine (newpull_any hb id Al n c l hn hbig hr).mono ?_
 rintro e w' (⟨_, pb, h⟩ | ⟨hno, _⟩)
 ·exact ⟨pb, h⟩
 ·exact absurd hok hno
theorem pp_made {Fc Fp : Nat → Prop} {w V V' : World} {cb pb : Nat} {id id' : Int} {cv pv : List Int} {cut own st : List Rc} {bg : Bool} {W : List (List Int)} (hc : CN Fc w V cb id cv cut) (hb : Below V.heap.size V V') (hp : PJ Fp w V' pb id' own bg pv W st) (hn : ∀ k, Fp k → V.heap.size ≤ k) : PP Fc Fp w V' cb id cv cut pb id' own bg pv W st :=
 ⟨hc.below hb, hp, fun k h1 h2 => by have := hc.lt h1; have := hn k h2; omega⟩
set_option maxRecDepth 100000 in
set_option maxHeartbeats 4000000 in
theorem awake_any (w : World) : Calls Tryz.prog 12 #[] w (fun e w' => e = .returned (.bool true) ∧ Below w.heap.size w w') := by
 obtain ⟨U0, hU0⟩ : ∃ U, w.alloc (.cells #[.int .i64 1] 2) = U := ⟨_, rfl⟩
 have b0 : Below w.heap.size w U0 := by rw [← hU0]; exact (Below.refl _ w).alloc (Nat.le_refl _) _
 have n0 : Ns .i64 U0 U0.heap.size (some ⟨w.heap.size, 0, none⟩) [1] := by rw [← hU0]; exact ns_lit w 1
 obtain ⟨vb, hvb⟩ : ∃ vb, w.heap.size = vb := ⟨_, rfl⟩
 rw [hvb] at n0
 have K0 := Lib.hid (k_any U0)
 have H0 := Lib.hid (And.intro b0 (And.intro n0 hvb))
 clear b0 n0
 go_enter Tryz.func12, Tryz.ntmps12
 go_wp2_with fail
 refine K0.out.mono ?_
 rintro e1 w1 ⟨rb, rfl, h1, b1⟩
 have bw1 : Below w.heap.size w w1 := H0.out.1.trans (b1.mono H0.out.1.size)
 have K1 := Lib.hid (newcut_yes bw1 3 (some ⟨vb, 0, none⟩) (some ⟨rb, 0, none⟩) 1 1 1 1 [1] [kR] rfl rfl (by omega) (by omega) ((H0.out.2.1.below b1).more b1.size) h1.out aw_rv aw_okL)
 rw [aw_lay] at K1
 have H1 := Lib.hid bw1
 unfold hd at K1
 clear h1 b1 bw1 K0 hU0 hvb
 go_wp2_with fail
 refine K1.out.mono ?_
 rintro e2 w2 ⟨cb, rfl, h2, b2⟩
 have bw2 : Below w.heap.size w w2 := H1.out.trans (b2.mono H1.out.size)
 have K2 := Lib.hid (newpull_yes bw2 4 none 0 0 [] rfl (by omega) rs_nil okL_nil)
 have H2 := Lib.hid h2.out
 unfold hd at K2
 clear h2 b2 bw2 K1
 go_wp2_with fail
 refine K2.out.mono ?_
 rintro e3 w3 ⟨pb, rfl, h3, b3⟩
 obtain ⟨Fc, hcn, _⟩ := H2.out
 obtain ⟨Fp, hpj, hpn⟩ := h3.out
 have p3 := pp_made hcn b3 hpj hpn
 rw [show layF [] = [] from rfl] at p3
 have P3 := Lib.hid p3
 have K3 := Lib.hid p3.pull.done_any
 clear h3 b3 K2 hcn hpj hpn p3 H2
 unfold hd at K3
 rw [show ((false && decide (([] : List (List Int)) = [])) = false) from rfl] at K3
 go_wp2_with fail
 refine K3.out.mono ?_
 rintro e4 w4 ⟨rfl, rfl⟩
 have K4 := Lib.hid P3.out.cvec
 unfold hd at K4
 clear K3
 go_wp2_with fail
 refine K4.out.mono ?_
 rintro e5 w5 ⟨A5, c5, n5, rfl, h5, b5⟩
 obtain rfl : 1 = n5 := h5.out.1
 have p5 := P3.out.below b5
 have K5 := Lib.hid p5.open_any
 have P5 := Lib.hid (And.intro p5 h5.out.2.2.1)
 unfold hd at K5
 clear h5 b5 p5 K4
 go_wp2_with fail
 refine K5.out.mono ?_
 rintro e6 w6 ⟨A6, m6, c6, rfl, h6⟩
 have K6 := Lib.hid (h6.out.2.2.1.pull.begin_yes (by simp) A5 A6 c5 c6 1 m6 [1] (kidsF [kR] []) rfl h6.out.1 aw_rv ((sta_stp P5.out.2 h6.out.2.2.2).less fun k hk => .inr hk) (h6.out.2.1.less fun k hk => .inr hk))
 rw [List.nil_append, aw_W] at K6
 have P6 := Lib.hid h6.out.2.2.1
 unfold hd at K6
 clear h6 K5
 go_wp2_with fail
 refine K6.out.mono ?_
 rintro e7 w7 ⟨rfl, F7, h7⟩
 have p7 := (P6.out.step h7.out.1 h7.out.2).1
 have P7 := Lib.hid p7
 have K7 := Lib.hid p7.cvec
 unfold hd at K7
 clear h7 p7 K6
 go_wp2_with fail
 refine K7.out.mono ?_
 rintro e8 w8 ⟨A8, c8, n8, rfl, h8, b8⟩
 obtain rfl : 1 = n8 := h8.out.1
 have p8 := P7.out.below b8
 have K8 := Lib.hid p8.open_any
 have P8 := Lib.hid (And.intro p8 h8.out.2.2.1)
 unfold hd at K8
 clear h8 b8 p8 K7
 go_wp2_with fail
 refine K8.out.mono ?_
 rintro e9 w9 ⟨A9, m9, c9, rfl, h9⟩
 have K9 := Lib.hid (h9.out.2.2.1.pull.begin_no A8 A9 c8 c9 1 m9 [1] rfl (by omega) (sta_stp P8.out.2 h9.out.2.2.2).now (.inl rfl))
 have P9 := Lib.hid h9.out.2.2.1
 unfold hd at K9
 clear h9 K8
 go_wp2_with fail
 refine K9.out.mono ?_
 rintro e10 w10 ⟨rfl, b10⟩
 have p10 := P9.out.below b10
 have ht : Tl [] [kR] [] [[dig0 kN]] [] := by
  have h := Tl.start [] [kR]
  rwa [aw_W] at h
 have K10 := Lib.hid (PJ.wants_any p10.pull (tl_ok ht))
 have P10 := Lib.hid (And.intro p10 ht)
 unfold hd at K10
 clear b10 p10 ht K9
 go_wp2_with fail
 refine K10.out.mono ?_
 rintro e11 w11 ⟨A11, m11, c11, es, rfl, h11, b11⟩
 obtain rfl : 1 = m11 := h11.out.2.1
 have p11 := P10.out.1.below b11
 have K11 := Lib.hid (told_any p11 P10.out.2 (by have h := work_start [] [kR]; rwa [aw_W] at h) none 0 0 [] rfl (by omega) (fun X _ _ => ns_nil))
 unfold hd at K11
 clear h11 b11 p11 K10
 go_wp2_with fail
 refine K11.out.mono ?_
 rintro e12 w12 ⟨rfl, F12, T12, st12, h12⟩
 obtain ⟨p12, ht12, _⟩ := h12.out
 obtain rfl := aw_st ht12
 have P12 := Lib.hid p12
 have K12 := Lib.hid p12.pull.done_any
 rw [show ((true && decide (([] : List (List Int)) = [])) = true) from rfl] at K12
 unfold hd at K12
 clear h12 p12 ht12 K11
 go_wp2_with fail
 refine K12.out.mono ?_
 rintro e13 w13 ⟨rfl, rfl⟩
 have K13 := Lib.hid (CN.id_any P12.out.cut)
 unfold hd at K13
 clear K12
 go_wp2_with fail
 refine K13.out.mono ?_
 rintro e14 w14 ⟨rfl, rfl⟩
 have K14 := Lib.hid P12.out.pull.id_any
 unfold hd at K14
 clear K13
 go_wp2_with fail
 refine K14.out.mono ?_
 rintro e15 w15 ⟨rfl, rfl⟩
 have K15 := Lib.hid (P12.out.pull.staged_any (by simp))
 unfold hd at K15
 clear K14
 go_wp2_with fail
 refine K15.out.mono ?_
 rintro e16 w16 ⟨A16, n16, c16, ps16, rfl, h16, b16⟩
 obtain ⟨s1, s2, s3, s4⟩ := h16.out
 have hr16 : Rs w16 0 w16.heap.size A16 [kR] := by
  have h := s4.rs.less (Nat.zero_le _)
  rwa [s1] at h
 obtain rfl : n16 = 1 := s2
 have P16 := Lib.hid (And.intro (P12.out.below b16) hr16)
 have K16 := Lib.hid (k_any w16)
 clear h16 b16 s1 s3 s4 hr16 K15
 go_wp2_with fail
 refine K16.out.mono ?_
 rintro e17 w17 ⟨rb2, rfl, h17, b17⟩
 have K17 := Code.srecs_any A16 (some ⟨rb2, 0, none⟩) c16 1 1 1 [kR] [kR] rfl rfl w17 ((P16.out.2.below b17).more b17.size) h17.out (by omega) (by omega)
 rw [decide_eq_true rfl] at K17
 have K17 := Lib.hid K17
 have P17 := Lib.hid (P16.out.1.below b17)
 clear h17 b17 K16
 go_wp2_with fail
 refine K17.out.mono ?_
 rintro e18 w18 ⟨rfl, b18⟩
 have p18 := P17.out.below b18
 have K18 := Lib.hid p18.pull.vec_any
 have P18 := Lib.hid p18
 unfold hd at K18
 clear b18 p18 K17
 go_wp2_with fail
 refine K18.out.mono ?_
 rintro e19 w19 ⟨A19, c19, n19, rfl, h19, b19⟩
 obtain rfl : 1 = n19 := h19.out.1
 obtain ⟨U, hU⟩ : ∃ U, w19.alloc (.cells #[.int .i64 1] 2) = U := ⟨_, rfl⟩
 have bU : Below w19.heap.size w19 U := by rw [← hU]; exact (Below.refl _ w19).alloc (Nat.le_refl _) _
 have nU : Ns .i64 U U.heap.size (some ⟨w19.heap.size, 0, none⟩) [1] := by rw [← hU]; exact ns_lit w19 1
 have hn19 : Ns .i64 w19 w19.heap.size A19 [1] := own_ns (zs := [1]) h19.out.2.2
 have K19 := Code.svec_any A19 (some ⟨w19.heap.size, 0, none⟩) c19 1 1 1 [1] [1] rfl rfl U ((hn19.below bU).more bU.size) nU (by omega) (by omega)
 rw [decide_eq_true rfl] at K19
 have K19 := Lib.hid K19
 have P19 := Lib.hid ((P18.out.below b19).below bU)
 clear h19 b19 bU nU hn19 K18
 go_wp2_with fail
 refine K19.out.mono ?_
 rintro e20 w20 ⟨rfl, b20⟩
 have HF := Lib.hid (P19.out.below b20).cut.old
 clear b20 K19
 go_wp2_with fail
 go_ret
 exact ⟨rfl, HF.out⟩
end Pull
end Go.Proofs.YtkfdplfgaddkmaaGreat
