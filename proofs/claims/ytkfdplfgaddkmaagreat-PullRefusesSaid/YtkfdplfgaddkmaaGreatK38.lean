/-
  Several texts of this family in one: PullLess, PullWants, PullTell, PullTold, PullStaged, PullWant.
-/
import Derived.Test.YtkfdplfgaddkmaaGreatK37
import Derived.Test.YtkfdplfgaddkmaaGreatK12
import Derived.Test.YtkfdplfgaddkmaaGreatK11
import Derived.Test.YtkfdplfgaddkmaaGreatK13
import Derived.Test.YtkfdplfgaddkmaaGreatK36
import Derived.Deep.RegionHeld3
import Derived.Deep.DrawnRows
import Derived.Test.YtkfdplfgaddkmaaGreatK15
/-
 A path is no more wanted; records are staged (layer 19).
-/
namespace Go.Proofs.YtkfdplfgaddkmaaGreat
namespace Pull
open Go.RowKit Blk Go.Maps Disk Tree Vers Num Ring Mend
open Go.Proofs.YtkfdplfgaddkmaaGreat.Code hiding Bn
attribute [local go_sem ↓] Go.wp_at_zero Go.wp_at_succ
theorem own_up {w : World} {base base' : Nat} {e : TypeId} {size : Nat} {v : Value} {n : Nat} {xs : List Value} (h : w.ownsRow base e size v n xs) (hB : ∀ g, v.ownBlock = some g → base' ≤ g) : w.ownsRow base' e size v n xs := by
 refine ⟨h.1, ?_⟩
 rcases h.2 with h2 | ⟨g, cap, cur, hv, hb, h1⟩
 ·exact .inl h2
 ·exact .inr ⟨g, cap, cur, hv, hB g (by rw [hv]; rfl), h1⟩
theorem erase_idx {p : List Int} : ∀ (W : List (List Int)) (i : Nat), i < W.length → W.getD i [] = p → (∀ j, j < i → W.getD j [] ≠ p) → W.erase p = W.eraseIdx i
 | [], i, h, _, _ => by simp at h
 | x :: W, 0, _, h, _ => by
  have h : x = p := h
  subst h
  simp
 | x :: W, i + 1, hl, h, hn => by
  have h0 : x ≠ p := hn 0 (by omega)
  rw [List.erase_cons_tail (by simpa using h0), List.eraseIdx_cons_succ, erase_idx W i (by simpa using hl) h fun j hj => hn (j + 1) (by omega)]
section
variable {F F' G Ft : Nat → Prop} {w V Z : World} {pb tb mb nv cv nw cw : Nat} {id : Int} {vec : List Int} {own st : List Rc} {bg : Bool} {W : List (List Int)} {Av Aw : Option Addr} {D : Vl}
theorem PI.less (h : PI F w V pb id own bg vec W st tb Ft mb Av nv cv Aw nw cw D) {X Y : World} {W' : List (List Int)} {n' : Nat} (hX : Below V.heap.size V X) (ho : Y.ownsRow w.heap.size 101 3 (.slice Aw n' cw) n' (pcells W')) (hl : W'.length = n') (hg : X.grownBy Y (Value.slice Aw nw cw).ownBlock) (hn : n' ≤ nw) :
  PI F w (Y.setCell ⟨pb, 4, none⟩ (.slice Aw n' cw)) pb id own bg vec W' st tb Ft mb Av nv cv Aw n' cw D ∧ Stp F V F (Y.setCell ⟨pb, 4, none⟩ (.slice Aw n' cw)) := by
 have hs := hX.size
 have hob : (Value.slice Aw n' cw).ownBlock = (Value.slice Aw nw cw).ownBlock := by cases Aw <;> rfl
 have hgw : ∀ g, (Value.slice Aw nw cw).ownBlock = some g → F g := fun g e => (h.wown g e).1
 obtain ⟨Z, hZ⟩ : ∃ Z, Y.setCell ⟨pb, 4, none⟩ (.slice Aw n' cw) = Z := ⟨_, rfl⟩
 have gZ : Y.grownBy Z (some pb) := by rw [← hZ]; exact Blk.gset Y pb 4 _
 have hpw : (Value.slice Aw nw cw).ownBlock ≠ some pb := own_ne h.want h.blk (by decide)
 have bX := h.blk.same (hX.block _ h.blk.lt)
 have bY : Bn pb 96 [.int .i64 id, hd tb, .bool bg, .slice Av nv cv, .slice Aw nw cw, .map (some mb)] Y := bX.kept hg (fun e => hpw e.symm)
 have bZ := bY.set 4 (.slice Aw n' cw)
 rw [hZ] at bZ ⊢
 have hk : ∀ k, k < V.heap.size → k ≠ pb → (Value.slice Aw nw cw).ownBlock ≠ some k → Z.heap[k]? = V.heap[k]? := fun k hk h1 h2 => (gZ.block k (by have := hg.size; omega) (fun e => h1 (by injection e))).trans ((hg.block k (by omega) (fun e => h2 e.symm)).trans (hX.block k hk))
 have hc : Chg (fun k => k = pb ∨ (Value.slice Aw nw cw).ownBlock = some k) V Z := ⟨gZ.os.trans (hg.os.trans hX.os), gZ.tape.trans (hg.tape.trans hX.tape), gZ.output.trans (hg.output.trans hX.output), Nat.le_trans hs (Nat.le_trans hg.size gZ.size), fun k h1 h2 => hk k h1 (fun e => h2 (.inl e)) fun e => h2 (.inr e)⟩
 have hnew : ∀ k, k = pb ∨ (Value.slice Aw nw cw).ownBlock = some k → w.heap.size ≤ k := fun k e => e.elim (fun e => by rw [e]; exact h.new _ h.hpb) fun e => h.new _ (hgw k e)
 have hft : ∀ k, Ft k → ¬ (k = pb ∨ (Value.slice Aw nw cw).ownBlock = some k) := fun k hk e => e.elim (fun e => h.notb.1 (e ▸ hk)) fun e => (h.wown k e).2 hk
 refine ⟨⟨bZ, h.tree.chg hc hft hnew, h.len, own_keep h.row (fun g hg => hk g (h.row.lt g hg).2 (fun e => own_ne h.row h.blk (by decide) (e ▸ hg)) (own_ne2 h.row h.want (by decide) hg)), hl, own_keep ho fun g hg => gZ.block g (ho.lt g hg).2 fun e => ?_, h.map.same (hk mb h.map.lt (fun e => h.map.ne h.blk e.symm) (fun e => ?_)), ?_, h.sub, h.notb, h.vown, fun g hg => h.wown g (hob ▸ hg), h.mown, h.hpb, fun k hk => ?_, h.new, h.old.trans (hc.below hnew h.old.size), h.few, h.vfew, by have := h.wfew; omega, h.lst, h.dlen⟩, hc.mono fun k e => e.elim (fun e => by rw [e]; exact h.hpb) (hgw k), fun k hk => .inl hk⟩
 ·exact hpw (by rw [← hob, hg]; injection e with e; rw [e])
 ·obtain ⟨cur, hcur⟩ := own_block h.want e
  exact h.map.ne hcur rfl
 ·refine (h.hold.keep hc.size fun j hj _ hM => hk j hj (fun e => hM (.inl e)) fun e => hM (.inr (.inr (.inr e)))).mono (fun j hj => hj) fun j _ _ hM => ?_
  rcases hM with e | e | e | e
  ·exact .inl e
  ·exact .inr (.inl e)
  ·exact .inr (.inr (.inl e))
  ·exact .inr (.inr (.inr (hob ▸ e)))
 ·have hz := gZ.size
  have hy := hg.size
  have := h.lt k hk
  omega
theorem PI.stage (h : PI F w V pb id own bg vec W st tb Ft mb Av nv cv Aw nw cw D) {X Y : World} {D' : Vl} {st' : List Rc} (hX : Below V.heap.size V X) (hg : X.grownBy Y (some mb)) (hm : MI Y mb D') (hst : Lst st') (hd : D'.length ≤ st'.length) (hF : ∀ k, F k → F' k) (hF' : ∀ k, F' k → F k ∨ (V.heap.size ≤ k ∧ k < X.heap.size)) (hh : HoldP F' (Mp pb tb mb (.slice Aw nw cw)) Y D' st') :
  PI F' w Y pb id own bg vec W st' tb Ft mb Av nv cv Aw nw cw D' ∧ Stp F V F' Y := by
 have hs := hX.size
 have hy := hg.size
 have hk : ∀ k, k < V.heap.size → k ≠ mb → Y.heap[k]? = V.heap[k]? := fun k hk h1 => (hg.block k (by omega) (fun e => h1 (by injection e))).trans (hX.block k hk)
 have hc : Chg (fun k => k = mb) V Y := ⟨hg.os.trans hX.os, hg.tape.trans hX.tape, hg.output.trans hX.output, Nat.le_trans hs hy, fun k h1 h2 => hk k h1 h2⟩
 have hnew : ∀ k, k = mb → w.heap.size ≤ k := fun k e => by rw [e]; exact h.new _ h.mown
 have hne : ∀ {v : Value} {n : Nat} {xs : List Value} {t : TypeId} {sz base : Nat}, V.ownsRow base t sz v n xs → ∀ g, v.ownBlock = some g → g ≠ mb := fun ho g hg e => by
  obtain ⟨cur, hcur⟩ := own_block ho hg
  exact h.map.ne hcur e
 refine ⟨⟨h.blk.same (hk pb h.blk.lt (h.map.ne h.blk)), h.tree.chg hc (fun k hk e => h.notb.2 (e ▸ hk)) hnew, h.len, own_keep h.row (fun g hg => hk g (h.row.lt g hg).2 (hne h.row g hg)), h.wlen, own_keep h.want (fun g hg => hk g (h.want.lt g hg).2 (hne h.want g hg)), hm, hh, fun k hk => hF k (h.sub k hk), h.notb, fun g hg => ⟨hF g (h.vown g hg).1, (h.vown g hg).2⟩, fun g hg => ⟨hF g (h.wown g hg).1, (h.wown g hg).2⟩, hF _ h.mown, hF _ h.hpb, fun k hk => ?_, fun k hk => ?_, h.old.trans (hc.below hnew h.old.size), h.few, h.vfew, h.wfew, hst, hd⟩, hc.mono fun k e => by rw [e]; exact h.mown, fun k hk => ?_⟩
 ·rcases hF' k hk with e | e
  ·have := h.lt k e; omega
  ·omega
 ·rcases hF' k hk with e | e
  ·exact h.new k e
  ·have := h.old.size; omega
 ·exact (hF' k hk).imp (fun e => e) fun e => e.1
end
end Pull
end Go.Proofs.YtkfdplfgaddkmaaGreat

/-
 The paths that are wanted, told in new memory (layer 19).
-/
namespace Go.Proofs.YtkfdplfgaddkmaaGreat
namespace Pull
open Go.RowKit Blk Go.Maps Disk Tree Vers Num Ring Mend
open Go.Proofs.YtkfdplfgaddkmaaGreat.Code hiding Bn
attribute [local go_sem ↓] Go.wp_at_zero Go.wp_at_succ
structure Pw where
 A : Option Addr
 p : List Int
 c : Nat
def pwc (e : Pw) : Value := .slice e.A e.p.length e.c
def OwnP (base : Nat) (V : World) (v : Value) (m : Nat) (es : List Pw) : Prop := es.length = m ∧ V.ownsRow base 24 1 v m (es.map pwc) ∧ ∀ e ∈ es, V.ownsRow base 3 1 (pwc e) e.p.length (nums .i64 e.p)
theorem ownP_nil (base : Nat) (V : World) : OwnP base V (.slice none 0 0) 0 [] := ⟨rfl, World.ownsRow_nil _ _ _ _, fun e he => by cases he⟩
theorem OwnP.below {base m : Nat} {V V' : World} {v : Value} {es : List Pw} (h : OwnP base V v m es) (hb : Below V.heap.size V V') : OwnP base V' v m es :=
 ⟨h.1, own_below h.2.1 hb (Nat.le_refl _), fun e he => own_below (h.2.2 e he) hb (Nat.le_refl _)⟩
theorem OwnP.chg {G : Nat → Prop} {base m : Nat} {V V' : World} {v : Value} {es : List Pw} (h : OwnP base V v m es) (hc : Chg G V V') (hG : ∀ k, G k → k < base) : OwnP base V' v m es :=
 ⟨h.1, own_keep h.2.1 fun g hg => hc.block g (h.2.1.lt g hg).2 fun e => by have := hG g e; have := (h.2.1.lt g hg).1; omega, fun e he => own_keep (h.2.2 e he) fun g hg => hc.block g ((h.2.2 e he).lt g hg).2 fun q => by have := hG g q; have := ((h.2.2 e he).lt g hg).1; omega⟩
theorem OwnP.add {base m : Nat} {X Y : World} {v v' : Value} {es : List Pw} {e : Pw} (h : OwnP base X v m es) (he : X.ownsRow base 3 1 (pwc e) e.p.length (nums .i64 e.p)) (ho : Y.ownsRow base 24 1 v' (m + 1) (es.map pwc ++ [pwc e])) (hg : X.grownBy Y v.ownBlock) : OwnP base Y v' (m + 1) (es ++ [e]) :=
 ⟨by rw [List.length_append, h.1]; rfl, by rw [List.map_append]; exact ho, fun q hq => by
  rcases List.mem_append.1 hq with hq | hq
  ·exact own_keep (h.2.2 q hq) fun g hg' => hg.block g ((h.2.2 q hq).lt g hg').2 fun e => own_ne2 (h.2.2 q hq) h.2.1 (by decide) hg' e.symm
  ·obtain rfl := List.mem_singleton.1 hq
   exact own_keep he fun g hg' => hg.block g (he.lt g hg').2 fun e => own_ne2 he h.2.1 (by decide) hg' e.symm⟩
section
variable {P : Program} {w : World}
theorem wpList_append_pw {ops : Array Oper} {rest : List Oper} {o : Oper} {a : Act} {Q : Exit → Act → World → Prop} (hgd : o.guard = none) (s x : Operand) (t : TypeId)
  (ho : o.op = .call { callee := .builtin .append, args := #[s, x], argTypes := #[t, t] })
  (base : Nat) (e : TypeId) (i : TypeInfo) (z : Value) (bytes : Nat) (ht : P.underlying t = some (.slice e)) (hi : P.info? e = some i) (hz : i.zero = some z)
  (hsize : i.size = 1) (hby : i.bytes = bytes) (hzs : z.cells.size = 1)
  (v : Value) (n : Nat) (l : List Value) (hs : a.eval s = v) (hown : w.ownsRow base e 1 v n l) (A : Option Addr) (k c1 : Nat) (c : Nat)
  (hx : a.eval x = .slice (some ⟨w.heap.size, 0, none⟩) 1 c)
  (hbytes : (n + 1) * bytes ≤ 140737488355328) (hn : n + 1 ≤ 140737488355328) (hbase : base ≤ w.heap.size)
  (h : ∀ v' w', w'.ownsRow base e 1 v' (n + 1) (l ++ [.slice A k c1]) → w.grownBy w' v.ownBlock → wpList P ops Q rest (a.put o.dst v') w') :
  wpList P ops Q (o :: rest) a (w.alloc (.cells #[.slice A k c1] e)) := by
 refine wpList_append_own_at _ hgd s x t ho base e i z 1 bytes ht hi hz hsize hby hzs (by omega) v n l hs (hown.alloc _) ⟨w.heap.size, 0, none⟩ 1 c [.slice A k c1] hx rfl ?_ ?_ (by unfold maxLen; omega) hbytes (by simp; omega) ?_
 ·intro j u' hj
  match j, hj with
  | 0, hj => simp at hj; subst hj; simp [Addr.add]
 ·intro u' hu
  simp at hu
  subst hu
  rfl
 ·intro v' w' hown' hg _ _
  exact h v' w' hown' ⟨hg.os, hg.tape, hg.output, Nat.le_trans (by simp) hg.size, fun k hk hne => (hg.block k (by simp; omega) hne).trans (Below.heap_alloc w _ k hk)⟩
end
theorem info_ints : (Tryz.prog.info? 24).map (fun i => (i.zero, i.size, i.bytes)) = some (some (.slice none 0 0), 1, 24) := by kernel_rfl
def WantsN (W : List (List Int)) (V : World) (e : Ending) (w' : World) : Prop := ∃ A m c es, e = .returned (.slice A m c) ∧ Hid (es.map Pw.p = W ∧ W.length = m ∧ m ≤ c ∧ OwnP V.heap.size w' (.slice A m c) m es) ∧ Below V.heap.size V w'
section
variable {F : Nat → Prop} {w V : World} {pb : Nat} {id : Int} {vec : List Int} {own st : List Rc} {bg : Bool} {W : List (List Int)}
theorem okW_form {p : List Int} (h : okW p) : (∃ d, p = [d]) ∨ ∃ d e, p = [d, e] := by
 rcases h.2 with hl | hl
 ·match p, hl with
  | [d], _ => exact .inl ⟨d, rfl⟩
 ·match p, hl with
  | [d, e], _ => exact .inr ⟨d, e, rfl⟩
theorem get_snoc {W : List (List Int)} {k : Nat} (hk : k < W.length) {x : List Int} (hx : W.getD k [] = x) : W.take (k + 1) = W.take k ++ [x] := by
 rw [List.take_succ_eq_append_getElem hk]
 rw [List.getD_eq_getElem?_getD, List.getElem?_eq_getElem hk, Option.getD_some] at hx
 rw [hx]
set_option maxRecDepth 100000 in
set_option maxHeartbeats 2000000 in
theorem PJ.wants_any (h : PJ F w V pb id own bg vec W st) (hok : ∀ p ∈ W, okW p) : Calls Tryz.prog 31 #[hd pb] V (WantsN W V) := by
 obtain ⟨j0, hj0, hy0, hy1, hy2⟩ := info_parts info_ints
 obtain ⟨tb, Ft, mb, Av, nv, cv, Aw, nw, cw, D, h⟩ := h
 obtain ⟨c0, c1, c2, c3, c4, c5⟩ := h.cells
 have hnw := h.wfew
 have HP := Lib.hid (And.intro h hok)
 unfold hd at *
 clear h hok c0 c1 c2 c3 c5
 go_enter Tryz.func31, Tryz.ntmps31
 go_wp2_with fail
 go_loopw [3, 11] (fun v q wr => ∃ (k : Nat) (A : Option Addr) (c : Nat) (es : List Pw), v = .slice A k c ∧ q = .int .i64 k ∧ k ≤ nw ∧ Hid (es.map Pw.p = W.take k ∧ OwnP V.heap.size wr (.slice A k c) k es ∧ Below V.heap.size V wr)) (fun _ q _ => nw - (intOf q).toNat)
 case atStart => exact ⟨0, none, 0, [], rfl, rfl, by omega, Lib.hid ⟨by simp, ownP_nil _ _, Below.refl _ _⟩⟩
 case round =>
  obtain ⟨k, A, c, es, rfl, rfl, hk, hst⟩ := hrel
  have hb := hst.out.2.2
  by_cases hlt : k < nw
  ·have d1 : (0 : Int) ≤ (k : Int) := by omega
   have d2 : (k : Int) < (nw : Int) := by omega
   have hkW : k < W.length := by have := HP.out.1.wlen; omega
   obtain ⟨x, hx⟩ : ∃ x, W.getD k [] = x := ⟨_, rfl⟩
   have hxm : x ∈ W := by
    rw [List.getD_eq_getElem?_getD, List.getElem?_eq_getElem hkW, Option.getD_some] at hx
    exact hx ▸ List.getElem_mem hkW
   obtain ⟨g, rfl, _, hgl, a0, a1, a2⟩ := pat (own_below HP.out.1.want hb (Nat.le_refl _)) HP.out.1.wlen hlt hx
   have hsn := get_snoc hkW hx
   have hs := hb.size
   rcases okW_form (HP.out.2 x hxm) with ⟨d, rfl⟩ | ⟨d, d', rfl⟩
   ·have a0 : wr.cell? ⟨g, k * 3, none⟩ = some (.int .i64 1) := a0
    have a1 : wr.cell? ⟨g, k * 3 + 1, none⟩ = some (.int .i64 d) := a1
    have a2 : wr.cell? ⟨g, k * 3 + 2, none⟩ = some (.int .i64 0) := a2
    obtain ⟨rb, hrb⟩ : ∃ rb, wr.heap.size = rb := ⟨_, rfl⟩
    obtain ⟨U, hU⟩ : ∃ U, wr.alloc (.cells #[.int .i64 1, .int .i64 d, .int .i64 0] 101) = U := ⟨_, rfl⟩
    have bU : Below wr.heap.size wr U := by rw [← hU]; exact (Below.refl _ wr).alloc (Nat.le_refl _) _
    have BU : Bn rb 101 [.int .i64 1, .int .i64 d, .int .i64 0] U := by rw [← hU, ← hrb]; exact World.alloc_heap_new _ _
    have x0 := BU.cell 0
    simp only [List.getElem?_cons_zero] at x0
    have hns : Ns .i64 U U.heap.size (some ⟨rb, 1, none⟩) [d] := fun _ => ⟨rb, 1, rfl, BU.lt, fun j hj => by
     obtain rfl : j = 0 := by simp at hj; omega
     exact BU.cell 1⟩
    have K := Lib.hid (Ints.clone_row (some ⟨rb, 1, none⟩) 2 1 [d] rfl U hns (by omega))
    have H0 := Lib.hid (And.intro hst.out.1 (And.intro (hst.out.2.1.below bU) (And.intro (hb.trans (bU.mono hs)) hsn)))
    have HU := Lib.hid hU
    clear hst hb hx hxm hsn bU BU hns hU x0
    go_wp2_with fail
    rw [HU.out]
    refine K.out.mono ?_
    rintro e w3 ⟨A3, c3, rfl, o3, b3⟩
    have h3 := H0.out.2.1.below b3
    have hV3 := H0.out.2.2.1.trans (b3.mono H0.out.2.2.1.size)
    have ho3 : w3.ownsRow V.heap.size 3 1 (pwc ⟨A3, [d], c3⟩) 1 (nums .i64 [d]) := own_base o3.out H0.out.2.2.1.size
    have HO := Lib.hid (And.intro h3 (And.intro hV3 ho3))
    have hs3 := hV3.size
    have hcol := h3.2.1
    clear h3 hV3 ho3 o3 b3 K HU a0 a1 a2 hs
    go_wp2_with (at_builtin; refine wpList_append_pw rfl (.tmp 15) (.tmp 21) 57 rfl V.heap.size 24 j0 _ 24 Tryz.underlying57 hj0 hy0 hy1 hy2 rfl _ k _ rfl hcol A3 1 c3 1 rfl (by omega) (by omega) (by omega) ?_; intro v4 w4 o4 g4)
    have HZ : Hid (OwnP V.heap.size w4 v4 (k + 1) (es ++ [⟨A3, [d], c3⟩]) ∧ Below V.heap.size V w4) := Lib.hid ⟨HO.out.1.add HO.out.2.2 o4 g4, HO.out.2.1.grown g4 hs3 (fun j hj => (HO.out.1.2.1.lt j hj).1)⟩
    obtain ⟨A4, c4', rfl⟩ := own_form o4
    have HR : Hid ((es ++ [(⟨A3, [d], c3⟩ : Pw)]).map Pw.p = W.take (k + 1)) := Lib.hid (by rw [List.map_append, H0.out.1, H0.out.2.2.2]; rfl)
    clear o4 g4 hcol hs3
    go_wp2_with fail
    go_roundw
    case rel => exact ⟨k + 1, A4, c4', _, rfl, by go_num, by omega, Lib.hid ⟨HR.out, HZ.out.1, HZ.out.2⟩⟩
    case measure => simp only [intOf]; omega
   ·have a0 : wr.cell? ⟨g, k * 3, none⟩ = some (.int .i64 2) := a0
    have a1 : wr.cell? ⟨g, k * 3 + 1, none⟩ = some (.int .i64 d) := a1
    have a2 : wr.cell? ⟨g, k * 3 + 2, none⟩ = some (.int .i64 d') := a2
    obtain ⟨rb, hrb⟩ : ∃ rb, wr.heap.size = rb := ⟨_, rfl⟩
    obtain ⟨U, hU⟩ : ∃ U, wr.alloc (.cells #[.int .i64 2, .int .i64 d, .int .i64 d'] 101) = U := ⟨_, rfl⟩
    have bU : Below wr.heap.size wr U := by rw [← hU]; exact (Below.refl _ wr).alloc (Nat.le_refl _) _
    have BU : Bn rb 101 [.int .i64 2, .int .i64 d, .int .i64 d'] U := by rw [← hU, ← hrb]; exact World.alloc_heap_new _ _
    have x0 := BU.cell 0
    simp only [List.getElem?_cons_zero] at x0
    have hns : Ns .i64 U U.heap.size (some ⟨rb, 1, none⟩) [d, d'] := fun _ => ⟨rb, 1, rfl, BU.lt, fun j hj => by
     match j, hj with
     | 0, _ => exact BU.cell 1
     | 1, _ => exact BU.cell 2⟩
    have K := Lib.hid (Ints.clone_row (some ⟨rb, 1, none⟩) 2 2 [d, d'] rfl U hns (by omega))
    have H0 := Lib.hid (And.intro hst.out.1 (And.intro (hst.out.2.1.below bU) (And.intro (hb.trans (bU.mono hs)) hsn)))
    have HU := Lib.hid hU
    clear hst hb hx hxm hsn bU BU hns hU x0
    go_wp2_with fail
    rw [HU.out]
    refine K.out.mono ?_
    rintro e w3 ⟨A3, c3, rfl, o3, b3⟩
    have h3 := H0.out.2.1.below b3
    have hV3 := H0.out.2.2.1.trans (b3.mono H0.out.2.2.1.size)
    have ho3 : w3.ownsRow V.heap.size 3 1 (pwc ⟨A3, [d, d'], c3⟩) 2 (nums .i64 [d, d']) := own_base o3.out H0.out.2.2.1.size
    have HO := Lib.hid (And.intro h3 (And.intro hV3 ho3))
    have hs3 := hV3.size
    have hcol := h3.2.1
    clear h3 hV3 ho3 o3 b3 K HU a0 a1 a2 hs
    go_wp2_with (at_builtin; refine wpList_append_pw rfl (.tmp 15) (.tmp 21) 57 rfl V.heap.size 24 j0 _ 24 Tryz.underlying57 hj0 hy0 hy1 hy2 rfl _ k _ rfl hcol A3 2 c3 1 rfl (by omega) (by omega) (by omega) ?_; intro v4 w4 o4 g4)
    have HZ : Hid (OwnP V.heap.size w4 v4 (k + 1) (es ++ [⟨A3, [d, d'], c3⟩]) ∧ Below V.heap.size V w4) := Lib.hid ⟨HO.out.1.add HO.out.2.2 o4 g4, HO.out.2.1.grown g4 hs3 (fun j hj => (HO.out.1.2.1.lt j hj).1)⟩
    obtain ⟨A4, c4', rfl⟩ := own_form o4
    have HR : Hid ((es ++ [(⟨A3, [d, d'], c3⟩ : Pw)]).map Pw.p = W.take (k + 1)) := Lib.hid (by rw [List.map_append, H0.out.1, H0.out.2.2.2]; rfl)
    clear o4 g4 hcol hs3
    go_wp2_with fail
    go_roundw
    case rel => exact ⟨k + 1, A4, c4', _, rfl, by go_num, by omega, Lib.hid ⟨HR.out, HZ.out.1, HZ.out.2⟩⟩
    case measure => simp only [intOf]; omega
  ·have hkn : k = nw := by omega
   subst hkn
   have HF : Hid (WantsN W V (.returned (.slice A k c)) wr) := Lib.hid ⟨A, k, c, es, rfl, Lib.hid ⟨by
    have h1 := hst.out.1
    rwa [List.take_of_length_le (by have := HP.out.1.wlen; omega)] at h1, HP.out.1.wlen, (own_low hst.out.2.1.2.1).1, hst.out.2.1⟩, hb⟩
   clear hst hb
   go_wp2_with fail
   go_ret
   exact HF.out
end
end Pull
end Go.Proofs.YtkfdplfgaddkmaaGreat

/-
 What a pull is told at a path (layer 19).
-/
namespace Go.Proofs.YtkfdplfgaddkmaaGreat
namespace Pull
open Go.RowKit Blk Go.Maps Disk Tree Vers Num Ring Mend
open Go.Proofs.YtkfdplfgaddkmaaGreat.Code hiding Bn
attribute [local go_sem ↓] Go.wp_at_zero Go.wp_at_succ
theorem first_idx {p : List Int} : ∀ {W : List (List Int)}, p ∈ W → ∃ i, i < W.length ∧ W.getD i [] = p ∧ ∀ j, j < i → W.getD j [] ≠ p
 | [], h => by cases h
 | x :: W, h => by
  by_cases hx : x = p
  ·exact ⟨0, by simp, hx, fun j hj => by omega⟩
  ·obtain ⟨i, h1, h2, h3⟩ := first_idx ((List.mem_cons.1 h).resolve_left fun e => hx e.symm)
   refine ⟨i + 1, by simpa using h1, h2, fun j hj => ?_⟩
   cases j with
   | zero => exact hx
   | succ j => exact h3 j (by omega)
theorem getD_in {W : List (List Int)} {j : Nat} (hj : j < W.length) : W.getD j [] ∈ W := by
 rw [List.getD_eq_getElem?_getD, List.getElem?_eq_getElem hj]
 exact List.getElem_mem hj
theorem found_in {W : List (List Int)} {p : List Int} {n i : Nat} {w w' : World} {e : Ending} (hn : W.length = n) (hok : ∀ x ∈ W, okW x) (hi : i < n) (h1 : W.getD i [] = p) (h2 : ∀ j, j < i → W.getD j [] ≠ p) (h : Found W p n w e w') : e = .returned (.int .i64 i) ∧ Below w.heap.size w w' := by
 obtain ⟨h | ⟨h, _⟩, hb⟩ := h
 ·obtain ⟨k, hk, k1, k2, rfl⟩ := h
  refine ⟨?_, hb⟩
  have kp : W.getD k [] = p := pkey_inj (hok _ (getD_in (by omega))) k1
  rcases Nat.lt_trichotomy k i with q | q | q
  ·exact absurd kp (h2 k q)
  ·rw [q]
  ·exact absurd (by rw [h1]) (k2 i q)
 ·exact absurd (by rw [h1]) (h i hi)
theorem found_out {W : List (List Int)} {p : List Int} {n : Nat} {w w' : World} {e : Ending} (hn : W.length = n) (hok : ∀ x ∈ W, okW x) (hp : p ∉ W) (h : Found W p n w e w') : e = .returned (.int .i64 (-1)) ∧ Below w.heap.size w w' := by
 obtain ⟨h | ⟨_, h⟩, hb⟩ := h
 ·obtain ⟨k, hk, k1, _⟩ := h
  exact absurd (pkey_inj (hok _ (getD_in (by omega))) k1 ▸ getD_in (by omega)) hp
 ·exact ⟨h, hb⟩
section
variable {F : Nat → Prop} {w V : World} {pb : Nat} {id : Int} {vec : List Int} {own st : List Rc} {bg : Bool} {W : List (List Int)}
def Wat (U : World) (pb : Nat) (v : Value) (X : World) : Prop := X.cell? ⟨pb, 4, none⟩ = some v ∧ Below U.heap.size U X ∧ pb < U.heap.size
theorem wat_below {U X Y : World} {pb : Nat} {v : Value} (hb : Below X.heap.size X Y) (h : Wat U pb v X) : Wat U pb v Y := ⟨(hb.cell (p := ⟨pb, 4, none⟩) (Nat.lt_of_lt_of_le h.2.2 h.2.1.size)).trans h.1, h.2.1.trans (hb.mono h.2.1.size), h.2.2⟩
set_option maxRecDepth 100000 in
set_option maxHeartbeats 1000000 in
theorem PJ.tell_no (h : PJ F w V pb id own bg vec W st) (hok : ∀ x ∈ W, okW x) (Ap Ah Al : Option Addr) (cp ch cl np nh n : Nat) (p : List Int) (l : List Rc) (hnp : p.length = np) (hn : l.length = n) (hbp : np ≤ 140737488355328) (hbig : n ≤ 3518437208882) (hp : Ns .i64 V V.heap.size Ap p) (hl : Rs V 0 V.heap.size Al l) (hno : p ∉ W ∨ (p.length = 2 ∧ areF p l = false)) :
  Calls Tryz.prog 26 #[hd pb, .slice Ap np cp, .slice Ah nh ch, .slice Al n cl] V (fun e w' => e = .returned (.bool false) ∧ Below V.heap.size V w') := by
 obtain ⟨tb, Ft, mb, Av, nv, cv, Aw, nw, cw, D, h⟩ := h
 obtain ⟨c0, c1, c2, c3, c4, c5⟩ := h.cells
 obtain ⟨y0, hy0⟩ : ∃ y : Int, ((p.length : Nat) : Int) = y := ⟨_, rfl⟩
 obtain ⟨y1, hy1⟩ : ∃ y, p.getD 0 0 = y := ⟨_, rfl⟩
 obtain ⟨y2, hy2⟩ : ∃ y, p.getD 1 0 = y := ⟨_, rfl⟩
 have hpv : pV p = .agg #[.int .i64 y0, .int .i64 y1, .int .i64 y2] := by unfold pV; rw [hy0, hy1, hy2]
 have hpo : ∀ X, Wat V pb (.slice Aw nw cw) X → Calls Tryz.prog 59 #[.slice Ap np cp] X (fun e w' => e = .returned (.agg #[.int .i64 y0, .int .i64 y1, .int .i64 y2]) ∧ Below X.heap.size X w') := fun X hX => by
  have h := pathOf_any Ap cp np p hnp X ((hp.below hX.2.1).more hX.2.1.size)
  rwa [hpv] at h
 have HS : Hid (Wat V pb (.slice Aw nw cw) V.drew) := Lib.hid ⟨c4, (Below.refl _ _).drew, h.lt _ h.hpb⟩
 have hix : ∀ X, Wat V pb (.slice Aw nw cw) X → Calls Tryz.prog 58 #[.slice Aw nw cw, .func (.func 60) #[.agg #[.int .i64 y0, .int .i64 y1, .int .i64 y2]] #[]] X (Found W p nw X) := fun X hX => by
  have h := index_any Aw w.heap.size cw nw W X (own_below h.want hX.2.1 (Nat.le_refl _)) h.wlen p (by have := h.wfew; omega)
  rwa [hpv] at h
 have hwl := h.wlen
 have hwf := h.wfew
 by_cases hin : p ∈ W
 ·obtain ⟨h2, har⟩ := hno.resolve_left (fun q => q hin)
  obtain ⟨i, hi, hi1, hi2⟩ := first_idx hin
  rw [hwl] at hi
  have hnp2 : np = 2 := by omega
  subst hnp2
  have HC := Lib.hid (And.intro hpo (And.intro (fun X hX => (hix X hX).mono fun e w' hf => found_in hwl hok hi hi1 hi2 hf : ∀ X, Wat V pb (.slice Aw nw cw) X → Calls Tryz.prog 58 #[.slice Aw nw cw, .func (.func 60) #[.agg #[.int .i64 y0, .int .i64 y1, .int .i64 y2]] #[]] X (fun e w' => e = .returned (.int .i64 i) ∧ Below X.heap.size X w')) (fun X (hX : Below V.heap.size V X) => by
   have h := beneath_any Ap Al cp cl 2 n p l hnp hn (by omega) hbig X ((hp.below hX).more hX.size) (rs_rb ((hl.below hX).more hX.size))
   rwa [har] at h : ∀ X, Below V.heap.size V X → Calls Tryz.prog 61 #[.slice Ap 2 cp, .slice Al n cl] X (fun e w' => e = .returned (.bool false) ∧ Below X.heap.size X w'))))
  have e1 : decide ((i : Int) < 0) = false := decide_eq_false (by omega)
  unfold hd at *
  clear h hpo hix hwl hok hnp hn hp hl hno hin h2 har hi1 hi2 hpv hy0 hy1 hy2 c0 c1 c2 c3 c5
  go_enter Tryz.func26, Tryz.ntmps26
  go_wp2_with fail
  go_region_held3 (fun X => X.cell? ⟨pb, 4, none⟩ = some (.slice Aw nw cw) ∧ Below V.heap.size V X ∧ pb < V.heap.size)
   (first
    | exact HS.out
    | exact wat_below (by assumption) (by assumption))
   (first
    | (go_at_call 59; refine (HC.out.1 _ (by assumption)).mono ?_; rintro e w3 ⟨rfl, b3⟩)
    | (go_at_call 58; refine (HC.out.2.1 _ (by assumption)).mono ?_; rintro e w4 ⟨rfl, b4⟩))
  have hb4 : Below V.heap.size V w4 := ((Below.refl _ V).drew).trans (b3.trans (b4.mono b3.size))
  have K := Lib.hid (HC.out.2.2 w4 hb4)
  have HB := Lib.hid hb4
  clear hb4 b3 b4 HC HS
  go_wp2_with fail
  refine K.out.mono ?_
  rintro e w5 ⟨rfl, b5⟩
  have HF := Lib.hid (HB.out.trans (b5.mono HB.out.size))
  clear b5 K
  go_wp2_with fail
  go_ret
  exact ⟨rfl, HF.out⟩
 ·have HC := Lib.hid (And.intro hpo (fun X hX => (hix X hX).mono fun e w' hf => found_out hwl hok hin hf : ∀ X, Wat V pb (.slice Aw nw cw) X → Calls Tryz.prog 58 #[.slice Aw nw cw, .func (.func 60) #[.agg #[.int .i64 y0, .int .i64 y1, .int .i64 y2]] #[]] X (fun e w' => e = .returned (.int .i64 (-1)) ∧ Below X.heap.size X w')))
  unfold hd at *
  clear h hpo hix hwl hok hnp hn hp hl hno hin hpv hy0 hy1 hy2 c0 c1 c2 c3 c5
  go_enter Tryz.func26, Tryz.ntmps26
  go_wp2_with fail
  go_region_held3 (fun X => X.cell? ⟨pb, 4, none⟩ = some (.slice Aw nw cw) ∧ Below V.heap.size V X ∧ pb < V.heap.size)
   (first
    | exact HS.out
    | exact wat_below (by assumption) (by assumption))
   (first
    | (go_at_call 59; refine (HC.out.1 _ (by assumption)).mono ?_; rintro e w3 ⟨rfl, b3⟩)
    | (go_at_call 58; refine (HC.out.2 _ (by assumption)).mono ?_; rintro e w4 ⟨rfl, b4⟩))
  have HB := Lib.hid (show Below V.heap.size V w4 from ((Below.refl _ V).drew).trans (b3.trans (b4.mono b3.size)))
  clear b3 b4 HC HS
  go_wp2_with fail
  go_ret
  exact ⟨rfl, HB.out⟩
end
end Pull
end Go.Proofs.YtkfdplfgaddkmaaGreat

/-
 What a pull is told at a path that is wanted (layer 19).
-/
namespace Go.Proofs.YtkfdplfgaddkmaaGreat
namespace Pull
open Go.RowKit Blk Go.Maps Disk Tree Vers Num Ring Mend
open Go.Proofs.YtkfdplfgaddkmaaGreat.Code hiding Bn
attribute [local go_sem ↓] Go.wp_at_zero Go.wp_at_succ
section
variable {F : Nat → Prop} {w V : World} {pb : Nat} {id : Int} {vec : List Int} {own st : List Rc} {bg : Bool} {W : List (List Int)}
theorem list_one {p : List Int} (h : p.length = 1) : ∃ d, p = [d] := by
 match p, h with
 | [d], _ => exact ⟨d, rfl⟩
set_option maxRecDepth 100000 in
set_option maxHeartbeats 2000000 in
theorem PJ.tell_one (h : PJ F w V pb id own bg vec W st) (hok : ∀ x ∈ W, okW x) (hW : W.length ≤ 900) (Ap Ah Al : Option Addr) (cp ch cl nh n : Nat) (p hs : List Int) (hnp : p.length = 1) (hnh : hs.length = nh) (hp : Sta F V (fun X => Ns .i64 X X.heap.size Ap p)) (hhs : Sta F V (fun X => Ns .u64 X X.heap.size Ah hs)) (hin : p ∈ W) :
  Calls Tryz.prog 26 #[hd pb, .slice Ap 1 cp, .slice Ah nh ch, .slice Al n cl] V (DoneP F w V pb id own bg vec (W.erase p ++ wantF own p hs) st) := by
 obtain ⟨tb, Ft, mb, Av, nv, cv, Aw, nw, cw, D, h⟩ := h
 obtain ⟨c0, c1, c2, c3, c4, c5⟩ := h.cells
 obtain ⟨y0, hy0⟩ : ∃ y : Int, ((p.length : Nat) : Int) = y := ⟨_, rfl⟩
 obtain ⟨y1, hy1⟩ : ∃ y, p.getD 0 0 = y := ⟨_, rfl⟩
 obtain ⟨y2, hy2⟩ : ∃ y, p.getD 1 0 = y := ⟨_, rfl⟩
 have hpv : pV p = .agg #[.int .i64 y0, .int .i64 y1, .int .i64 y2] := by unfold pV; rw [hy0, hy1, hy2]
 have hpo : ∀ X, Wat V pb (.slice Aw nw cw) X → Calls Tryz.prog 59 #[.slice Ap 1 cp] X (fun e w' => e = .returned (.agg #[.int .i64 y0, .int .i64 y1, .int .i64 y2]) ∧ Below X.heap.size X w') := fun X hX => by
  have h := pathOf_any Ap cp 1 p hnp X ((hp.now.below hX.2.1).more hX.2.1.size)
  rwa [hpv] at h
 have HS : Hid (Wat V pb (.slice Aw nw cw) V.drew) := Lib.hid ⟨c4, (Below.refl _ _).drew, h.lt _ h.hpb⟩
 obtain ⟨i, hi, hi1, hi2⟩ := first_idx hin
 have hwl := h.wlen
 have hwf := h.wfew
 rw [hwl] at hi
 obtain ⟨n', hn'⟩ : ∃ n', n' + 1 = nw := ⟨nw - 1, by omega⟩
 have hix : ∀ X, Wat V pb (.slice Aw nw cw) X → Calls Tryz.prog 58 #[.slice Aw nw cw, .func (.func 60) #[.agg #[.int .i64 y0, .int .i64 y1, .int .i64 y2]] #[]] X (fun e w' => e = .returned (.int .i64 i) ∧ Below X.heap.size X w') := fun X hX => by
  have h := index_any Aw w.heap.size cw nw W X (own_below h.want hX.2.1 (Nat.le_refl _)) h.wlen p (by omega)
  rw [hpv] at h
  exact h.mono fun e w' hf => found_in hwl hok hi hi1 hi2 hf
 have hdel : ∀ X, Below V.heap.size V X → Calls Tryz.prog 62 #[.slice Aw nw cw, .int .i64 i, .int .i64 ((i : Int) + 1)] X (fun e w' => e = .returned (.slice Aw n' cw) ∧ Hid (w'.ownsRow 0 101 3 (.slice Aw n' cw) n' (pcells (W.eraseIdx i)) ∧ X.grownBy w' (Value.slice Aw nw cw).ownBlock)) := fun X hX => del_any (own_base (own_below h.want hX (Nat.le_refl _)) (Nat.zero_le _)) hwl hn' hi rfl (by omega)
 have e1 : decide ((i : Int) < 0) = false := decide_eq_false (by omega)
 have hers : W.erase p = W.eraseIdx i := erase_idx W i (by omega) hi1 hi2
 have HC := Lib.hid (And.intro hpo (And.intro hix hdel))
 have HP := Lib.hid (And.intro h (And.intro hp (And.intro hhs (And.intro hnp (And.intro hers (And.intro hnh hW))))))
 unfold hd at *
 clear h hpo hix hdel hwl hok hnp hp hhs hin hi1 hi2 hpv hy0 hy1 hy2 c0 c1 c2 c3 c5 hers hW hnh
 go_enter Tryz.func26, Tryz.ntmps26
 go_wp2_with fail
 go_region_held3 (fun X => X.cell? ⟨pb, 4, none⟩ = some (.slice Aw nw cw) ∧ Below V.heap.size V X ∧ pb < V.heap.size)
  (first
   | exact HS.out
   | exact wat_below (by assumption) (by assumption))
  (first
   | (go_at_call 59; refine (HC.out.1 _ (by assumption)).mono ?_; rintro e w3 ⟨rfl, b3⟩)
   | (go_at_call 58; refine (HC.out.2.1 _ (by assumption)).mono ?_; rintro e w4 ⟨rfl, b4⟩))
 have hb4 : Below V.heap.size V w4 := ((Below.refl _ V).drew).trans (b3.trans (b4.mono b3.size))
 have K := Lib.hid (HC.out.2.2 w4 hb4)
 have c4' : w4.cell? ⟨pb, 4, none⟩ = some (.slice Aw nw cw) := (hb4.cell (p := ⟨pb, 4, none⟩) HS.out.2.2).trans c4
 have HB := Lib.hid hb4
 clear hb4 b3 b4 HC HS c4
 go_wp2_with fail
 refine K.out.mono ?_
 rintro e w5 ⟨rfl, h5⟩
 have hX5 := HB.out
 obtain ⟨Z, hZ⟩ : ∃ Z, w5.setCell ⟨pb, 4, none⟩ (.slice Aw n' cw) = Z := ⟨_, rfl⟩
 have H7 : Hid (PI F w Z pb id own bg vec (W.erase p) st tb Ft mb Av nv cv Aw n' cw D ∧ Stp F V F Z) := Lib.hid (by
  have hlo : ∀ g, (Value.slice Aw n' cw).ownBlock = some g → w.heap.size ≤ g := fun g hg => HP.out.1.new _ (HP.out.1.wown g (by have q : (Value.slice Aw n' cw).ownBlock = (Value.slice Aw nw cw).ownBlock := (by cases Aw <;> rfl); rw [← q]; exact hg)).1
  rw [HP.out.2.2.2.2.1, ← hZ]
  exact HP.out.1.less hX5 (own_up h5.out.1 hlo) (by rw [List.length_eraseIdx_of_lt (by have := HP.out.1.wlen; omega)]; have := HP.out.1.wlen; omega) h5.out.2 (by omega))
 have B5 : Bn pb 96 [.int .i64 id, .pointer (some ⟨tb, 0, none⟩), .bool bg, .slice Av nv cv, .slice Aw nw cw, .map (some mb)] w5 := (HP.out.1.blk.same (hX5.block _ HP.out.1.blk.lt)).kept h5.out.2 (fun e => own_ne HP.out.1.want HP.out.1.blk (by decide) e.symm)
 have d4 := B5.cell 4
 have f4 := B5.frozen 4
 simp only [List.getElem?_cons_zero, List.getElem?_cons_succ] at d4
 have K8 := Lib.hid (PJ.want ⟨_, _, _, _, _, _, _, _, _, _, H7.out.1⟩ (by have := H7.out.1.wlen; have := H7.out.1.wfew; have := HP.out.2.2.2.2.2.2; have := HP.out.1.wlen; omega) Ap Ah cp ch 1 nh p hs HP.out.2.2.2.1 HP.out.2.2.2.2.2.1 (Nat.le_refl _) (sta_stp HP.out.2.1 H7.out.2) (sta_stp HP.out.2.2.1 H7.out.2))
 unfold hd at K8
 clear h5 K hX5 c4' B5
 go_wp2_with fail
 refine K8.out.mono ?_
 rintro e w9 ⟨rfl, F9, h9⟩
 have HF : Hid (DoneP F w V pb id own bg vec (W.erase p ++ wantF own p hs) st (.returned (.bool true)) w9) := Lib.hid ⟨rfl, F9, Lib.hid ⟨h9.out.1, H7.out.2.trans h9.out.2⟩⟩
 clear h9 K8 d4 f4 hZ
 go_wp2_with fail
 go_ret
 exact HF.out
end
end Pull
end Go.Proofs.YtkfdplfgaddkmaaGreat

/-
 What a pull is told at a leaf that is wanted: records are staged (layer 19).
-/
namespace Go.Proofs.YtkfdplfgaddkmaaGreat
namespace Pull
open Go.RowKit Blk Go.Maps Disk Tree Vers Num Ring Mend
open Go.Proofs.YtkfdplfgaddkmaaGreat.Code hiding Bn
attribute [local go_sem ↓] Go.wp_at_zero Go.wp_at_succ
theorem wout_lenR {l : List Rc} (h : Srt l) (s : Nm) : (wout l s).length + (if (find l s).isSome then 1 else 0) = l.length := by
 induction l with
 | nil => rfl
 | cons y l ih =>
  obtain ⟨h1, h2⟩ := List.pairwise_cons.1 h
  have ih := ih h2
  have e : wout (y :: l) s = if y.1 = s then wout l s else y :: wout l s := by
   unfold wout
   by_cases h : y.1 = s
   ·simp [h]
   ·simp [h]
  rw [e]
  unfold find
  by_cases hs : y.1 = s
  ·have n1 : find l s = none := find_none.2 fun z hz e2 => nlt_ne (h1 z hz) (hs.trans e2.symm)
   rw [n1] at ih
   rw [if_pos hs, if_pos hs]
   simp at ih ⊢
   omega
  ·rw [if_neg hs, if_neg hs]
   simp only [List.length_cons]
   omega
section
variable {F F' M : Nat → Prop} {w : World} {D : Vl} {st : List Rc}
theorem HoldP.same (h : HoldP F M w D st) (k : Nm) : (find D k).isSome = (find st k).isSome := by
 rcases h k with ⟨h1, h2⟩ | ⟨lv, A, c, L, B, h1, h2, _⟩
 ·rw [h1, h2]; rfl
 ·rw [h1, h2]; rfl
theorem hold_wout (h : HoldP F M w D st) (hD : Srt D) (hS : Srt st) (hl : D.length ≤ st.length) (k : Nm) : (wout D k).length ≤ (wout st k).length := by
 have h1 := len_wout hD k
 have h2 : (wout st k).length + (if (find st k).isSome then 1 else 0) = st.length := wout_lenR hS k
 rw [h.same k] at h1
 omega
end
section
variable {F : Nat → Prop} {w V : World} {pb : Nat} {id : Int} {vec : List Int} {own st : List Rc} {bg : Bool} {W : List (List Int)}
def TellI (F : Nat → Prop) (w V : World) (pb : Nat) (id : Int) (own : List Rc) (bg : Bool) (vec : List Int) (W : List (List Int)) (st l : List Rc) (Al : Option Addr) (n tb : Nat) (Ft : Nat → Prop) (mb : Nat) (Av : Option Addr) (nv cv : Nat) (Aw : Option Addr) (nw cw : Nat) (q : Value) (wr : World) : Prop :=
 ∃ k : Nat, q = .int .i64 k ∧ k ≤ n ∧ ∃ F1 D1, Hid (PI F1 w wr pb id own bg vec W ((l.take k).foldl withR st) tb Ft mb Av nv cv Aw nw cw D1 ∧ Stp F V F1 wr ∧ Sta F1 wr (fun X => Rs X 0 X.heap.size Al l))
set_option maxRecDepth 100000 in
set_option maxHeartbeats 2000000 in
theorem PJ.tell_two (h : PJ F w V pb id own bg vec W st) (hok : ∀ x ∈ W, okW x) (hW : W.length ≤ 900) (Ap Ah Al : Option Addr) (cp ch cl nh n : Nat) (p : List Int) (l : List Rc) (hnp : p.length = 2) (hn : l.length = n) (hp : Sta F V (fun X => Ns .i64 X X.heap.size Ap p)) (hl : Sta F V (fun X => Rs X 0 X.heap.size Al l)) (hin : p ∈ W) (har : areF p l = true) (hN : st.length + n ≤ 3518437208882) :
  Calls Tryz.prog 26 #[hd pb, .slice Ap 2 cp, .slice Ah nh ch, .slice Al n cl] V (DoneP F w V pb id own bg vec (W.erase p) (l.foldl withR st)) := by
 obtain ⟨tb, Ft, mb, Av, nv, cv, Aw, nw, cw, D, h⟩ := h
 obtain ⟨c0, c1, c2, c3, c4, c5⟩ := h.cells
 obtain ⟨y0, hy0⟩ : ∃ y : Int, ((p.length : Nat) : Int) = y := ⟨_, rfl⟩
 obtain ⟨y1, hy1⟩ : ∃ y, p.getD 0 0 = y := ⟨_, rfl⟩
 obtain ⟨y2, hy2⟩ : ∃ y, p.getD 1 0 = y := ⟨_, rfl⟩
 have hpv : pV p = .agg #[.int .i64 y0, .int .i64 y1, .int .i64 y2] := by unfold pV; rw [hy0, hy1, hy2]
 have hpo : ∀ X, Wat V pb (.slice Aw nw cw) X → Calls Tryz.prog 59 #[.slice Ap 2 cp] X (fun e w' => e = .returned (.agg #[.int .i64 y0, .int .i64 y1, .int .i64 y2]) ∧ Below X.heap.size X w') := fun X hX => by
  have h := pathOf_any Ap cp 2 p hnp X ((hp.now.below hX.2.1).more hX.2.1.size)
  rwa [hpv] at h
 have HS : Hid (Wat V pb (.slice Aw nw cw) V.drew) := Lib.hid ⟨c4, (Below.refl _ _).drew, h.lt _ h.hpb⟩
 obtain ⟨i, hi, hi1, hi2⟩ := first_idx hin
 have hwl := h.wlen
 have hwf := h.wfew
 rw [hwl] at hi
 obtain ⟨n', hn'⟩ : ∃ n', n' + 1 = nw := ⟨nw - 1, by omega⟩
 have hix : ∀ X, Wat V pb (.slice Aw nw cw) X → Calls Tryz.prog 58 #[.slice Aw nw cw, .func (.func 60) #[.agg #[.int .i64 y0, .int .i64 y1, .int .i64 y2]] #[]] X (fun e w' => e = .returned (.int .i64 i) ∧ Below X.heap.size X w') := fun X hX => by
  have h := index_any Aw w.heap.size cw nw W X (own_below h.want hX.2.1 (Nat.le_refl _)) h.wlen p (by omega)
  rw [hpv] at h
  exact h.mono fun e w' hf => found_in hwl hok hi hi1 hi2 hf
 have hdel : ∀ X, Below V.heap.size V X → Calls Tryz.prog 62 #[.slice Aw nw cw, .int .i64 i, .int .i64 ((i : Int) + 1)] X (fun e w' => e = .returned (.slice Aw n' cw) ∧ Hid (w'.ownsRow 0 101 3 (.slice Aw n' cw) n' (pcells (W.eraseIdx i)) ∧ X.grownBy w' (Value.slice Aw nw cw).ownBlock)) := fun X hX => del_any (own_base (own_below h.want hX (Nat.le_refl _)) (Nat.zero_le _)) hwl hn' hi rfl (by omega)
 have e1 : decide ((i : Int) < 0) = false := decide_eq_false (by omega)
 have hers : W.erase p = W.eraseIdx i := erase_idx W i (by omega) hi1 hi2
 have hben : ∀ X, Below V.heap.size V X → Calls Tryz.prog 61 #[.slice Ap 2 cp, .slice Al n cl] X (fun e w' => e = .returned (.bool true) ∧ Below X.heap.size X w') := fun X hX => by
  have h := beneath_any Ap Al cp cl 2 n p l hnp hn (by omega) (by omega) X ((hp.now.below hX).more hX.size) (rs_rb ((hl.now.below hX).more hX.size))
  rwa [har] at h
 have hokl : okL l := fun r hr => by
  have h := List.all_eq_true.1 har r hr
  simp only [Bool.and_eq_true, decide_eq_true_eq] at h
  exact h.1
 have HC := Lib.hid (And.intro hpo (And.intro hix (And.intro hdel hben)))
 have HP := Lib.hid (And.intro h (And.intro hl (And.intro hokl (And.intro hn (And.intro hers hN)))))
 unfold hd at *
 clear h hpo hix hdel hben hwl hok hnp hp hl hin hi1 hi2 hpv hy0 hy1 hy2 c0 c1 c2 c3 c5 hers hW hn har hokl
 go_enter Tryz.func26, Tryz.ntmps26
 go_wp2_with fail
 go_region_held3 (fun X => X.cell? ⟨pb, 4, none⟩ = some (.slice Aw nw cw) ∧ Below V.heap.size V X ∧ pb < V.heap.size)
  (first
   | exact HS.out
   | exact wat_below (by assumption) (by assumption))
  (first
   | (go_at_call 59; refine (HC.out.1 _ (by assumption)).mono ?_; rintro e w3 ⟨rfl, b3⟩)
   | (go_at_call 58; refine (HC.out.2.1 _ (by assumption)).mono ?_; rintro e w4 ⟨rfl, b4⟩))
 have hb4 : Below V.heap.size V w4 := ((Below.refl _ V).drew).trans (b3.trans (b4.mono b3.size))
 have K := Lib.hid (HC.out.2.2.2 w4 hb4)
 have HB := Lib.hid hb4
 have HS4 := Lib.hid HS.out.2.2
 clear hb4 b3 b4 HS
 go_wp2_with fail
 refine K.out.mono ?_
 rintro e w44 ⟨rfl, b44⟩
 have hb44 := HB.out.trans (b44.mono HB.out.size)
 have K := Lib.hid (HC.out.2.2.1 w44 hb44)
 have c4' : w44.cell? ⟨pb, 4, none⟩ = some (.slice Aw nw cw) := (hb44.cell (p := ⟨pb, 4, none⟩) HS4.out).trans c4
 have HB := Lib.hid hb44
 clear hb44 b44 HC HS4 c4
 go_wp2_with fail
 refine K.out.mono ?_
 rintro e w5 ⟨rfl, h5⟩
 have hX5 := HB.out
 obtain ⟨Z, hZ⟩ : ∃ Z, w5.setCell ⟨pb, 4, none⟩ (.slice Aw n' cw) = Z := ⟨_, rfl⟩
 have H7 : Hid (PI F w Z pb id own bg vec (W.erase p) st tb Ft mb Av nv cv Aw n' cw D ∧ Stp F V F Z) := Lib.hid (by
  have hlo : ∀ g, (Value.slice Aw n' cw).ownBlock = some g → w.heap.size ≤ g := fun g hg => HP.out.1.new _ (HP.out.1.wown g (by have q : (Value.slice Aw n' cw).ownBlock = (Value.slice Aw nw cw).ownBlock := (by cases Aw <;> rfl); rw [← q]; exact hg)).1
  rw [HP.out.2.2.2.2.1, ← hZ]
  exact HP.out.1.less hX5 (own_up h5.out.1 hlo) (by rw [List.length_eraseIdx_of_lt (by have := HP.out.1.wlen; omega)]; have := HP.out.1.wlen; omega) h5.out.2 (by omega))
 have B5 : Bn pb 96 [.int .i64 id, .pointer (some ⟨tb, 0, none⟩), .bool bg, .slice Av nv cv, .slice Aw nw cw, .map (some mb)] w5 := (HP.out.1.blk.same (hX5.block _ HP.out.1.blk.lt)).kept h5.out.2 (fun e => own_ne HP.out.1.want HP.out.1.blk (by decide) e.symm)
 have d4 := B5.cell 4
 have f4 := B5.frozen 4
 simp only [List.getElem?_cons_zero, List.getElem?_cons_succ] at d4
 have H8 : Hid (TellI F w V pb id own bg vec (W.erase p) st l Al n tb Ft mb Av nv cv Aw n' cw (.int .i64 0) Z) := Lib.hid ⟨0, rfl, by omega, F, D, Lib.hid ⟨H7.out.1, H7.out.2, sta_stp HP.out.2.1 H7.out.2⟩⟩
 clear h5 K hX5 c4' B5 H7
 go_wp2_with fail
 clear hZ d4 f4
 go_loopw [53] (fun q wr => TellI F w V pb id own bg vec (W.erase p) st l Al n tb Ft mb Av nv cv Aw n' cw q wr) (fun q _ => n - (intOf q).toNat)
 case atStart => exact H8.out
 case round =>
  clear H8
  obtain ⟨k, rfl, hk, F1, D1, hst⟩ := hrel
  have hN := HP.out.2.2.2.2.2
  by_cases hlt : k < n
  ·have d1 : (0 : Int) ≤ (k : Int) := by omega
   have d2 : (k : Int) < (n : Int) := by omega
   obtain ⟨gl, off, A4, c4, rfl, _, hbB, k0, k1, k2, k3⟩ := hst.out.2.2.now.at HP.out.2.2.2.1 (Below.refl _ wr) hlt rfl
   obtain ⟨r, hrr⟩ : ∃ r, l.getD k r0 = r := ⟨_, rfl⟩
   rw [hrr] at k0 k1 k2 k3
   have hkl : k < l.length := by have := HP.out.2.2.2.1; omega
   have hok : okR r := HP.out.2.2.1 r (by rw [← hrr]; exact getD_mem hkl)
   obtain ⟨key, lv⟩ := r
   simp only at k0 k1 k2 k3
   obtain ⟨ml, hml⟩ : ∃ ml, lv.length = ml := ⟨_, rfl⟩
   rw [hml] at k1 k3
   obtain ⟨Y, hY⟩ : ∃ Y, wr.alloc (.cells #[.string key, .slice A4 ml c4] 70) = Y := ⟨_, rfl⟩
   obtain ⟨rb, hrb⟩ : ∃ rb, wr.heap.size = rb := ⟨_, rfl⟩
   have bY : Below wr.heap.size wr Y := by rw [← hY]; exact (Below.refl _ wr).alloc (Nat.le_refl _) _
   have BY : Blk.Bn rb 70 [.string key, .slice A4 ml c4] Y := by rw [← hY, ← hrb]; exact World.alloc_heap_new _ _
   have x0 := BY.cell 0
   have x1 := BY.cell 1
   simp only [List.getElem?_cons_zero, List.getElem?_cons_succ] at x0 x1
   obtain ⟨st1, hst1⟩ : ∃ s, (l.take k).foldl withR st = s := ⟨_, rfl⟩
   have hI := hst.out.1
   rw [hst1] at hI
   have hfold : (l.take (k + 1)).foldl withR st = withR st1 (key, lv) := by rw [take_at hkl, hrr, List.foldl_append, hst1]; rfl
   have hslen : st1.length ≤ 3518437208882 := by
    have h := fold_len (l.take k) st
    rw [hst1, List.length_take] at h
    omega
   have hIY := hI.below bY
   have p5 := hIY.blk.cell 5
   simp only [List.getElem?_cons_zero, List.getElem?_cons_succ] at p5
   have hkz : okN key := by have h9 : key.size ≤ 32 := hok.2.1; unfold okN maxLen; omega
   have hDl := hI.dlen
   have hmr : mb ≠ rb := fun e => hIY.map.ne (g := rb) BY e.symm
   have hpm : pb ≠ mb := hIY.map.ne hIY.blk
   have hpl := hIY.blk.lt
   have hsY := bY.size
   by_cases hm0 : ml = 0
   ·have e0 : ((ml : Int) == 0) = true := by rw [hm0]; rfl
    obtain ⟨W4, hrun, hM4, hg4⟩ := MI.drop (w := Y.drew) (hIY.map.same rfl) key hkz 0
    have hgg : Y.grownBy W4 (some mb) := ⟨hg4.os, hg4.tape, hg4.output, hg4.size, hg4.block⟩
    have z5 : W4.cell? ⟨pb, 5, none⟩ = some (.map (some mb)) := (World.cell?_of_block (hgg.block pb hpl (by intro q; injection q with q; exact hpm q))).trans p5
    have z0 : W4.cell? ⟨rb, 0, none⟩ = some (.string key) := (World.cell?_of_block (hgg.block rb BY.lt (by intro q; injection q with q; exact hmr q.symm))).trans x0
    have HFIN : Hid (TellI F w V pb id own bg vec (W.erase p) st l (some ⟨gl, off, none⟩) n tb Ft mb Av nv cv Aw n' cw (.int .i64 ((k : Int) + 1)) W4) := Lib.hid (by
     have hlv : lv = [] := List.eq_nil_of_length_eq_zero (by omega)
     have hw : withR st1 (key, lv) = wout st1 key := by unfold withR; rw [if_pos hlv]
     have hS := hI.stage (F' := F1) bY hgg hM4 (st' := wout st1 key) (by rw [← hw]; exact hI.lst.fold (m := [(key, lv)]) fun x hx => by rw [List.mem_singleton.1 hx]; exact hok) (hold_wout hI.hold hI.map.srt hI.lst.1.1 hDl key) (fun k hk => hk) (fun k hk => .inl hk) ((hIY.hold.drop key).keep hgg.size fun j hj _ hM => hgg.block j hj fun e => hM (.inr (.inr (.inl (by injection e)))))
     refine ⟨k + 1, by go_num, by omega, F1, wout D1 key, Lib.hid ⟨?_, hst.out.2.1.trans hS.2, sta_stp hst.out.2.2 hS.2⟩⟩
     rw [hfold, hw]
     exact hS.1)
    clear hm0 hst hI hIY hM4 hg4 hgg hDl hmr hpm hpl bY BY hfold hst1 hrr hml hok k2 k3 hkl hslen hkz
    go_wp2_with fail
    go_region_held3 (fun X => X.cell? ⟨pb, 5, none⟩ = some (.map (some mb)) ∧ X.cell? ⟨rb, 0, none⟩ = some (.string key))
     (first | exact ⟨p5, x0⟩ | exact ⟨z5, z0⟩) (first | fail)
    go_wp2_with fail
    go_roundw
    case rel => exact HFIN.out
    case measure => simp only [intOf]; omega
   ·have e0 : ((ml : Int) == 0) = false := by simp; omega
    have HK : Hid (Calls Tryz.prog 63 #[.slice A4 ml c4] Y.drew fun e w3 => ∃ A1 c1 W4, e = .returned (.slice A1 ml c1) ∧ w3.cell? ⟨pb, 5, none⟩ = some (.map (some mb)) ∧ w3.cell? ⟨rb, 0, none⟩ = some (.string key) ∧ w3.cell? ⟨rb, 1, none⟩ = some (.slice A4 ml c4) ∧ (Instr.mapUpdate 93 (.map (some mb)) (.string key) (.slice A1 ml c1)).run Tryz.prog w3 = .ok () W4 ∧
      W4.cell? ⟨pb, 5, none⟩ = some (.map (some mb)) ∧ W4.cell? ⟨rb, 0, none⟩ = some (.string key) ∧ W4.cell? ⟨rb, 1, none⟩ = some (.slice A4 ml c4) ∧ Hid (TellI F w V pb id own bg vec (W.erase p) st l (some ⟨gl, off, none⟩) n tb Ft mb Av nv cv Aw n' cw (.int .i64 ((k : Int) + 1)) W4)) := Lib.hid (by
     refine (vers_new key (by have h9 : key.size ≤ 32 := hok.2.1; omega) A4 c4 ml lv hml hok.2.2 Y.drew ((k2.below bY).more bY.size)).mono ?_
     rintro e w3 ⟨A1, c1, he, hrec, b3⟩
     have b3' : Below Y.heap.size Y w3 := (show Below Y.heap.size Y Y.drew from (Below.refl _ _).drew).trans b3
     have hY3 : Y.drew.heap.size = Y.heap.size := rfl
     have s3 := b3'.size
     have hI3 := hIY.below b3'
     obtain ⟨W4, hrun, hM4, hg4⟩ := MI.store (w := w3) hI3.map (by omega) key hkz (.slice A1 ml c1)
     have k4 : ∀ b, b < Y.heap.size → b ≠ mb → W4.heap[b]? = Y.heap[b]? := fun b hb hn => (hg4.block b (by omega) (by intro q; injection q with q; exact hn q)).trans (b3'.block b hb)
     refine ⟨A1, c1, W4, he, (World.cell?_of_block (b3'.block pb hpl)).trans p5, (World.cell?_of_block (b3'.block rb BY.lt)).trans x0, (World.cell?_of_block (b3'.block rb BY.lt)).trans x1, hrun, (World.cell?_of_block (k4 pb hpl hpm)).trans p5, (World.cell?_of_block (k4 rb BY.lt (fun q => hmr q.symm))).trans x0, (World.cell?_of_block (k4 rb BY.lt (fun q => hmr q.symm))).trans x1, Lib.hid ?_⟩
     have hlv : lv ≠ [] := fun q => by rw [q] at hml; simp at hml; omega
     have hw : withR st1 (key, lv) = wit st1 key lv := by unfold withR; rw [if_neg hlv]
     have hbw : Below wr.heap.size wr w3 := bY.trans (b3'.mono hsY)
     have hFn : ∀ k, F1 k → k < wr.heap.size := fun k hk => hI.lt k hk
     have hS := hI.stage (F' := fun k => F1 k ∨ (Y.heap.size ≤ k ∧ k < w3.heap.size)) hbw hg4 hM4 (st' := wit st1 key lv) (by rw [← hw]; exact hI.lst.fold (m := [(key, lv)]) fun x hx => by rw [List.mem_singleton.1 hx]; exact hok) (by rw [wit, wit, len_ins, len_ins]; have := hold_wout hI.hold hI.map.srt hI.lst.1.1 hDl key; omega) (fun k hk => .inl hk) (fun k hk => hk.imp (fun e => e) fun e => ⟨by omega, e.2⟩)
      (((hI3.hold.mono (F' := fun k => F1 k ∨ (Y.heap.size ≤ k ∧ k < w3.heap.size)) (fun j hj => .inl hj) (fun _ _ _ e => e)).put (key := key) hml hrec.out.vs (by have := hrec.out.1; simp only at this; omega) (Nat.le_refl _) (fun j hj hjB => ⟨.inr ⟨hj, hjB⟩, fun e => by
        have hj2 : Y.heap.size ≤ j := hj
        rcases e with e | e | e | e
        ·omega
        ·have := hFn _ (hI.sub _ hI.tree.own); omega
        ·have := hFn _ hI.mown; omega
        ·have := hFn _ (hI.wown j e).1; omega⟩)).keep hg4.size fun j hj _ hM => hg4.block j hj fun e => hM (.inr (.inr (.inl (by injection e)))))
     refine ⟨k + 1, by go_num, by omega, _, wit D1 key (.slice A1 ml c1), Lib.hid ⟨?_, hst.out.2.1.trans hS.2, sta_stp hst.out.2.2 hS.2⟩⟩
     rw [hfold, hw]
     exact hS.1)
    clear hst hI hIY hDl hmr hpm hpl bY BY hfold hst1 hrr hml hok k2 k3 hkl hslen hkz
    go_wp2_with fail
    go_region_held3 (fun X => X.cell? ⟨pb, 5, none⟩ = some (.map (some mb)) ∧ X.cell? ⟨rb, 0, none⟩ = some (.string key) ∧ X.cell? ⟨rb, 1, none⟩ = some (.slice A4 ml c4))
     (first | exact ⟨p5, x0, x1⟩ | (refine ⟨?_, ?_, ?_⟩ <;> assumption))
     (first
      | (go_at_call 63; refine HK.out.mono ?_; rintro e w3 ⟨A1, c1, W4, rfl, q0, q1, q2, hrun, q3, q4, q5, hfin⟩))
    all_goals
     go_wp2_with fail
     go_roundw
     case rel => exact hfin.out
     case measure => simp only [intOf]; omega
  ·have hkn : k = n := by omega
   subst hkn
   have HF : Hid (DoneP F w V pb id own bg vec (W.erase p) (l.foldl withR st) (.returned (.bool true)) wr) := Lib.hid ⟨rfl, F1, Lib.hid ⟨⟨_, _, _, _, _, _, _, _, _, D1, by
    have h := hst.out.1
    rwa [List.take_of_length_le (by have := HP.out.2.2.2.1; omega)] at h⟩, hst.out.2.1⟩⟩
   clear hst
   go_wp2_with fail
   go_ret
   exact HF.out
end
end Pull
end Go.Proofs.YtkfdplfgaddkmaaGreat

/-
 What a cut has at a path (layer 19).
-/
namespace Go.Proofs.YtkfdplfgaddkmaaGreat
namespace Pull
open Go.RowKit Blk Go.Maps Disk Tree Vers Num Ring Mend
open Go.Proofs.YtkfdplfgaddkmaaGreat.Code hiding Bn
attribute [local go_sem ↓] Go.wp_at_zero Go.wp_at_succ
section
variable {F Ft : Nat → Prop} {w V : World} {cb tb nv cv : Nat} {id : Int} {vec : List Int} {all : List Rc} {Av : Option Addr}
def RecsN (F : Nat → Prop) (w V : World) (cb : Nat) (id : Int) (vec : List Int) (all l : List Rc) (A : Option Addr) (n c : Nat) (ps : List Pr) (w' : World) : Prop :=
 ps.map Prod.fst = l ∧ n = l.length ∧ n ≤ c ∧ Got V.heap.size w' A ps ∧ CN F w w' cb id vec all ∧ Below V.heap.size V w'
def WantP (F : Nat → Prop) (w V : World) (cb : Nat) (id : Int) (vec : List Int) (all : List Rc) (p : List Int) (e : Ending) (w' : World) : Prop :=
 (okP p ∧ p.length = 1 ∧ ∃ A m c, e = .returned (.tuple #[.slice A m c, .slice none 0 0, .bool true]) ∧ Hid (KidN F w V cb id vec all (kidsF all p) A m c w')) ∨
 (okP p ∧ p.length = 2 ∧ ∃ A n c ps, e = .returned (.tuple #[.slice none 0 0, .slice A n c, .bool true]) ∧ Hid (RecsN F w V cb id vec all (recsF all p) A n c ps w')) ∨
 (¬ (okP p ∧ (p.length = 1 ∨ p.length = 2)) ∧ e = .returned (.tuple #[.slice none 0 0, .slice none 0 0, .bool false]) ∧ Hid (CN F w w' cb id vec all) ∧ Below V.heap.size V w')
set_option maxRecDepth 100000 in
set_option maxHeartbeats 1000000 in
theorem CN.want_any (h : CN F w V cb id vec all) (Ap : Option Addr) (cp np : Nat) (p : List Int) (hnp : p.length = np) (hbig : np ≤ 140737488355328) (hr : Ns .i64 V V.heap.size Ap p) :
  Calls Tryz.prog 13 #[hd cb, .slice Ap np cp] V (WantP F w V cb id vec all p) := by
 have HCN := Lib.hid h
 obtain ⟨tb, Ft, Av, nv, cv, h⟩ := h
 obtain ⟨c0, c1, c2⟩ := h.cells
 have HC := Lib.hid h
 have K1 := Lib.hid (h.tree.kids h.few Ap cp np p hnp hbig hr)
 have K2 := Lib.hid (h.tree.recs h.few Ap cp np p hnp hbig hr)
 have HS := Lib.hid (And.intro hr hnp)
 have HNO : Hid (¬ (okP p ∧ (p.length = 1 ∨ p.length = 2)) → WantP F w V cb id vec all p (.returned (.tuple #[.slice none 0 0, .slice none 0 0, .bool false])) V) := Lib.hid fun hno => .inr (.inr ⟨hno, rfl, HCN, Below.refl _ _⟩)
 unfold hd at *
 clear h c0 c1 hr hnp
 go_enter Tryz.func13, Tryz.ntmps13
 go_wp2_with fail
 go_loop [11] (fun q => ∃ k : Nat, q = .int .i64 k ∧ k ≤ np ∧ Hid (∀ x ∈ p.take k, 0 ≤ x ∧ x < 16)) (fun q => np - (intOf q).toNat)
 case atStart => exact ⟨0, rfl, by omega, Lib.hid (by simp)⟩
 case round =>
  obtain ⟨k, rfl, hk, hst⟩ := hrel
  have hn := HS.out.2
  by_cases hlt : k < np
  ·have d1 : (0 : Int) ≤ (k : Int) := by omega
   have d2 : (k : Int) < (np : Int) := by omega
   have hbad := all_bad (R := fun x => 0 ≤ x ∧ x < 16) (0 : Int) (show k < p.length by omega)
   have hstep := all_step (R := fun x => 0 ≤ x ∧ x < 16) (0 : Int) (show k < p.length by omega) hst.out
   obtain ⟨pb, off, rfl, hpb, hc⟩ := HS.out.1 (by omega)
   have x0 := hc k (by omega)
   obtain ⟨x, hxx⟩ : ∃ x, p.getD k 0 = x := ⟨_, rfl⟩
   rw [hxx] at x0 hbad hstep
   by_cases cA : 0 ≤ x ∧ x < 16
   ·have HN := Lib.hid (hstep cA)
    obtain ⟨a1, a2⟩ := cA
    have e1 : decide (x < 0) = false := decide_eq_false (by omega)
    have e2 : decide (16 ≤ x) = false := decide_eq_false (by omega)
    clear hstep hbad hst hn hxx hc
    go_wp2_with fail
    go_round
    case rel => exact ⟨k + 1, rfl, by omega, HN⟩
    case measure => simp only [intOf]; omega
   ·have HN := Lib.hid (HNO.out fun h => by
     have := of_decide_eq_false (hbad cA)
     exact this fun y hy => h.1.1 y hy)
    clear hstep hbad hst hn hxx hc
    by_cases a1 : x < 0
    ·have e1 : decide (x < 0) = true := decide_eq_true a1
     clear cA
     go_wp2_with fail
     go_ret3
     exact HN.out
    ·have e1 : decide (x < 0) = false := decide_eq_false a1
     have a2 : 16 ≤ x := by omega
     have e2 : decide (16 ≤ x) = true := decide_eq_true a2
     clear cA
     go_wp2_with fail
     go_ret3
     exact HN.out
  ·have hkn : k = np := by omega
   have hall : ∀ x ∈ p, 0 ≤ x ∧ x < 16 := by
    have h1 := hst.out
    rw [List.take_of_length_le (by omega)] at h1
    exact h1
   clear hst
   subst hkn
   by_cases e1 : k = 1
   ·have HP := Lib.hid (And.intro (show okP p from ⟨hall, by omega⟩) (show p.length = 1 by omega))
    subst e1
    clear hall hn hlt hk
    go_wp2_with fail
    refine K1.out.mono ?_
    rintro e w3 ⟨A1, m1, c1', rfl, h3⟩
    have HF : Hid (WantP F w V cb id vec all p (.returned (.tuple #[.slice A1 m1 c1', .slice none 0 0, .bool true])) w3) := Lib.hid (.inl ⟨HP.out.1, HP.out.2, A1, m1, c1', rfl, Lib.hid (by
     obtain ⟨q1, q2, q3, q4, q5, q6⟩ := h3.out
     exact ⟨q1, q2, q3, q4, ⟨tb, Ft, Av, nv, cv, HC.out.turn q5 q6⟩, q6.mono fun k e => by rw [e]; exact HC.out.sub _ HC.out.tree.own⟩)⟩)
    clear h3 K1 K2 c2
    go_wp2_with fail
    go_ret3
    exact HF.out
   ·by_cases e2 : k = 2
    ·have HP := Lib.hid (And.intro (show okP p from ⟨hall, by omega⟩) (show p.length = 2 by omega))
     subst e2
     clear hall hn hlt hk e1
     go_wp2_with fail
     refine K2.out.mono ?_
     rintro e w3 ⟨A1, n1, c1', ps, rfl, h3⟩
     have HF : Hid (WantP F w V cb id vec all p (.returned (.tuple #[.slice none 0 0, .slice A1 n1 c1', .bool true])) w3) := Lib.hid (.inr (.inl ⟨HP.out.1, HP.out.2, A1, n1, c1', ps, rfl, Lib.hid (by
      obtain ⟨q1, q2, q3, q4, q5, q6⟩ := h3.out
      exact ⟨q1, q2, q3, q4, ⟨tb, Ft, Av, nv, cv, HC.out.chg (G := fun _ => False) (Chg.of_below q6) (fun _ _ h => h) fun _ h => h.elim⟩, q6⟩)⟩))
     clear h3 K1 K2 c2
     go_wp2_with fail
     go_ret3
     exact HF.out
    ·have HN := Lib.hid (HNO.out fun h => by omega)
     have f1 : ((k : Int) == 1) = false := by simp; omega
     have f2 : ((k : Int) == 2) = false := by simp; omega
     clear hall hn hlt hk e1 e2 K1 K2
     go_wp2_with fail
     go_ret3
     exact HN.out
end
end Pull
end Go.Proofs.YtkfdplfgaddkmaaGreat
