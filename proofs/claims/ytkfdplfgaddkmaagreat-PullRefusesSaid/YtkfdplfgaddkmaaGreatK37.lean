/-
  Several texts of this family in one: PullOwn, PullCut, PullHeld, PullNew, PullWanted, PullBegin.
-/
import Derived.Test.YtkfdplfgaddkmaaGreatK12
import Derived.Test.YtkfdplfgaddkmaaGreatK13
import Derived.Test.YtkfdplfgaddkmaaGreatK36
import Derived.Test.YtkfdplfgaddkmaaGreatK28
import Derived.Test.YtkfdplfgaddkmaaGreatK14
import Derived.Test.YtkfdplfgaddkmaaGreatK4
import Derived.Test.YtkfdplfgaddkmaaGreatK11
import Derived.Deep.RegionHeld3
import Derived.Deep.DrawnRows
import Derived.Deep.AppendLies
import Derived.Deep.RegionLaw
/-
 A cut in memory (layer 19).
-/
namespace Go.Proofs.YtkfdplfgaddkmaaGreat
namespace Pull
open Go.RowKit Blk Go.Maps Disk Tree Vers Num Ring Mend
open Go.Proofs.YtkfdplfgaddkmaaGreat.Code hiding Bn
attribute [local go_sem ↓] Go.wp_at_zero Go.wp_at_succ
section
variable {F F' G : Nat → Prop} {w V V' : World} {P : World → Prop}
theorem sta_stp (h : Sta F V P) (hs : Stp F V F' V') : Sta F' V' P := h.go hs.1.size (fun k hk hn => hs.1.block k hk hn) fun k hk hF => (hs.2 k hF).elim id fun e => by omega
theorem sta_below (h : Sta F V P) (hb : Below V.heap.size V V') : Sta F V' P := h.go hb.size (fun k hk _ => hb.block k hk) fun _ _ hF => hF
theorem sta_chg (h : Sta F V P) (hc : Chg F V V') : Sta F V' P := h.go hc.size (fun k hk hn => hc.block k hk hn) fun _ _ hF => hF
theorem sta_ns {k : IntKind} {B : Nat} {A : Option Addr} {zs : List Int} (h : Ns k V B A zs) (hB : B ≤ V.heap.size) (hF : ∀ j, F j → B ≤ j) : Sta F V (fun W => Ns k W W.heap.size A zs) := fun W hs hk =>
 (h.keep fun p hp => World.cell?_of_block (hk p.block (by omega) fun e => by have := hF _ e; omega)).more (by omega)
theorem sta_rs {B : Nat} {A : Option Addr} {l : List Rc} (h : Rs V 0 B A l) (hB : B ≤ V.heap.size) (hF : ∀ j, F j → B ≤ j) : Sta F V (fun W => Rs W 0 W.heap.size A l) := fun W hs hk =>
 (h.keep fun p _ hp => World.cell?_of_block (hk p.block (by omega) fun e => by have := hF _ e; omega)).more (by omega)
theorem sta_row {k : IntKind} {base : Nat} {t : TypeId} {A : Option Addr} {n c : Nat} {zs : List Int} (h : V.ownsRow base t 1 (.slice A n c) n (nums k zs)) (hn : zs.length = n) (hF : ∀ g, (Value.slice A n c).ownBlock = some g → ¬ F g) : Sta F V (fun W => Ns k W W.heap.size A zs) := fun W hs hk => by
 subst hn
 exact own_ns (own_keep h fun g hg => hk g (h.lt g hg).2 (hF g hg))
end
structure CI (F : Nat → Prop) (w V : World) (cb : Nat) (id : Int) (vec : List Int) (all : List Rc) (tb : Nat) (Ft : Nat → Prop) (Av : Option Addr) (nv cv : Nat) : Prop where
 blk : Bn cb 85 [.int .i64 id, .slice Av nv cv, hd tb] V
 tree : On Ft w V tb all
 len : vec.length = nv
 row : V.ownsRow w.heap.size 2 1 (.slice Av nv cv) nv (nums .i64 vec)
 sub : ∀ k, Ft k → F k
 notb : ¬ Ft cb
 vown : ∀ g, (Value.slice Av nv cv).ownBlock = some g → F g ∧ ¬ Ft g
 own : F cb
 lt : ∀ k, F k → k < V.heap.size
 new : ∀ k, F k → w.heap.size ≤ k
 old : Below w.heap.size w V
 few : all.length ≤ 3518437208882
 vfew : nv ≤ 16
def CN (F : Nat → Prop) (w V : World) (cb : Nat) (id : Int) (vec : List Int) (all : List Rc) : Prop := ∃ tb Ft Av nv cv, CI F w V cb id vec all tb Ft Av nv cv
section
variable {F G Ft : Nat → Prop} {w V V' : World} {cb tb nv cv : Nat} {id : Int} {vec : List Int} {all : List Rc} {Av : Option Addr}
theorem CI.chg (h : CI F w V cb id vec all tb Ft Av nv cv) (hc : Chg G V V') (hG : ∀ k, F k → ¬ G k) (hw : ∀ k, G k → w.heap.size ≤ k) : CI F w V' cb id vec all tb Ft Av nv cv :=
 ⟨h.blk.same (hc.block _ h.blk.lt (hG _ h.own)), h.tree.chg hc (fun k hk => hG k (h.sub k hk)) hw, h.len, own_keep h.row (fun g hg => hc.block g (h.row.lt g hg).2 (hG g (h.vown g hg).1)), h.sub, h.notb, h.vown, h.own, fun k hk => Nat.lt_of_lt_of_le (h.lt k hk) hc.size, h.new, h.old.trans (hc.below hw h.old.size), h.few, h.vfew⟩
theorem CI.turn (h : CI F w V cb id vec all tb Ft Av nv cv) (ht : On Ft w V' tb all) (hc : Chg (fun k => k = tb) V V') : CI F w V' cb id vec all tb Ft Av nv cv := by
 have htb := h.tree.own
 exact ⟨h.blk.same (hc.block _ h.blk.lt fun e => h.notb (e ▸ htb)), ht, h.len, own_keep h.row (fun g hg => hc.block g (h.row.lt g hg).2 fun e => (h.vown g hg).2 (e ▸ htb)), h.sub, h.notb, h.vown, h.own, fun k hk => Nat.lt_of_lt_of_le (h.lt k hk) hc.size, h.new, h.old.trans (hc.below (fun k e => by rw [e]; exact h.new _ (h.sub _ htb)) h.old.size), h.few, h.vfew⟩
theorem CN.chg (h : CN F w V cb id vec all) (hc : Chg G V V') (hG : ∀ k, F k → ¬ G k) (hw : ∀ k, G k → w.heap.size ≤ k) : CN F w V' cb id vec all := by
 obtain ⟨tb, Ft, Av, nv, cv, h⟩ := h
 exact ⟨tb, Ft, Av, nv, cv, h.chg hc hG hw⟩
theorem CN.below (h : CN F w V cb id vec all) (hb : Below V.heap.size V V') : CN F w V' cb id vec all := h.chg (G := fun _ => False) (Chg.of_below hb) (fun _ _ h => h) fun _ h => h.elim
theorem CN.lt (h : CN F w V cb id vec all) {k : Nat} (hk : F k) : k < V.heap.size := by
 obtain ⟨tb, Ft, Av, nv, cv, h⟩ := h
 exact h.lt k hk
theorem CN.new (h : CN F w V cb id vec all) {k : Nat} (hk : F k) : w.heap.size ≤ k := by
 obtain ⟨tb, Ft, Av, nv, cv, h⟩ := h
 exact h.new k hk
theorem CN.old (h : CN F w V cb id vec all) : Below w.heap.size w V := by
 obtain ⟨tb, Ft, Av, nv, cv, h⟩ := h
 exact h.old
theorem CN.okA (h : CN F w V cb id vec all) : okAll all := by
 obtain ⟨tb, Ft, Av, nv, cv, h⟩ := h
 exact h.tree.okA
theorem CN.few (h : CN F w V cb id vec all) : all.length ≤ 3518437208882 := by
 obtain ⟨tb, Ft, Av, nv, cv, h⟩ := h
 exact h.few
end
end Pull
end Go.Proofs.YtkfdplfgaddkmaaGreat

/-
 What is done with a cut (layer 19).
-/
namespace Go.Proofs.YtkfdplfgaddkmaaGreat
namespace Pull
open Go.RowKit Blk Go.Maps Disk Tree Vers Num Ring Mend
open Go.Proofs.YtkfdplfgaddkmaaGreat.Code hiding Bn
attribute [local go_sem ↓] Go.wp_at_zero Go.wp_at_succ
def NewC (w V : World) (id : Int) (vec : List Int) (l : List Rc) (e : Ending) (w' : World) : Prop :=
 (Vect.RightV vec ∧ okL l ∧ ∃ cb, e = .returned (.tuple #[hd cb, .int .i64 0]) ∧ Hid (∃ F, CN F w w' cb id vec (layF l) ∧ (∀ k, F k → V.heap.size ≤ k)) ∧ Below V.heap.size V w') ∨
 (¬ (Vect.RightV vec ∧ okL l) ∧ e = .returned (.tuple #[.pointer none, .int .i64 1]) ∧ Below V.heap.size V w')
set_option maxRecDepth 100000 in
theorem newcut_any {w V : World} (hb : Below w.heap.size w V) (id : Int) (Av Al : Option Addr) (nv cv n c : Nat) (vec : List Int) (l : List Rc) (hnv : vec.length = nv) (hn : l.length = n) (hvb : nv ≤ 140737488355328) (hbig : n ≤ 3518437208882) (hrv : Ns .i64 V V.heap.size Av vec) (hr : Rs V 0 V.heap.size Al l) :
  Calls Tryz.prog 10 #[.int .i64 id, .slice Av nv cv, .slice Al n c] V (NewC w V id vec l) := by
 have H1 := Lib.hid (Vect.right_v Av cv nv vec hnv V hrv hvb)
 by_cases hv : Vect.RightV vec
 ·rw [decide_eq_true hv] at H1
  by_cases hok : okL l
  ·have H2 : Hid (∀ w1, Below V.heap.size V w1 → Calls Tryz.prog 45 #[.slice Al n c] w1 (fun e w' => ∃ tb, e = .returned (.tuple #[hd tb, .int .i64 0]) ∧ Hid (∃ F, On F w w' tb (layF l) ∧ (∀ k, F k → w1.heap.size ≤ k) ∧ Below w1.heap.size w1 w'))) := Lib.hid fun w1 b1 => on_new (hb.trans (b1.mono hb.size)) Al c n l hn hbig ((hr.below b1).more b1.size) hok
   have hv16 : nv ≤ 16 := by rw [← hnv]; exact hv.2.1
   have H3 : Hid (∀ w1, Below V.heap.size V w1 → Calls Tryz.prog 46 #[.slice Av nv cv] w1 (OwnW vec nv w1)) := Lib.hid fun w1 b1 => cloneW_any Av cv nv vec hnv w1 ((hrv.below b1).more b1.size) (by omega)
   have HP := Lib.hid (And.intro hb (And.intro hnv (And.intro hv (And.intro hok (And.intro (show (layF l).length ≤ 3518437208882 by have := layF_len l; omega) hv16)))))
   clear hb hnv hn hvb hbig hrv hr hv hok hv16
   go_enter Tryz.func10, Tryz.ntmps10
   go_wp2_with fail
   refine H1.out.mono ?_
   rintro e w1 ⟨rfl, b1⟩
   have K2 := Lib.hid (H2.out w1 b1)
   have HB1 := Lib.hid b1
   clear b1 H1 H2
   go_wp2_with fail
   refine K2.out.mono ?_
   rintro e w2 ⟨tb, rfl, h2⟩
   obtain ⟨Ft, ht, hnew, b2⟩ := h2.out
   have b12 : Below V.heap.size V w2 := HB1.out.trans (b2.mono HB1.out.size)
   have K3 := Lib.hid (H3.out w2 b12)
   have HT := Lib.hid (And.intro ht (And.intro (fun k hk => Nat.le_trans HB1.out.size (hnew k hk) : ∀ k, Ft k → V.heap.size ≤ k) b12))
   clear h2 ht hnew b2 b12 K2 H3
   unfold hd
   go_wp2_with fail
   refine K3.out.mono ?_
   rintro e w3 ⟨A1, c1, rfl, h3, b3⟩
   have HF : Hid (NewC w V id vec l (.returned (.tuple #[hd w3.heap.size, .int .i64 0])) (w3.alloc (.cells #[.int .i64 id, .slice A1 nv c1, hd tb] 85))) := Lib.hid (by
    have b3' : Below w2.heap.size w2 (w3.alloc (.cells #[.int .i64 id, .slice A1 nv c1, hd tb] 85)) := b3.alloc b3.size _
    have bV := HT.out.2.2.trans (b3'.mono HT.out.2.2.size)
    have hVw := HT.out.2.2.size
    have hwV := HP.out.1.size
    have ho : (w3.alloc (.cells #[.int .i64 id, .slice A1 nv c1, hd tb] 85)).ownsRow w2.heap.size 2 1 (.slice A1 nv c1) nv (nums .i64 vec) := h3.out.alloc _
    have hl3 : ∀ g, (Value.slice A1 nv c1).ownBlock = some g → w2.heap.size ≤ g ∧ g < w3.heap.size := fun g hg => h3.out.lt g hg
    have h23 := b3.size
    have htl : ∀ k, Ft k → k < w2.heap.size := fun k hk => HT.out.1.lt hk
    refine .inl ⟨HP.out.2.2.1, HP.out.2.2.2.1, w3.heap.size, rfl, Lib.hid ⟨fun k => Ft k ∨ k = w3.heap.size ∨ (Value.slice A1 nv c1).ownBlock = some k, ⟨tb, Ft, A1, nv, c1, World.alloc_heap_new _ _, HT.out.1.below b3', HP.out.2.1, own_base ho (by omega), fun k hk => .inl hk, fun h => ?_, fun g hg => ⟨.inr (.inr hg), fun h => ?_⟩, .inr (.inl rfl), fun k hk => ?_, fun k hk => ?_, HP.out.1.trans (bV.mono hwV), HP.out.2.2.2.2.1, HP.out.2.2.2.2.2⟩, fun k hk => ?_⟩, bV⟩
    ·have := htl _ h; omega
    ·have := htl _ h; have := hl3 g hg; omega
    ·rw [World.size_alloc]
     rcases hk with h | h | h
     ·have := htl _ h; omega
     ·omega
     ·have := hl3 k h; omega
    ·rcases hk with h | h | h
     ·have := HT.out.2.1 _ h; omega
     ·omega
     ·have := hl3 k h; omega
    ·rcases hk with h | h | h
     ·exact HT.out.2.1 _ h
     ·omega
     ·have := hl3 k h; omega)
   unfold hd at HF
   clear h3 b3 HT K3
   go_wp2_with fail
   go_ret2
   exact HF.out
  ·have H2 : Hid (∀ w1, Below V.heap.size V w1 → Calls Tryz.prog 45 #[.slice Al n c] w1 (fun e w' => e = .returned (.tuple #[.pointer none, .int .i64 1]) ∧ Below w1.heap.size w1 w')) := Lib.hid fun w1 b1 => no_new Al c n l hn hbig ((hr.below b1).more b1.size) hok
   have HP := Lib.hid hok
   clear hb hnv hn hvb hbig hrv hr hv hok
   go_enter Tryz.func10, Tryz.ntmps10
   go_wp2_with fail
   refine H1.out.mono ?_
   rintro e w1 ⟨rfl, b1⟩
   have K2 := Lib.hid (H2.out w1 b1)
   have HB1 := Lib.hid b1
   clear b1 H1 H2
   go_wp2_with fail
   refine K2.out.mono ?_
   rintro e w2 ⟨rfl, b2⟩
   have HF : Hid (NewC w V id vec l (.returned (.tuple #[.pointer none, .int .i64 1])) w2) := Lib.hid (.inr ⟨fun h => HP.out h.2, rfl, HB1.out.trans (b2.mono HB1.out.size)⟩)
   clear b2 K2
   go_wp2_with fail
   go_ret2
   exact HF.out
 ·rw [decide_eq_false hv] at H1
  have HP := Lib.hid hv
  clear hb hnv hn hvb hbig hrv hr hv
  go_enter Tryz.func10, Tryz.ntmps10
  go_wp2_with fail
  refine H1.out.mono ?_
  rintro e w1 ⟨rfl, b1⟩
  have HF : Hid (NewC w V id vec l (.returned (.tuple #[.pointer none, .int .i64 1])) w1) := Lib.hid (.inr ⟨fun h => HP.out h.1, rfl, b1⟩)
  clear b1 H1
  go_wp2_with fail
  go_ret2
  exact HF.out
section
variable {F Ft : Nat → Prop} {w V : World} {cb tb nv cv : Nat} {id : Int} {vec : List Int} {all : List Rc} {Av : Option Addr}
theorem CI.cells (h : CI F w V cb id vec all tb Ft Av nv cv) : V.cell? ⟨cb, 0, none⟩ = some (.int .i64 id) ∧ V.cell? ⟨cb, 1, none⟩ = some (.slice Av nv cv) ∧ V.cell? ⟨cb, 2, none⟩ = some (hd tb) := by
 have c0 := h.blk.cell 0
 have c1 := h.blk.cell 1
 have c2 := h.blk.cell 2
 simp only [List.getElem?_cons_zero, List.getElem?_cons_succ] at c0 c1 c2
 exact ⟨c0, c1, c2⟩
theorem CN.id_any (h : CN F w V cb id vec all) : Calls Tryz.prog 21 #[hd cb] V (fun e w' => e = .returned (.int .i64 id) ∧ V = w') := by
 obtain ⟨tb, Ft, Av, nv, cv, h⟩ := h
 obtain ⟨c0, c1, c2⟩ := h.cells
 unfold hd at *
 clear h
 go_enter Tryz.func21, Tryz.ntmps21
 go_wp2_with fail
 go_ret
 exact ⟨rfl, rfl⟩
def VecN (vec : List Int) (V : World) (e : Ending) (w' : World) : Prop := ∃ A c n, e = .returned (.slice A n c) ∧ Hid (vec.length = n ∧ n ≤ 16 ∧ w'.ownsRow V.heap.size 2 1 (.slice A n c) n (nums .i64 vec)) ∧ Below V.heap.size V w'
set_option maxRecDepth 100000 in
theorem CN.vec_any (h : CN F w V cb id vec all) : Calls Tryz.prog 18 #[hd cb] V (VecN vec V) := by
 obtain ⟨tb, Ft, Av, nv, cv, h⟩ := h
 obtain ⟨c0, c1, c2⟩ := h.cells
 have hrow := h.row
 have hlen := h.len
 have hns : Ns .i64 V V.heap.size Av vec := by
  subst hlen
  exact own_ns hrow
 have hv16 := h.vfew
 have K := Lib.hid (cloneW_any Av cv nv vec h.len V hns (by omega))
 have HP := Lib.hid (And.intro h.len hv16)
 unfold hd at *
 clear h hrow hlen hns c0 c2 hv16
 go_enter Tryz.func18, Tryz.ntmps18
 go_wp2_with fail
 refine K.out.mono ?_
 rintro e w3 ⟨A1, c1', rfl, h3, b3⟩
 have HF : Hid (VecN vec V (.returned (.slice A1 nv c1')) w3) := Lib.hid ⟨A1, c1', nv, rfl, Lib.hid ⟨HP.out.1, HP.out.2, h3.out⟩, b3⟩
 clear h3 b3 K c1
 go_wp2_with fail
 go_ret
 exact HF.out
def KidN (F : Nat → Prop) (w V : World) (cb : Nat) (id : Int) (vec : List Int) (all : List Rc) (zs : List Int) (A : Option Addr) (m c : Nat) (w' : World) : Prop :=
 zs.length = m ∧ m ≤ c ∧ Ns .u64 w' w'.heap.size A zs ∧ (∀ a, 0 < m → A = some a → V.heap.size ≤ a.block) ∧ CN F w w' cb id vec all ∧ Chg F V w'
set_option maxRecDepth 100000 in
theorem CN.open_any (h : CN F w V cb id vec all) : Calls Tryz.prog 19 #[hd cb] V (fun e w' => ∃ A m c, e = .returned (.slice A m c) ∧ Hid (KidN F w V cb id vec all (kidsF all []) A m c w')) := by
 obtain ⟨tb, Ft, Av, nv, cv, h⟩ := h
 obtain ⟨c0, c1, c2⟩ := h.cells
 have K := Lib.hid (h.tree.kids h.few none 0 0 [] rfl (by omega) ns_nil)
 have HC := Lib.hid h
 unfold hd at *
 clear h c0 c1
 go_enter Tryz.func19, Tryz.ntmps19
 go_wp2_with fail
 refine K.out.mono ?_
 rintro e w3 ⟨A1, m1, c1', rfl, h3⟩
 have HF : Hid (KidN F w V cb id vec all (kidsF all []) A1 m1 c1' w3) := Lib.hid (by
  obtain ⟨q1, q2, q3, q4, q5, q6⟩ := h3.out
  exact ⟨q1, q2, q3, q4, ⟨tb, Ft, Av, nv, cv, HC.out.turn q5 q6⟩, q6.mono fun k e => by rw [e]; exact HC.out.sub _ HC.out.tree.own⟩)
 clear h3 K c2
 go_wp2_with fail
 go_ret
 exact ⟨A1, m1, c1', rfl, HF⟩
end
end Pull
end Go.Proofs.YtkfdplfgaddkmaaGreat

/-
 A pull in memory (layer 19).
-/
namespace Go.Proofs.YtkfdplfgaddkmaaGreat
namespace Pull
open Go.RowKit Blk Go.Maps Disk Tree Vers Num Ring Mend
open Go.Proofs.YtkfdplfgaddkmaaGreat.Code hiding Bn
attribute [local go_sem ↓] Go.wp_at_zero Go.wp_at_succ
def HoldP (F M : Nat → Prop) (w : World) (D : Vl) (st : List Rc) : Prop := ∀ k, (find st k = none ∧ find D k = none) ∨ ∃ lv A c L B, find st k = some lv ∧ find D k = some (.slice A lv.length c) ∧ Vs w L B A lv ∧ lv.length ≤ c ∧ B ≤ w.heap.size ∧ ∀ j, L ≤ j → j < B → F j ∧ ¬ M j
section
variable {F F' M M' : Nat → Prop} {w w' : World} {D : Vl} {st : List Rc}
theorem HoldP.keep (h : HoldP F M w D st) (hs : w.heap.size ≤ w'.heap.size) (hk : ∀ j, j < w.heap.size → F j → ¬ M j → w'.heap[j]? = w.heap[j]?) : HoldP F M w' D st := fun k => by
 rcases h k with h | ⟨lv, A, c, L, B, h1, h2, h3, h4, h5, h6⟩
 ·exact .inl h
 ·exact .inr ⟨lv, A, c, L, B, h1, h2, h3.keep fun p hp hq => World.cell?_of_block (hk _ (by omega) (h6 _ hp hq).1 (h6 _ hp hq).2), h4, by omega, h6⟩
theorem HoldP.mono (h : HoldP F M w D st) (hF : ∀ j, F j → F' j) (hM : ∀ j, j < w.heap.size → F j → M' j → M j) : HoldP F' M' w D st := fun k => by
 rcases h k with h | ⟨lv, A, c, L, B, h1, h2, h3, h4, h5, h6⟩
 ·exact .inl h
 ·exact .inr ⟨lv, A, c, L, B, h1, h2, h3, h4, h5, fun j hj hjB => ⟨hF j (h6 j hj hjB).1, fun e => (h6 j hj hjB).2 (hM j (by omega) (h6 j hj hjB).1 e)⟩⟩
theorem HoldP.put (h : HoldP F M w D st) {key : Nm} {lv : List Vr} {A : Option Addr} {c m L B : Nat} (hm : lv.length = m) (hv : Vs w L B A lv) (hc : m ≤ c) (hB : B ≤ w.heap.size) (hF : ∀ j, L ≤ j → j < B → F j ∧ ¬ M j) : HoldP F M w (wit D key (.slice A m c)) (wit st key lv) := fun k => by
 rw [find_wit, find_wit]
 by_cases hk : k = key
 ·rw [if_pos hk, if_pos hk]
  exact .inr ⟨lv, A, c, L, B, rfl, by rw [hm], hv, by omega, hB, hF⟩
 ·rw [if_neg hk, if_neg hk]
  exact h k
theorem HoldP.drop (h : HoldP F M w D st) (key : Nm) : HoldP F M w (wout D key) (wout st key) := fun k => by
 rw [find_wout, find_wout]
 by_cases hk : k = key
 ·rw [if_pos hk, if_pos hk]
  exact .inl ⟨rfl, rfl⟩
 ·rw [if_neg hk, if_neg hk]
  exact h k
end
def Mp (pb tb mb : Nat) (v : Value) (k : Nat) : Prop := k = pb ∨ k = tb ∨ k = mb ∨ v.ownBlock = some k
structure PI (F : Nat → Prop) (w V : World) (pb : Nat) (id : Int) (own : List Rc) (bg : Bool) (vec : List Int) (W : List (List Int)) (st : List Rc) (tb : Nat) (Ft : Nat → Prop) (mb : Nat) (Av : Option Addr) (nv cv : Nat) (Aw : Option Addr) (nw cw : Nat) (D : Vl) : Prop where
 blk : Bn pb 96 [.int .i64 id, hd tb, .bool bg, .slice Av nv cv, .slice Aw nw cw, .map (some mb)] V
 tree : On Ft w V tb own
 len : vec.length = nv
 row : V.ownsRow w.heap.size 2 1 (.slice Av nv cv) nv (nums .i64 vec)
 wlen : W.length = nw
 want : V.ownsRow w.heap.size 101 3 (.slice Aw nw cw) nw (pcells W)
 map : MI V mb D
 hold : HoldP F (Mp pb tb mb (.slice Aw nw cw)) V D st
 sub : ∀ k, Ft k → F k
 notb : ¬ Ft pb ∧ ¬ Ft mb
 vown : ∀ g, (Value.slice Av nv cv).ownBlock = some g → F g ∧ ¬ Ft g
 wown : ∀ g, (Value.slice Aw nw cw).ownBlock = some g → F g ∧ ¬ Ft g
 mown : F mb
 hpb : F pb
 lt : ∀ k, F k → k < V.heap.size
 new : ∀ k, F k → w.heap.size ≤ k
 old : Below w.heap.size w V
 few : own.length ≤ 3518437208882
 vfew : nv ≤ 16
 wfew : nw ≤ 1024
 lst : Lst st
 dlen : D.length ≤ st.length
def PJ (F : Nat → Prop) (w V : World) (pb : Nat) (id : Int) (own : List Rc) (bg : Bool) (vec : List Int) (W : List (List Int)) (st : List Rc) : Prop := ∃ tb Ft mb Av nv cv Aw nw cw D, PI F w V pb id own bg vec W st tb Ft mb Av nv cv Aw nw cw D
section
variable {F G Ft : Nat → Prop} {w V V' : World} {pb tb mb nv cv nw cw : Nat} {id : Int} {vec : List Int} {own st : List Rc} {bg : Bool} {W : List (List Int)} {Av Aw : Option Addr} {D : Vl}
theorem PI.chg (h : PI F w V pb id own bg vec W st tb Ft mb Av nv cv Aw nw cw D) (hc : Chg G V V') (hG : ∀ k, F k → ¬ G k) (hw : ∀ k, G k → w.heap.size ≤ k) : PI F w V' pb id own bg vec W st tb Ft mb Av nv cv Aw nw cw D :=
 ⟨h.blk.same (hc.block _ h.blk.lt (hG _ h.hpb)), h.tree.chg hc (fun k hk => hG k (h.sub k hk)) hw, h.len, own_keep h.row (fun g hg => hc.block g (h.row.lt g hg).2 (hG g (h.vown g hg).1)), h.wlen, own_keep h.want (fun g hg => hc.block g (h.want.lt g hg).2 (hG g (h.wown g hg).1)), h.map.same (hc.block _ h.map.lt (hG _ h.mown)), h.hold.keep hc.size fun j hj hF _ => hc.block j hj (hG j hF), h.sub, h.notb, h.vown, h.wown, h.mown, h.hpb, fun k hk => Nat.lt_of_lt_of_le (h.lt k hk) hc.size, h.new, h.old.trans (hc.below hw h.old.size), h.few, h.vfew, h.wfew, h.lst, h.dlen⟩
theorem PI.below (h : PI F w V pb id own bg vec W st tb Ft mb Av nv cv Aw nw cw D) (hb : Below V.heap.size V V') : PI F w V' pb id own bg vec W st tb Ft mb Av nv cv Aw nw cw D := h.chg (G := fun _ => False) (Chg.of_below hb) (fun _ _ h => h) fun _ h => h.elim
theorem PI.turn (h : PI F w V pb id own bg vec W st tb Ft mb Av nv cv Aw nw cw D) (ht : On Ft w V' tb own) (hc : Chg (fun k => k = tb) V V') : PI F w V' pb id own bg vec W st tb Ft mb Av nv cv Aw nw cw D := by
 have htb := h.tree.own
 exact ⟨h.blk.same (hc.block _ h.blk.lt fun e => h.notb.1 (e ▸ htb)), ht, h.len, own_keep h.row (fun g hg => hc.block g (h.row.lt g hg).2 fun e => (h.vown g hg).2 (e ▸ htb)), h.wlen, own_keep h.want (fun g hg => hc.block g (h.want.lt g hg).2 fun e => (h.wown g hg).2 (e ▸ htb)), h.map.same (hc.block _ h.map.lt fun e => h.notb.2 (e ▸ htb)), h.hold.keep hc.size fun j hj _ hM => hc.block j hj fun e => hM (.inr (.inl e)), h.sub, h.notb, h.vown, h.wown, h.mown, h.hpb, fun k hk => Nat.lt_of_lt_of_le (h.lt k hk) hc.size, h.new, h.old.trans (hc.below (fun k e => by rw [e]; exact h.new _ (h.sub _ htb)) h.old.size), h.few, h.vfew, h.wfew, h.lst, h.dlen⟩
theorem PI.cells (h : PI F w V pb id own bg vec W st tb Ft mb Av nv cv Aw nw cw D) : V.cell? ⟨pb, 0, none⟩ = some (.int .i64 id) ∧ V.cell? ⟨pb, 1, none⟩ = some (hd tb) ∧ V.cell? ⟨pb, 2, none⟩ = some (.bool bg) ∧ V.cell? ⟨pb, 3, none⟩ = some (.slice Av nv cv) ∧ V.cell? ⟨pb, 4, none⟩ = some (.slice Aw nw cw) ∧ V.cell? ⟨pb, 5, none⟩ = some (.map (some mb)) := by
 have c0 := h.blk.cell 0
 have c1 := h.blk.cell 1
 have c2 := h.blk.cell 2
 have c3 := h.blk.cell 3
 have c4 := h.blk.cell 4
 have c5 := h.blk.cell 5
 simp only [List.getElem?_cons_zero, List.getElem?_cons_succ] at c0 c1 c2 c3 c4 c5
 exact ⟨c0, c1, c2, c3, c4, c5⟩
theorem PI.push (h : PI F w V pb id own bg vec W st tb Ft mb Av nv cv Aw nw cw D) {X Y : World} {g7 cap7 : Nat} {p : List Int} (hX : Below V.heap.size V X) (ho : Y.ownsRow w.heap.size 101 3 (.slice (some ⟨g7, 0, none⟩) (nw + 1) cap7) (nw + 1) (pcells W ++ pcell p)) (hg : X.grownBy Y (Value.slice Aw nw cw).ownBlock) (hat : (Value.slice Aw nw cw).ownBlock = some g7 ∨ g7 = X.heap.size) (hn : nw + 1 ≤ 1024) :
  PI (fun k => F k ∨ k = g7) w (Y.setCell ⟨pb, 4, none⟩ (.slice (some ⟨g7, 0, none⟩) (nw + 1) cap7)) pb id own bg vec (W ++ [p]) st tb Ft mb Av nv cv (some ⟨g7, 0, none⟩) (nw + 1) cap7 D ∧ Stp F V (fun k => F k ∨ k = g7) (Y.setCell ⟨pb, 4, none⟩ (.slice (some ⟨g7, 0, none⟩) (nw + 1) cap7)) := by
 have hs := hX.size
 have hg7 : F g7 ∨ X.heap.size ≤ g7 := hat.imp (fun e => (h.wown g7 e).1) fun e => by omega
 have hgw : ∀ g, (Value.slice Aw nw cw).ownBlock = some g → F g := fun g e => (h.wown g e).1
 have hft7 : ¬ Ft g7 := fun e => hat.elim (fun q => (h.wown g7 q).2 e) fun q => by have := h.lt _ (h.sub _ e); omega
 have hY := (ho.lt g7 rfl).2
 obtain ⟨Z, hZ⟩ : ∃ Z, Y.setCell ⟨pb, 4, none⟩ (.slice (some ⟨g7, 0, none⟩) (nw + 1) cap7) = Z := ⟨_, rfl⟩
 have gZ : Y.grownBy Z (some pb) := by rw [← hZ]; exact Blk.gset Y pb 4 _
 have hpw : (Value.slice Aw nw cw).ownBlock ≠ some pb := own_ne h.want h.blk (by decide)
 have bX := h.blk.same (hX.block _ h.blk.lt)
 have bY : Bn pb 96 [.int .i64 id, hd tb, .bool bg, .slice Av nv cv, .slice Aw nw cw, .map (some mb)] Y := bX.kept hg (fun e => hpw e.symm)
 have hp7 : g7 ≠ pb := fun e => own_ne ho bY (by decide) (by rw [← e]; rfl)
 have bZ := bY.set 4 (.slice (some ⟨g7, 0, none⟩) (nw + 1) cap7)
 rw [hZ] at bZ ⊢
 -- what isn't the pull's cells nor its wants stays
 have hk : ∀ k, k < V.heap.size → k ≠ pb → (Value.slice Aw nw cw).ownBlock ≠ some k → Z.heap[k]? = V.heap[k]? := fun k hk h1 h2 => (gZ.block k (by have := hg.size; omega) (fun e => h1 (by injection e))).trans ((hg.block k (by omega) (fun e => h2 e.symm)).trans (hX.block k hk))
 have hc : Chg (fun k => k = pb ∨ (Value.slice Aw nw cw).ownBlock = some k) V Z := ⟨gZ.os.trans (hg.os.trans hX.os), gZ.tape.trans (hg.tape.trans hX.tape), gZ.output.trans (hg.output.trans hX.output), Nat.le_trans hs (Nat.le_trans hg.size gZ.size), fun k h1 h2 => hk k h1 (fun e => h2 (.inl e)) fun e => h2 (.inr e)⟩
 have hnew : ∀ k, k = pb ∨ (Value.slice Aw nw cw).ownBlock = some k → w.heap.size ≤ k := fun k e => e.elim (fun e => by rw [e]; exact h.new _ h.hpb) fun e => h.new _ (hgw k e)
 have hft : ∀ k, Ft k → ¬ (k = pb ∨ (Value.slice Aw nw cw).ownBlock = some k) := fun k hk e => e.elim (fun e => h.notb.1 (e ▸ hk)) fun e => (h.wown k e).2 hk
 refine ⟨⟨bZ, h.tree.chg hc hft hnew, h.len, own_keep h.row (fun g hg => hk g (h.row.lt g hg).2 (fun e => own_ne h.row h.blk (by decide) (e ▸ hg)) (own_ne2 h.row h.want (by decide) hg)), by rw [List.length_append, h.wlen]; rfl, ?_, h.map.same (hk mb h.map.lt (fun e => h.map.ne h.blk e.symm) (fun e => ?_)), ?_, fun k hk => .inl (h.sub k hk), h.notb, fun g hg => ⟨.inl (h.vown g hg).1, (h.vown g hg).2⟩, fun g hg => ?_, .inl h.mown, .inl h.hpb, fun k hk => ?_, fun k hk => ?_, h.old.trans (hc.below hnew h.old.size), h.few, h.vfew, hn, h.lst, h.dlen⟩, ?_, fun k hk => ?_⟩
 ·rw [pcells_append, pcells_one]
  exact own_keep ho fun g hg => gZ.block g (ho.lt g hg).2 fun e => hp7 (by have q : some g7 = some g := hg; injection q with q; injection e with e; omega)
 ·obtain ⟨cur, hcur⟩ := own_block h.want e
  exact h.map.ne hcur rfl
 ·refine ((h.hold.keep hc.size fun j hj _ hM => hk j hj (fun e => hM (.inl e)) fun e => hM (.inr (.inr (.inr e)))).mono (F' := fun k => F k ∨ k = g7) (M' := Mp pb tb mb (.slice (some ⟨g7, 0, none⟩) (nw + 1) cap7)) (fun j hj => .inl hj) fun j _ hF hM => ?_)
  rcases hM with e | e | e | e
  ·exact .inl e
  ·exact .inr (.inl e)
  ·exact .inr (.inr (.inl e))
  ·have e : g7 = j := by have q : some g7 = some j := e; injection q
   rcases hat with q | q
   ·exact .inr (.inr (.inr (e ▸ q)))
   ·have := h.lt _ hF
    omega
 ·have e : g7 = g := by have q : some g7 = some g := hg; injection q
  subst e
  exact ⟨.inr rfl, hft7⟩
 ·have hz := gZ.size
  have hy := hg.size
  rcases hk with e | e
  ·have := h.lt k e; omega
  ·omega
 ·rcases hk with e | e
  ·exact h.new k e
  ·rcases hg7 with q | q
   ·rw [e]; exact h.new _ q
   ·have := h.old.size; omega
 ·exact hc.mono fun k e => e.elim (fun e => by rw [e]; exact h.hpb) (hgw k)
 ·rcases hk with e | e
  ·exact .inl e
  ·rcases hg7 with q | q
   ·exact .inl (e ▸ q)
   ·exact .inr (by omega)
end
end Pull
end Go.Proofs.YtkfdplfgaddkmaaGreat

/-
 A pull is made; what it tells of itself (layer 19).
-/
namespace Go.Proofs.YtkfdplfgaddkmaaGreat
namespace Pull
open Go.RowKit Blk Go.Maps Disk Tree Vers Num Ring Mend
open Go.Proofs.YtkfdplfgaddkmaaGreat.Code hiding Bn
attribute [local go_sem ↓] Go.wp_at_zero Go.wp_at_succ
theorem lst_nil : Lst [] := ⟨⟨List.Pairwise.nil, fun x hx => by cases hx⟩, fun x hx => by cases hx⟩
def NewP (w V : World) (id : Int) (l : List Rc) (e : Ending) (w' : World) : Prop :=
 (okL l ∧ ∃ pb, e = .returned (.tuple #[hd pb, .int .i64 0]) ∧ Hid (∃ F, PJ F w w' pb id (layF l) false [] [] [] ∧ (∀ k, F k → V.heap.size ≤ k)) ∧ Below V.heap.size V w') ∨
 (¬ okL l ∧ e = .returned (.tuple #[.pointer none, .int .i64 1]) ∧ Below V.heap.size V w')
set_option maxRecDepth 100000 in
theorem newpull_any {w V : World} (hb : Below w.heap.size w V) (id : Int) (Al : Option Addr) (n c : Nat) (l : List Rc) (hn : l.length = n) (hbig : n ≤ 3518437208882) (hr : Rs V 0 V.heap.size Al l) :
  Calls Tryz.prog 22 #[.int .i64 id, .slice Al n c] V (NewP w V id l) := by
 by_cases hok : okL l
 ·have K2 := Lib.hid (on_new hb Al c n l hn hbig hr hok)
  have HP := Lib.hid (And.intro hb (And.intro hok (show (layF l).length ≤ 3518437208882 by have := layF_len l; omega)))
  have hmm := @run_makeMap Tryz.prog
  clear hb hn hbig hr hok
  go_enter Tryz.func22, Tryz.ntmps22
  go_wp2_with fail
  refine K2.out.mono ?_
  rintro e w2 ⟨tb, rfl, h2⟩
  have HF : Hid (NewP w V id l (.returned (.tuple #[hd (w2.heap.size + 1), .int .i64 0])) ((w2.alloc (.map #[] 0)).alloc (.cells #[.int .i64 id, hd tb, .bool false, .slice none 0 0, .slice none 0 0, .map (some w2.heap.size)] 96))) := Lib.hid (by
   obtain ⟨Ft, ht, hnew, b2⟩ := h2.out
   obtain ⟨X, hX⟩ : ∃ X, w2.alloc (.map #[] 0) = X := ⟨_, rfl⟩
   have hXs : X.heap.size = w2.heap.size + 1 := by rw [← hX]; simp
   have hmi : MI X w2.heap.size [] := by rw [← hX]; exact mi_made w2
   have bX : Below w2.heap.size w2 X := by rw [← hX]; exact (Below.refl _ w2).alloc (Nat.le_refl _) _
   rw [hX]
   obtain ⟨Y, hY⟩ : ∃ Y, X.alloc (.cells #[.int .i64 id, hd tb, .bool false, .slice none 0 0, .slice none 0 0, .map (some w2.heap.size)] 96) = Y := ⟨_, rfl⟩
   have bY : Below X.heap.size X Y := by rw [← hY]; exact (Below.refl _ X).alloc (Nat.le_refl _) _
   have BY : Bn (w2.heap.size + 1) 96 [.int .i64 id, hd tb, .bool false, .slice none 0 0, .slice none 0 0, .map (some w2.heap.size)] Y := by rw [← hY, ← hXs]; exact World.alloc_heap_new _ _
   rw [hY]
   have hYs : Y.heap.size = w2.heap.size + 2 := by rw [← hY]; simp [hXs]
   have bXY : Below w2.heap.size w2 Y := bX.trans (bY.mono bX.size)
   have bV := b2.trans (bXY.mono b2.size)
   have hVw := b2.size
   have hwV := HP.out.1.size
   have htl : ∀ k, Ft k → k < w2.heap.size := fun k hk => ht.lt hk
   refine .inl ⟨HP.out.2.1, w2.heap.size + 1, rfl, Lib.hid ⟨fun k => Ft k ∨ k = w2.heap.size ∨ k = w2.heap.size + 1, ⟨tb, Ft, w2.heap.size, none, 0, 0, none, 0, 0, [], BY, ht.below bXY, rfl, World.ownsRow_nil _ _ _ _, rfl, World.ownsRow_nil _ _ _ _, hmi.same (bY.block _ (by omega)), (fun k => .inl ⟨rfl, rfl⟩), fun k hk => .inl hk, ⟨fun h => ?_, fun h => ?_⟩, (fun g hg => by cases hg), (fun g hg => by cases hg), .inr (.inl rfl), .inr (.inr rfl), fun k hk => ?_, fun k hk => ?_, HP.out.1.trans (bV.mono hwV), HP.out.2.2, by omega, by omega, lst_nil, Nat.le_refl _⟩, fun k hk => ?_⟩, bV⟩
   ·have := htl _ h; omega
   ·have := htl _ h; omega
   ·rcases hk with h | h | h
    ·have := htl _ h; omega
    ·omega
    ·omega
   ·rcases hk with h | h | h
    ·have := hnew _ h; omega
    ·omega
    ·omega
   ·rcases hk with h | h | h
    ·exact hnew _ h
    ·omega
    ·omega)
  unfold hd at *
  clear h2 K2
  go_wp2_with fail
  go_ret2
  exact HF.out
 ·have K2 := Lib.hid (no_new Al c n l hn hbig hr hok)
  have HP := Lib.hid hok
  clear hb hn hbig hr hok
  go_enter Tryz.func22, Tryz.ntmps22
  go_wp2_with fail
  refine K2.out.mono ?_
  rintro e w2 ⟨rfl, b2⟩
  have HF : Hid (NewP w V id l (.returned (.tuple #[.pointer none, .int .i64 1])) w2) := Lib.hid (.inr ⟨HP.out, rfl, b2⟩)
  clear b2 K2
  go_wp2_with fail
  go_ret2
  exact HF.out
section
variable {F G Ft : Nat → Prop} {w V V' : World} {pb tb mb nv cv nw cw : Nat} {id : Int} {vec : List Int} {own st : List Rc} {bg : Bool} {W : List (List Int)} {Av Aw : Option Addr} {D : Vl}
theorem PJ.chg (h : PJ F w V pb id own bg vec W st) (hc : Chg G V V') (hG : ∀ k, F k → ¬ G k) (hw : ∀ k, G k → w.heap.size ≤ k) : PJ F w V' pb id own bg vec W st := by
 obtain ⟨tb, Ft, mb, Av, nv, cv, Aw, nw, cw, D, h⟩ := h
 exact ⟨tb, Ft, mb, Av, nv, cv, Aw, nw, cw, D, h.chg hc hG hw⟩
theorem PJ.below (h : PJ F w V pb id own bg vec W st) (hb : Below V.heap.size V V') : PJ F w V' pb id own bg vec W st := h.chg (G := fun _ => False) (Chg.of_below hb) (fun _ _ h => h) fun _ h => h.elim
theorem PJ.lt (h : PJ F w V pb id own bg vec W st) {k : Nat} (hk : F k) : k < V.heap.size := by
 obtain ⟨tb, Ft, mb, Av, nv, cv, Aw, nw, cw, D, h⟩ := h
 exact h.lt k hk
theorem PJ.new (h : PJ F w V pb id own bg vec W st) {k : Nat} (hk : F k) : w.heap.size ≤ k := by
 obtain ⟨tb, Ft, mb, Av, nv, cv, Aw, nw, cw, D, h⟩ := h
 exact h.new k hk
theorem PJ.old (h : PJ F w V pb id own bg vec W st) : Below w.heap.size w V := by
 obtain ⟨tb, Ft, mb, Av, nv, cv, Aw, nw, cw, D, h⟩ := h
 exact h.old
theorem PJ.lst (h : PJ F w V pb id own bg vec W st) : Lst st := by
 obtain ⟨tb, Ft, mb, Av, nv, cv, Aw, nw, cw, D, h⟩ := h
 exact h.lst
theorem PJ.okA (h : PJ F w V pb id own bg vec W st) : okAll own := by
 obtain ⟨tb, Ft, mb, Av, nv, cv, Aw, nw, cw, D, h⟩ := h
 exact h.tree.okA
theorem PJ.id_any (h : PJ F w V pb id own bg vec W st) : Calls Tryz.prog 34 #[hd pb] V (fun e w' => e = .returned (.int .i64 id) ∧ V = w') := by
 obtain ⟨tb, Ft, mb, Av, nv, cv, Aw, nw, cw, D, h⟩ := h
 obtain ⟨c0, c1, c2, c3, c4, c5⟩ := h.cells
 unfold hd at *
 clear h
 go_enter Tryz.func34, Tryz.ntmps34
 go_wp2_with fail
 go_ret
 exact ⟨rfl, rfl⟩
theorem PJ.done_any (h : PJ F w V pb id own bg vec W st) : Calls Tryz.prog 28 #[hd pb] V (fun e w' => e = .returned (.bool (bg && decide (W = []))) ∧ V = w') := by
 obtain ⟨tb, Ft, mb, Av, nv, cv, Aw, nw, cw, D, h⟩ := h
 obtain ⟨c0, c1, c2, c3, c4, c5⟩ := h.cells
 have hl := h.wlen
 obtain ⟨B, hB⟩ : ∃ B, decide (W = []) = B := ⟨_, rfl⟩
 have hz : ((nw : Int) == 0) = B := by
  rw [← hB]
  by_cases h0 : W = []
  ·subst h0; rw [← hl]; rfl
  ·rw [decide_eq_false h0]
   have : W.length ≠ 0 := fun e => h0 (List.eq_nil_of_length_eq_zero e)
   simp; omega
 rw [hB]
 unfold hd at *
 clear h hl hB
 cases bg
 ·go_enter Tryz.func28, Tryz.ntmps28
  go_wp2_with fail
  go_ret
  exact ⟨rfl, rfl⟩
 ·go_enter Tryz.func28, Tryz.ntmps28
  go_wp2_with fail
  go_ret
  exact ⟨rfl, rfl⟩
set_option maxRecDepth 100000 in
theorem PJ.vec_any (h : PJ F w V pb id own bg vec W st) : Calls Tryz.prog 33 #[hd pb] V (VecN vec V) := by
 obtain ⟨tb, Ft, mb, Av, nv, cv, Aw, nw, cw, D, h⟩ := h
 obtain ⟨c0, c1, c2, c3, c4, c5⟩ := h.cells
 have hrow := h.row
 have hlen := h.len
 have hns : Ns .i64 V V.heap.size Av vec := by
  subst hlen
  exact own_ns hrow
 have hv16 := h.vfew
 have K := Lib.hid (cloneW_any Av cv nv vec h.len V hns (by omega))
 have HP := Lib.hid (And.intro h.len hv16)
 unfold hd at *
 clear h hrow hlen hns c0 c1 c2 c4 c5 hv16
 go_enter Tryz.func33, Tryz.ntmps33
 go_wp2_with fail
 refine K.out.mono ?_
 rintro e w3 ⟨A1, c1', rfl, h3, b3⟩
 have HF : Hid (VecN vec V (.returned (.slice A1 nv c1')) w3) := Lib.hid ⟨A1, c1', nv, rfl, Lib.hid ⟨HP.out.1, HP.out.2, h3.out⟩, b3⟩
 clear h3 b3 K c3
 go_wp2_with fail
 go_ret
 exact HF.out
end
end Pull
end Go.Proofs.YtkfdplfgaddkmaaGreat

/-
 Paths come to be wanted (layer 19).
-/
namespace Go.Proofs.YtkfdplfgaddkmaaGreat
namespace Pull
open Go.RowKit Blk Go.Maps Disk Tree Vers Num Ring Mend
open Go.Proofs.YtkfdplfgaddkmaaGreat.Code hiding Bn
attribute [local go_sem ↓] Go.wp_at_zero Go.wp_at_succ
theorem ns_app {V : World} {base n c : Nat} {A : Option Addr} {l : List Int} {x : Int} (h : V.ownsRow base 3 1 (.slice A (n + 1) c) (n + 1) (nums .i64 l ++ [.int .i64 x])) (hl : l.length = n) : Ns .i64 V V.heap.size A (l ++ [x]) := by
 subst hl
 have e : nums .i64 l ++ [.int .i64 x] = nums .i64 (l ++ [x]) := by simp [nums]
 rw [e] at h
 have h' : V.ownsRow base 3 1 (.slice A (l ++ [x]).length c) (l ++ [x]).length (nums .i64 (l ++ [x])) := by simpa using h
 exact own_ns h'
theorem info_intW : (Tryz.prog.info? 3).map (fun i => (i.zero, i.size, i.bytes)) = some (some (.int .i64 0), 1, 8) := by kernel_rfl
theorem want_take {own : List Rc} {fr hs : List Int} {i : Nat} {x : Int} (hi : i < (diffF (kidsF own fr) hs).length) (hx : (diffF (kidsF own fr) hs).getD i 0 = x) : (wantF own fr hs).take (i + 1) = (wantF own fr hs).take i ++ [fr ++ [x]] := by
 unfold wantF
 rw [← List.map_take, List.take_succ_eq_append_getElem hi, List.map_append, List.map_take]
 rw [List.getD_eq_getElem?_getD, List.getElem?_eq_getElem hi, Option.getD_some] at hx
 rw [hx]
 rfl
section
variable {F : Nat → Prop} {w V : World} {pb : Nat} {id : Int} {vec : List Int} {own st : List Rc} {bg : Bool} {W : List (List Int)}
def WantQ (F : Nat → Prop) (w V : World) (pb : Nat) (id : Int) (own : List Rc) (bg : Bool) (vec : List Int) (W : List (List Int)) (st : List Rc) (e : Ending) (w' : World) : Prop := e = .returned (.tuple #[]) ∧ ∃ F', Hid (PJ F' w w' pb id own bg vec W st ∧ Stp F V F' w')
set_option maxRecDepth 100000 in
set_option maxHeartbeats 4000000 in
theorem PJ.want (h : PJ F w V pb id own bg vec W st) (hW : W.length ≤ 900) (Af Ah : Option Addr) (cf ch nf nh : Nat) (fr hs : List Int) (hnf : fr.length = nf) (hnh : hs.length = nh) (hf1 : nf ≤ 1) (hfr : Sta F V (fun X => Ns .i64 X X.heap.size Af fr)) (hhs : Sta F V (fun X => Ns .u64 X X.heap.size Ah hs)) :
  Calls Tryz.prog 56 #[hd pb, .slice Af nf cf, .slice Ah nh ch] V (WantQ F w V pb id own bg vec (W ++ wantF own fr hs) st) := by
 obtain ⟨i0, hi0, hz0, hz1, hz2⟩ := info_parts info_intW
 obtain ⟨j0, hj0, hy0, hy1, hy2⟩ := info_parts info_path
 have HI := Lib.hid (And.intro (And.intro hi0 (And.intro hz0 (And.intro hz1 hz2))) (And.intro hj0 (And.intro hy0 (And.intro hy1 hy2))))
 clear hi0 hz0 hz1 hz2 hj0 hy0 hy1 hy2
 obtain ⟨tb, Ft, mb, Av, nv, cv, Aw, nw, cw, D, hp⟩ := h
 obtain ⟨c0, c1, c2, c3, c4, c5⟩ := hp.cells
 have K0 := Lib.hid (hp.tree.kids hp.few Af cf nf fr hnf (by omega) hfr.now)
 have HP := Lib.hid (And.intro hp (And.intro hfr (And.intro hhs (And.intro hnf (And.intro hnh hW)))))
 unfold hd at *
 clear hp hfr hhs hnf hnh hW c0 c2 c3 c4 c5
 go_enter Tryz.func56, Tryz.ntmps56
 go_wp2_with fail
 refine K0.out.mono ?_
 rintro e w1 ⟨A1, m1, c1', rfl, h1⟩
 have HW1 : Hid (PI F w w1 pb id own bg vec W st tb Ft mb Av nv cv Aw nw cw D ∧ Stp F V F w1 ∧ Sta F w1 (fun X => Ns .i64 X X.heap.size Af fr) ∧ Sta F w1 (fun X => Ns .u64 X X.heap.size Ah hs)) := Lib.hid (by
  obtain ⟨_, _, _, _, q5, q6⟩ := h1.out
  have hc : Chg F V w1 := q6.mono fun k e => by rw [e]; exact HP.out.1.sub _ HP.out.1.tree.own
  exact ⟨HP.out.1.turn q5 q6, ⟨hc, fun k hk => .inl hk⟩, sta_chg HP.out.2.1 hc, sta_chg HP.out.2.2.1 hc⟩)
 have K1 := Lib.hid (differ_any A1 Ah c1' ch m1 nh (kidsF own fr) hs h1.out.1 HP.out.2.2.2.2.1 w1 h1.out.2.2.1 HW1.out.2.2.2.now)
 clear h1 K0 c1
 go_wp2_with fail
 refine K1.out.mono ?_
 rintro e w2 ⟨Ad, md, cd, rfl, h2, b2⟩
 obtain ⟨ds, hds⟩ : ∃ ds, diffF (kidsF own fr) hs = ds := ⟨_, rfl⟩
 have HD : Hid (diffF (kidsF own fr) hs = ds ∧ ds.length = md ∧ md ≤ 16) := Lib.hid ⟨hds, by rw [← hds]; exact h2.out.1, by rw [← h2.out.1]; exact diff_16 _ _⟩
 have H0 : Hid (PJ F w w2 pb id own bg vec (W ++ (wantF own fr hs).take 0) st ∧ Stp F V F w2 ∧ Sta F w2 (fun X => Ns .i64 X X.heap.size Af fr) ∧ Sta F w2 (fun X => Ns .i64 X X.heap.size Ad ds)) := Lib.hid (by
  rw [List.take_zero, List.append_nil]
  have hr := h2.out.2.2
  rw [hds] at hr
  exact ⟨⟨tb, Ft, mb, Av, nv, cv, Aw, nw, cw, D, HW1.out.1.below b2⟩, HW1.out.2.1.trans (Stp.of_below b2), sta_below HW1.out.2.2.1 b2, sta_row hr HD.out.2.1 fun g hg hF => by have := (hr.lt g hg).1; have := HW1.out.1.lt g hF; omega⟩)
 have hmd := HD.out.2.2
 clear h2 b2 hds HW1 K1
 go_wp2_with fail
 go_loopw [17] (fun q wr => ∃ (i : Nat) (F1 : Nat → Prop), q = .int .i64 i ∧ i ≤ md ∧ Hid (PJ F1 w wr pb id own bg vec (W ++ (wantF own fr hs).take i) st ∧ Stp F V F1 wr ∧ Sta F1 wr (fun X => Ns .i64 X X.heap.size Af fr) ∧ Sta F1 wr (fun X => Ns .i64 X X.heap.size Ad ds))) (fun q _ => md - (intOf q).toNat)
 case atStart => exact ⟨0, F, rfl, by omega, H0⟩
 case round =>
  clear H0
  obtain ⟨i, F1, rfl, hi, hst⟩ := hrel
  by_cases hlt : i < md
  ·have d1 : (0 : Int) ≤ (i : Int) := by omega
   have d2 : (i : Int) < (md : Int) := by omega
   obtain ⟨W1, hW1⟩ : ∃ W1, W ++ (wantF own fr hs).take i = W1 := ⟨_, rfl⟩
   have hp := hst.out.1
   rw [hW1] at hp
   obtain ⟨tb1, Ft1, mb1, Av1, nv1, cv1, Aw1, nw1, cw1, D1, hp⟩ := hp
   obtain ⟨gd, od, rfl, hgd, hcd⟩ := hst.out.2.2.2.now (by have := HD.out.2.1; omega)
   obtain ⟨x, hx⟩ : ∃ x, ds.getD i 0 = x := ⟨_, rfl⟩
   have xd := hcd i (by have := HD.out.2.1; omega)
   rw [hx] at xd
   have HTK : Hid (W ++ (wantF own fr hs).take (i + 1) = W1 ++ [fr ++ [x]]) := Lib.hid (by
    rw [want_take (x := x) (by rw [HD.out.1, HD.out.2.1]; exact hlt) (by rw [HD.out.1]; exact hx), ← List.append_assoc, hW1])
   have hnw : nw1 ≤ 916 := by
    rw [← hp.wlen, ← hW1, List.length_append, List.length_take]
    have := HP.out.2.2.2.2.2
    omega
   obtain ⟨c0, c1, c2, c3, c4, c5⟩ := hp.cells
   have HPI := Lib.hid hp
   have hfrn : ∀ X, Below wr.heap.size wr X → Calls Tryz.prog 66 #[.slice Af nf cf] X (Ints.OwnI fr nf X) := fun X hX => Ints.clone_row Af cf nf fr HP.out.2.2.2.1 X ((hst.out.2.2.1.now.below hX).more hX.size) (by omega)
   obtain ⟨y0, hy0⟩ : ∃ y : Int, (((fr ++ [x]).length : Nat) : Int) = y := ⟨_, rfl⟩
   obtain ⟨y1, hy1⟩ : ∃ y, (fr ++ [x]).getD 0 0 = y := ⟨_, rfl⟩
   obtain ⟨y2, hy2⟩ : ∃ y, (fr ++ [x]).getD 1 0 = y := ⟨_, rfl⟩
   have hpo : ∀ X A c, Ns .i64 X X.heap.size A (fr ++ [x]) → Calls Tryz.prog 59 #[.slice A (nf + 1) c] X (fun e w' => e = .returned (.agg #[.int .i64 y0, .int .i64 y1, .int .i64 y2]) ∧ Below X.heap.size X w') := fun X A c hN => by
    have h := pathOf_any A c (nf + 1) (fr ++ [x]) (by simp [HP.out.2.2.2.1]) X hN
    unfold pV at h
    rw [hy0, hy1, hy2] at h
    exact h
   have how : ∀ X, Below wr.heap.size wr X → X.ownsRow w.heap.size 101 3 (.slice Aw1 nw1 cw1) nw1 (pcells W1) ∧ Bn pb 96 [.int .i64 id, hd tb1, .bool bg, .slice Av1 nv1 cv1, .slice Aw1 nw1 cw1, .map (some mb1)] X ∧ w.heap.size ≤ X.heap.size := fun X hX => ⟨own_below HPI.out.want hX (Nat.le_refl _), HPI.out.blk.same (hX.block _ HPI.out.blk.lt), Nat.le_trans HPI.out.old.size hX.size⟩
   have HC := Lib.hid (And.intro hfrn (And.intro hpo how))
   have hpw : (Value.slice Aw1 nw1 cw1).ownBlock ≠ some pb := own_ne hp.want hp.blk (by decide)
   have HQ : Hid (∀ X, Below wr.heap.size wr X → X.cell? ⟨pb, 4, none⟩ = some (.slice Aw1 nw1 cw1)) := Lib.hid fun X hX => (hX.cell (p := ⟨pb, 4, none⟩) (hp.lt _ hp.hpb)).trans c4
   have p0 := HQ.out (wr.alloc (.cells #[.int .i64 x] 3)) ((Below.refl _ wr).alloc (Nat.le_refl _) _)
   have hcf : ∀ (a : Array Value) (w : World), (callFunc 66 a).run Tryz.prog w = .ok (.enter 66 a) w := fun a w => by simp [go_sem]
   have hcf2 : ∀ (a : Array Value) (w : World), (callFunc 59 a).run Tryz.prog w = .ok (.enter 59 a) w := fun a w => by simp [go_sem]
   have HNF := Lib.hid HP.out.2.2.2.1
   have HPC : Hid (pcell (fr ++ [x]) = [.int .i64 y0, .int .i64 y1, .int .i64 y2]) := Lib.hid (by unfold pcell; rw [hy0, hy1, hy2])
   clear hp hcd hx hW1 hfrn hpo how hy0 hy1 hy2 c0 c1 c2 c3 c5
   go_wp2_with fail
   go_region_law (first
    | (refine Blk.step_call (by rfl) 66 _ _ (by rfl) (hcf _ _) #[.slice Af nf cf] (by first | rfl | (simp [Act.eval, Act.put]; done)) (HC.out.1 _ (by first | exact (Below.refl _ wr).drew | exact ((Below.refl _ wr).alloc (Nat.le_refl _) _).drew | exact (Below.refl _ wr).drew.alloc (by simp) _ | exact (Below.refl _ wr).alloc (Nat.le_refl _) _)) (fun e w' h => by obtain ⟨_, _, rfl, _⟩ := h; exact ⟨_, rfl⟩) ?_; rintro v3 w3 ⟨A3, c3, hv3, o3, b3⟩; injection hv3 with hv3; subst hv3; have bw3 : Below wr.heap.size wr w3 := (by first | exact (show Below wr.heap.size wr w3 from ⟨b3.os, b3.tape, b3.output, b3.size, b3.block⟩) | exact ((Below.refl _ wr).alloc (Nat.le_refl _) (.cells #[.int .i64 x] 3)).trans (Below.mono (show Below (wr.alloc (.cells #[.int .i64 x] 3)).heap.size (wr.alloc (.cells #[.int .i64 x] 3)) w3 from ⟨b3.os, b3.tape, b3.output, b3.size, b3.block⟩) (by simp))); have q3 := HQ.out w3 bw3; have p3 := HQ.out (w3.alloc (.cells #[.int .i64 x] 3)) (bw3.alloc bw3.size _))
    | (refine Blk.step_call (by rfl) 59 _ _ (by rfl) (hcf2 _ _) #[.slice (some ⟨g5, 0, none⟩) (nf + 1) cap5] (by first | rfl | (simp [Act.eval]; done)) (HC.out.2.1 _ _ _ (ns_app o5 HNF.out)) (fun e w' h => by obtain ⟨rfl, _⟩ := h; exact ⟨_, rfl⟩) ?_; rintro v6 w6 ⟨hv6, b6⟩; injection hv6 with hv6; subst hv6; have bw6 : Below wr.heap.size wr w6 := bw5.trans (b6.mono bw5.size); have q6 := HQ.out w6 bw6; have p6 := HQ.out (w6.alloc (.cells #[.int .i64 y0, .int .i64 y1, .int .i64 y2] 101)) (bw6.alloc bw6.size _))
    | (refine step_append_lies _ (by rfl) _ _ _ (by rfl) wr.heap.size 3 i0 _ 1 8 Tryz.underlying24 HI.out.1.1 HI.out.1.2.1 HI.out.1.2.2.1 HI.out.1.2.2.2 (by rfl) (by omega) (.slice A3 nf c3) nf (nums .i64 fr) (by rfl) ((own_base o3.out (by simp)).alloc _) ⟨w3.heap.size, 0, none⟩ 1 1 [.int .i64 x] (by rfl) (by rfl) (World.news_of_block (World.alloc_heap_new w3 _)) (by simp [Value.oneCell']) (by omega) (by unfold maxLen; omega) (by omega) (Nat.le_trans b3.size (by simp)) (w3.heap.size + 1) (by simp) ?_; intro g5 cap5 w5 o5 gr5 at5 hl5; have bw5 : Below wr.heap.size wr w5 := (bw3.alloc bw3.size _).grown gr5 (Nat.le_trans bw3.size (by simp)) (fun g hg => Nat.le_trans (by simp) (o3.out.lt g hg).1); have q5 := HQ.out w5 bw5)
    | (refine step_append_lies _ (by rfl) _ _ _ (by rfl) wr.heap.size 3 i0 _ 1 8 Tryz.underlying24 HI.out.1.1 HI.out.1.2.1 HI.out.1.2.2.1 HI.out.1.2.2.2 (by rfl) (by omega) (.slice A3 nf c3) nf (nums .i64 fr) (by rfl) (own_base o3.out (by simp)) ⟨wr.heap.size, 0, none⟩ 1 1 [.int .i64 x] (by rfl) (by rfl) (World.news_of_block ((b3.block _ (by simp)).trans (World.alloc_heap_new wr _))) (by simp [Value.oneCell']) (by omega) (by unfold maxLen; omega) (by omega) (Nat.le_trans (by simp) b3.size) w3.heap.size rfl ?_; intro g5 cap5 w5 o5 gr5 at5 hl5; have bw5 : Below wr.heap.size wr w5 := bw3.grown gr5 bw3.size (fun g hg => Nat.le_trans (by simp) (o3.out.lt g hg).1); have q5 := HQ.out w5 bw5)
    | (refine step_append_lies _ (by rfl) _ _ _ (by rfl) w.heap.size 101 j0 _ 3 24 Tryz.underlying94 HI.out.2.1 HI.out.2.2.1 HI.out.2.2.2.1 HI.out.2.2.2.2 (by rfl) (by omega) (.slice Aw1 nw1 cw1) nw1 (pcells W1) (by rfl) (HC.out.2.2 _ (bw6.alloc bw6.size _)).1 ⟨w6.heap.size, 0, none⟩ 1 1 [.int .i64 y0, .int .i64 y1, .int .i64 y2] (by rfl) (by rfl) (World.news_of_block (World.alloc_heap_new w6 _)) (by simp [Value.oneCell']) (by omega) (by unfold maxLen; omega) (by omega) (HC.out.2.2 _ (bw6.alloc bw6.size _)).2.2 (w6.heap.size + 1) (by simp) ?_; intro g7 cap7 w7 o7 gr7 at7 hl7; have B7 := (HC.out.2.2 _ (bw6.alloc bw6.size _)).2.1.kept gr7 (fun e => hpw e.symm); have z4 := B7.frozen 4; have y4 : w7.cell? ⟨pb, 4, none⟩ = some (.slice Aw1 nw1 cw1) := B7.cell 4))
   all_goals
    have HZ : Hid (PJ (fun k => F1 k ∨ k = g7) w (w7.setCell ⟨pb, 4, none⟩ (.slice (some ⟨g7, 0, none⟩) (nw1 + 1) cap7)) pb id own bg vec (W ++ (wantF own fr hs).take (i + 1)) st ∧ Stp F V (fun k => F1 k ∨ k = g7) (w7.setCell ⟨pb, 4, none⟩ (.slice (some ⟨g7, 0, none⟩) (nw1 + 1) cap7)) ∧ Sta (fun k => F1 k ∨ k = g7) (w7.setCell ⟨pb, 4, none⟩ (.slice (some ⟨g7, 0, none⟩) (nw1 + 1) cap7)) (fun X => Ns .i64 X X.heap.size Af fr) ∧ Sta (fun k => F1 k ∨ k = g7) (w7.setCell ⟨pb, 4, none⟩ (.slice (some ⟨g7, 0, none⟩) (nw1 + 1) cap7)) (fun X => Ns .i64 X X.heap.size (some ⟨gd, od, none⟩) ds)) := Lib.hid (by
     have hP := HPI.out.push (p := fr ++ [x]) (bw6.alloc bw6.size _) (by rw [HPC.out]; exact o7) gr7 (at7.imp (fun q => q) fun q => by rw [q]; simp) (by omega)
     rw [HTK.out]
     exact ⟨⟨_, _, _, _, _, _, _, _, _, _, hP.1⟩, hst.out.2.1.trans hP.2, sta_stp hst.out.2.2.1 hP.2, sta_stp hst.out.2.2.2 hP.2⟩)
    clear hst bw6 o7 gr7 at7 hl7 B7 q6 p6 b6 q5 bw5 o5 gr5 at5 hl5 q3 p3 bw3 b3 o3 hcf hcf2 p0
    go_wp2_with fail
    go_roundw
    case rel => exact ⟨i + 1, _, by go_num, by omega, HZ⟩
    case measure => simp only [intOf]; omega
  ·have him : i = md := by omega
   subst him
   have HF : Hid (WantQ F w V pb id own bg vec (W ++ wantF own fr hs) st (.returned (.tuple #[])) wr) := Lib.hid ⟨rfl, F1, Lib.hid ⟨by
    have h := hst.out.1
    rwa [List.take_of_length_le (by unfold wantF; rw [List.length_map, HD.out.1, HD.out.2.1]; omega)] at h, hst.out.2.1⟩⟩
   clear hst
   go_wp2_with fail
   refine bodyPost_end (v := .tuple #[]) (results_none rfl _ _ _) rfl HF.out
end
end Pull
end Go.Proofs.YtkfdplfgaddkmaaGreat

/-
 A pull is begun (layer 19).
-/
namespace Go.Proofs.YtkfdplfgaddkmaaGreat
namespace Pull
open Go.RowKit Blk Go.Maps Disk Tree Vers Num Ring Mend
open Go.Proofs.YtkfdplfgaddkmaaGreat.Code hiding Bn
attribute [local go_sem ↓] Go.wp_at_zero Go.wp_at_succ
section
variable {F F' G Ft : Nat → Prop} {w V Z : World} {pb tb mb nv cv nw cw : Nat} {id : Int} {vec : List Int} {own st : List Rc} {bg : Bool} {W : List (List Int)} {Av Aw : Option Addr} {D : Vl}
theorem PI.restamp (h : PI F w V pb id own bg vec W st tb Ft mb Av nv cv Aw nw cw D) (hc : Chg (fun k => k = pb) V Z) {bg' : Bool} {vec' : List Int} {Av' : Option Addr} {nv' cv' : Nat} (hblk : Bn pb 96 [.int .i64 id, hd tb, .bool bg', .slice Av' nv' cv', .slice Aw nw cw, .map (some mb)] Z) (hlen : vec'.length = nv') (hrow : Z.ownsRow w.heap.size 2 1 (.slice Av' nv' cv') nv' (nums .i64 vec')) (h16 : nv' ≤ 16)
  (hvo : ∀ g, (Value.slice Av' nv' cv').ownBlock = some g → (F g ∧ ¬ Ft g) ∨ V.heap.size ≤ g) (hF : ∀ k, F k → F' k) (hF' : ∀ k, F' k → F k ∨ (Value.slice Av' nv' cv').ownBlock = some k) (hvF : ∀ g, (Value.slice Av' nv' cv').ownBlock = some g → F' g) : PI F' w Z pb id own bg' vec' W st tb Ft mb Av' nv' cv' Aw nw cw D ∧ Stp F V F' Z := by
 have hnew : ∀ k, k = pb → w.heap.size ≤ k := fun k e => by rw [e]; exact h.new _ h.hpb
 have hk : ∀ k, k < V.heap.size → k ≠ pb → Z.heap[k]? = V.heap[k]? := fun k hk h1 => hc.block k hk h1
 refine ⟨⟨hblk, h.tree.chg hc (fun k hk e => h.notb.1 (e ▸ hk)) hnew, hlen, hrow, h.wlen, own_keep h.want (fun g hg => hk g (h.want.lt g hg).2 (fun e => own_ne h.want h.blk (by decide) (e ▸ hg))), h.map.same (hk mb h.map.lt (fun e => h.map.ne h.blk e.symm)), (h.hold.keep hc.size fun j hj _ hM => hk j hj (fun e => hM (.inl e))).mono hF (fun _ _ _ e => e), fun k hk => hF k (h.sub k hk), h.notb, fun g hg => ⟨hvF g hg, ?_⟩, fun g hg => ⟨hF g (h.wown g hg).1, (h.wown g hg).2⟩, hF _ h.mown, hF _ h.hpb, fun k hk => ?_, fun k hk => ?_, h.old.trans (hc.below hnew h.old.size), h.few, h16, h.wfew, h.lst, h.dlen⟩, hc.mono fun k e => by rw [e]; exact h.hpb, fun k hk => ?_⟩
 ·rcases hvo g hg with q | q
  ·exact q.2
  ·exact fun e => by have := h.lt _ (h.sub _ e); omega
 ·rcases hF' k hk with e | e
  ·exact Nat.lt_of_lt_of_le (h.lt k e) hc.size
  ·exact (hrow.lt k e).2
 ·rcases hF' k hk with e | e
  ·exact h.new k e
  ·exact (hrow.lt k e).1
 ·rcases hF' k hk with e | e
  ·exact .inl e
  ·exact (hvo k e).imp (fun q => q.1) fun q => q
set_option maxRecDepth 100000 in
theorem PJ.begin_no (h : PJ F w V pb id own bg vec W st) (A Ah : Option Addr) (c ch n nh : Nat) (v : List Int) (hn : v.length = n) (hbig : n ≤ 140737488355328) (hv : Ns .i64 V V.heap.size A v) (hno : bg = true ∨ ¬ Vect.RightV v) :
  Calls Tryz.prog 24 #[hd pb, .slice A n c, .slice Ah nh ch] V (fun e w' => e = .returned (.bool false) ∧ Below V.heap.size V w') := by
 obtain ⟨tb, Ft, mb, Av, nv, cv, Aw, nw, cw, D, h⟩ := h
 obtain ⟨c0, c1, c2, c3, c4, c5⟩ := h.cells
 have K := Lib.hid (Vect.right_v A c n v hn V hv hbig)
 unfold hd at *
 cases bg
 ·rw [decide_eq_false (hno.resolve_left (by simp))] at K
  clear h hn hbig hv hno c0 c1 c3 c4 c5
  go_enter Tryz.func24, Tryz.ntmps24
  go_wp2_with fail
  refine K.out.mono ?_
  rintro e w1 ⟨rfl, b1⟩
  have HB := Lib.hid b1
  clear b1 K
  go_wp2_with fail
  go_ret
  exact ⟨rfl, HB.out⟩
 ·clear h hn hbig hv hno c0 c1 c3 c4 c5 K
  go_enter Tryz.func24, Tryz.ntmps24
  go_wp2_with fail
  go_ret
  exact ⟨rfl, Below.refl _ _⟩
def DoneP (F : Nat → Prop) (w V : World) (pb : Nat) (id : Int) (own : List Rc) (bg : Bool) (vec : List Int) (W : List (List Int)) (st : List Rc) (e : Ending) (w' : World) : Prop := e = .returned (.bool true) ∧ ∃ F', Hid (PJ F' w w' pb id own bg vec W st ∧ Stp F V F' w')
set_option maxRecDepth 100000 in
set_option maxHeartbeats 1000000 in
theorem PJ.begin_yes (h : PJ F w V pb id own false vec W st) (hW : W.length ≤ 900) (A Ah : Option Addr) (c ch n nh : Nat) (v hs : List Int) (hn : v.length = n) (hnh : hs.length = nh) (hok : Vect.RightV v) (hv : Sta F V (fun X => Ns .i64 X X.heap.size A v)) (hhs : Sta F V (fun X => Ns .u64 X X.heap.size Ah hs)) :
  Calls Tryz.prog 24 #[hd pb, .slice A n c, .slice Ah nh ch] V (DoneP F w V pb id own true v (W ++ wantF own [] hs) st) := by
 have h16 : n ≤ 16 := by rw [← hn]; exact hok.2.1
 obtain ⟨tb, Ft, mb, Av, nv, cv, Aw, nw, cw, D, h⟩ := h
 obtain ⟨c0, c1, c2, c3, c4, c5⟩ := h.cells
 have K := Lib.hid (Vect.right_v A c n v hn V hv.now (by omega))
 rw [decide_eq_true hok] at K
 have HP := Lib.hid (And.intro h (And.intro hv (And.intro hhs (And.intro hn (And.intro hnh (And.intro hW h16))))))
 unfold hd at *
 clear h hn hv hhs hnh hW hok c0 c1 c3 c4 c5 h16
 go_enter Tryz.func24, Tryz.ntmps24
 go_wp2_with fail
 refine K.out.mono ?_
 rintro e w1 ⟨rfl, b1⟩
 have h1 := HP.out.1.below b1
 obtain ⟨U, hU⟩ : ∃ U, w1.setCell ⟨pb, 2, none⟩ (.bool true) = U := ⟨_, rfl⟩
 have hgU : w1.grownBy U (some pb) := by rw [← hU]; exact Blk.gset w1 pb 2 _
 have hcU : Chg (fun k => k = pb) w1 U := Chg.of_grown hgU fun g e => by injection e with e; exact e.symm
 have hbU : Bn pb 96 [.int .i64 id, hd tb, .bool true, .slice Av nv cv, .slice Aw nw cw, .map (some mb)] U := by rw [← hU]; exact h1.blk.set 2 _
 have h2 := h1.restamp (F' := F) hcU hbU h1.len (own_keep h1.row fun g hg => hcU.block g (h1.row.lt g hg).2 fun e => own_ne h1.row h1.blk (by decide) (e ▸ hg)) h1.vfew (fun g hg => .inl (h1.vown g hg)) (fun k hk => hk) (fun k hk => .inl hk) (fun g hg => (h1.vown g hg).1)
 have hS : Stp F V F U := (Stp.of_below b1).trans h2.2
 have d2 := h1.blk.cell 2
 have f2 := h1.blk.frozen 2
 simp only [List.getElem?_cons_zero, List.getElem?_cons_succ] at d2
 have K3 := Lib.hid (cloneW_any A c n v HP.out.2.2.2.1 U (sta_stp HP.out.2.1 hS).now (by have := HP.out.2.2.2.2.2.2; omega))
 have H2 := Lib.hid (And.intro h2.1 hS)
 clear K b1 h1 h2 hS hcU hbU hgU c2
 go_wp2_with fail
 refine K3.out.mono ?_
 rintro e w3 ⟨A1, c1', rfl, h3, b3⟩
 have h4 := H2.out.1.below b3
 obtain ⟨Z, hZ⟩ : ∃ Z, w3.setCell ⟨pb, 3, none⟩ (.slice A1 n c1') = Z := ⟨_, rfl⟩
 have hgZ : w3.grownBy Z (some pb) := by rw [← hZ]; exact Blk.gset w3 pb 3 _
 have hcZ : Chg (fun k => k = pb) w3 Z := Chg.of_grown hgZ fun g e => by injection e with e; exact e.symm
 have hbZ : Bn pb 96 [.int .i64 id, hd tb, .bool true, .slice A1 n c1', .slice Aw nw cw, .map (some mb)] Z := by rw [← hZ]; exact h4.blk.set 3 _
 have h3l : ∀ g, (Value.slice A1 n c1').ownBlock = some g → U.heap.size ≤ g := fun g hg => (h3.out.lt g hg).1
 have h5 := H2.out.1.below b3
 have hrZ : Z.ownsRow w.heap.size 2 1 (.slice A1 n c1') n (nums .i64 v) := own_base (own_keep h3.out fun g hg => hcZ.block g (h3.out.lt g hg).2 fun e => by have := h3l g hg; have := H2.out.1.lt _ H2.out.1.hpb; omega) H2.out.1.old.size
 -- over the world behind the clone, whose new row is none of the pull's yet
 have h6 : PI (fun k => F k ∨ (Value.slice A1 n c1').ownBlock = some k) w Z pb id own true v W st tb Ft mb A1 n c1' Aw nw cw D ∧ Stp F U (fun k => F k ∨ (Value.slice A1 n c1').ownBlock = some k) Z := by
  have hcUZ : Chg (fun k => k = pb) U Z := (Chg.of_below (F := fun k => k = pb) b3).trans hcZ fun k e => .inl e
  exact H2.out.1.restamp hcUZ hbZ HP.out.2.2.2.1 hrZ HP.out.2.2.2.2.2.2 (fun g hg => .inr (h3l g hg)) (fun k hk => .inl hk) (fun k hk => hk) (fun g hg => .inr hg)
 have hS := H2.out.2.trans h6.2
 have d3 := h4.blk.cell 3
 have f3 := h4.blk.frozen 3
 simp only [List.getElem?_cons_zero, List.getElem?_cons_succ] at d3
 have K4 := Lib.hid (PJ.want ⟨_, _, _, _, _, _, _, _, _, _, h6.1⟩ HP.out.2.2.2.2.2.1 none Ah 0 ch 0 nh [] hs rfl HP.out.2.2.2.2.1 (by omega) (fun X _ _ => ns_nil) (sta_stp HP.out.2.2.1 hS))
 have H6 := Lib.hid hS
 clear K3 h3 b3 h4 h5 h6 hS hcZ hbZ hgZ hrZ h3l hU f2 d2 H2
 unfold hd at K4
 go_wp2_with fail
 refine K4.out.mono ?_
 rintro e w5 ⟨rfl, F5, h7⟩
 have HF : Hid (DoneP F w V pb id own true v (W ++ wantF own [] hs) st (.returned (.bool true)) w5) := Lib.hid ⟨rfl, F5, Lib.hid ⟨h7.out.1, H6.out.trans h7.out.2⟩⟩
 clear h7 K4 hZ d3 f3
 go_wp2_with fail
 go_ret
 exact HF.out
end
end Pull
end Go.Proofs.YtkfdplfgaddkmaaGreat
