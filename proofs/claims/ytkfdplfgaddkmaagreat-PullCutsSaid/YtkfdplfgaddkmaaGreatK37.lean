/-
  Several texts of this family in one: PullOwn, PullCut, PullWant, PullDoc, PullBoth, PullHeld, PullNew.
-/
import Derived.Test.YtkfdplfgaddkmaaGreatK12
import Derived.Test.YtkfdplfgaddkmaaGreatK13
import Derived.Test.YtkfdplfgaddkmaaGreatK36
import Derived.Test.YtkfdplfgaddkmaaGreatK28
import Derived.Test.YtkfdplfgaddkmaaGreatK14
import Derived.Test.YtkfdplfgaddkmaaGreatK15
import Derived.Test.YtkfdplfgaddkmaaGreatK26
import Derived.Deep.RegionLaw
import Derived.Test.YtkfdplfgaddkmaaGreatK4
/-
 A cut in memory (layer 19).
-/
namespace Go.Proofs.YtkfdplfgaddkmaaGreat
namespace Pull
open Go.RowKit Blk Go.Maps Disk Tree Vers Num Ring Mend
open Go.Proofs.YtkfdplfgaddkmaaGreat.Code hiding Bn
attribute [local go_sem ↓] Go.wp_at_zero Go.wp_at_succ
section
variable {F F' G : Nat → Prop} {w V V' : World} {P : World → Prop}
theorem sta_stp (h : Sta F V P) (hs : Stp F V F' V') : Sta F' V' P := h.go hs.1.size (fun k hk hn => hs.1.block k hk hn) fun k hk hF => (hs.2 k hF).elim id fun e => by omega
theorem sta_below (h : Sta F V P) (hb : Below V.heap.size V V') : Sta F V' P := h.go hb.size (fun k hk _ => hb.block k hk) fun _ _ hF => hF
theorem sta_chg (h : Sta F V P) (hc : Chg F V V') : Sta F V' P := h.go hc.size (fun k hk hn => hc.block k hk hn) fun _ _ hF => hF
theorem sta_row {k : IntKind} {base : Nat} {t : TypeId} {A : Option Addr} {n c : Nat} {zs : List Int} (h : V.ownsRow base t 1 (.slice A n c) n (nums k zs)) (hn : zs.length = n) (hF : ∀ g, (Value.slice A n c).ownBlock = some g → ¬ F g) : Sta F V (fun W => Ns k W W.heap.size A zs) := fun W hs hk => by
 subst hn
 exact own_ns (own_keep h fun g hg => hk g (h.lt g hg).2 (hF g hg))
end
structure CI (F : Nat → Prop) (w V : World) (cb : Nat) (id : Int) (vec : List Int) (all : List Rc) (tb : Nat) (Ft : Nat → Prop) (Av : Option Addr) (nv cv : Nat) : Prop where
 blk : Bn cb 85 [.int .i64 id, .slice Av nv cv, hd tb] V
 tree : On Ft w V tb all
 len : vec.length = nv
 row : V.ownsRow w.heap.size 2 1 (.slice Av nv cv) nv (nums .i64 vec)
 sub : ∀ k, Ft k → F k
 notb : ¬ Ft cb
 vown : ∀ g, (Value.slice Av nv cv).ownBlock = some g → F g ∧ ¬ Ft g
 own : F cb
 lt : ∀ k, F k → k < V.heap.size
 new : ∀ k, F k → w.heap.size ≤ k
 old : Below w.heap.size w V
 few : all.length ≤ 3518437208882
 vfew : nv ≤ 16
def CN (F : Nat → Prop) (w V : World) (cb : Nat) (id : Int) (vec : List Int) (all : List Rc) : Prop := ∃ tb Ft Av nv cv, CI F w V cb id vec all tb Ft Av nv cv
section
variable {F G Ft : Nat → Prop} {w V V' : World} {cb tb nv cv : Nat} {id : Int} {vec : List Int} {all : List Rc} {Av : Option Addr}
theorem CI.chg (h : CI F w V cb id vec all tb Ft Av nv cv) (hc : Chg G V V') (hG : ∀ k, F k → ¬ G k) (hw : ∀ k, G k → w.heap.size ≤ k) : CI F w V' cb id vec all tb Ft Av nv cv :=
 ⟨h.blk.same (hc.block _ h.blk.lt (hG _ h.own)), h.tree.chg hc (fun k hk => hG k (h.sub k hk)) hw, h.len, own_keep h.row (fun g hg => hc.block g (h.row.lt g hg).2 (hG g (h.vown g hg).1)), h.sub, h.notb, h.vown, h.own, fun k hk => Nat.lt_of_lt_of_le (h.lt k hk) hc.size, h.new, h.old.trans (hc.below hw h.old.size), h.few, h.vfew⟩
theorem CI.turn (h : CI F w V cb id vec all tb Ft Av nv cv) (ht : On Ft w V' tb all) (hc : Chg (fun k => k = tb) V V') : CI F w V' cb id vec all tb Ft Av nv cv := by
 have htb := h.tree.own
 exact ⟨h.blk.same (hc.block _ h.blk.lt fun e => h.notb (e ▸ htb)), ht, h.len, own_keep h.row (fun g hg => hc.block g (h.row.lt g hg).2 fun e => (h.vown g hg).2 (e ▸ htb)), h.sub, h.notb, h.vown, h.own, fun k hk => Nat.lt_of_lt_of_le (h.lt k hk) hc.size, h.new, h.old.trans (hc.below (fun k e => by rw [e]; exact h.new _ (h.sub _ htb)) h.old.size), h.few, h.vfew⟩
theorem CN.chg (h : CN F w V cb id vec all) (hc : Chg G V V') (hG : ∀ k, F k → ¬ G k) (hw : ∀ k, G k → w.heap.size ≤ k) : CN F w V' cb id vec all := by
 obtain ⟨tb, Ft, Av, nv, cv, h⟩ := h
 exact ⟨tb, Ft, Av, nv, cv, h.chg hc hG hw⟩
theorem CN.below (h : CN F w V cb id vec all) (hb : Below V.heap.size V V') : CN F w V' cb id vec all := h.chg (G := fun _ => False) (Chg.of_below hb) (fun _ _ h => h) fun _ h => h.elim
theorem CN.lt (h : CN F w V cb id vec all) {k : Nat} (hk : F k) : k < V.heap.size := by
 obtain ⟨tb, Ft, Av, nv, cv, h⟩ := h
 exact h.lt k hk
theorem CN.new (h : CN F w V cb id vec all) {k : Nat} (hk : F k) : w.heap.size ≤ k := by
 obtain ⟨tb, Ft, Av, nv, cv, h⟩ := h
 exact h.new k hk
theorem CN.old (h : CN F w V cb id vec all) : Below w.heap.size w V := by
 obtain ⟨tb, Ft, Av, nv, cv, h⟩ := h
 exact h.old
theorem CN.okA (h : CN F w V cb id vec all) : okAll all := by
 obtain ⟨tb, Ft, Av, nv, cv, h⟩ := h
 exact h.tree.okA
theorem CN.few (h : CN F w V cb id vec all) : all.length ≤ 3518437208882 := by
 obtain ⟨tb, Ft, Av, nv, cv, h⟩ := h
 exact h.few
end
end Pull
end Go.Proofs.YtkfdplfgaddkmaaGreat

/-
 What is done with a cut (layer 19).
-/
namespace Go.Proofs.YtkfdplfgaddkmaaGreat
namespace Pull
open Go.RowKit Blk Go.Maps Disk Tree Vers Num Ring Mend
open Go.Proofs.YtkfdplfgaddkmaaGreat.Code hiding Bn
attribute [local go_sem ↓] Go.wp_at_zero Go.wp_at_succ
def NewC (w V : World) (id : Int) (vec : List Int) (l : List Rc) (e : Ending) (w' : World) : Prop :=
 (Vect.RightV vec ∧ okL l ∧ ∃ cb, e = .returned (.tuple #[hd cb, .int .i64 0]) ∧ Hid (∃ F, CN F w w' cb id vec (layF l) ∧ (∀ k, F k → V.heap.size ≤ k)) ∧ Below V.heap.size V w') ∨
 (¬ (Vect.RightV vec ∧ okL l) ∧ e = .returned (.tuple #[.pointer none, .int .i64 1]) ∧ Below V.heap.size V w')
set_option maxRecDepth 100000 in
theorem newcut_any {w V : World} (hb : Below w.heap.size w V) (id : Int) (Av Al : Option Addr) (nv cv n c : Nat) (vec : List Int) (l : List Rc) (hnv : vec.length = nv) (hn : l.length = n) (hvb : nv ≤ 140737488355328) (hbig : n ≤ 3518437208882) (hrv : Ns .i64 V V.heap.size Av vec) (hr : Rs V 0 V.heap.size Al l) :
  Calls Tryz.prog 10 #[.int .i64 id, .slice Av nv cv, .slice Al n c] V (NewC w V id vec l) := by
 have H1 := Lib.hid (Vect.right_v Av cv nv vec hnv V hrv hvb)
 by_cases hv : Vect.RightV vec
 ·rw [decide_eq_true hv] at H1
  by_cases hok : okL l
  ·have H2 : Hid (∀ w1, Below V.heap.size V w1 → Calls Tryz.prog 45 #[.slice Al n c] w1 (fun e w' => ∃ tb, e = .returned (.tuple #[hd tb, .int .i64 0]) ∧ Hid (∃ F, On F w w' tb (layF l) ∧ (∀ k, F k → w1.heap.size ≤ k) ∧ Below w1.heap.size w1 w'))) := Lib.hid fun w1 b1 => on_new (hb.trans (b1.mono hb.size)) Al c n l hn hbig ((hr.below b1).more b1.size) hok
   have hv16 : nv ≤ 16 := by rw [← hnv]; exact hv.2.1
   have H3 : Hid (∀ w1, Below V.heap.size V w1 → Calls Tryz.prog 46 #[.slice Av nv cv] w1 (OwnW vec nv w1)) := Lib.hid fun w1 b1 => cloneW_any Av cv nv vec hnv w1 ((hrv.below b1).more b1.size) (by omega)
   have HP := Lib.hid (And.intro hb (And.intro hnv (And.intro hv (And.intro hok (And.intro (show (layF l).length ≤ 3518437208882 by have := layF_len l; omega) hv16)))))
   clear hb hnv hn hvb hbig hrv hr hv hok hv16
   go_enter Tryz.func10, Tryz.ntmps10
   go_wp2_with fail
   refine H1.out.mono ?_
   rintro e w1 ⟨rfl, b1⟩
   have K2 := Lib.hid (H2.out w1 b1)
   have HB1 := Lib.hid b1
   clear b1 H1 H2
   go_wp2_with fail
   refine K2.out.mono ?_
   rintro e w2 ⟨tb, rfl, h2⟩
   obtain ⟨Ft, ht, hnew, b2⟩ := h2.out
   have b12 : Below V.heap.size V w2 := HB1.out.trans (b2.mono HB1.out.size)
   have K3 := Lib.hid (H3.out w2 b12)
   have HT := Lib.hid (And.intro ht (And.intro (fun k hk => Nat.le_trans HB1.out.size (hnew k hk) : ∀ k, Ft k → V.heap.size ≤ k) b12))
   clear h2 ht hnew b2 b12 K2 H3
   unfold hd
   go_wp2_with fail
   refine K3.out.mono ?_
   rintro e w3 ⟨A1, c1, rfl, h3, b3⟩
   have HF : Hid (NewC w V id vec l (.returned (.tuple #[hd w3.heap.size, .int .i64 0])) (w3.alloc (.cells #[.int .i64 id, .slice A1 nv c1, hd tb] 85))) := Lib.hid (by
    have b3' : Below w2.heap.size w2 (w3.alloc (.cells #[.int .i64 id, .slice A1 nv c1, hd tb] 85)) := b3.alloc b3.size _
    have bV := HT.out.2.2.trans (b3'.mono HT.out.2.2.size)
    have hVw := HT.out.2.2.size
    have hwV := HP.out.1.size
    have ho : (w3.alloc (.cells #[.int .i64 id, .slice A1 nv c1, hd tb] 85)).ownsRow w2.heap.size 2 1 (.slice A1 nv c1) nv (nums .i64 vec) := h3.out.alloc _
    have hl3 : ∀ g, (Value.slice A1 nv c1).ownBlock = some g → w2.heap.size ≤ g ∧ g < w3.heap.size := fun g hg => h3.out.lt g hg
    have h23 := b3.size
    have htl : ∀ k, Ft k → k < w2.heap.size := fun k hk => HT.out.1.lt hk
    refine .inl ⟨HP.out.2.2.1, HP.out.2.2.2.1, w3.heap.size, rfl, Lib.hid ⟨fun k => Ft k ∨ k = w3.heap.size ∨ (Value.slice A1 nv c1).ownBlock = some k, ⟨tb, Ft, A1, nv, c1, World.alloc_heap_new _ _, HT.out.1.below b3', HP.out.2.1, own_base ho (by omega), fun k hk => .inl hk, fun h => ?_, fun g hg => ⟨.inr (.inr hg), fun h => ?_⟩, .inr (.inl rfl), fun k hk => ?_, fun k hk => ?_, HP.out.1.trans (bV.mono hwV), HP.out.2.2.2.2.1, HP.out.2.2.2.2.2⟩, fun k hk => ?_⟩, bV⟩
    ·have := htl _ h; omega
    ·have := htl _ h; have := hl3 g hg; omega
    ·rw [World.size_alloc]
     rcases hk with h | h | h
     ·have := htl _ h; omega
     ·omega
     ·have := hl3 k h; omega
    ·rcases hk with h | h | h
     ·have := HT.out.2.1 _ h; omega
     ·omega
     ·have := hl3 k h; omega
    ·rcases hk with h | h | h
     ·exact HT.out.2.1 _ h
     ·omega
     ·have := hl3 k h; omega)
   unfold hd at HF
   clear h3 b3 HT K3
   go_wp2_with fail
   go_ret2
   exact HF.out
  ·have H2 : Hid (∀ w1, Below V.heap.size V w1 → Calls Tryz.prog 45 #[.slice Al n c] w1 (fun e w' => e = .returned (.tuple #[.pointer none, .int .i64 1]) ∧ Below w1.heap.size w1 w')) := Lib.hid fun w1 b1 => no_new Al c n l hn hbig ((hr.below b1).more b1.size) hok
   have HP := Lib.hid hok
   clear hb hnv hn hvb hbig hrv hr hv hok
   go_enter Tryz.func10, Tryz.ntmps10
   go_wp2_with fail
   refine H1.out.mono ?_
   rintro e w1 ⟨rfl, b1⟩
   have K2 := Lib.hid (H2.out w1 b1)
   have HB1 := Lib.hid b1
   clear b1 H1 H2
   go_wp2_with fail
   refine K2.out.mono ?_
   rintro e w2 ⟨rfl, b2⟩
   have HF : Hid (NewC w V id vec l (.returned (.tuple #[.pointer none, .int .i64 1])) w2) := Lib.hid (.inr ⟨fun h => HP.out h.2, rfl, HB1.out.trans (b2.mono HB1.out.size)⟩)
   clear b2 K2
   go_wp2_with fail
   go_ret2
   exact HF.out
 ·rw [decide_eq_false hv] at H1
  have HP := Lib.hid hv
  clear hb hnv hn hvb hbig hrv hr hv
  go_enter Tryz.func10, Tryz.ntmps10
  go_wp2_with fail
  refine H1.out.mono ?_
  rintro e w1 ⟨rfl, b1⟩
  have HF : Hid (NewC w V id vec l (.returned (.tuple #[.pointer none, .int .i64 1])) w1) := Lib.hid (.inr ⟨fun h => HP.out h.1, rfl, b1⟩)
  clear b1 H1
  go_wp2_with fail
  go_ret2
  exact HF.out
section
variable {F Ft : Nat → Prop} {w V : World} {cb tb nv cv : Nat} {id : Int} {vec : List Int} {all : List Rc} {Av : Option Addr}
theorem CI.cells (h : CI F w V cb id vec all tb Ft Av nv cv) : V.cell? ⟨cb, 0, none⟩ = some (.int .i64 id) ∧ V.cell? ⟨cb, 1, none⟩ = some (.slice Av nv cv) ∧ V.cell? ⟨cb, 2, none⟩ = some (hd tb) := by
 have c0 := h.blk.cell 0
 have c1 := h.blk.cell 1
 have c2 := h.blk.cell 2
 simp only [List.getElem?_cons_zero, List.getElem?_cons_succ] at c0 c1 c2
 exact ⟨c0, c1, c2⟩
theorem CN.id_any (h : CN F w V cb id vec all) : Calls Tryz.prog 21 #[hd cb] V (fun e w' => e = .returned (.int .i64 id) ∧ V = w') := by
 obtain ⟨tb, Ft, Av, nv, cv, h⟩ := h
 obtain ⟨c0, c1, c2⟩ := h.cells
 unfold hd at *
 clear h
 go_enter Tryz.func21, Tryz.ntmps21
 go_wp2_with fail
 go_ret
 exact ⟨rfl, rfl⟩
def VecN (vec : List Int) (V : World) (e : Ending) (w' : World) : Prop := ∃ A c n, e = .returned (.slice A n c) ∧ Hid (vec.length = n ∧ n ≤ 16 ∧ w'.ownsRow V.heap.size 2 1 (.slice A n c) n (nums .i64 vec)) ∧ Below V.heap.size V w'
set_option maxRecDepth 100000 in
theorem CN.vec_any (h : CN F w V cb id vec all) : Calls Tryz.prog 18 #[hd cb] V (VecN vec V) := by
 obtain ⟨tb, Ft, Av, nv, cv, h⟩ := h
 obtain ⟨c0, c1, c2⟩ := h.cells
 have hrow := h.row
 have hlen := h.len
 have hns : Ns .i64 V V.heap.size Av vec := by
  subst hlen
  exact own_ns hrow
 have hv16 := h.vfew
 have K := Lib.hid (cloneW_any Av cv nv vec h.len V hns (by omega))
 have HP := Lib.hid (And.intro h.len hv16)
 unfold hd at *
 clear h hrow hlen hns c0 c2 hv16
 go_enter Tryz.func18, Tryz.ntmps18
 go_wp2_with fail
 refine K.out.mono ?_
 rintro e w3 ⟨A1, c1', rfl, h3, b3⟩
 have HF : Hid (VecN vec V (.returned (.slice A1 nv c1')) w3) := Lib.hid ⟨A1, c1', nv, rfl, Lib.hid ⟨HP.out.1, HP.out.2, h3.out⟩, b3⟩
 clear h3 b3 K c1
 go_wp2_with fail
 go_ret
 exact HF.out
def KidN (F : Nat → Prop) (w V : World) (cb : Nat) (id : Int) (vec : List Int) (all : List Rc) (zs : List Int) (A : Option Addr) (m c : Nat) (w' : World) : Prop :=
 zs.length = m ∧ m ≤ c ∧ Ns .u64 w' w'.heap.size A zs ∧ (∀ a, 0 < m → A = some a → V.heap.size ≤ a.block) ∧ CN F w w' cb id vec all ∧ Chg F V w'
set_option maxRecDepth 100000 in
theorem CN.open_any (h : CN F w V cb id vec all) : Calls Tryz.prog 19 #[hd cb] V (fun e w' => ∃ A m c, e = .returned (.slice A m c) ∧ Hid (KidN F w V cb id vec all (kidsF all []) A m c w')) := by
 obtain ⟨tb, Ft, Av, nv, cv, h⟩ := h
 obtain ⟨c0, c1, c2⟩ := h.cells
 have K := Lib.hid (h.tree.kids h.few none 0 0 [] rfl (by omega) ns_nil)
 have HC := Lib.hid h
 unfold hd at *
 clear h c0 c1
 go_enter Tryz.func19, Tryz.ntmps19
 go_wp2_with fail
 refine K.out.mono ?_
 rintro e w3 ⟨A1, m1, c1', rfl, h3⟩
 have HF : Hid (KidN F w V cb id vec all (kidsF all []) A1 m1 c1' w3) := Lib.hid (by
  obtain ⟨q1, q2, q3, q4, q5, q6⟩ := h3.out
  exact ⟨q1, q2, q3, q4, ⟨tb, Ft, Av, nv, cv, HC.out.turn q5 q6⟩, q6.mono fun k e => by rw [e]; exact HC.out.sub _ HC.out.tree.own⟩)
 clear h3 K c2
 go_wp2_with fail
 go_ret
 exact ⟨A1, m1, c1', rfl, HF⟩
end
end Pull
end Go.Proofs.YtkfdplfgaddkmaaGreat

/-
 What a cut has at a path (layer 19).
-/
namespace Go.Proofs.YtkfdplfgaddkmaaGreat
namespace Pull
open Go.RowKit Blk Go.Maps Disk Tree Vers Num Ring Mend
open Go.Proofs.YtkfdplfgaddkmaaGreat.Code hiding Bn
attribute [local go_sem ↓] Go.wp_at_zero Go.wp_at_succ
section
variable {F Ft : Nat → Prop} {w V : World} {cb tb nv cv : Nat} {id : Int} {vec : List Int} {all : List Rc} {Av : Option Addr}
def RecsN (F : Nat → Prop) (w V : World) (cb : Nat) (id : Int) (vec : List Int) (all l : List Rc) (A : Option Addr) (n c : Nat) (ps : List Pr) (w' : World) : Prop :=
 ps.map Prod.fst = l ∧ n = l.length ∧ n ≤ c ∧ Got V.heap.size w' A ps ∧ CN F w w' cb id vec all ∧ Below V.heap.size V w'
def WantP (F : Nat → Prop) (w V : World) (cb : Nat) (id : Int) (vec : List Int) (all : List Rc) (p : List Int) (e : Ending) (w' : World) : Prop :=
 (okP p ∧ p.length = 1 ∧ ∃ A m c, e = .returned (.tuple #[.slice A m c, .slice none 0 0, .bool true]) ∧ Hid (KidN F w V cb id vec all (kidsF all p) A m c w')) ∨
 (okP p ∧ p.length = 2 ∧ ∃ A n c ps, e = .returned (.tuple #[.slice none 0 0, .slice A n c, .bool true]) ∧ Hid (RecsN F w V cb id vec all (recsF all p) A n c ps w')) ∨
 (¬ (okP p ∧ (p.length = 1 ∨ p.length = 2)) ∧ e = .returned (.tuple #[.slice none 0 0, .slice none 0 0, .bool false]) ∧ Hid (CN F w w' cb id vec all) ∧ Below V.heap.size V w')
set_option maxRecDepth 100000 in
set_option maxHeartbeats 1000000 in
theorem CN.want_any (h : CN F w V cb id vec all) (Ap : Option Addr) (cp np : Nat) (p : List Int) (hnp : p.length = np) (hbig : np ≤ 140737488355328) (hr : Ns .i64 V V.heap.size Ap p) :
  Calls Tryz.prog 13 #[hd cb, .slice Ap np cp] V (WantP F w V cb id vec all p) := by
 have HCN := Lib.hid h
 obtain ⟨tb, Ft, Av, nv, cv, h⟩ := h
 obtain ⟨c0, c1, c2⟩ := h.cells
 have HC := Lib.hid h
 have K1 := Lib.hid (h.tree.kids h.few Ap cp np p hnp hbig hr)
 have K2 := Lib.hid (h.tree.recs h.few Ap cp np p hnp hbig hr)
 have HS := Lib.hid (And.intro hr hnp)
 have HNO : Hid (¬ (okP p ∧ (p.length = 1 ∨ p.length = 2)) → WantP F w V cb id vec all p (.returned (.tuple #[.slice none 0 0, .slice none 0 0, .bool false])) V) := Lib.hid fun hno => .inr (.inr ⟨hno, rfl, HCN, Below.refl _ _⟩)
 unfold hd at *
 clear h c0 c1 hr hnp
 go_enter Tryz.func13, Tryz.ntmps13
 go_wp2_with fail
 go_loop [11] (fun q => ∃ k : Nat, q = .int .i64 k ∧ k ≤ np ∧ Hid (∀ x ∈ p.take k, 0 ≤ x ∧ x < 16)) (fun q => np - (intOf q).toNat)
 case atStart => exact ⟨0, rfl, by omega, Lib.hid (by simp)⟩
 case round =>
  obtain ⟨k, rfl, hk, hst⟩ := hrel
  have hn := HS.out.2
  by_cases hlt : k < np
  ·have d1 : (0 : Int) ≤ (k : Int) := by omega
   have d2 : (k : Int) < (np : Int) := by omega
   have hbad := all_bad (R := fun x => 0 ≤ x ∧ x < 16) (0 : Int) (show k < p.length by omega)
   have hstep := all_step (R := fun x => 0 ≤ x ∧ x < 16) (0 : Int) (show k < p.length by omega) hst.out
   obtain ⟨pb, off, rfl, hpb, hc⟩ := HS.out.1 (by omega)
   have x0 := hc k (by omega)
   obtain ⟨x, hxx⟩ : ∃ x, p.getD k 0 = x := ⟨_, rfl⟩
   rw [hxx] at x0 hbad hstep
   by_cases cA : 0 ≤ x ∧ x < 16
   ·have HN := Lib.hid (hstep cA)
    obtain ⟨a1, a2⟩ := cA
    have e1 : decide (x < 0) = false := decide_eq_false (by omega)
    have e2 : decide (16 ≤ x) = false := decide_eq_false (by omega)
    clear hstep hbad hst hn hxx hc
    go_wp2_with fail
    go_round
    case rel => exact ⟨k + 1, rfl, by omega, HN⟩
    case measure => simp only [intOf]; omega
   ·have HN := Lib.hid (HNO.out fun h => by
     have := of_decide_eq_false (hbad cA)
     exact this fun y hy => h.1.1 y hy)
    clear hstep hbad hst hn hxx hc
    by_cases a1 : x < 0
    ·have e1 : decide (x < 0) = true := decide_eq_true a1
     clear cA
     go_wp2_with fail
     go_ret3
     exact HN.out
    ·have e1 : decide (x < 0) = false := decide_eq_false a1
     have a2 : 16 ≤ x := by omega
     have e2 : decide (16 ≤ x) = true := decide_eq_true a2
     clear cA
     go_wp2_with fail
     go_ret3
     exact HN.out
  ·have hkn : k = np := by omega
   have hall : ∀ x ∈ p, 0 ≤ x ∧ x < 16 := by
    have h1 := hst.out
    rw [List.take_of_length_le (by omega)] at h1
    exact h1
   clear hst
   subst hkn
   by_cases e1 : k = 1
   ·have HP := Lib.hid (And.intro (show okP p from ⟨hall, by omega⟩) (show p.length = 1 by omega))
    subst e1
    clear hall hn hlt hk
    go_wp2_with fail
    refine K1.out.mono ?_
    rintro e w3 ⟨A1, m1, c1', rfl, h3⟩
    have HF : Hid (WantP F w V cb id vec all p (.returned (.tuple #[.slice A1 m1 c1', .slice none 0 0, .bool true])) w3) := Lib.hid (.inl ⟨HP.out.1, HP.out.2, A1, m1, c1', rfl, Lib.hid (by
     obtain ⟨q1, q2, q3, q4, q5, q6⟩ := h3.out
     exact ⟨q1, q2, q3, q4, ⟨tb, Ft, Av, nv, cv, HC.out.turn q5 q6⟩, q6.mono fun k e => by rw [e]; exact HC.out.sub _ HC.out.tree.own⟩)⟩)
    clear h3 K1 K2 c2
    go_wp2_with fail
    go_ret3
    exact HF.out
   ·by_cases e2 : k = 2
    ·have HP := Lib.hid (And.intro (show okP p from ⟨hall, by omega⟩) (show p.length = 2 by omega))
     subst e2
     clear hall hn hlt hk e1
     go_wp2_with fail
     refine K2.out.mono ?_
     rintro e w3 ⟨A1, n1, c1', ps, rfl, h3⟩
     have HF : Hid (WantP F w V cb id vec all p (.returned (.tuple #[.slice none 0 0, .slice A1 n1 c1', .bool true])) w3) := Lib.hid (.inr (.inl ⟨HP.out.1, HP.out.2, A1, n1, c1', ps, rfl, Lib.hid (by
      obtain ⟨q1, q2, q3, q4, q5, q6⟩ := h3.out
      exact ⟨q1, q2, q3, q4, ⟨tb, Ft, Av, nv, cv, HC.out.chg (G := fun _ => False) (Chg.of_below q6) (fun _ _ h => h) fun _ h => h.elim⟩, q6⟩)⟩))
     clear h3 K1 K2 c2
     go_wp2_with fail
     go_ret3
     exact HF.out
    ·have HN := Lib.hid (HNO.out fun h => by omega)
     have f1 : ((k : Int) == 1) = false := by simp; omega
     have f2 : ((k : Int) == 2) = false := by simp; omega
     clear hall hn hlt hk e1 e2 K1 K2
     go_wp2_with fail
     go_ret3
     exact HN.out
end
end Pull
end Go.Proofs.YtkfdplfgaddkmaaGreat

/-
 The document's cut (layer 19).
-/
namespace Go.Proofs.YtkfdplfgaddkmaaGreat
namespace Pull
open Go.RowKit Blk Go.Maps Disk Tree Vers Num Ring Mend
open Go.Proofs.YtkfdplfgaddkmaaGreat.Code hiding Bn
attribute [local go_sem ↓] Go.wp_at_zero Go.wp_at_succ
theorem okR_own {r : Rc} (h : okR r) : r.1.size ≤ 140737488355328 ∧ r.2.length ≤ 512 ∧ ∀ v ∈ r.2, v.past.length ≤ 5864062014800 := by
 refine ⟨by have := h.2.1; omega, by have := h.2.2.1; omega, fun v hv => ?_⟩
 have h1 := (h.2.2.2.1.1 v hv).2.1
 unfold Span.Right at h1
 have := h1.1
 omega
def CopyTo (B : Nat) (l : List Rc) (n : Nat) (V : World) (v q : Value) (wr : World) : Prop :=
 ∃ (i : Nat) (A1 : Option Addr) (c1 : Nat), q = .int .i64 i ∧ i ≤ n ∧ v = .slice A1 i c1 ∧ Hid (∃ ps : List Pr, ps.map Prod.fst = l.take i ∧ ps.length = i ∧ RowR B wr.heap.size wr (.slice A1 i c1) ps ∧ Below B V wr)
def OwnRs (l : List Rc) (n : Nat) (V : World) (e : Ending) (w' : World) : Prop := ∃ A c ps, e = .returned (.slice A n c) ∧ Hid (ps.map Prod.fst = l ∧ ps.length = n ∧ RowR V.heap.size w'.heap.size w' (.slice A n c) ps) ∧ Below V.heap.size V w'
set_option maxRecDepth 100000 in
set_option maxHeartbeats 4000000 in
theorem copies_any (A : Option Addr) (c n : Nat) (l : List Rc) (hn : l.length = n) (hbig : n ≤ 3518437208882) (hok : ∀ r ∈ l, okR r) (V : World) (hr : Rs V 0 V.heap.size A l) :
  Calls Tryz.prog 48 #[.slice A n c] V (OwnRs l n V) := by
 obtain ⟨i0, hi0, hz0, hz1, hz2⟩ := info_parts info_rec'
 have HP := Lib.hid (And.intro hn (And.intro (rs_rb hr) hok))
 clear hn hr hok
 have HI : Hid (CopyTo V.heap.size l n V (.slice none 0 0) (.int .i64 0) V) := Lib.hid ⟨0, none, 0, rfl, by omega, rfl, Lib.hid ⟨[], by simp, rfl, rowR_nil _ _ _, Below.refl _ _⟩⟩
 go_enter Tryz.func48, Tryz.ntmps48
 go_wp2_with fail
 go_loopw [3, 4] (fun v q wr => CopyTo V.heap.size l n V v q wr) (fun _ q _ => n - (intOf q).toNat)
 case atStart => exact HI.out
 case round =>
  clear HI
  obtain ⟨i, A1, c1, rfl, hi, rfl, hst⟩ := hrel
  obtain ⟨ps, hst⟩ := hst.out
  have hst := Lib.hid hst
  by_cases hlt : i < n
  ·have d3 : (0 : Int) ≤ (i : Int) := by omega
   have d4 : (i : Int) < (n : Int) := by omega
   obtain ⟨pb, off, A4, c4, rfl, _, hbB, k0, k1, k2, k3⟩ := HP.out.2.1.at HP.out.1 (Nat.le_refl _) hst.out.2.2.2 hlt rfl
   have hia : i < l.length := by rw [HP.out.1]; exact hlt
   obtain ⟨r, hrr⟩ : ∃ r, l.getD i r0 = r := ⟨_, rfl⟩
   have hmem := getD_mem hia
   have hT := Mend.take_at hia
   rw [hrr] at k0 k1 k2 k3 hmem hT
   have hzr := okR_own (HP.out.2.2 _ hmem)
   obtain ⟨key, lv⟩ := r
   simp only at k0 k1 k2 k3 hzr
   obtain ⟨ml, hml⟩ : ∃ ml, lv.length = ml := ⟨_, rfl⟩
   rw [hml] at k1 k3 hzr
   have hsz := hst.out.2.2.2.size
   have HO := Lib.hid (Own.own_any key A4 c4 ml lv hml (by omega) hzr.2.2 wr (k2.more hsz))
   have HK := Lib.hid (And.intro hT hml)
   clear k2 k3 hia hrr hmem hzr hT hml
   go_wp2_with fail
   refine HO.out.mono ?_
   rintro e2 w2 ⟨A5, c5, pv, rfl, h5, b5⟩
   have hro := hst.out.2.2.1.1
   rw [hst.out.2.1] at hro
   have hro := own_below hro b5 (Nat.le_refl _)
   have hl2 : (i + 1) * 40 ≤ 140737488355328 := by omega
   have hsz3 : V.heap.size ≤ w2.heap.size := Nat.le_trans hsz b5.size
   have hlm : pv.length = ml := by rw [← HK.out.2, ← h5.out.1, List.length_map]
   have HR2 := Lib.hid (And.intro hst.out.2.2.1 (And.intro h5.out (And.intro hlm (And.intro b5 (hst.out.2.2.2.trans (b5.mono hsz))))))
   clear h5 b5 hlm k0 k1 HO
   have hml := HK.out.2
   go_wp2_with (at_builtin; refine wpList_append_r _ rfl (.tmp 11) (.tmp 17) 23 rfl V.heap.size 70 i0 _ 40 Tryz.underlying23 hi0 hz0 hz1 hz2 rfl _ i ps rfl hro ((key, lv), A5, c5) ml hml 1 rfl hl2 (by omega) hsz3 ?_; intro v4 w4 o4 g4 at4; obtain ⟨A6, c6, rfl⟩ := own_form o4)
   have HF : Hid (∃ ps : List Pr, ps.map Prod.fst = l.take (i + 1) ∧ ps.length = i + 1 ∧ RowR V.heap.size w4.heap.size w4 (.slice A6 (i + 1) c6) ps ∧ Below V.heap.size V w4) := Lib.hid ⟨ps ++ [((key, lv), A5, c5)], by
    rw [List.map_append, hst.out.1, HK.out.1]
    rfl, by simp [hst.out.2.1], HR2.out.1.add (fun k _ hk => HR2.out.2.2.2.1.block k hk) HR2.out.2.2.2.1.size ⟨by
     have h9 := HR2.out.2.1.2.1
     rw [HR2.out.2.2.1] at h9
     simp only [hml]
     exact (own_low h9).1, pv, HR2.out.2.1.1, by simp only [hml]; exact HR2.out.2.1.2⟩ hsz (by rw [hst.out.2.1]; exact o4) g4 at4, HR2.out.2.2.2.2.grown g4 hsz3 (fun j hj => (hro.lt j hj).1)⟩
   clear o4 g4 at4 hro HR2 HK hst
   go_roundw
   case rel => exact ⟨i + 1, A6, c6, by go_num, by omega, rfl, HF⟩
   case measure => simp only [intOf]; omega
  ·have hkm : i = n := by omega
   subst hkm
   have hfull : l.take i = l := List.take_of_length_le (by have := HP.out.1; omega)
   have HF : Hid (OwnRs l i V (.returned (.slice A1 i c1)) wr) := Lib.hid ⟨A1, c1, ps, rfl, Lib.hid ⟨by rw [hst.out.1, hfull], hst.out.2.1, hst.out.2.2.1⟩, hst.out.2.2.2⟩
   clear hst hfull
   go_wp2_with fail
   go_ret
   exact HF.out
structure DC (base : Nat) (V : World) (mb : Nat) (id : Int) (vec : List Int) (all : List Rc) (Av : Option Addr) (nv cv : Nat) (A : Option Addr) (m c : Nat) (ps : List Pr) : Prop where
 blk : Bn mb 41 [.int .i64 id, .slice Av nv cv, .slice A m c] V
 new : base ≤ mb
 len : vec.length = nv
 vfew : nv ≤ 16
 row : V.ownsRow base 2 1 (.slice Av nv cv) nv (nums .i64 vec)
 alls : ps.map Prod.fst = all
 alen : ps.length = m
 arow : RowR base V.heap.size V (.slice A m c) ps
 ok : ∀ r ∈ all, okR r
section
variable {base mb nv cv m c : Nat} {V V' : World} {id : Int} {vec : List Int} {all : List Rc} {Av A : Option Addr} {ps : List Pr} {G : Nat → Prop}
theorem DC.chg (h : DC base V mb id vec all Av nv cv A m c ps) (hc : Chg G V V') (hG : ∀ k, base ≤ k → k < V.heap.size → ¬ G k) : DC base V' mb id vec all Av nv cv A m c ps :=
 ⟨h.blk.same (hc.block _ h.blk.lt (hG _ h.new h.blk.lt)), h.new, h.len, h.vfew, own_keep h.row (fun g hg => hc.block g (h.row.lt g hg).2 (hG g (h.row.lt g hg).1 (h.row.lt g hg).2)), h.alls, h.alen, (h.arow.keep fun k hk hk2 => hc.block k hk2 (hG k hk hk2)).more hc.size, h.ok⟩
theorem DC.below (h : DC base V mb id vec all Av nv cv A m c ps) (hb : Below V.heap.size V V') : DC base V' mb id vec all Av nv cv A m c ps := h.chg (G := fun _ => False) (Chg.of_below hb) fun _ _ _ h => h
theorem DC.cells (h : DC base V mb id vec all Av nv cv A m c ps) : V.cell? ⟨mb, 0, none⟩ = some (.int .i64 id) ∧ V.cell? ⟨mb, 1, none⟩ = some (.slice Av nv cv) ∧ V.cell? ⟨mb, 2, none⟩ = some (.slice A m c) := by
 have c0 := h.blk.cell 0
 have c1 := h.blk.cell 1
 have c2 := h.blk.cell 2
 simp only [List.getElem?_cons_zero, List.getElem?_cons_succ] at c0 c1 c2
 exact ⟨c0, c1, c2⟩
theorem DC.rs (h : DC base V mb id vec all Av nv cv A m c ps) : Rs V 0 V.heap.size A all := by
 have h1 := (h.arow.rs (Nat.le_refl _) fun p hp => by
  have h2 := okR_own (h.ok p.1 (by rw [← h.alls]; exact List.mem_map_of_mem hp))
  exact ⟨h2.1, by omega⟩).less (Nat.zero_le _)
 rwa [h.alls] at h1
theorem DC.alln (h : DC base V mb id vec all Av nv cv A m c ps) : all.length = m := by rw [← h.alls, List.length_map, h.alen]
theorem DC.ns (h : DC base V mb id vec all Av nv cv A m c ps) : Ns .i64 V V.heap.size Av vec := by
 have h1 := h.row
 have h2 := h.len
 subst h2
 exact own_ns h1
end
def RefC (V : World) (id : Int) (vec : List Int) (l : List Rc) (e : Ending) (w' : World) : Prop :=
 (Vect.RightV vec ∧ okL l ∧ ∃ mb Av nv cv A m c ps, e = .returned (.tuple #[.pointer (some ⟨mb, 0, none⟩), .int .i64 0]) ∧ Hid (DC V.heap.size w' mb id vec (layF l) Av nv cv A m c ps) ∧ Below V.heap.size V w') ∨
 (¬ (Vect.RightV vec ∧ okL l) ∧ e = .returned (.tuple #[.pointer none, .int .i64 1]) ∧ Below V.heap.size V w')
set_option maxRecDepth 100000 in
set_option maxHeartbeats 1000000 in
theorem refcut_any (V : World) (id : Int) (Av Al : Option Addr) (nv cv n c : Nat) (vec : List Int) (l : List Rc) (hnv : vec.length = nv) (hn : l.length = n) (hvb : nv ≤ 140737488355328) (hbig : n ≤ 3518437208882) (hrv : Ns .i64 V V.heap.size Av vec) (hr : Rs V 0 V.heap.size Al l) :
  Calls Tryz.prog 11 #[.int .i64 id, .slice Av nv cv, .slice Al n c] V (RefC V id vec l) := by
 obtain ⟨i0, hi0, hz0, hz1, hz2⟩ := info_parts info_i64C
 have H1 := Lib.hid (held_up Al c n l hn hbig V hr)
 have H2 : Hid (∀ W, Below V.heap.size V W → Calls Tryz.prog 47 #[.slice Av nv cv] W fun e w' => e = .returned (.bool (decide (Vect.RightV vec))) ∧ Below W.heap.size W w') := Lib.hid fun W hW => Vect.ref_right_v Av cv nv vec hnv W ((hrv.below hW).more hW.size) hvb
 have HP := Lib.hid (And.intro hnv hrv)
 clear hnv hn hvb hrv hr
 go_enter Tryz.func11, Tryz.ntmps11
 go_wp2_with fail
 refine H1.out.mono ?_
 rintro e w1 (⟨hok, Aa, m, ca, rfl, h1, b1⟩ | ⟨hno, rfl, b1⟩)
 ·have K2 := H2.out w1 b1
  have HA := Lib.hid (And.intro h1.out (And.intro b1 hok))
  clear h1 b1 hok H1 H2
  by_cases hv : Vect.RightV vec
  ·rw [decide_eq_true hv] at K2
   have K2 := Lib.hid K2
   have HV := Lib.hid hv
   have hv16 : nv ≤ 16 := by rw [← HP.out.1]; exact hv.2.1
   clear hv
   go_wp2_with fail
   refine K2.out.mono ?_
   rintro e w2 ⟨rfl, b2⟩
   have b12 : Below V.heap.size V w2 := HA.out.2.1.trans (b2.mono HA.out.2.1.size)
   have ho := World.ownsRow_lit (base := w2.heap.size) (e := 2) (size := 1) w2 #[] 0 (Nat.le_refl _) (by unfold maxLen; omega) rfl
   have bA : Below w2.heap.size w2 (w2.alloc (.cells #[] 2)) := (Below.refl _ w2).alloc (Nat.le_refl _) _
   have bA2 := b12.trans (bA.mono b12.size)
   have q2 : Ns .i64 (w2.alloc (.cells #[] 2)) (w2.alloc (.cells #[] 2)).heap.size Av vec := (HP.out.2.below bA2).more bA2.size
   have hrs : Rs w2 0 w2.heap.size Aa (heldF l) := (HA.out.1.2.2.2.below b2).more b2.size
   have H3 : Hid (∀ W, Below w2.heap.size w2 W → Calls Tryz.prog 48 #[.slice Aa m ca] W (OwnRs (heldF l) m W)) := Lib.hid fun W hW =>
    copies_any Aa ca m (heldF l) HA.out.1.1 (by have := HA.out.1.2.2.1; omega) (fun r hr => okL_held HA.out.2.2 r hr) W ((hrs.below hW).more hW.size)
   have HB := Lib.hid (And.intro b12 bA)
   clear b2 b12 bA bA2 hrs K2
   have hnv := HP.out.1
   go_wp2_with (at_builtin; refine wpList_append_ns _ rfl (.tmp 23) (.tmp 24) 22 rfl w2.heap.size 2 i0 _ 8 Tryz.underlying22 hi0 hz0 hz1 hz2 rfl _ 0 [] rfl ho .i64 _ Av nv cv vec hnv rfl q2 (by omega) (by omega) (by simp) ?_; intro v3 w3 o3 g3 at3; obtain ⟨A3, c3, rfl⟩ := own_form o3; rw [Nat.zero_add, List.nil_append] at o3; have b3 : Below w2.heap.size w2 w3 := HB.out.2.grown g3 (by simp) (fun j hj => (ho.lt j hj).1); have K3 := Lib.hid (H3.out w3 b3); have H3x := Lib.hid (And.intro o3 b3); clear o3 g3 at3 b3)
   refine K3.out.mono ?_
   rintro e w4 ⟨A4, c4, ps, rfl, h4, b4⟩
   have HF : Hid (RefC V id vec l (.returned (.tuple #[.pointer (some ⟨w4.heap.size, 0, none⟩), .int .i64 0])) (w4.alloc (.cells #[.int .i64 id, .slice A3 nv c3, .slice A4 m c4] 41))) := Lib.hid (by
    have s0 := HB.out.1.size
    have s3 := H3x.out.2.size
    have s4 := b4.size
    have b5 : Below w3.heap.size w3 (w4.alloc (.cells #[.int .i64 id, .slice A3 nv c3, .slice A4 m c4] 41)) := b4.alloc s4 _
    have b6 : Below V.heap.size V (w4.alloc (.cells #[.int .i64 id, .slice A3 nv c3, .slice A4 m c4] 41)) := (HB.out.1.trans (H3x.out.2.mono s0)).trans (b5.mono (by omega))
    have b7 : Below w4.heap.size w4 (w4.alloc (.cells #[.int .i64 id, .slice A3 nv c3, .slice A4 m c4] 41)) := (Below.refl _ w4).alloc (Nat.le_refl _) _
    refine .inl ⟨HV.out, HA.out.2.2, _, _, _, _, _, _, _, ps, rfl, Lib.hid ⟨World.alloc_heap_new _ _, by omega, HP.out.1, hv16, own_base (own_below H3x.out.1 b5 (Nat.le_refl _)) s0, h4.out.1, h4.out.2.1, ?_, fun r hr => okL_held HA.out.2.2 r hr⟩, b6⟩
    exact ((h4.out.2.2.keep fun k _ hk => b7.block k hk).more b7.size).less (by omega))
   clear h4 b4 K3 H3x H3 HB ho q2
   go_wp2_with fail
   go_ret2
   exact HF.out
  ·rw [decide_eq_false hv] at K2
   have K2 := Lib.hid K2
   have HV := Lib.hid hv
   clear hv
   go_wp2_with fail
   refine K2.out.mono ?_
   rintro e w2 ⟨rfl, b2⟩
   have HF : Hid (RefC V id vec l (.returned (.tuple #[.pointer none, .int .i64 1])) w2) := Lib.hid (.inr ⟨fun h => HV.out h.1, rfl, HA.out.2.1.trans (b2.mono HA.out.2.1.size)⟩)
   clear b2 K2
   go_wp2_with fail
   go_ret2
   exact HF.out
 ·have HF : Hid (RefC V id vec l (.returned (.tuple #[.pointer none, .int .i64 1])) w1) := Lib.hid (.inr ⟨fun h => hno h.2, rfl, b1⟩)
  clear b1 H1 H2 hno
  go_wp2_with fail
  go_ret2
  exact HF.out
section
variable {base mb nv cv m c : Nat} {V : World} {id : Int} {vec : List Int} {all : List Rc} {Av A : Option Addr} {ps : List Pr}
def RefW (all : List Rc) (p : List Int) (V : World) (e : Ending) (w' : World) : Prop :=
 (okP p ∧ p.length = 1 ∧ ∃ A m c, e = .returned (.tuple #[.slice A m c, .slice none 0 0, .bool true]) ∧ Hid ((kidsF all p).length = m ∧ Ns .u64 w' w'.heap.size A (kidsF all p)) ∧ Below V.heap.size V w') ∨
 (okP p ∧ p.length = 2 ∧ ∃ A m c, e = .returned (.tuple #[.slice none 0 0, .slice A m c, .bool true]) ∧ Hid ((recsF all p).length = m ∧ Rs w' 0 w'.heap.size A (recsF all p)) ∧ Below V.heap.size V w') ∨
 (¬ (okP p ∧ (p.length = 1 ∨ p.length = 2)) ∧ e = .returned (.tuple #[.slice none 0 0, .slice none 0 0, .bool false]) ∧ Below V.heap.size V w')
theorem newH_ns {zs : List Int} {w w' : World} {e : Ending} (h : NewH zs w e w') : ∃ A m c, e = .returned (.slice A m c) ∧ zs.length = m ∧ Ns .u64 w' w'.heap.size A zs ∧ Below w.heap.size w w' := by
 obtain ⟨A, m, c, he, h1, hb⟩ := h
 obtain ⟨h2, _, h3⟩ := h1.out
 refine ⟨A, m, c, he, h2, ?_, hb⟩
 subst h2
 exact own_ns h3
set_option maxRecDepth 100000 in
set_option maxHeartbeats 1000000 in
theorem DC.want (h : DC base V mb id vec all Av nv cv A m c ps) (hm : m ≤ 3518437208882) (Ap : Option Addr) (cp np : Nat) (p : List Int) (hnp : p.length = np) (hbig : np ≤ 140737488355328) (hr : Ns .i64 V V.heap.size Ap p) :
  Calls Tryz.prog 14 #[.pointer (some ⟨mb, 0, none⟩), .slice Ap np cp] V (RefW all p V) := by
 obtain ⟨c0, c1, c2⟩ := h.cells
 have H0 := path_any Ap cp np p hnp hbig V hr
 have H1 := Lib.hid (ref_kids_tell V A c m all h.alln hm h.ok h.rs Ap cp np p hnp hbig hr)
 have H2 := Lib.hid (ref_recs_tell A Ap c cp np m all p h.alln hm hnp hbig V h.rs hr)
 have HP := Lib.hid hnp
 clear h c0 c1 hr hnp
 by_cases hok : okP p
 ·rw [decide_eq_true hok] at H0
  have H0 := Lib.hid H0
  have HK := Lib.hid hok
  clear hok
  by_cases e1 : np = 1
  ·subst e1
   go_enter Tryz.func14, Tryz.ntmps14
   go_wp2_with fail
   refine H0.out.mono ?_
   rintro e w1 ⟨rfl, rfl⟩
   go_wp2_with fail
   refine H1.out.mono ?_
   intro e w2 h2
   obtain ⟨A2, m2, c2', rfl, g1, g2, g3⟩ := newH_ns h2
   have HF : Hid (RefW all p V (.returned (.tuple #[.slice A2 m2 c2', .slice none 0 0, .bool true])) w2) := Lib.hid (.inl ⟨HK.out, HP.out, A2, m2, c2', rfl, Lib.hid ⟨g1, g2⟩, g3⟩)
   clear h2 g1 g2 g3 H1 H2 c2
   go_wp2_with fail
   go_ret3
   exact HF.out
  ·by_cases e2 : np = 2
   ·subst e2
    go_enter Tryz.func14, Tryz.ntmps14
    go_wp2_with fail
    refine H0.out.mono ?_
    rintro e w1 ⟨rfl, rfl⟩
    go_wp2_with fail
    refine H2.out.mono ?_
    intro e w2 h2
    obtain ⟨A2, m2, c2', rfl, g1, g2, g3⟩ := newS_rs h2
    have HF : Hid (RefW all p V (.returned (.tuple #[.slice none 0 0, .slice A2 m2 c2', .bool true])) w2) := Lib.hid (.inr (.inl ⟨HK.out, HP.out, A2, m2, c2', rfl, Lib.hid ⟨g1, g2⟩, g3⟩))
    clear h2 g1 g2 g3 H1 H2 c2
    go_wp2_with fail
    go_ret3
    exact HF.out
   ·have hz : np = 0 := by have := HK.out.2; have := HP.out; omega
    subst hz
    have HF : Hid (RefW all p V (.returned (.tuple #[.slice none 0 0, .slice none 0 0, .bool false])) V) := Lib.hid (.inr (.inr ⟨fun h => by have := HP.out; have := h.2; omega, rfl, Below.refl _ _⟩))
    clear H1 H2 c2
    go_enter Tryz.func14, Tryz.ntmps14
    go_wp2_with fail
    refine H0.out.mono ?_
    rintro e w1 ⟨rfl, rfl⟩
    go_wp2_with fail
    go_ret3
    exact HF.out
 ·rw [decide_eq_false hok] at H0
  have H0 := Lib.hid H0
  have HF : Hid (RefW all p V (.returned (.tuple #[.slice none 0 0, .slice none 0 0, .bool false])) V) := Lib.hid (.inr (.inr ⟨fun h => hok h.1, rfl, Below.refl _ _⟩))
  clear H1 H2 c2 hok
  go_enter Tryz.func14, Tryz.ntmps14
  go_wp2_with fail
  refine H0.out.mono ?_
  rintro e w1 ⟨rfl, rfl⟩
  go_wp2_with fail
  go_ret3
  exact HF.out
end
end Pull
end Go.Proofs.YtkfdplfgaddkmaaGreat

/-
 What both cuts have at a path (layer 19).
-/
namespace Go.Proofs.YtkfdplfgaddkmaaGreat
namespace Pull
open Go.RowKit Blk Go.Maps Disk Tree Vers Num Ring Mend
open Go.Proofs.YtkfdplfgaddkmaaGreat.Code hiding Bn
def wantA (all : List Rc) (p : List Int) : List Int × List Rc × Bool :=
 if okP p ∧ p.length = 1 then (kidsF all p, [], true) else if okP p ∧ p.length = 2 then ([], recsF all p, true) else ([], [], false)
def Ans (W : List Int × List Rc × Bool) (e : Ending) (w' : World) : Prop := ∃ Ah nh ch Al nl cl, e = .returned (.tuple #[.slice Ah nh ch, .slice Al nl cl, .bool W.2.2]) ∧ Hid (W.1.length = nh ∧ W.2.1.length = nl ∧ nh ≤ 16 ∧ nl ≤ 3518437208882 ∧ Ns .u64 w' w'.heap.size Ah W.1 ∧ Rs w' 0 w'.heap.size Al W.2.1)
theorem ans_open {zs : List Int} {ls : List Rc} {b : Bool} {e : Ending} {w' : World} (h : Ans (zs, ls, b) e w') : ∃ Ah nh ch Al nl cl, e = .returned (.tuple #[.slice Ah nh ch, .slice Al nl cl, .bool b]) ∧ Hid (zs.length = nh ∧ ls.length = nl ∧ nh ≤ 16 ∧ nl ≤ 3518437208882 ∧ Ns .u64 w' w'.heap.size Ah zs ∧ Rs w' 0 w'.heap.size Al ls) := h
section
variable {F : Nat → Prop} {w V w' : World} {cb : Nat} {id : Int} {vec : List Int} {all : List Rc} {p : List Int} {e : Ending}
theorem ans_prog (h : WantP F w V cb id vec all p e w') (hf : all.length ≤ 3518437208882) : Ans (wantA all p) e w' ∧ CN F w w' cb id vec all ∧ Chg F V w' := by
 unfold wantA
 rcases h with ⟨h1, h2, A, m, c, rfl, h3⟩ | ⟨h1, h2, A, n, c, ps, rfl, h3⟩ | ⟨h1, rfl, h2, h3⟩
 ·obtain ⟨q1, q2, q3, q4, q5, q6⟩ := h3.out
  rw [if_pos ⟨h1, h2⟩]
  exact ⟨⟨A, m, c, none, 0, 0, rfl, Lib.hid ⟨q1, rfl, by rw [← q1]; exact kids_len16 _ _, by omega, q3, rs_nil⟩⟩, q5, q6⟩
 ·obtain ⟨q1, q2, q3, q4, q5, q6⟩ := h3.out
  rw [if_neg (by omega), if_pos ⟨h1, h2⟩]
  refine ⟨⟨none, 0, 0, A, n, c, rfl, Lib.hid ⟨rfl, q2.symm, by omega, ?_, ns_nil, ?_⟩⟩, q5, (Chg.of_below q6)⟩
  ·have := recs_len all p
   omega
  ·have h := q4.rs.less (Nat.zero_le _)
   rwa [q1] at h
 ·rw [if_neg (fun h => h1 ⟨h.1, .inl h.2⟩), if_neg (fun h => h1 ⟨h.1, .inr h.2⟩)]
  exact ⟨⟨none, 0, 0, none, 0, 0, rfl, Lib.hid ⟨rfl, rfl, by omega, by omega, ns_nil, rs_nil⟩⟩, h2.out, (Chg.of_below h3)⟩
theorem ans_doc (h : RefW all p V e w') (hf : all.length ≤ 3518437208882) : Ans (wantA all p) e w' ∧ Below V.heap.size V w' := by
 unfold wantA
 rcases h with ⟨h1, h2, A, m, c, rfl, h3, h4⟩ | ⟨h1, h2, A, n, c, rfl, h3, h4⟩ | ⟨h1, rfl, h3⟩
 ·rw [if_pos ⟨h1, h2⟩]
  exact ⟨⟨A, m, c, none, 0, 0, rfl, Lib.hid ⟨h3.out.1, rfl, by rw [← h3.out.1]; exact kids_len16 _ _, by omega, h3.out.2, rs_nil⟩⟩, h4⟩
 ·rw [if_neg (by omega), if_pos ⟨h1, h2⟩]
  refine ⟨⟨none, 0, 0, A, n, c, rfl, Lib.hid ⟨rfl, h3.out.1, by omega, ?_, ns_nil, h3.out.2⟩⟩, h4⟩
  have := recs_len all p
  have := h3.out.1
  omega
 ·rw [if_neg (fun h => h1 ⟨h.1, .inl h.2⟩), if_neg (fun h => h1 ⟨h.1, .inr h.2⟩)]
  exact ⟨⟨none, 0, 0, none, 0, 0, rfl, Lib.hid ⟨rfl, rfl, by omega, by omega, ns_nil, rs_nil⟩⟩, h3⟩
end
section
variable {P : Program} {w : World}
end
end Pull
end Go.Proofs.YtkfdplfgaddkmaaGreat

/-
 A pull in memory (layer 19).
-/
namespace Go.Proofs.YtkfdplfgaddkmaaGreat
namespace Pull
open Go.RowKit Blk Go.Maps Disk Tree Vers Num Ring Mend
open Go.Proofs.YtkfdplfgaddkmaaGreat.Code hiding Bn
attribute [local go_sem ↓] Go.wp_at_zero Go.wp_at_succ
def HoldP (F M : Nat → Prop) (w : World) (D : Vl) (st : List Rc) : Prop := ∀ k, (find st k = none ∧ find D k = none) ∨ ∃ lv A c L B, find st k = some lv ∧ find D k = some (.slice A lv.length c) ∧ Vs w L B A lv ∧ lv.length ≤ c ∧ B ≤ w.heap.size ∧ ∀ j, L ≤ j → j < B → F j ∧ ¬ M j
section
variable {F F' M M' : Nat → Prop} {w w' : World} {D : Vl} {st : List Rc}
theorem HoldP.keep (h : HoldP F M w D st) (hs : w.heap.size ≤ w'.heap.size) (hk : ∀ j, j < w.heap.size → F j → ¬ M j → w'.heap[j]? = w.heap[j]?) : HoldP F M w' D st := fun k => by
 rcases h k with h | ⟨lv, A, c, L, B, h1, h2, h3, h4, h5, h6⟩
 ·exact .inl h
 ·exact .inr ⟨lv, A, c, L, B, h1, h2, h3.keep fun p hp hq => World.cell?_of_block (hk _ (by omega) (h6 _ hp hq).1 (h6 _ hp hq).2), h4, by omega, h6⟩
theorem HoldP.mono (h : HoldP F M w D st) (hF : ∀ j, F j → F' j) (hM : ∀ j, j < w.heap.size → F j → M' j → M j) : HoldP F' M' w D st := fun k => by
 rcases h k with h | ⟨lv, A, c, L, B, h1, h2, h3, h4, h5, h6⟩
 ·exact .inl h
 ·exact .inr ⟨lv, A, c, L, B, h1, h2, h3, h4, h5, fun j hj hjB => ⟨hF j (h6 j hj hjB).1, fun e => (h6 j hj hjB).2 (hM j (by omega) (h6 j hj hjB).1 e)⟩⟩
theorem HoldP.put (h : HoldP F M w D st) {key : Nm} {lv : List Vr} {A : Option Addr} {c m L B : Nat} (hm : lv.length = m) (hv : Vs w L B A lv) (hc : m ≤ c) (hB : B ≤ w.heap.size) (hF : ∀ j, L ≤ j → j < B → F j ∧ ¬ M j) : HoldP F M w (wit D key (.slice A m c)) (wit st key lv) := fun k => by
 rw [find_wit, find_wit]
 by_cases hk : k = key
 ·rw [if_pos hk, if_pos hk]
  exact .inr ⟨lv, A, c, L, B, rfl, by rw [hm], hv, by omega, hB, hF⟩
 ·rw [if_neg hk, if_neg hk]
  exact h k
theorem HoldP.drop (h : HoldP F M w D st) (key : Nm) : HoldP F M w (wout D key) (wout st key) := fun k => by
 rw [find_wout, find_wout]
 by_cases hk : k = key
 ·rw [if_pos hk, if_pos hk]
  exact .inl ⟨rfl, rfl⟩
 ·rw [if_neg hk, if_neg hk]
  exact h k
end
def Mp (pb tb mb : Nat) (v : Value) (k : Nat) : Prop := k = pb ∨ k = tb ∨ k = mb ∨ v.ownBlock = some k
structure PI (F : Nat → Prop) (w V : World) (pb : Nat) (id : Int) (own : List Rc) (bg : Bool) (vec : List Int) (W : List (List Int)) (st : List Rc) (tb : Nat) (Ft : Nat → Prop) (mb : Nat) (Av : Option Addr) (nv cv : Nat) (Aw : Option Addr) (nw cw : Nat) (D : Vl) : Prop where
 blk : Bn pb 96 [.int .i64 id, hd tb, .bool bg, .slice Av nv cv, .slice Aw nw cw, .map (some mb)] V
 tree : On Ft w V tb own
 len : vec.length = nv
 row : V.ownsRow w.heap.size 2 1 (.slice Av nv cv) nv (nums .i64 vec)
 wlen : W.length = nw
 want : V.ownsRow w.heap.size 101 3 (.slice Aw nw cw) nw (pcells W)
 map : MI V mb D
 hold : HoldP F (Mp pb tb mb (.slice Aw nw cw)) V D st
 sub : ∀ k, Ft k → F k
 notb : ¬ Ft pb ∧ ¬ Ft mb
 vown : ∀ g, (Value.slice Av nv cv).ownBlock = some g → F g ∧ ¬ Ft g
 wown : ∀ g, (Value.slice Aw nw cw).ownBlock = some g → F g ∧ ¬ Ft g
 mown : F mb
 hpb : F pb
 lt : ∀ k, F k → k < V.heap.size
 new : ∀ k, F k → w.heap.size ≤ k
 old : Below w.heap.size w V
 few : own.length ≤ 3518437208882
 vfew : nv ≤ 16
 wfew : nw ≤ 1024
 lst : Lst st
 dlen : D.length ≤ st.length
def PJ (F : Nat → Prop) (w V : World) (pb : Nat) (id : Int) (own : List Rc) (bg : Bool) (vec : List Int) (W : List (List Int)) (st : List Rc) : Prop := ∃ tb Ft mb Av nv cv Aw nw cw D, PI F w V pb id own bg vec W st tb Ft mb Av nv cv Aw nw cw D
section
variable {F G Ft : Nat → Prop} {w V V' : World} {pb tb mb nv cv nw cw : Nat} {id : Int} {vec : List Int} {own st : List Rc} {bg : Bool} {W : List (List Int)} {Av Aw : Option Addr} {D : Vl}
theorem PI.chg (h : PI F w V pb id own bg vec W st tb Ft mb Av nv cv Aw nw cw D) (hc : Chg G V V') (hG : ∀ k, F k → ¬ G k) (hw : ∀ k, G k → w.heap.size ≤ k) : PI F w V' pb id own bg vec W st tb Ft mb Av nv cv Aw nw cw D :=
 ⟨h.blk.same (hc.block _ h.blk.lt (hG _ h.hpb)), h.tree.chg hc (fun k hk => hG k (h.sub k hk)) hw, h.len, own_keep h.row (fun g hg => hc.block g (h.row.lt g hg).2 (hG g (h.vown g hg).1)), h.wlen, own_keep h.want (fun g hg => hc.block g (h.want.lt g hg).2 (hG g (h.wown g hg).1)), h.map.same (hc.block _ h.map.lt (hG _ h.mown)), h.hold.keep hc.size fun j hj hF _ => hc.block j hj (hG j hF), h.sub, h.notb, h.vown, h.wown, h.mown, h.hpb, fun k hk => Nat.lt_of_lt_of_le (h.lt k hk) hc.size, h.new, h.old.trans (hc.below hw h.old.size), h.few, h.vfew, h.wfew, h.lst, h.dlen⟩
theorem PI.below (h : PI F w V pb id own bg vec W st tb Ft mb Av nv cv Aw nw cw D) (hb : Below V.heap.size V V') : PI F w V' pb id own bg vec W st tb Ft mb Av nv cv Aw nw cw D := h.chg (G := fun _ => False) (Chg.of_below hb) (fun _ _ h => h) fun _ h => h.elim
theorem PI.turn (h : PI F w V pb id own bg vec W st tb Ft mb Av nv cv Aw nw cw D) (ht : On Ft w V' tb own) (hc : Chg (fun k => k = tb) V V') : PI F w V' pb id own bg vec W st tb Ft mb Av nv cv Aw nw cw D := by
 have htb := h.tree.own
 exact ⟨h.blk.same (hc.block _ h.blk.lt fun e => h.notb.1 (e ▸ htb)), ht, h.len, own_keep h.row (fun g hg => hc.block g (h.row.lt g hg).2 fun e => (h.vown g hg).2 (e ▸ htb)), h.wlen, own_keep h.want (fun g hg => hc.block g (h.want.lt g hg).2 fun e => (h.wown g hg).2 (e ▸ htb)), h.map.same (hc.block _ h.map.lt fun e => h.notb.2 (e ▸ htb)), h.hold.keep hc.size fun j hj _ hM => hc.block j hj fun e => hM (.inr (.inl e)), h.sub, h.notb, h.vown, h.wown, h.mown, h.hpb, fun k hk => Nat.lt_of_lt_of_le (h.lt k hk) hc.size, h.new, h.old.trans (hc.below (fun k e => by rw [e]; exact h.new _ (h.sub _ htb)) h.old.size), h.few, h.vfew, h.wfew, h.lst, h.dlen⟩
theorem PI.cells (h : PI F w V pb id own bg vec W st tb Ft mb Av nv cv Aw nw cw D) : V.cell? ⟨pb, 0, none⟩ = some (.int .i64 id) ∧ V.cell? ⟨pb, 1, none⟩ = some (hd tb) ∧ V.cell? ⟨pb, 2, none⟩ = some (.bool bg) ∧ V.cell? ⟨pb, 3, none⟩ = some (.slice Av nv cv) ∧ V.cell? ⟨pb, 4, none⟩ = some (.slice Aw nw cw) ∧ V.cell? ⟨pb, 5, none⟩ = some (.map (some mb)) := by
 have c0 := h.blk.cell 0
 have c1 := h.blk.cell 1
 have c2 := h.blk.cell 2
 have c3 := h.blk.cell 3
 have c4 := h.blk.cell 4
 have c5 := h.blk.cell 5
 simp only [List.getElem?_cons_zero, List.getElem?_cons_succ] at c0 c1 c2 c3 c4 c5
 exact ⟨c0, c1, c2, c3, c4, c5⟩
theorem PI.push (h : PI F w V pb id own bg vec W st tb Ft mb Av nv cv Aw nw cw D) {X Y : World} {g7 cap7 : Nat} {p : List Int} (hX : Below V.heap.size V X) (ho : Y.ownsRow w.heap.size 101 3 (.slice (some ⟨g7, 0, none⟩) (nw + 1) cap7) (nw + 1) (pcells W ++ pcell p)) (hg : X.grownBy Y (Value.slice Aw nw cw).ownBlock) (hat : (Value.slice Aw nw cw).ownBlock = some g7 ∨ g7 = X.heap.size) (hn : nw + 1 ≤ 1024) :
  PI (fun k => F k ∨ k = g7) w (Y.setCell ⟨pb, 4, none⟩ (.slice (some ⟨g7, 0, none⟩) (nw + 1) cap7)) pb id own bg vec (W ++ [p]) st tb Ft mb Av nv cv (some ⟨g7, 0, none⟩) (nw + 1) cap7 D ∧ Stp F V (fun k => F k ∨ k = g7) (Y.setCell ⟨pb, 4, none⟩ (.slice (some ⟨g7, 0, none⟩) (nw + 1) cap7)) := by
 have hs := hX.size
 have hg7 : F g7 ∨ X.heap.size ≤ g7 := hat.imp (fun e => (h.wown g7 e).1) fun e => by omega
 have hgw : ∀ g, (Value.slice Aw nw cw).ownBlock = some g → F g := fun g e => (h.wown g e).1
 have hft7 : ¬ Ft g7 := fun e => hat.elim (fun q => (h.wown g7 q).2 e) fun q => by have := h.lt _ (h.sub _ e); omega
 have hY := (ho.lt g7 rfl).2
 obtain ⟨Z, hZ⟩ : ∃ Z, Y.setCell ⟨pb, 4, none⟩ (.slice (some ⟨g7, 0, none⟩) (nw + 1) cap7) = Z := ⟨_, rfl⟩
 have gZ : Y.grownBy Z (some pb) := by rw [← hZ]; exact Blk.gset Y pb 4 _
 have hpw : (Value.slice Aw nw cw).ownBlock ≠ some pb := own_ne h.want h.blk (by decide)
 have bX := h.blk.same (hX.block _ h.blk.lt)
 have bY : Bn pb 96 [.int .i64 id, hd tb, .bool bg, .slice Av nv cv, .slice Aw nw cw, .map (some mb)] Y := bX.kept hg (fun e => hpw e.symm)
 have hp7 : g7 ≠ pb := fun e => own_ne ho bY (by decide) (by rw [← e]; rfl)
 have bZ := bY.set 4 (.slice (some ⟨g7, 0, none⟩) (nw + 1) cap7)
 rw [hZ] at bZ ⊢
 -- what isn't the pull's cells nor its wants stays
 have hk : ∀ k, k < V.heap.size → k ≠ pb → (Value.slice Aw nw cw).ownBlock ≠ some k → Z.heap[k]? = V.heap[k]? := fun k hk h1 h2 => (gZ.block k (by have := hg.size; omega) (fun e => h1 (by injection e))).trans ((hg.block k (by omega) (fun e => h2 e.symm)).trans (hX.block k hk))
 have hc : Chg (fun k => k = pb ∨ (Value.slice Aw nw cw).ownBlock = some k) V Z := ⟨gZ.os.trans (hg.os.trans hX.os), gZ.tape.trans (hg.tape.trans hX.tape), gZ.output.trans (hg.output.trans hX.output), Nat.le_trans hs (Nat.le_trans hg.size gZ.size), fun k h1 h2 => hk k h1 (fun e => h2 (.inl e)) fun e => h2 (.inr e)⟩
 have hnew : ∀ k, k = pb ∨ (Value.slice Aw nw cw).ownBlock = some k → w.heap.size ≤ k := fun k e => e.elim (fun e => by rw [e]; exact h.new _ h.hpb) fun e => h.new _ (hgw k e)
 have hft : ∀ k, Ft k → ¬ (k = pb ∨ (Value.slice Aw nw cw).ownBlock = some k) := fun k hk e => e.elim (fun e => h.notb.1 (e ▸ hk)) fun e => (h.wown k e).2 hk
 refine ⟨⟨bZ, h.tree.chg hc hft hnew, h.len, own_keep h.row (fun g hg => hk g (h.row.lt g hg).2 (fun e => own_ne h.row h.blk (by decide) (e ▸ hg)) (own_ne2 h.row h.want (by decide) hg)), by rw [List.length_append, h.wlen]; rfl, ?_, h.map.same (hk mb h.map.lt (fun e => h.map.ne h.blk e.symm) (fun e => ?_)), ?_, fun k hk => .inl (h.sub k hk), h.notb, fun g hg => ⟨.inl (h.vown g hg).1, (h.vown g hg).2⟩, fun g hg => ?_, .inl h.mown, .inl h.hpb, fun k hk => ?_, fun k hk => ?_, h.old.trans (hc.below hnew h.old.size), h.few, h.vfew, hn, h.lst, h.dlen⟩, ?_, fun k hk => ?_⟩
 ·rw [pcells_append, pcells_one]
  exact own_keep ho fun g hg => gZ.block g (ho.lt g hg).2 fun e => hp7 (by have q : some g7 = some g := hg; injection q with q; injection e with e; omega)
 ·obtain ⟨cur, hcur⟩ := own_block h.want e
  exact h.map.ne hcur rfl
 ·refine ((h.hold.keep hc.size fun j hj _ hM => hk j hj (fun e => hM (.inl e)) fun e => hM (.inr (.inr (.inr e)))).mono (F' := fun k => F k ∨ k = g7) (M' := Mp pb tb mb (.slice (some ⟨g7, 0, none⟩) (nw + 1) cap7)) (fun j hj => .inl hj) fun j _ hF hM => ?_)
  rcases hM with e | e | e | e
  ·exact .inl e
  ·exact .inr (.inl e)
  ·exact .inr (.inr (.inl e))
  ·have e : g7 = j := by have q : some g7 = some j := e; injection q
   rcases hat with q | q
   ·exact .inr (.inr (.inr (e ▸ q)))
   ·have := h.lt _ hF
    omega
 ·have e : g7 = g := by have q : some g7 = some g := hg; injection q
  subst e
  exact ⟨.inr rfl, hft7⟩
 ·have hz := gZ.size
  have hy := hg.size
  rcases hk with e | e
  ·have := h.lt k e; omega
  ·omega
 ·rcases hk with e | e
  ·exact h.new k e
  ·rcases hg7 with q | q
   ·rw [e]; exact h.new _ q
   ·have := h.old.size; omega
 ·exact hc.mono fun k e => e.elim (fun e => by rw [e]; exact h.hpb) (hgw k)
 ·rcases hk with e | e
  ·exact .inl e
  ·rcases hg7 with q | q
   ·exact .inl (e ▸ q)
   ·exact .inr (by omega)
end
end Pull
end Go.Proofs.YtkfdplfgaddkmaaGreat

/-
 A pull is made; what it tells of itself (layer 19).
-/
namespace Go.Proofs.YtkfdplfgaddkmaaGreat
namespace Pull
open Go.RowKit Blk Go.Maps Disk Tree Vers Num Ring Mend
open Go.Proofs.YtkfdplfgaddkmaaGreat.Code hiding Bn
attribute [local go_sem ↓] Go.wp_at_zero Go.wp_at_succ
theorem lst_nil : Lst [] := ⟨⟨List.Pairwise.nil, fun x hx => by cases hx⟩, fun x hx => by cases hx⟩
def NewP (w V : World) (id : Int) (l : List Rc) (e : Ending) (w' : World) : Prop :=
 (okL l ∧ ∃ pb, e = .returned (.tuple #[hd pb, .int .i64 0]) ∧ Hid (∃ F, PJ F w w' pb id (layF l) false [] [] [] ∧ (∀ k, F k → V.heap.size ≤ k)) ∧ Below V.heap.size V w') ∨
 (¬ okL l ∧ e = .returned (.tuple #[.pointer none, .int .i64 1]) ∧ Below V.heap.size V w')
set_option maxRecDepth 100000 in
theorem newpull_any {w V : World} (hb : Below w.heap.size w V) (id : Int) (Al : Option Addr) (n c : Nat) (l : List Rc) (hn : l.length = n) (hbig : n ≤ 3518437208882) (hr : Rs V 0 V.heap.size Al l) :
  Calls Tryz.prog 22 #[.int .i64 id, .slice Al n c] V (NewP w V id l) := by
 by_cases hok : okL l
 ·have K2 := Lib.hid (on_new hb Al c n l hn hbig hr hok)
  have HP := Lib.hid (And.intro hb (And.intro hok (show (layF l).length ≤ 3518437208882 by have := layF_len l; omega)))
  have hmm := @run_makeMap Tryz.prog
  clear hb hn hbig hr hok
  go_enter Tryz.func22, Tryz.ntmps22
  go_wp2_with fail
  refine K2.out.mono ?_
  rintro e w2 ⟨tb, rfl, h2⟩
  have HF : Hid (NewP w V id l (.returned (.tuple #[hd (w2.heap.size + 1), .int .i64 0])) ((w2.alloc (.map #[] 0)).alloc (.cells #[.int .i64 id, hd tb, .bool false, .slice none 0 0, .slice none 0 0, .map (some w2.heap.size)] 96))) := Lib.hid (by
   obtain ⟨Ft, ht, hnew, b2⟩ := h2.out
   obtain ⟨X, hX⟩ : ∃ X, w2.alloc (.map #[] 0) = X := ⟨_, rfl⟩
   have hXs : X.heap.size = w2.heap.size + 1 := by rw [← hX]; simp
   have hmi : MI X w2.heap.size [] := by rw [← hX]; exact mi_made w2
   have bX : Below w2.heap.size w2 X := by rw [← hX]; exact (Below.refl _ w2).alloc (Nat.le_refl _) _
   rw [hX]
   obtain ⟨Y, hY⟩ : ∃ Y, X.alloc (.cells #[.int .i64 id, hd tb, .bool false, .slice none 0 0, .slice none 0 0, .map (some w2.heap.size)] 96) = Y := ⟨_, rfl⟩
   have bY : Below X.heap.size X Y := by rw [← hY]; exact (Below.refl _ X).alloc (Nat.le_refl _) _
   have BY : Bn (w2.heap.size + 1) 96 [.int .i64 id, hd tb, .bool false, .slice none 0 0, .slice none 0 0, .map (some w2.heap.size)] Y := by rw [← hY, ← hXs]; exact World.alloc_heap_new _ _
   rw [hY]
   have hYs : Y.heap.size = w2.heap.size + 2 := by rw [← hY]; simp [hXs]
   have bXY : Below w2.heap.size w2 Y := bX.trans (bY.mono bX.size)
   have bV := b2.trans (bXY.mono b2.size)
   have hVw := b2.size
   have hwV := HP.out.1.size
   have htl : ∀ k, Ft k → k < w2.heap.size := fun k hk => ht.lt hk
   refine .inl ⟨HP.out.2.1, w2.heap.size + 1, rfl, Lib.hid ⟨fun k => Ft k ∨ k = w2.heap.size ∨ k = w2.heap.size + 1, ⟨tb, Ft, w2.heap.size, none, 0, 0, none, 0, 0, [], BY, ht.below bXY, rfl, World.ownsRow_nil _ _ _ _, rfl, World.ownsRow_nil _ _ _ _, hmi.same (bY.block _ (by omega)), (fun k => .inl ⟨rfl, rfl⟩), fun k hk => .inl hk, ⟨fun h => ?_, fun h => ?_⟩, (fun g hg => by cases hg), (fun g hg => by cases hg), .inr (.inl rfl), .inr (.inr rfl), fun k hk => ?_, fun k hk => ?_, HP.out.1.trans (bV.mono hwV), HP.out.2.2, by omega, by omega, lst_nil, Nat.le_refl _⟩, fun k hk => ?_⟩, bV⟩
   ·have := htl _ h; omega
   ·have := htl _ h; omega
   ·rcases hk with h | h | h
    ·have := htl _ h; omega
    ·omega
    ·omega
   ·rcases hk with h | h | h
    ·have := hnew _ h; omega
    ·omega
    ·omega
   ·rcases hk with h | h | h
    ·exact hnew _ h
    ·omega
    ·omega)
  unfold hd at *
  clear h2 K2
  go_wp2_with fail
  go_ret2
  exact HF.out
 ·have K2 := Lib.hid (no_new Al c n l hn hbig hr hok)
  have HP := Lib.hid hok
  clear hb hn hbig hr hok
  go_enter Tryz.func22, Tryz.ntmps22
  go_wp2_with fail
  refine K2.out.mono ?_
  rintro e w2 ⟨rfl, b2⟩
  have HF : Hid (NewP w V id l (.returned (.tuple #[.pointer none, .int .i64 1])) w2) := Lib.hid (.inr ⟨HP.out, rfl, b2⟩)
  clear b2 K2
  go_wp2_with fail
  go_ret2
  exact HF.out
section
variable {F G Ft : Nat → Prop} {w V V' : World} {pb tb mb nv cv nw cw : Nat} {id : Int} {vec : List Int} {own st : List Rc} {bg : Bool} {W : List (List Int)} {Av Aw : Option Addr} {D : Vl}
theorem PJ.chg (h : PJ F w V pb id own bg vec W st) (hc : Chg G V V') (hG : ∀ k, F k → ¬ G k) (hw : ∀ k, G k → w.heap.size ≤ k) : PJ F w V' pb id own bg vec W st := by
 obtain ⟨tb, Ft, mb, Av, nv, cv, Aw, nw, cw, D, h⟩ := h
 exact ⟨tb, Ft, mb, Av, nv, cv, Aw, nw, cw, D, h.chg hc hG hw⟩
theorem PJ.below (h : PJ F w V pb id own bg vec W st) (hb : Below V.heap.size V V') : PJ F w V' pb id own bg vec W st := h.chg (G := fun _ => False) (Chg.of_below hb) (fun _ _ h => h) fun _ h => h.elim
theorem PJ.lt (h : PJ F w V pb id own bg vec W st) {k : Nat} (hk : F k) : k < V.heap.size := by
 obtain ⟨tb, Ft, mb, Av, nv, cv, Aw, nw, cw, D, h⟩ := h
 exact h.lt k hk
theorem PJ.new (h : PJ F w V pb id own bg vec W st) {k : Nat} (hk : F k) : w.heap.size ≤ k := by
 obtain ⟨tb, Ft, mb, Av, nv, cv, Aw, nw, cw, D, h⟩ := h
 exact h.new k hk
theorem PJ.old (h : PJ F w V pb id own bg vec W st) : Below w.heap.size w V := by
 obtain ⟨tb, Ft, mb, Av, nv, cv, Aw, nw, cw, D, h⟩ := h
 exact h.old
theorem PJ.lst (h : PJ F w V pb id own bg vec W st) : Lst st := by
 obtain ⟨tb, Ft, mb, Av, nv, cv, Aw, nw, cw, D, h⟩ := h
 exact h.lst
theorem PJ.okA (h : PJ F w V pb id own bg vec W st) : okAll own := by
 obtain ⟨tb, Ft, mb, Av, nv, cv, Aw, nw, cw, D, h⟩ := h
 exact h.tree.okA
theorem PJ.id_any (h : PJ F w V pb id own bg vec W st) : Calls Tryz.prog 34 #[hd pb] V (fun e w' => e = .returned (.int .i64 id) ∧ V = w') := by
 obtain ⟨tb, Ft, mb, Av, nv, cv, Aw, nw, cw, D, h⟩ := h
 obtain ⟨c0, c1, c2, c3, c4, c5⟩ := h.cells
 unfold hd at *
 clear h
 go_enter Tryz.func34, Tryz.ntmps34
 go_wp2_with fail
 go_ret
 exact ⟨rfl, rfl⟩
theorem PJ.done_any (h : PJ F w V pb id own bg vec W st) : Calls Tryz.prog 28 #[hd pb] V (fun e w' => e = .returned (.bool (bg && decide (W = []))) ∧ V = w') := by
 obtain ⟨tb, Ft, mb, Av, nv, cv, Aw, nw, cw, D, h⟩ := h
 obtain ⟨c0, c1, c2, c3, c4, c5⟩ := h.cells
 have hl := h.wlen
 obtain ⟨B, hB⟩ : ∃ B, decide (W = []) = B := ⟨_, rfl⟩
 have hz : ((nw : Int) == 0) = B := by
  rw [← hB]
  by_cases h0 : W = []
  ·subst h0; rw [← hl]; rfl
  ·rw [decide_eq_false h0]
   have : W.length ≠ 0 := fun e => h0 (List.eq_nil_of_length_eq_zero e)
   simp; omega
 rw [hB]
 unfold hd at *
 clear h hl hB
 cases bg
 ·go_enter Tryz.func28, Tryz.ntmps28
  go_wp2_with fail
  go_ret
  exact ⟨rfl, rfl⟩
 ·go_enter Tryz.func28, Tryz.ntmps28
  go_wp2_with fail
  go_ret
  exact ⟨rfl, rfl⟩
set_option maxRecDepth 100000 in
theorem PJ.vec_any (h : PJ F w V pb id own bg vec W st) : Calls Tryz.prog 33 #[hd pb] V (VecN vec V) := by
 obtain ⟨tb, Ft, mb, Av, nv, cv, Aw, nw, cw, D, h⟩ := h
 obtain ⟨c0, c1, c2, c3, c4, c5⟩ := h.cells
 have hrow := h.row
 have hlen := h.len
 have hns : Ns .i64 V V.heap.size Av vec := by
  subst hlen
  exact own_ns hrow
 have hv16 := h.vfew
 have K := Lib.hid (cloneW_any Av cv nv vec h.len V hns (by omega))
 have HP := Lib.hid (And.intro h.len hv16)
 unfold hd at *
 clear h hrow hlen hns c0 c1 c2 c4 c5 hv16
 go_enter Tryz.func33, Tryz.ntmps33
 go_wp2_with fail
 refine K.out.mono ?_
 rintro e w3 ⟨A1, c1', rfl, h3, b3⟩
 have HF : Hid (VecN vec V (.returned (.slice A1 nv c1')) w3) := Lib.hid ⟨A1, c1', nv, rfl, Lib.hid ⟨HP.out.1, HP.out.2, h3.out⟩, b3⟩
 clear h3 b3 K c3
 go_wp2_with fail
 go_ret
 exact HF.out
end
end Pull
end Go.Proofs.YtkfdplfgaddkmaaGreat
