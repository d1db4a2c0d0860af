/-
  Several texts of this family in one: TreeMark, TreeDoc, TreeDocRecs, TreeWith, MendHeld, TreeAny, TreeRecs, TreeKids, TreeWork, TreeSpot, TreeHash, TreeTurn, TreeSet, TreeNew, TreeTell, TreeLaw, TreeDocHash, TreeDocKids, MendGiveRef, MendSort.
-/
import Derived.Test.YtbhidndgnldheaaGreatK15
import Derived.Deep.RegionHeld3
import Derived.Laws.IdiomStrings
import Derived.Laws.BitsAllLaws
import Derived.WalkLawsBesides
import Derived.Deep.DeepCutAuto
import Derived.Deep.CutBlock
import Derived.Test.YtbhidndgnldheaaGreatK14
import Derived.Laws.IdiomRangeMap
import Derived.Sort.OwnSorted
import Derived.OwnWalk
import Derived.Test.YtbhidndgnldheaaGreatK12
import Derived.Deep.DrawnRows
import Derived.WalkSpells
import Derived.Test.YtbhidndgnldheaaGreatK11
/-
 A key's place, a path with a digit more, a hash as bytes, the mark of a key with its versions.
-/
namespace Go.Proofs.YtbhidndgnldheaaGreat
namespace Tree
open Go.RowKit Vers Num Ring Disk Blk
open Go.Proofs.YtbhidndgnldheaaGreat.Code hiding Bn
attribute [local go_sem ↓] Go.wp_at_zero Go.wp_at_succ

end Tree
end Go.Proofs.YtbhidndgnldheaaGreat

/-
 The document's side: a key's place, paths, a hash as bytes, the mark of a key with its versions.
-/
namespace Go.Proofs.YtbhidndgnldheaaGreat
namespace Tree
open Go.RowKit Vers Num Ring Disk Blk
open Go.Proofs.YtbhidndgnldheaaGreat.Code hiding Bn
attribute [local go_sem ↓] Go.wp_at_zero Go.wp_at_succ

/-! ### Paths -/
end Tree
end Go.Proofs.YtbhidndgnldheaaGreat

/-
 The document's records beneath a path; records with one in the place of its key's.
-/
namespace Go.Proofs.YtbhidndgnldheaaGreat
namespace Tree
open Go.RowKit Vers Num Ring Disk Blk
open Go.Proofs.YtbhidndgnldheaaGreat.Code hiding Bn
attribute [local go_sem ↓] Go.wp_at_zero Go.wp_at_succ

theorem info_rec' : (Tryz.prog.info? 46).map (fun i => (i.zero, i.size, i.bytes)) = some (some (.agg #[.string ⟨#[]⟩, .slice none 0 0]), 2, 40) := by kernel_rfl
def RowS (base : Nat) (w : World) (v : Value) (ps : List Pr) : Prop :=
 w.ownsRow base 46 2 v ps.length (rcs ps) ∧ ∀ p ∈ ps, Vs w 0 base p.2.1 p.1.2 ∧ p.1.2.length ≤ p.2.2 ∧ p.1.2.length ≤ 140737488355328 ∧ p.1.1.size ≤ 140737488355328
theorem RowS.below {base : Nat} {w w' : World} {v : Value} {ps : List Pr} (h : RowS base w v ps) (hb : Below w.heap.size w w') (hB : base ≤ w.heap.size) : RowS base w' v ps :=
 ⟨own_below h.1 hb (Nat.le_refl _), fun p hp => ⟨(h.2 p hp).1.below (hb.mono hB), (h.2 p hp).2⟩⟩
theorem RowS.add {base : Nat} {w w' : World} {v v' : Value} {ps : List Pr} {p : Pr} (h : RowS base w v ps) (ho : w'.ownsRow base 46 2 v' (ps.length + 1) (rcs (ps ++ [p]))) (hg : w.grownBy w' v.ownBlock) (hB : base ≤ w.heap.size) (hp : Vs w 0 base p.2.1 p.1.2 ∧ p.1.2.length ≤ p.2.2 ∧ p.1.2.length ≤ 140737488355328 ∧ p.1.1.size ≤ 140737488355328) : RowS base w' v' (ps ++ [p]) := by
 have hb : Below base w w' := (Below.refl _ _).grown hg hB (fun j hj => (h.1.lt j hj).1)
 refine ⟨by simpa using ho, fun q hq => ?_⟩
 rcases List.mem_append.1 hq with hq | hq
 ·exact ⟨(h.2 q hq).1.below hb, (h.2 q hq).2⟩
 ·rw [List.mem_singleton.1 hq]
  exact ⟨hp.1.below hb, hp.2⟩
theorem RowS.rs {base n c : Nat} {w : World} {A : Option Addr} {ps : List Pr} (h : RowS base w (.slice A n c) ps) (hB : base ≤ w.heap.size) : Rs w 0 w.heap.size A (ps.map Prod.fst) := fun hp => by
 rw [List.length_map] at hp
 obtain ⟨ho, hpa⟩ := h
 rcases ho.2 with ⟨_, h0⟩ | ⟨g, cap, cur, hv, hbg, hg, rest⟩
 ·omega
 ·injection hv with h1 h2 h3
  subst h1
  refine ⟨g, 0, rfl, Nat.zero_le _, (Array.getElem?_eq_some_iff.1 hg).1, fun j hj => ?_⟩
  rw [List.length_map] at hj
  have e : (ps.map Prod.fst).getD j r0 = (ps.getD j (r0, none, 0)).1 := by simp [List.getD_eq_getElem?_getD, hj]
  have hm : ps.getD j (r0, none, 0) ∈ ps := by
   rw [List.getD_eq_getElem?_getD, List.getElem?_eq_getElem hj]
   exact List.getElem_mem _
  rw [e]
  have hat : ∀ r, r < 2 → ∀ u, (rcc (ps.getD j (r0, none, 0)))[r]? = some u → w.cell? ⟨g, 0 + j * 2 + r, none⟩ = some u := fun r hr u hu => by
   have hc := ho.cells (g := g) rfl (j * 2 + r) u (by rw [rcs_at ps j hj r hr]; exact hu)
   rw [Vers.add_plain] at hc
   rw [show 0 + j * 2 + r = 0 + (j * 2 + r) by omega]
   exact hc
  obtain ⟨q1, q2, q3, q4⟩ := hpa _ hm
  exact ⟨_, _, hat 0 (by omega) _ (by simp [rcc]), hat 1 (by omega) _ (by simp [rcc]), q1.more hB, q2, q3, q4⟩
end Tree
end Go.Proofs.YtbhidndgnldheaaGreat

/-
 firthref10.With: records, with one in the place of its key's.
-/
namespace Go.Proofs.YtbhidndgnldheaaGreat
namespace Tree
open Go.RowKit Vers Num Ring Disk Blk
open Go.Proofs.YtbhidndgnldheaaGreat.Code hiding Bn
attribute [local go_sem ↓] Go.wp_at_zero Go.wp_at_succ

def wf : List Rc → Rc → Bool → List Rc
 | [], r, laid => if laid then [] else [r]
 | x :: l, r, laid => if x.1 = r.1 then wf l r laid else if (!laid && nlt r.1 x.1) = true then r :: x :: wf l r true else x :: wf l r laid
theorem wf_true (r : Rc) : ∀ l : List Rc, wf l r true = wout l r.1
 | [] => rfl
 | x :: l => by
  have ih := wf_true r l
  unfold wf
  by_cases h : x.1 = r.1
  ·rw [if_pos h, ih]
   unfold wout
   rw [List.filter_cons, if_neg (by simp [h])]
  ·rw [if_neg h, if_neg (by simp), ih]
   unfold wout
   rw [List.filter_cons, if_pos (by simp [h])]
theorem wf_false (r : Rc) : ∀ l : List Rc, wf l r false = wit l r.1 r.2
 | [] => rfl
 | x :: l => by
  have ih := wf_false r l
  unfold wf
  by_cases h : x.1 = r.1
  ·rw [if_pos h, ih]
   unfold wit wout
   rw [List.filter_cons, if_neg (by simp [h])]
  ·rw [if_neg h]
   have e : wit (x :: l) r.1 r.2 = ins (x :: wout l r.1) r.1 r.2 := by
    unfold wit wout
    rw [List.filter_cons, if_pos (by simp [h])]
   rw [e]
   by_cases hn : nlt r.1 x.1 = true
   ·rw [if_pos (by simp [hn]), wf_true]
    unfold ins
    rw [if_pos hn]
   ·rw [if_neg (by simp [hn]), ih]
    unfold ins
    rw [if_neg hn]
    rfl
theorem wf_start (l : List Rc) (r : Rc) : wf l r (decide (r.2 = [])) = withR l r := by
 unfold withR
 by_cases h : r.2 = []
 ·rw [if_pos h, decide_eq_true h, wf_true]
 ·rw [if_neg h, decide_eq_false h, wf_false]
theorem wf_keep {x r : Rc} {l : List Rc} {laid : Bool} (hne : ¬ x.1 = r.1) (h : (!laid && nlt r.1 x.1) = false) : wf (x :: l) r laid = x :: wf l r laid := by
 rw [wf, if_neg hne, if_neg (by rw [h]; simp)]
theorem wf_lay {x r : Rc} {l : List Rc} (hne : ¬ x.1 = r.1) (h : nlt r.1 x.1 = true) : wf (x :: l) r false = r :: x :: wf l r true := by
 rw [wf, if_neg hne, if_pos (by rw [h]; rfl)]
theorem two_more {x k n : Nat} (h : x ≤ k) (h1 : k < n) (h2 : n ≤ 3518437208881) : (x + 1 + 1) * 40 ≤ 140737488355328 := by omega
theorem drop_at {l : List Rc} {k : Nat} (hk : k < l.length) : l.drop k = l.getD k r0 :: l.drop (k + 1) := by
 rw [List.drop_eq_getElem_cons hk]
 simp [List.getD_eq_getElem?_getD, hk]
def RowX (base B : Nat) (w : World) (v : Value) (ps : List Pr) : Prop :=
 w.ownsRow base 46 2 v ps.length (rcs ps) ∧ ∀ p ∈ ps, Vs w 0 B p.2.1 p.1.2 ∧ p.1.2.length ≤ p.2.2 ∧ p.1.2.length ≤ 140737488355328 ∧ p.1.1.size ≤ 140737488355328
theorem rowX_nil (base B : Nat) (w : World) : RowX base B w (.slice none 0 0) [] := ⟨World.ownsRow_nil _ _ _ _, fun p hp => by cases hp⟩
theorem RowX.drewN {base B : Nat} {w : World} {v : Value} {ps : List Pr} (h : RowX base B w v ps) (q : Nat) : RowX base B (w.drewN q) v ps :=
 ⟨own_below h.1 ⟨rfl, rfl, rfl, Nat.le_refl _, fun _ _ => rfl⟩ (Nat.le_refl _), fun p hp => ⟨(h.2 p hp).1.keep fun _ _ _ => rfl, (h.2 p hp).2⟩⟩
theorem RowX.add {base B : Nat} {w w' : World} {v v' : Value} {ps : List Pr} {p : Pr} (h : RowX base B w v ps) (ho : w'.ownsRow base 46 2 v' (ps.length + 1) (rcs (ps ++ [p]))) (hg : w.grownBy w' v.ownBlock) (hB : B ≤ base) (hbw : base ≤ w.heap.size) (hp : Vs w 0 B p.2.1 p.1.2 ∧ p.1.2.length ≤ p.2.2 ∧ p.1.2.length ≤ 140737488355328 ∧ p.1.1.size ≤ 140737488355328) : RowX base B w' v' (ps ++ [p]) := by
 have hb : Below B w w' := (Below.refl _ _).grown hg (Nat.le_trans hB hbw) (fun j hj => Nat.le_trans hB (h.1.lt j hj).1)
 refine ⟨by simpa using ho, fun q hq => ?_⟩
 rcases List.mem_append.1 hq with hq | hq
 ·exact ⟨(h.2 q hq).1.below hb, (h.2 q hq).2⟩
 ·rw [List.mem_singleton.1 hq]
  exact ⟨hp.1.below hb, hp.2⟩
theorem RowX.low {base base' B : Nat} {w : World} {v : Value} {ps : List Pr} (h : RowX base B w v ps) (hB : base' ≤ base) : RowX base' B w v ps := ⟨own_base h.1 hB, h.2⟩
def Rb (w : World) (B : Nat) (A : Option Addr) (l : List Rc) : Prop :=
 0 < l.length → ∃ b off, A = some ⟨b, off, none⟩ ∧ b < w.heap.size ∧ ∀ j, j < l.length → ∃ A' c', Rat w 0 B b (off + j * 2) (l.getD j r0) A' c'
theorem Rb.at {w w' : World} {B n k : Nat} {A : Option Addr} {l : List Rc} {r : Rc} (h : Rb w B A l) (hn : l.length = n) (hB : B ≤ w.heap.size) (hb : Below w.heap.size w w') (hk : k < n) (hv : l.getD k r0 = r) : ∃ b off A' c', A = some ⟨b, off, none⟩ ∧ 0 ≤ b ∧ b < w.heap.size ∧ Rat w' 0 B b (off + k * 2) r A' c' := by
 obtain ⟨b, off, e, hbB, hc⟩ := h (by omega)
 obtain ⟨A', c', h0, h1, h2, h3⟩ := hc k (by omega)
 rw [hv] at h0 h1 h2 h3
 exact ⟨b, off, A', c', e, Nat.zero_le _, hbB, (hb.cell (p := ⟨b, _, none⟩) hbB).trans h0, (hb.cell (p := ⟨b, _, none⟩) hbB).trans h1, h2.below (hb.mono hB), h3⟩
theorem RowX.rb {base B n c : Nat} {w : World} {A : Option Addr} {ps : List Pr} (h : RowX base B w (.slice A n c) ps) : Rb w B A (ps.map Prod.fst) := fun hp => by
 rw [List.length_map] at hp
 obtain ⟨ho, hpa⟩ := h
 rcases ho.2 with ⟨_, h0⟩ | ⟨g, cap, cur, hv, hbg, hg, rest⟩
 ·omega
 ·injection hv with h1 h2 h3
  subst h1
  refine ⟨g, 0, rfl, (Array.getElem?_eq_some_iff.1 hg).1, fun j hj => ?_⟩
  rw [List.length_map] at hj
  have e : (ps.map Prod.fst).getD j r0 = (ps.getD j (r0, none, 0)).1 := by simp [List.getD_eq_getElem?_getD, hj]
  have hm : ps.getD j (r0, none, 0) ∈ ps := by
   rw [List.getD_eq_getElem?_getD, List.getElem?_eq_getElem hj]
   exact List.getElem_mem _
  rw [e]
  have hat : ∀ r, r < 2 → ∀ u, (rcc (ps.getD j (r0, none, 0)))[r]? = some u → w.cell? ⟨g, 0 + j * 2 + r, none⟩ = some u := fun r hr u hu => by
   have hc := ho.cells (g := g) rfl (j * 2 + r) u (by rw [rcs_at ps j hj r hr]; exact hu)
   rw [Vers.add_plain] at hc
   rw [show 0 + j * 2 + r = 0 + (j * 2 + r) by omega]
   exact hc
  obtain ⟨q1, q2, q3, q4⟩ := hpa _ hm
  exact ⟨_, _, hat 0 (by omega) _ (by simp [rcc]), hat 1 (by omega) _ (by simp [rcc]), q1, q2, q3, q4⟩
def Withing (l : List Rc) (r : Rc) (n B : Nat) (U : World) (v z q : Value) (wr : World) : Prop :=
 ∃ (k x : Nat) (A1 : Option Addr) (c1 : Nat) (ps : List Pr) (laid : Bool), q = .int .i64 k ∧ k ≤ n ∧ v = .slice A1 x c1 ∧ z = .bool laid ∧ x ≤ k + 1 ∧ Hid ((laid = false → x ≤ k) ∧ ps.map Prod.fst ++ wf (l.drop k) r laid = withR l r ∧ ps.length = x ∧ RowX U.heap.size B wr (.slice A1 x c1) ps ∧ Below U.heap.size U wr)
def NewX (B : Nat) (l : List Rc) (w : World) (e : Ending) (w' : World) : Prop :=
 ∃ A m c ps, e = .returned (.slice A m c) ∧ Hid (ps.map Prod.fst = l ∧ l.length = m ∧ m ≤ c ∧ RowX w.heap.size B w' (.slice A m c) ps) ∧ Below w.heap.size w w'
theorem RowX.put {base B x c1 : Nat} {A1 A4 : Option Addr} {c4 ml : Nat} {ps : List Pr} {key : Nm} {lv : List Vr} {W w4 U : World} {v4 : Value} (hr : RowX base B W (.slice A1 x c1) ps) (hps : ps.length = x) (hB : B ≤ base) (hbw : base ≤ W.heap.size) (hU : Below base U W) (hml : lv.length = ml) (hv : Vs W 0 B A4 lv) (hz : ml ≤ c4 ∧ ml ≤ 140737488355328 ∧ key.size ≤ 140737488355328)
  (o4 : w4.ownsRow base 46 2 v4 (x + 1) (rcs (ps ++ [((key, lv), A4, c4)]))) (g4 : W.grownBy w4 (Value.slice A1 x c1).ownBlock) : RowX base B w4 v4 (ps ++ [((key, lv), A4, c4)]) ∧ Below base U w4 := by
 subst hml
 refine ⟨hr.add (by rw [hps]; exact o4) g4 hB hbw ⟨hv, hz⟩, hU.grown g4 hbw (fun j hj => (hr.1.lt j hj).1)⟩
set_option maxRecDepth 100000 in
set_option maxHeartbeats 4000000 in
theorem with_any (A Av : Option Addr) (c cv n m B : Nat) (l : List Rc) (key : Nm) (lv : List Vr) (hn : l.length = n) (hn2 : n ≤ 3518437208881) (hm : lv.length = m) (hz : m ≤ cv ∧ m ≤ 140737488355328 ∧ key.size ≤ 140737488355328) (w : World) (hBw : B ≤ w.heap.size) (hl : Rb w B A l) (hv : Vs w 0 B Av lv) :
  Calls Tryz.prog 39 #[.slice A n c, .agg #[.string key, .slice Av m cv]] w (NewX B (withR l (key, lv)) w) := by
 obtain ⟨i0, hi, hz0, hz1, hz2⟩ := info_parts info_rec'
 obtain ⟨rb, hrb⟩ : ∃ rb, w.heap.size = rb := ⟨_, rfl⟩
 obtain ⟨U, hU⟩ : ∃ U, w.alloc (.cells #[.string key, .slice Av m cv] 46) = U := ⟨_, rfl⟩
 have bU : Below w.heap.size w U := by rw [← hU]; exact (Below.refl _ w).alloc (Nat.le_refl _) _
 have BU : Bn rb 46 [.string key, .slice Av m cv] U := by rw [← hU, ← hrb]; exact World.alloc_heap_new _ _
 have x0 := BU.cell 0
 have x1 := BU.cell 1
 simp only [List.getElem?_cons_zero, List.getElem?_cons_succ] at x0 x1
 have hUs : U.heap.size = rb + 1 := by rw [← hU, ← hrb]; simp
 have HI : Hid (Withing l (key, lv) n B U (.slice none 0 0) (.bool (decide (m = 0))) (.int .i64 0) U) := Lib.hid ⟨0, 0, none, 0, [], decide (m = 0), rfl, by omega, rfl, rfl, by omega, Lib.hid ⟨fun _ => Nat.le_refl _, by
  have e : decide (m = 0) = decide ((key, lv).2 = []) := decide_eq_decide.2 (by rw [← hm]; exact ⟨fun h => List.eq_nil_of_length_eq_zero h, fun h => by simp at h; rw [h]; rfl⟩)
  rw [e]
  simpa using wf_start l (key, lv), rfl, rowX_nil _ _ _, Below.refl _ _⟩⟩
 have HH := Lib.hid (And.intro hl (And.intro hn (And.intro hv (And.intro hm (And.intro hz (And.intro bU (And.intro BU (And.intro hrb hUs))))))))
 obtain ⟨z0, hz0'⟩ : ∃ z0, decide (m = 0) = z0 := ⟨_, rfl⟩
 have e0 : ((m : Int) == 0) = z0 := by rw [← hz0']; by_cases h : m = 0 <;> simp [h]
 rw [hz0'] at HI
 clear hl hn hv hm hz bU BU hz0' hUs
 go_enter Tryz.func39, Tryz.ntmps39
 go_wp2_with fail
 clear hU e0 x0 x1 hrb
 go_loopw [5, 6, 7] (fun v z q wr => Withing l (key, lv) n B U v z q wr) (fun _ _ q _ => n - (intOf q).toNat)
 case atStart => exact HI.out
 case round =>
  clear HI
  obtain ⟨k, x, A1, c1, ps, laid, rfl, hk, rfl, rfl, hxk, hst⟩ := hrel
  have hbU := hst.out.2.2.2.2
  have hszU := hbU.size
  have hB1 := HH.out.2.2.2.2.2.2.1.same (hbU.block rb HH.out.2.2.2.2.2.2.1.lt)
  have x0 := hB1.cell 0
  have x1 := hB1.cell 1
  simp only [List.getElem?_cons_zero, List.getElem?_cons_succ] at x0 x1
  have hUw : w.heap.size ≤ U.heap.size := by have := HH.out.2.2.2.2.2.2.2; omega
  have hUB : B ≤ U.heap.size := Nat.le_trans hBw hUw
  have hbw : Below w.heap.size w wr := HH.out.2.2.2.2.2.1.trans (hbU.mono hUw)
  by_cases hlt : k < n
  ·have d1 : (0 : Int) ≤ (k : Int) := by omega
   have d2 : (k : Int) < (n : Int) := by omega
   obtain ⟨pb, off, A4, c4, rfl, _, hbB, k0, k1, k2, k3⟩ := HH.out.1.at HH.out.2.1 hBw hbw hlt rfl
   have hkl : k < l.length := by have := HH.out.2.1; omega
   have HTk := Lib.hid (drop_at hkl)
   obtain ⟨r, hrr⟩ : ∃ r, l.getD k r0 = r := ⟨_, rfl⟩
   rw [hrr] at k0 k1 k2 k3 HTk
   obtain ⟨key', lv'⟩ := r
   simp only at k0 k1 k2 k3
   obtain ⟨ml, hml⟩ : ∃ ml, lv'.length = ml := ⟨_, rfl⟩
   rw [hml] at k1 k3
   have hvr := HH.out.2.2.1.below (hbw.mono hBw)
   have HST := Lib.hid (And.intro hst.out (And.intro hUB (And.intro k2 (And.intro k3 (And.intro hml hvr)))))
   clear hst hbU hB1 hbw hrr hkl hml hvr k2 k3
   by_cases hkk : key' = key
   ·have e1 : (key'.toList == key.toList) = true := by rw [hkk]; simp
    have HF : Hid (∀ W, (∃ q, W = wr.drewN q) → Withing l (key, lv) n B U (.slice A1 x c1) (.bool laid) (.int .i64 ((k : Int) + 1)) W) := Lib.hid fun W ⟨q, hq⟩ => ⟨k + 1, x, A1, c1, ps, laid, by go_num, by omega, rfl, rfl, by omega, Lib.hid ⟨fun h => by have := HST.out.1.1 h; omega, by
      have h9 := HST.out.1.2.1
      rw [HTk.out] at h9
      rw [wf, if_pos hkk] at h9
      exact h9, HST.out.1.2.2.1, by rw [hq]; exact HST.out.1.2.2.2.1.drewN q, by rw [hq]; exact HST.out.1.2.2.2.2.trans ⟨rfl, rfl, rfl, Nat.le_refl _, fun _ _ => rfl⟩⟩⟩
    clear hkk
    go_wp2_with fail
    go_quiet (fail)
    have HF2 := Lib.hid (HF.out (wr.drewN nq) ⟨nq, rfl⟩)
    go_wp2_with fail
    go_roundw
    case rel => exact HF2.out
    case measure => simp only [intOf]; omega
   ·have e1 : (key'.toList == key.toList) = false := by rw [nm_eq]; exact decide_eq_false hkk
    have HKK := Lib.hid hkk
    clear hkk
    have HKP : Hid ((!laid && nlt key key') = false → ∀ (We w4 : World) (A5 : Option Addr) (c5 : Nat), RowX U.heap.size B We (.slice A1 x c1) ps → Below U.heap.size U We → U.heap.size ≤ We.heap.size → w4.ownsRow U.heap.size 46 2 (.slice A5 (x + 1) c5) (x + 1) (rcs (ps ++ [((key', lv'), A4, c4)])) → We.grownBy w4 (Value.slice A1 x c1).ownBlock → Withing l (key, lv) n B U (.slice A5 (x + 1) c5) (.bool laid) (.int .i64 ((k : Int) + 1)) w4) := Lib.hid fun hno We w4 A5 c5 hRE hUe hsz3 o4 g4 => by
     have hp := RowX.put (key := key') (lv := lv') (ml := ml) hRE HST.out.1.2.2.1 HST.out.2.1 hsz3 hUe HST.out.2.2.2.2.1 (HST.out.2.2.1.keep fun p _ hp => ((hUe.mono HST.out.2.1).cell hp).trans ((HST.out.1.2.2.2.2.mono HST.out.2.1).cell hp).symm) HST.out.2.2.2.1 o4 g4
     have h9 := HST.out.1.2.1
     rw [HTk.out, wf_keep HKK.out hno] at h9
     exact ⟨k + 1, x + 1, A5, c5, ps ++ [((key', lv'), A4, c4)], laid, by go_num, by omega, rfl, rfl, by omega, Lib.hid ⟨fun h => by have := HST.out.1.1 h; omega, by rw [← h9]; simp, by simp [HST.out.1.2.2.1], hp.1, hp.2⟩⟩
    have HD0 : Hid (∀ q, RowX U.heap.size B (wr.drewN q) (.slice A1 x c1) ps ∧ Below U.heap.size U (wr.drewN q)) := Lib.hid fun q => ⟨HST.out.1.2.2.2.1.drewN q, HST.out.1.2.2.2.2.trans ⟨rfl, rfl, rfl, Nat.le_refl _, fun _ _ => rfl⟩⟩
    go_wp2_with fail
    go_quiet (fail)
    obtain ⟨Wd, hWd⟩ : ∃ Wd, wr.drewN nq = Wd := ⟨_, rfl⟩
    have HD1 : Hid (∀ q, RowX U.heap.size B (Wd.drewN q) (.slice A1 x c1) ps ∧ Below U.heap.size U (Wd.drewN q)) := Lib.hid fun q => by
     rw [← hWd]
     exact ⟨(HST.out.1.2.2.2.1.drewN nq).drewN q, HST.out.1.2.2.2.2.trans ⟨rfl, rfl, rfl, Nat.le_refl _, fun _ _ => rfl⟩⟩
    have hz9 : wr.heap = Wd.heap := by rw [← hWd]; rfl
    have cc : ∀ a, wr.cell? a = Wd.cell? a := fun a => by rw [← hWd]; rfl
    rw [cc] at k0 k1 x0 x1
    rw [hWd]
    clear hWd cc hz9
    cases laid
    ·obtain ⟨lt, hlt3⟩ : ∃ lt, Op.bytesLess key.toList key'.toList = lt := ⟨_, rfl⟩
     cases lt
     ·go_wp2_with fail
      go_quiet (fail)
      obtain ⟨We, hWe⟩ : ∃ We, Wd.drewN nq = We := ⟨_, rfl⟩
      have hde := HD1.out nq
      have k0e : (Wd.drewN nq).cell? _ = _ := k0
      have k1e : (Wd.drewN nq).cell? _ = _ := k1
      rw [hWe] at hde k0e k1e ⊢
      obtain ⟨hRE, hUe⟩ := hde
      have hsz3 := hUe.size
      have hro := hRE.1
      have HRE := Lib.hid (And.intro hRE hUe)
      rw [HST.out.1.2.2.1] at hro
      have hl2 : (x + 1) * 40 ≤ 140737488355328 := by omega
      clear hWe hRE hUe k0 k1
      go_wp2_with (at_builtin; refine wpList_append_r _ rfl (.tmp 42) (.tmp 47) 23 rfl U.heap.size 46 i0 _ 40 Tryz.underlying23 hi hz0 hz1 hz2 rfl _ x ps rfl hro ((key', lv'), A4, c4) ml HST.out.2.2.2.2.1 1 rfl hl2 (by omega) hsz3 ?_; intro v4 w4 o4 g4 at4; obtain ⟨A5, c5, rfl⟩ := own_form o4)
      have HF2 := Lib.hid (HKP.out (by show (true && Op.bytesLess key.toList key'.toList) = false; rw [hlt3]; rfl) We w4 A5 c5 HRE.out.1 HRE.out.2 hsz3 o4 g4)
      clear o4 g4 at4 hro
      go_roundw
      case rel => exact HF2.out
      case measure => simp only [intOf]; omega
     ·go_wp2_with fail
      go_quiet (fail)
      obtain ⟨We, hWe⟩ : ∃ We, Wd.drewN nq = We := ⟨_, rfl⟩
      have hde := HD1.out nq
      have k0e : (Wd.drewN nq).cell? _ = _ := k0
      have k1e : (Wd.drewN nq).cell? _ = _ := k1
      have x0e : (Wd.drewN nq).cell? _ = _ := x0
      have x1e : (Wd.drewN nq).cell? _ = _ := x1
      rw [hWe] at hde k0e k1e x0e x1e ⊢
      obtain ⟨hRE, hUe⟩ := hde
      have hsz3 := hUe.size
      have hro := hRE.1
      have HRE := Lib.hid (And.intro hRE hUe)
      rw [HST.out.1.2.2.1] at hro
      have hl2 : (x + 1) * 40 ≤ 140737488355328 := by omega
      have HX : Hid (∀ o, (⟨pb, o, none⟩ : Addr).block < U.heap.size) := Lib.hid (fun o => by show pb < _; omega)
      have HLAID : Hid (x ≤ k) := Lib.hid (HST.out.1.1 (by simp))
      clear hWe hRE hUe k0 k1 x0 x1
      have hl3 := two_more HLAID.out hlt hn2
      have HFF : Hid (∀ (w4 w5 : World) (A5 A6 : Option Addr) (c5 c6 : Nat), w4.ownsRow U.heap.size 46 2 (.slice A5 (x + 1) c5) (x + 1) (rcs (ps ++ [((key, lv), Av, cv)])) → We.grownBy w4 (Value.slice A1 x c1).ownBlock → w5.ownsRow U.heap.size 46 2 (.slice A6 (x + 1 + 1) c6) (x + 1 + 1) (rcs ((ps ++ [((key, lv), Av, cv)]) ++ [((key', lv'), A4, c4)])) → w4.grownBy w5 (Value.slice A5 (x + 1) c5).ownBlock → Withing l (key, lv) n B U (.slice A6 (x + 1 + 1) c6) (.bool true) (.int .i64 ((k : Int) + 1)) w5) := Lib.hid fun w4 w5 A5 A6 c5 c6 o4 g4 o5 g5 => by
       have hp := RowX.put (key := key) (lv := lv) (ml := m) HRE.out.1 HST.out.1.2.2.1 HST.out.2.1 hsz3 HRE.out.2 HH.out.2.2.2.1 (HH.out.2.2.1.keep fun p _ hp => ((HRE.out.2.mono HST.out.2.1).cell hp).trans ((HH.out.2.2.2.2.2.1.mono hBw).cell hp)) HH.out.2.2.2.2.1 o4 g4
       have hp2 := RowX.put (key := key') (lv := lv') (ml := ml) hp.1 (by simp [HST.out.1.2.2.1]) HST.out.2.1 hp.2.size hp.2 HST.out.2.2.2.2.1 (HST.out.2.2.1.keep fun p _ hq => ((hp.2.mono HST.out.2.1).cell hq).trans ((HST.out.1.2.2.2.2.mono HST.out.2.1).cell hq).symm) HST.out.2.2.2.1 o5 g5
       have h9 := HST.out.1.2.1
       rw [HTk.out, wf_lay (x := (key', lv')) (r := (key, lv)) HKK.out hlt3] at h9
       exact ⟨k + 1, x + 1 + 1, A6, c6, (ps ++ [((key, lv), Av, cv)]) ++ [((key', lv'), A4, c4)], true, by go_num, by omega, rfl, rfl, by have := HLAID.out; omega, Lib.hid ⟨(fun h => absurd h (by simp)), by rw [← h9]; simp, by simp [HST.out.1.2.2.1], hp2.1, hp2.2⟩⟩
      go_wp2_with (at_builtin; first
       | (refine wpList_append_r _ rfl (.tmp 38) (.tmp 40) 23 rfl U.heap.size 46 i0 _ 40 Tryz.underlying23 hi hz0 hz1 hz2 rfl _ x ps rfl hro ((key, lv), Av, cv) m HH.out.2.2.2.1 1 rfl hl2 (by omega) hsz3 ?_; intro v4 w4 o4 g4 at4; obtain ⟨A5, c5, rfl⟩ := own_form o4; have bl := (Below.refl U.heap.size We).grown g4 hsz3 (fun j hj => (hro.lt j hj).1); have k0f := (bl.cell (HX.out _)).trans k0e; have k1f := (bl.cell (HX.out _)).trans k1e; have hsz4 := Nat.le_trans hsz3 bl.size; have HG4 := Lib.hid g4; clear k0e k1e x0e x1e bl g4 at4)
       | (refine wpList_append_r _ rfl (.tmp 42) (.tmp 47) 23 rfl U.heap.size 46 i0 _ 40 Tryz.underlying23 hi hz0 hz1 hz2 rfl _ (x + 1) (ps ++ [((key, lv), Av, cv)]) rfl o4 ((key', lv'), A4, c4) ml HST.out.2.2.2.2.1 1 rfl hl3 (by omega) hsz4 ?_; intro v5 w5 o5 g5 at5; obtain ⟨A6, c6, rfl⟩ := own_form o5))
      have HF2 := Lib.hid (HFF.out w4 w5 A5 A6 c5 c6 o4 HG4.out o5 g5)
      clear o4 o5 g5 at5 hro k0f k1f
      go_roundw
      case rel => exact HF2.out
      case measure => simp only [intOf]; omega
    ·go_wp2_with fail
     go_quiet (fail)
     obtain ⟨We, hWe⟩ : ∃ We, Wd.drewN nq = We := ⟨_, rfl⟩
     have hde := HD1.out nq
     have k0e : (Wd.drewN nq).cell? _ = _ := k0
     have k1e : (Wd.drewN nq).cell? _ = _ := k1
     rw [hWe] at hde k0e k1e ⊢
     obtain ⟨hRE, hUe⟩ := hde
     have hsz3 := hUe.size
     have hro := hRE.1
     have HRE := Lib.hid (And.intro hRE hUe)
     rw [HST.out.1.2.2.1] at hro
     have hl2 : (x + 1) * 40 ≤ 140737488355328 := by omega
     clear hWe hRE hUe k0 k1
     go_wp2_with (at_builtin; refine wpList_append_r _ rfl (.tmp 42) (.tmp 47) 23 rfl U.heap.size 46 i0 _ 40 Tryz.underlying23 hi hz0 hz1 hz2 rfl _ x ps rfl hro ((key', lv'), A4, c4) ml HST.out.2.2.2.2.1 1 rfl hl2 (by omega) hsz3 ?_; intro v4 w4 o4 g4 at4; obtain ⟨A5, c5, rfl⟩ := own_form o4)
     have HF2 := Lib.hid (HKP.out rfl We w4 A5 c5 HRE.out.1 HRE.out.2 hsz3 o4 g4)
     clear o4 g4 at4 hro
     go_roundw
     case rel => exact HF2.out
     case measure => simp only [intOf]; omega
  ·have hkm : k = n := by omega
   subst hkm
   have hdr : l.drop k = [] := List.drop_eq_nil_of_le (by have := HH.out.2.1; omega)
   rw [hdr] at hst
   clear hdr
   cases laid
   ·have hro := hst.out.2.2.2.1.1
    rw [hst.out.2.2.1] at hro
    have hl2 : (x + 1) * 40 ≤ 140737488355328 := by omega
    have HF : Hid (∀ (w4 : World) (A5 : Option Addr) (c5 : Nat), w4.ownsRow U.heap.size 46 2 (.slice A5 (x + 1) c5) (x + 1) (rcs (ps ++ [((key, lv), Av, cv)])) → wr.grownBy w4 (Value.slice A1 x c1).ownBlock → NewX B (withR l (key, lv)) w (.returned (.slice A5 (x + 1) c5)) w4) := Lib.hid fun w4 A5 c5 o4 g4 => by
     have hp := RowX.put (key := key) (lv := lv) (ml := m) hst.out.2.2.2.1 hst.out.2.2.1 hUB hszU hst.out.2.2.2.2 HH.out.2.2.2.1 (HH.out.2.2.1.below (hbw.mono hBw)) HH.out.2.2.2.2.1 o4 g4
     have hE : (ps ++ [(((key, lv) : Rc), Av, cv)]).map Prod.fst = withR l (key, lv) := by
      rw [List.map_append]
      exact hst.out.2.1
     have hL : (ps ++ [(((key, lv) : Rc), Av, cv)]).length = x + 1 := by simp [hst.out.2.2.1]
     exact ⟨A5, x + 1, c5, _, rfl, Lib.hid ⟨hE, by rw [← hE, List.length_map]; exact hL, (own_low o4).1, hp.1.low hUw⟩, HH.out.2.2.2.2.2.1.trans (hp.2.mono hUw)⟩
    clear hst hbU hB1 hbw
    go_wp2_with (at_builtin; refine wpList_append_r _ rfl (.tmp 51) (.tmp 53) 23 rfl U.heap.size 46 i0 _ 40 Tryz.underlying23 hi hz0 hz1 hz2 rfl _ x ps rfl hro ((key, lv), Av, cv) m HH.out.2.2.2.1 1 rfl hl2 (by omega) hszU ?_; intro v4 w4 o4 g4 at4; obtain ⟨A5, c5, rfl⟩ := own_form o4)
    have HF2 := Lib.hid (HF.out w4 A5 c5 o4 g4)
    clear o4 g4 at4
    go_ret
    exact HF2.out
   ·have HF : Hid (NewX B (withR l (key, lv)) w (.returned (.slice A1 x c1)) wr) := Lib.hid ⟨A1, x, c1, ps, rfl, by
     have h9 := hst.out.2.1
     have hE : ps.map Prod.fst = withR l (key, lv) := by rw [← h9]; simp [wf]
     have h8 := hst.out.2.2.2.1.1
     rw [hst.out.2.2.1] at h8
     exact Lib.hid ⟨hE, by rw [← hE, List.length_map]; exact hst.out.2.2.1, (own_low h8).1, hst.out.2.2.2.1.low hUw⟩, hbw⟩
    clear hst hbU hB1 hbw
    go_wp2_with fail
    go_ret
    exact HF.out
end Tree
end Go.Proofs.YtbhidndgnldheaaGreat

/-
 The document's Held and Get (layer 14).
-/
namespace Go.Proofs.YtbhidndgnldheaaGreat
namespace Mend
open Go.RowKit Vers Num Ring Disk Blk Tree
open Go.Proofs.YtbhidndgnldheaaGreat.Code hiding Bn
attribute [local go_sem ↓] Go.wp_at_zero Go.wp_at_succ
theorem take_at {l : List Rc} {k : Nat} (hk : k < l.length) : l.take (k + 1) = l.take k ++ [l.getD k r0] := by
 rw [List.take_succ_eq_append_getElem hk]
 simp [List.getD_eq_getElem?_getD, hk]
theorem held_take {l : List Rc} {k : Nat} {r : Rc} (hk : k < l.length) (hr : l.getD k r0 = r) : heldF (l.take (k + 1)) = withR (heldF (l.take k)) r := by
 rw [take_at hk, hr, held_snoc]
theorem getD_mem {l : List Rc} {k : Nat} (hk : k < l.length) : l.getD k r0 ∈ l := by
 rw [List.getD_eq_getElem?_getD, List.getElem?_eq_getElem hk]
 exact List.getElem_mem _
theorem held_len (l : List Rc) : (heldF l).length ≤ l.length := by
 have h : ∀ (l acc : List Rc), (l.foldl withR acc).length ≤ acc.length + l.length := by
  intro l
  induction l with
  | nil => intro acc; simp
  | cons r l ih =>
   intro acc
   have h1 := ih (withR acc r)
   have h2 := with_len acc r
   simp only [List.foldl_cons, List.length_cons]
   omega
 simpa [heldF] using h l []
theorem RowX.keepB {base B : Nat} {w w' : World} {v : Value} {ps : List Pr} (h : RowX base B w v ps) (hb : Below w.heap.size w w') (hB : B ≤ w.heap.size) : RowX base B w' v ps := by
 refine ⟨own_below h.1 hb (Nat.le_refl _), fun p hp => ⟨(h.2 p hp).1.below (hb.mono hB), (h.2 p hp).2⟩⟩
theorem Rb.below {w w' : World} {B : Nat} {A : Option Addr} {l : List Rc} (h : Rb w B A l) (hB : B ≤ w.heap.size) (hb : Below w.heap.size w w') : Rb w' B A l := fun hp => by
 obtain ⟨b, off, e, hbB, hc⟩ := h hp
 refine ⟨b, off, e, Nat.lt_of_lt_of_le hbB hb.size, fun j hj => ?_⟩
 obtain ⟨A', c', h0, h1, h2, h3⟩ := hc j hj
 exact ⟨A', c', (hb.cell (p := ⟨b, _, none⟩) hbB).trans h0, (hb.cell (p := ⟨b, _, none⟩) hbB).trans h1, h2.below (hb.mono hB), h3⟩
def Helds (B : Nat) (l : List Rc) (V : World) (e : Ending) (w' : World) : Prop :=
 (okL l ∧ ∃ A m c ps, e = .returned (.tuple #[.slice A m c, .bool true]) ∧ Hid (ps.map Prod.fst = heldF l ∧ (heldF l).length = m ∧ m ≤ c ∧ RowX V.heap.size B w' (.slice A m c) ps) ∧ Below V.heap.size V w') ∨
 (¬ okL l ∧ e = .returned (.tuple #[.slice none 0 0, .bool false]) ∧ Below V.heap.size V w')
def HeldUp (B : Nat) (l : List Rc) (n : Nat) (V : World) (v q : Value) (wr : World) : Prop :=
 ∃ (k na : Nat) (Aa : Option Addr) (ca : Nat), q = .int .i64 k ∧ k ≤ n ∧ v = .slice Aa na ca ∧ na ≤ k ∧ Hid ((heldF (l.take k)).length = na ∧ na ≤ ca ∧ (∀ j, j < k → okR (l.getD j r0)) ∧ ∃ ps, ps.map Prod.fst = heldF (l.take k) ∧ RowX V.heap.size B wr (.slice Aa na ca) ps ∧ Below V.heap.size V wr)
set_option maxRecDepth 100000 in
set_option maxHeartbeats 4000000 in
theorem held_any (A : Option Addr) (c n B : Nat) (l : List Rc) (hn : l.length = n) (hbig : n ≤ 3518437208882) (V : World) (hB : B ≤ V.heap.size) (hr : Rb V B A l) :
  Calls Tryz.prog 36 #[.slice A n c] V (Helds B l V) := by
 have HP := Lib.hid (And.intro hn (And.intro hB hr))
 have HI : Hid (HeldUp B l n V (.slice none 0 0) (.int .i64 0) V) := Lib.hid ⟨0, 0, none, 0, rfl, by omega, rfl, Nat.le_refl _, Lib.hid ⟨rfl, Nat.le_refl _, (fun j hj => by omega), [], rfl, rowX_nil _ _ _, Below.refl _ _⟩⟩
 clear hn hB hr
 go_enter Tryz.func36, Tryz.ntmps36
 go_wp2_with fail
 go_loopw [4, 5] (fun v q wr => HeldUp B l n V v q wr) (fun _ q _ => n - (intOf q).toNat)
 case atStart => exact HI.out
 case round =>
  clear HI
  obtain ⟨k, na, Aa, ca, rfl, hk, rfl, hna, hst⟩ := hrel
  have hbV : Below V.heap.size V wr := by obtain ⟨_, _, _, ps, _, _, hb⟩ := hst.out; exact hb
  by_cases hlt : k < n
  ·have d1 : (0 : Int) ≤ (k : Int) := by omega
   have d2 : (k : Int) < (n : Int) := by omega
   obtain ⟨pb, off, A4, c4, rfl, _, hbB, k0, k1, k2, k3⟩ := HP.out.2.2.at HP.out.1 HP.out.2.1 hbV hlt rfl
   obtain ⟨r, hrr⟩ : ∃ r, l.getD k r0 = r := ⟨_, rfl⟩
   rw [hrr] at k0 k1 k2 k3
   obtain ⟨key', lv'⟩ := r
   simp only at k0 k1 k2 k3
   obtain ⟨ml, hml⟩ : ∃ ml, lv'.length = ml := ⟨_, rfl⟩
   rw [hml] at k1 k3
   have hkl : k < l.length := by have := HP.out.1; omega
   have hVw := hbV.size
   have hBw := Nat.le_trans HP.out.2.1 hVw
   have H1 := refrecord_any A4 c4 ml key' lv' hml k3.2.1 k3.2.2 wr (k2.more hBw)
   by_cases hok : okR (key', lv')
   ·rw [decide_eq_true hok] at H1
    have H1 := Lib.hid H1
    have HW : Hid (∀ w3, Below wr.heap.size wr w3 → w3.cell? ⟨pb, off + k * 2, none⟩ = some (.string key') ∧ w3.cell? ⟨pb, off + k * 2 + 1, none⟩ = some (.slice A4 ml c4) ∧ Hid (Calls Tryz.prog 39 #[.slice Aa na ca, .agg #[.string key', .slice A4 ml c4]] w3 (fun e w4 => ∃ A5 n5 c5, e = .returned (.slice A5 n5 c5) ∧ Hid (HeldUp B l n V (.slice A5 n5 c5) (.int .i64 ((k : Int) + 1)) w4)))) := Lib.hid fun w3 b3 => by
     obtain ⟨g1, g2, g3, ps, hps, hrow, hb⟩ := hst.out
     refine ⟨(b3.cell (p := ⟨pb, _, none⟩) (by show pb < _; omega)).trans k0, (b3.cell (p := ⟨pb, _, none⟩) (by show pb < _; omega)).trans k1, Lib.hid ?_⟩
     have hrow3 := RowX.keepB hrow b3 hBw
     have hrb := hrow3.rb
     rw [hps] at hrb
     refine (with_any Aa A4 ca c4 na ml B (heldF (l.take k)) key' lv' g1 (by omega) hml k3 w3 (Nat.le_trans hBw b3.size) hrb (k2.below (b3.mono hBw))).mono ?_
     rintro e w4 ⟨A5, n5, c5, ps5, rfl, h5, b4⟩
     refine ⟨A5, n5, c5, rfl, Lib.hid ⟨k + 1, n5, A5, c5, by go_num, by omega, rfl, ?_, Lib.hid ?_⟩⟩
     ·have h6 := with_len (heldF (l.take k)) (key', lv')
      rw [g1, h5.out.2.1] at h6
      omega
     ·rw [held_take hkl hrr]
      refine ⟨h5.out.2.1, h5.out.2.2.1, fun j hj => ?_, ps5, h5.out.1, h5.out.2.2.2.low (Nat.le_trans hVw b3.size), hb.trans ((b3.mono hVw).trans (b4.mono (Nat.le_trans hVw b3.size)))⟩
      rcases Nat.lt_or_ge j k with h | h
      ·exact g3 j h
      ·rw [show j = k by omega, hrr]
       exact hok
    clear hst hbV k2 k3 hrr hml hok hBw hVw
    go_wp2_with fail
    refine H1.out.mono ?_
    rintro e3 w3 ⟨rfl, b3⟩
    obtain ⟨q0, q1, HC⟩ := HW.out w3 b3
    clear b3 HW H1
    go_wp2_with fail
    refine HC.out.mono ?_
    rintro e4 w4 ⟨A5, n5, c5, rfl, HF⟩
    go_wp2_with fail
    go_roundw
    case rel => exact HF.out
    case measure => simp only [intOf]; omega
   ·rw [decide_eq_false hok] at H1
    have H1 := Lib.hid H1
    have HN : Hid (¬ okL l ∧ Below V.heap.size V wr) := Lib.hid ⟨fun h => hok (by rw [← hrr]; exact h _ (getD_mem hkl)), hbV⟩
    clear hst hbV k2 k3 hrr hml hok hBw hVw
    go_wp2_with fail
    refine H1.out.mono ?_
    rintro e3 w3 ⟨rfl, b3⟩
    have HE : Hid (Helds B l V (.returned (.tuple #[.slice none 0 0, .bool false])) w3) := Lib.hid (.inr ⟨HN.out.1, rfl, HN.out.2.trans (b3.mono HN.out.2.size)⟩)
    clear b3 H1
    go_wp2_with fail
    go_ret2
    exact HE.out
  ·have hkm : k = n := by omega
   subst hkm
   have hfull : l.take k = l := List.take_of_length_le (by have := HP.out.1; omega)
   rw [hfull] at hst
   have HF : Hid (Helds B l V (.returned (.tuple #[.slice Aa na ca, .bool true])) wr) := Lib.hid (.inl (by
    obtain ⟨g1, g2, g3, ps, hps, hrow, hb⟩ := hst.out
    refine ⟨fun r hr => ?_, Aa, na, ca, ps, rfl, Lib.hid ⟨hps, g1, g2, hrow⟩, hb⟩
    obtain ⟨j, hj, rfl⟩ := List.mem_iff_getElem.1 hr
    have h1 := g3 j (by have := HP.out.1; omega)
    rwa [List.getD_eq_getElem?_getD, List.getElem?_eq_getElem hj] at h1))
   clear hst hfull hbV
   go_wp2_with fail
   go_ret2
   exact HF.out
theorem find_drop {l : List Rc} {i : Nat} {r : Rc} (hi : i < l.length) (hr : l.getD i r0 = r) (key : Nm) : find (l.drop i) key = if r.1 = key then some r.2 else find (l.drop (i + 1)) key := by
 rw [drop_at hi, hr]
 rfl
def Gets (B : Nat) (zs : List Vr) (w : World) (e : Ending) (w' : World) : Prop := ∃ A m c, e = .returned (.slice A m c) ∧ Hid (zs.length = m ∧ m ≤ c ∧ m ≤ 140737488355328 ∧ Vs w 0 B A zs) ∧ w' = w
set_option maxRecDepth 100000 in
set_option maxHeartbeats 2000000 in
theorem get_any (A : Option Addr) (c n B : Nat) (l : List Rc) (hn : l.length = n) (key : Nm) (w : World) (hB : B ≤ w.heap.size) (hr : Rb w B A l) (hbig : n ≤ 140737488355328) :
  Calls Tryz.prog 38 #[.slice A n c, .string key] w (Gets B (getF l key) w) := by
 have HP := Lib.hid (And.intro hn (And.intro hB hr))
 clear hn hB hr
 go_enter Tryz.func38, Tryz.ntmps38
 go_wp2_with fail
 go_loopw [5] (fun q wr => ∃ i : Nat, q = .int .i64 i ∧ i ≤ n ∧ Hid (find l key = find (l.drop i) key ∧ wr = w)) (fun q _ => n - (intOf q).toNat)
 case atStart => exact ⟨0, rfl, by omega, Lib.hid ⟨by simp, rfl⟩⟩
 case round =>
  obtain ⟨i, rfl, hi, hst⟩ := hrel
  obtain ⟨hf, rfl⟩ := hst.out
  clear hst
  by_cases hlt : i < n
  ·have d1 : (0 : Int) ≤ (i : Int) := by omega
   have d2 : (i : Int) < (n : Int) := by omega
   obtain ⟨pb, off, A4, c4, rfl, _, hbB, k0, k1, k2, k3⟩ := HP.out.2.2.at HP.out.1 HP.out.2.1 (Below.refl _ _) hlt rfl
   obtain ⟨r, hrr⟩ : ∃ r, l.getD i r0 = r := ⟨_, rfl⟩
   have hfd := find_drop (by have := HP.out.1; omega) hrr key
   rw [hrr] at k0 k1 k2 k3
   obtain ⟨key', lv'⟩ := r
   simp only at k0 k1 k2 k3 hfd
   obtain ⟨ml, hml⟩ : ∃ ml, lv'.length = ml := ⟨_, rfl⟩
   rw [hml] at k1 k3
   by_cases hkk : key' = key
   ·have e1 : (key'.toList == key.toList) = true := by rw [hkk]; simp
    rw [if_pos hkk] at hfd
    have HF : Hid (Gets B (getF l key) wr (.returned (.slice A4 ml c4)) wr) := Lib.hid ⟨A4, ml, c4, rfl, Lib.hid (by
     have : getF l key = lv' := by unfold getF; rw [hf, hfd]; rfl
     rw [this]
     exact ⟨hml, k3.1, k3.2.1, k2⟩), rfl⟩
    clear hf hfd hkk hrr hml k2 k3
    go_wp2_with fail
    go_ret
    exact HF.out
   ·have e1 : (key'.toList == key.toList) = false := by rw [nm_eq]; exact decide_eq_false hkk
    rw [if_neg hkk] at hfd
    have HF := Lib.hid (hf.trans hfd)
    clear hf hfd hkk hrr hml k2 k3 k1
    go_wp2_with fail
    go_roundw
    case rel => exact ⟨i + 1, by go_num, by omega, Lib.hid ⟨HF.out, by first | rfl | trivial⟩⟩
    case measure => simp only [intOf]; omega
  ·have hin : i = n := by omega
   subst hin
   have HF : Hid (Gets B (getF l key) wr (.returned (.slice none 0 0)) wr) := Lib.hid ⟨none, 0, 0, rfl, Lib.hid (by
    have : getF l key = [] := by unfold getF; rw [hf, List.drop_eq_nil_of_le (by have := HP.out.1; omega)]; rfl
    rw [this]
    exact ⟨rfl, Nat.le_refl _, by omega, Vs.nil _⟩), rfl⟩
   clear hf
   go_wp2_with fail
   go_ret
   exact HF.out
end Mend
end Go.Proofs.YtbhidndgnldheaaGreat

/-
 Is a record beneath a path?
-/
namespace Go.Proofs.YtbhidndgnldheaaGreat
namespace Tree
open Go.RowKit Vers Num Ring Disk Blk
open Go.Proofs.YtbhidndgnldheaaGreat.Code hiding Bn
attribute [local go_sem ↓] Go.wp_at_zero Go.wp_at_succ

section
variable {F : Nat → Prop} {w : World} {tb : Nat} {mv : Nat → Option Nat} {f : Fp} {all : List Rc} {Bz : List Int → Prop}
end
end Tree
end Go.Proofs.YtbhidndgnldheaaGreat

/-
 The records beneath a path, rising by keys.
-/
namespace Go.Proofs.YtbhidndgnldheaaGreat
namespace Tree
open Go.RowKit Vers Num Ring Disk Blk Go.Maps
open Go.Proofs.YtbhidndgnldheaaGreat.Code hiding Bn
attribute [local go_sem ↓] Go.wp_at_zero Go.wp_at_succ

theorem info_rec : (Tryz.prog.info? 46).map (fun i => (i.zero, i.size, i.bytes)) = some (some (.agg #[.string ⟨#[]⟩, .slice none 0 0]), 2, 40) := by kernel_rfl
theorem nodup_len {α : Type} [DecidableEq α] : ∀ {l m : List α}, l.Nodup → (∀ x ∈ l, x ∈ m) → l.length ≤ m.length
 | [], _, _, _ => Nat.zero_le _
 | x :: l, m, h, hs => by
  have hx := hs x (by simp)
  obtain ⟨h1, h2⟩ := List.nodup_cons.1 h
  have ih := nodup_len (l := l) (m := m.erase x) h2 fun y hy => (List.mem_erase_of_ne (fun (e : y = x) => h1 (by rw [← e]; exact hy))).2 (hs y (by simp [hy]))
  rw [List.length_erase_of_mem hx] at ih
  have := List.length_pos_of_mem hx
  simp only [List.length_cons]
  omega
def Coll (all : List Rc) (a k : Nat) (more : Rc → Prop) (ps : List Pr) : Prop :=
 (ps.map Prod.fst).Nodup ∧ ∀ r, r ∈ ps.map Prod.fst ↔ r ∈ all ∧ ((a ≤ leafN r.1 ∧ leafN r.1 < a + k) ∨ (leafN r.1 = a + k ∧ more r))
theorem Coll.next {all : List Rc} {a k : Nat} {more : Rc → Prop} {ps : List Pr} (h : Coll all a k more ps) (hm : ∀ r, r ∈ all → leafN r.1 = a + k → more r) : Coll all a (k + 1) (fun _ => False) ps := by
 refine ⟨h.1, fun r => (h.2 r).trans ?_⟩
 constructor
 ·rintro ⟨h1, h2 | ⟨h2, _⟩⟩
  ·exact ⟨h1, .inl (by omega)⟩
  ·exact ⟨h1, .inl (by omega)⟩
 ·rintro ⟨h1, h2 | ⟨_, h2⟩⟩
  ·by_cases e : leafN r.1 = a + k
   ·exact ⟨h1, .inr ⟨e, hm r h1 e⟩⟩
   ·exact ⟨h1, .inl (by omega)⟩
  ·cases h2
theorem Coll.same {all : List Rc} {a k : Nat} {more more' : Rc → Prop} {ps : List Pr} (h : Coll all a k more ps) (hm : ∀ r, r ∈ all → leafN r.1 = a + k → (more r ↔ more' r)) : Coll all a k more' ps := by
 refine ⟨h.1, fun r => (h.2 r).trans ?_⟩
 constructor
 ·rintro ⟨h1, h2 | ⟨h2, h3⟩⟩
  ·exact ⟨h1, .inl h2⟩
  ·exact ⟨h1, .inr ⟨h2, (hm r h1 h2).1 h3⟩⟩
 ·rintro ⟨h1, h2 | ⟨h2, h3⟩⟩
  ·exact ⟨h1, .inl h2⟩
  ·exact ⟨h1, .inr ⟨h2, (hm r h1 h2).2 h3⟩⟩
theorem Coll.add {all : List Rc} {a k : Nat} {more more' : Rc → Prop} {ps : List Pr} (h : Coll all a k more ps) (p : Pr) (hp : p.1 ∈ all) (hl : leafN p.1.1 = a + k) (hno : ¬ more p.1) (hm : ∀ r, r ∈ all → leafN r.1 = a + k → (more' r ↔ more r ∨ r = p.1)) : Coll all a k more' (ps ++ [p]) := by
 refine ⟨?_, fun r => ?_⟩
 ·rw [List.map_append, List.nodup_append]
  refine ⟨h.1, by simp, fun x hx y hy e => ?_⟩
  simp at hy
  subst hy
  subst e
  rcases (h.2 _).1 hx with ⟨_, h2 | ⟨_, h3⟩⟩
  ·omega
  ·exact hno h3
 ·rw [List.map_append, List.mem_append, h.2 r]
  simp only [List.map_cons, List.map_nil, List.mem_singleton]
  constructor
  ·rintro (⟨h1, h2 | ⟨h2, h3⟩⟩ | rfl)
   ·exact ⟨h1, .inl h2⟩
   ·exact ⟨h1, .inr ⟨h2, (hm r h1 h2).2 (.inl h3)⟩⟩
   ·exact ⟨hp, .inr ⟨hl, (hm _ hp hl).2 (.inr rfl)⟩⟩
  ·rintro ⟨h1, h2 | ⟨h2, h3⟩⟩
   ·exact .inl ⟨h1, .inl h2⟩
   ·rcases (hm r h1 h2).1 h3 with h4 | rfl
    ·exact .inl ⟨h1, .inr ⟨h2, h4⟩⟩
    ·exact .inr rfl
theorem Coll.len {all : List Rc} {a k : Nat} {more : Rc → Prop} {ps : List Pr} (h : Coll all a k more ps) : ps.length ≤ all.length := by
 have := nodup_len h.1 fun x hx => ((h.2 x).1 hx).1
 simpa using this
theorem map_entry {D : DataW Value} {l : Vl} (hm : MapV D l) {s : Nm} {kl : Lit} (hk : keyOf Tryz.prog 9 (.string s) = some kl) {cv : Value} {yd : DataW Value} {yp : List MemPlace} (hv : heldE cv = some (yd, yp)) (hat : ∀ zd, D.atKey kl zd = yd) : (s, cv) ∈ l := by
 have e0 : DataW.held cv = yd := congrArg Prod.fst (Option.some.inj hv)
 subst e0
 cases hf : find l s with
 | none =>
  have h1 := hm s kl hk (.held (.bool true))
  have h2 := hm s kl hk (.held (.bool false))
  rw [hat, hf] at h1 h2
  have h3 := h1.symm.trans h2
  simp at h3
 | some v =>
  have h1 := hm s kl hk (.held (.bool true))
  rw [hat, hf] at h1
  have h2 : cv = v := DataW.held.inj h1
  subst h2
  exact find_some hf
def NewRs (l : List Rc) (w : World) (e : Ending) (w' : World) : Prop :=
 ∃ A n c ps, e = .returned (.slice A n c) ∧ Hid (ps.map Prod.fst = l ∧ n = l.length ∧ n ≤ c ∧ Got w.heap.size w' A ps) ∧ Below w.heap.size w w'
section
variable {F : Nat → Prop} {w : World} {tb : Nat} {mv : Nat → Option Nat} {f : Fp} {all : List Rc} {Bz : List Int → Prop}
def Going (all : List Rc) (a m : Nat) (w : World) (v q : Value) (wr : World) : Prop :=
 ∃ (k : Nat) (ps : List Pr), q = .int .i64 k ∧ k ≤ m ∧ Hid (RowT w.heap.size wr.heap.size wr v ps ∧ Coll all a k (fun _ => False) ps) ∧ Below w.heap.size w wr
end
end Tree
end Go.Proofs.YtbhidndgnldheaaGreat

/-
 The hashes of the places one digit longer, where the hash of each can be told.
-/
namespace Go.Proofs.YtbhidndgnldheaaGreat
namespace Tree
open Go.RowKit Vers Num Ring Disk Blk
open Go.Proofs.YtbhidndgnldheaaGreat.Code hiding Bn
attribute [local go_sem ↓] Go.wp_at_zero Go.wp_at_succ

def kr (h : Nat → Int) (k : Nat) : List Int := (List.range 16).map fun d => if d < k then h d else 0
section
variable {F : Nat → Prop} {w : World} {tb : Nat} {mv : Nat → Option Nat} {f : Fp} {all : List Rc} {Bz : List Int → Prop}
end
end Tree
end Go.Proofs.YtbhidndgnldheaaGreat

/-
 What a place's hash is made of, and the hash.
-/
namespace Go.Proofs.YtbhidndgnldheaaGreat
namespace Tree
open Go.RowKit Vers Num Ring Disk Blk
open Go.Proofs.YtbhidndgnldheaaGreat.Code hiding Bn
attribute [local go_sem ↓] Go.wp_at_zero Go.wp_at_succ

def Written (g : Nat → List Int) (m base : Nat) (w : World) (v q : Value) (wr : World) : Prop :=
 ∃ (i n : Nat) (A : Option Addr) (c : Nat), q = .int .i64 i ∧ i ≤ m ∧ v = .slice A n c ∧ n ≤ 10 * i ∧ Hid ((g i).length = n ∧ wr.ownsRow base 5 1 (.slice A n c) n (nums .u8 (g i)) ∧ Below base w wr)
section
variable {F : Nat → Prop} {w : World} {tb : Nat} {mv : Nat → Option Nat} {f : Fp} {all : List Rc} {Bz : List Int → Prop}
end
end Tree
end Go.Proofs.YtbhidndgnldheaaGreat

/-
 A spot is locked, gets its hash, is done.
-/
namespace Go.Proofs.YtbhidndgnldheaaGreat
namespace Tree
open Go.RowKit Vers Num Ring Disk Blk
open Go.Proofs.YtbhidndgnldheaaGreat.Code hiding Bn
section
variable {F : Nat → Prop} {w : World} {tb : Nat} {mv : Nat → Option Nat} {f : Fp} {all : List Rc} {Bz : List Int → Prop} {p : List Int}
end
end Tree
end Go.Proofs.YtbhidndgnldheaaGreat

/-
 The hash of a place: made when it is first asked for.
-/
namespace Go.Proofs.YtbhidndgnldheaaGreat
namespace Tree
open Go.RowKit Vers Num Ring Disk Blk
open Go.Proofs.YtbhidndgnldheaaGreat.Code hiding Bn
attribute [local go_sem ↓] Go.wp_at_zero Go.wp_at_succ

section
variable {F : Nat → Prop} {w : World} {tb : Nat} {mv : Nat → Option Nat} {f : Fp} {all : List Rc} {Bz : List Int → Prop} {p : List Int}
end
end Tree
end Go.Proofs.YtbhidndgnldheaaGreat

/-
 What becomes of a tree when a map is made, a key gets versions, a key goes: all but the spots; then the spots, one by one.
-/
namespace Go.Proofs.YtbhidndgnldheaaGreat
namespace Tree
open Go.RowKit Vers Num Ring Disk Blk
open Go.Proofs.YtbhidndgnldheaaGreat.Code hiding Bn

structure TI (F : Nat → Prop) (w : World) (tb : Nat) (mv : Nat → Option Nat) (f : Fp) (all : List Rc) : Prop where
 leaf : ∀ i, i < 256 → Leaf F w f all i (mv i)
 inj : ∀ i j k, i < 256 → j < 256 → mv i = some k → mv j = some k → i = j
 ne : ∀ i k, i < 256 → mv i = some k → k ≠ tb
 rows : ∀ r ∈ all, Row F (Mu tb mv) w f r
 ok : okAll all
 own : F tb
 lt : ∀ k, F k → k < w.heap.size
section
variable {F F' : Nat → Prop} {w w' : World} {tb : Nat} {mv : Nat → Option Nat} {f : Fp} {all : List Rc} {Bz : List Int → Prop} {r : Rc} {p : List Int}
theorem TI.turn (h : TI F w tb mv f all) (hg : w.grownBy w' (some tb)) : TI F w' tb mv f all := by
 obtain ⟨h3, h4, hne, h5, h6, h7, h8⟩ := h
 exact ⟨fun i hi => ⟨(h3 i hi).1, fun mb hm => ⟨((h3 i hi).2 mb hm).1, ((h3 i hi).2 mb hm).2.same (hg.block _ (h8 _ ((h3 i hi).2 mb hm).1) (fun e => hne i mb hi hm (by injection e)))⟩⟩, h4, hne, fun r hr => (h5 r hr).keep hg.size fun k hk hM => hg.block k (h8 k hk) (fun e => hM (.inl (by injection e))), h6, h7, fun k hk1 => Nat.lt_of_lt_of_le (h8 k hk1) hg.size⟩
theorem TI.below (h : TI F w tb mv f all) (hb : Below w.heap.size w w') : TI F w' tb mv f all := h.turn ⟨hb.os, hb.tape, hb.output, hb.size, fun k hk _ => hb.block k hk⟩
theorem wout_map (f : Fp) (l : List Rc) (s : Nm) : wout (l.map (vOf f)) s = (wout l s).map (vOf f) := by
 unfold wout
 rw [List.filter_map]
 rfl
theorem ins_map {f f' : Fp} {s : Nm} {lv : List Vr} {b : Value} (hb : vOf f' (s, lv) = (s, b)) : ∀ (l : List Rc), (∀ x ∈ l, vOf f' x = vOf f x) → ins (l.map (vOf f)) s b = (ins l s lv).map (vOf f')
 | [], _ => by
  simp only [ins, List.map_nil, List.map_cons, hb]
 | x :: l, h => by
  have ih := ins_map hb l fun y hy => h y (by simp [hy])
  have hx := h x (by simp)
  have hl : l.map (vOf f) = l.map (vOf f') := List.map_congr_left fun y hy => (h y (by simp [hy])).symm
  simp only [List.map_cons, ins]
  rw [show (vOf f x).1 = x.1 from rfl]
  by_cases e : nlt s x.1 = true
  ·rw [if_pos e, if_pos e]
   simp only [List.map_cons, hb, hx, hl]
  ·rw [if_neg e, if_neg e]
   simp only [List.map_cons, hx, ih]
def putP (f : Fp) (key : Nm) (A : Option Addr) (c : Nat) : Fp := fun k => if k = key then (A, c) else f k
theorem TI.put (h : TI F w tb mv f all) {mb : Nat} {key : Nm} {lv : List Vr} (hne : lv ≠ []) (hok : okR (key, lv)) (hm : mv (leafN key) = some mb) {A : Option Addr} {c L B : Nat} (hv : Vs w L B A lv) (hc : lv.length ≤ c) (hB : B ≤ w.heap.size) (hL : ∀ k, L ≤ k → k < B → ¬ F k)
  (hM : MI w' mb (wit ((leafR all (leafN key)).map (vOf f)) key (.slice A lv.length c))) (hg : w.grownBy w' (some mb)) : TI (fun k => F k ∨ (L ≤ k ∧ k < B)) w' tb mv (putP f key A c) (withR all (key, lv)) := by
 have hlf := leaf_lt key
 have hmF := ((h.leaf _ hlf).2 mb hm).1
 have hold : ∀ x : Rc, x.1 ≠ key → vOf (putP f key A c) x = vOf f x := fun x hx => by unfold vOf putP; rw [if_neg hx]
 have hnew : vOf (putP f key A c) (key, lv) = (key, .slice A lv.length c) := by unfold vOf putP; rw [if_pos rfl]
 refine ⟨fun j hj => ?_, h.inj, h.ne, fun r hr => ?_, ⟨with_srt h.ok.1 _, fun r hr => ?_⟩, .inl h.own, fun k hk => ?_⟩
 ·by_cases e : j = leafN key
  ·subst e
   refine ⟨(fun e => by rw [hm] at e; cases e), fun b hb => ?_⟩
   rw [hm] at hb
   injection hb with hb
   subst hb
   refine ⟨.inl hmF, ?_⟩
   rw [show leafN key = leafN (key, lv).1 from rfl, leaf_with_eq h.ok.1]
   unfold withR
   rw [if_neg hne]
   rw [wit, wout_map] at hM
   rw [show (key, lv).1 = key from rfl, show (key, lv).2 = lv from rfl, wit]
   have hx := ins_map (f := f) hnew (wout (leafR all (leafN key)) key) fun x hx => hold x (mem_wout.1 hx).2
   rw [hx] at hM
   exact hM
  ·have hl := h.leaf j hj
   have hlr := leaf_with_ne h.ok.1 (key, lv) e
   refine ⟨(fun q => by rw [hlr]; exact hl.1 q), fun b hb => ⟨.inl (hl.2 b hb).1, ?_⟩⟩
   rw [hlr]
   have hmm : (leafR all j).map (vOf (putP f key A c)) = (leafR all j).map (vOf f) := List.map_congr_left fun x hx => hold x fun q => e (by rw [← (leaf_mem.1 hx).2, q])
   rw [hmm]
   refine (hl.2 b hb).2.same (hg.block _ (h.lt _ (hl.2 b hb).1) fun q => ?_)
   injection q with q
   subst q
   exact e (h.inj j (leafN key) b hj hlf hb hm)
 ·rcases with_mem.1 hr with ⟨rfl, _⟩ | ⟨h1, h2⟩
  ·refine ⟨L, B, ?_, ?_, Nat.le_trans hB hg.size, fun k a b => ⟨.inr ⟨a, b⟩, fun hMu => hL k a b ?_⟩⟩
   ·unfold putP
    rw [if_pos rfl]
    exact hv.keep fun a ha hb => World.cell?_of_block (hg.block _ (by omega) fun q => by
     injection q with q
     exact hL a.block ha hb (q ▸ hmF))
   ·unfold putP
    rw [if_pos rfl]
    exact hc
   ·rcases hMu with rfl | ⟨j, hj, hMu⟩
    ·exact h.own
    ·exact ((h.leaf j hj).2 k hMu).1
  ·obtain ⟨L0, B0, g1, g2, g3, g4⟩ := h.rows r h1
   refine ⟨L0, B0, ?_, ?_, Nat.le_trans g3 hg.size, fun k a b => ⟨.inl (g4 k a b).1, (g4 k a b).2⟩⟩
   ·unfold putP
    rw [if_neg h2]
    exact g1.keep fun a ha hb => World.cell?_of_block (hg.block _ (by omega) fun q => by
     injection q with q
     exact (g4 a.block ha hb).2 (.inr ⟨leafN key, hlf, q ▸ hm⟩))
   ·unfold putP
    rw [if_neg h2]
    exact g2
 ·rcases with_mem.1 hr with ⟨rfl, h1⟩ | ⟨h1, h2⟩
  ·exact ⟨hok, h1⟩
  ·exact h.ok.2 r h1
 ·rcases hk with hk | ⟨_, hk⟩
  ·exact Nat.lt_of_lt_of_le (h.lt k hk) hg.size
  ·exact Nat.lt_of_lt_of_le hk (Nat.le_trans hB hg.size)
theorem TI.drop (h : TI F w tb mv f all) {mb : Nat} {key : Nm} (hm : mv (leafN key) = some mb)
  (hM : MI w' mb (wout ((leafR all (leafN key)).map (vOf f)) key)) (hg : w.grownBy w' (some mb)) : TI F w' tb mv f (withR all (key, [])) := by
 have hlf := leaf_lt key
 refine ⟨fun j hj => ?_, h.inj, h.ne, fun r hr => ?_, ⟨with_srt h.ok.1 _, fun r hr => ?_⟩, h.own, fun k hk => Nat.lt_of_lt_of_le (h.lt k hk) hg.size⟩
 ·by_cases e : j = leafN key
  ·subst e
   refine ⟨(fun e => by rw [hm] at e; cases e), fun b hb => ?_⟩
   rw [hm] at hb
   injection hb with hb
   subst hb
   refine ⟨((h.leaf _ hlf).2 mb hm).1, ?_⟩
   rw [show leafN key = leafN (key, ([] : List Vr)).1 from rfl, leaf_with_eq h.ok.1]
   unfold withR
   rw [if_pos rfl]
   rw [wout_map] at hM
   exact hM
  ·have hl := h.leaf j hj
   have hlr := leaf_with_ne h.ok.1 (key, ([] : List Vr)) e
   refine ⟨(fun q => by rw [hlr]; exact hl.1 q), fun b hb => ⟨(hl.2 b hb).1, ?_⟩⟩
   rw [hlr]
   refine (hl.2 b hb).2.same (hg.block _ (h.lt _ (hl.2 b hb).1) fun q => ?_)
   injection q with q
   subst q
   exact e (h.inj j (leafN key) b hj hlf hb hm)
 ·rcases with_mem.1 hr with ⟨_, h1⟩ | ⟨h1, h2⟩
  ·exact absurd rfl h1
  ·refine (h.rows r h1).keep hg.size fun k hk hn => hg.block k (h.lt k hk) fun q => ?_
   injection q with q
   exact hn (.inr ⟨leafN key, hlf, q ▸ hm⟩)
 ·rcases with_mem.1 hr with ⟨_, h1⟩ | ⟨h1, h2⟩
  ·exact absurd rfl h1
  ·exact h.ok.2 r h1

/-! ### The spots on a key's path are made anew -/
def pre (key : Nm) (n : Nat) : List Int := [dig0 key, dig1 key].take n
theorem pre_ok (key : Nm) (n : Nat) : okP (pre key n) := by
 refine ⟨fun d hd => ?_, by unfold pre; rw [List.length_take]; exact Nat.min_le_right _ _⟩
 have := List.mem_of_mem_take hd
 have h0 := dig0_range key
 have h1 := dig1_range key
 simp at this
 omega
theorem pre_is {key : Nm} {p : List Int} (hp : okP p) (h : inP p key = true) : p = pre key p.length := by
 rcases ok_cases hp with rfl | ⟨a, rfl, _⟩ | ⟨a, b, rfl, _, _⟩
 ·rfl
 ·simp [inP] at h; simp [pre, h]
 ·simp [inP] at h; simp [pre, h]
def Stale (L : List Value) (mv : Nat → Option Nat) (all : List Rc) (key : Nm) (n : Nat) : Prop :=
 L.length = 1348 ∧ (∀ i, i < 256 → L[i]? = some (.map (mv i))) ∧ ∀ p, okP p → ∃ (d x : Int), L[256 + 4 * spotN p]? = some (.int .u32 d) ∧ L[256 + 4 * spotN p + 1]? = some (.int .i32 0) ∧ L[256 + 4 * spotN p + 2]? = some (.int .u32 0) ∧ L[256 + 4 * spotN p + 3]? = some (.int .u64 x) ∧
  (d = 0 ∨ d = 1) ∧ ((inP p key = false ∨ p.length < n) → d = 0 ∨ x = hashF all p)
theorem Stale.next {L L' : List Value} {key : Nm} {n : Nat} (h : Stale L mv all key n) (_hn : n < 3) (hl : L'.length = L.length) (hk : ∀ j, j < 256 + 4 * spotN (pre key n) ∨ 256 + 4 * spotN (pre key n) + 4 ≤ j → L'[j]? = L[j]?)
  (s0 : L'[256 + 4 * spotN (pre key n)]? = some (.int .u32 0)) (s1 : L'[256 + 4 * spotN (pre key n) + 1]? = some (.int .i32 0)) (s2 : L'[256 + 4 * spotN (pre key n) + 2]? = some (.int .u32 0)) (s3 : L'[256 + 4 * spotN (pre key n) + 3]? = some (.int .u64 0)) : Stale L' mv all key (n + 1) := by
 obtain ⟨h1, h2, h3⟩ := h
 refine ⟨hl.trans h1, fun i hi => (hk i (by omega)).trans (h2 i hi), fun p hp => ?_⟩
 by_cases e : p = pre key n
 ·subst e
  exact ⟨0, 0, s0, s1, s2, s3, .inl rfl, fun _ => .inl rfl⟩
 ·have hne : spotN p ≠ spotN (pre key n) := fun q => e (spot_inj hp (pre_ok key n) q)
  obtain ⟨d, x, q0, q1, q2, q3, q4, q5⟩ := h3 p hp
  refine ⟨d, x, (hk _ (by omega)).trans q0, (hk _ (by omega)).trans q1, (hk _ (by omega)).trans q2, (hk _ (by omega)).trans q3, q4, fun hq => ?_⟩
  rcases hq with hq | hq
  ·exact q5 (.inl hq)
  ·by_cases hin : inP p key = true
   ·by_cases hln : p.length = n
    ·exact absurd (by rw [← hln]; exact pre_is hp hin) e
    ·exact q5 (.inr (by omega))
   ·exact q5 (.inl (by simpa using hin))
theorem Stale.cells {L : List Value} {key : Nm} (h : Stale L mv all key 3) : Cells L mv all fun _ => False := by
 obtain ⟨h1, h2, h3⟩ := h
 refine ⟨h1, h2, fun p hp => ?_⟩
 obtain ⟨d, x, q0, q1, q2, q3, q4, q5⟩ := h3 p hp
 refine ⟨d, 0, x, q0, q1, q2, q3, fun q => q.elim, fun _ => ⟨rfl, ?_⟩⟩
 rcases q4 with q4 | q4
 ·exact .inl q4
 ·rcases q5 (.inr (by have := hp.2; omega)) with q6 | q6
  ·exact .inl q6
  ·exact .inr ⟨q4, q6⟩
end
end Tree
end Go.Proofs.YtbhidndgnldheaaGreat

/-
 A key gets versions.
-/
namespace Go.Proofs.YtbhidndgnldheaaGreat
namespace Tree
open Go.RowKit Vers Num Ring Disk Blk
open Go.Proofs.YtbhidndgnldheaaGreat.Code hiding Bn
attribute [local go_sem ↓] Go.wp_at_zero Go.wp_at_succ

section
variable {F : Nat → Prop} {w : World} {tb : Nat} {mv : Nat → Option Nat} {f : Fp} {all : List Rc}
end
end Tree
end Go.Proofs.YtbhidndgnldheaaGreat

/-
 A new tree; trees made of lists.
-/
namespace Go.Proofs.YtbhidndgnldheaaGreat
namespace Tree
open Go.RowKit Vers Num Ring Disk Blk
open Go.Proofs.YtbhidndgnldheaaGreat.Code hiding Bn
attribute [local go_sem ↓] Go.wp_at_zero Go.wp_at_succ

def z4 : Nat → List Value
 | 0 => []
 | n + 1 => .int .u32 0 :: .int .i32 0 :: .int .u32 0 :: .int .u64 0 :: z4 n
end Tree
end Go.Proofs.YtbhidndgnldheaaGreat

/-
 What a tree tells, whatever the path; where two lists of hashes differ.
-/
namespace Go.Proofs.YtbhidndgnldheaaGreat
namespace Tree
open Go.RowKit Vers Num Ring Disk Blk
open Go.Proofs.YtbhidndgnldheaaGreat.Code hiding Bn
attribute [local go_sem ↓] Go.wp_at_zero Go.wp_at_succ

section
variable {F : Nat → Prop} {w : World} {tb : Nat} {mv : Nat → Option Nat} {f : Fp} {all : List Rc}
end

/-! ### Where lists differ -/
def dk (a b : List Int) (k : Nat) : List Int := ((List.range k).filter fun (i : Nat) => !decide (a.getD i 0 = b.getD i 0)).map fun (i : Nat) => (i : Int)
end Tree
end Go.Proofs.YtbhidndgnldheaaGreat

/-
 Trees of a law's own (layer 11): what is done with them, from a world on.
-/
namespace Go.Proofs.YtbhidndgnldheaaGreat
namespace Tree
open Go.RowKit Vers Num Ring Disk Blk
open Go.Proofs.YtbhidndgnldheaaGreat.Code hiding Bn
section
variable {F G : Nat → Prop} {w V V' : World} {tb : Nat} {all : List Rc}
end
theorem rs_nil {w : World} {L B : Nat} {A : Option Addr} : Rs w L B A [] := fun h => by simp at h
end Tree
end Go.Proofs.YtbhidndgnldheaaGreat

/-
 The document's hashes.
-/
namespace Go.Proofs.YtbhidndgnldheaaGreat
namespace Tree
open Go.RowKit Vers Num Ring Disk Blk
open Go.Proofs.YtbhidndgnldheaaGreat.Code hiding Bn
attribute [local go_sem ↓] Go.wp_at_zero Go.wp_at_succ

def textF : Nat → List Rc → List Int → List Int
 | 0, all, p => leafT (beneath all p)
 | k + 1, all, p => kidsT (fun (d : Nat) => hF k all (p ++ [(d : Int)])) 16
end Tree
end Go.Proofs.YtbhidndgnldheaaGreat

/-
 The document's lists of hashes; records, whatever the path.
-/
namespace Go.Proofs.YtbhidndgnldheaaGreat
namespace Tree
open Go.RowKit Vers Num Ring Disk Blk
open Go.Proofs.YtbhidndgnldheaaGreat.Code hiding Bn
attribute [local go_sem ↓] Go.wp_at_zero Go.wp_at_succ

end Tree
end Go.Proofs.YtbhidndgnldheaaGreat

/-
 The document's Give (layer 14).
-/
namespace Go.Proofs.YtbhidndgnldheaaGreat
namespace Mend
open Go.RowKit Vers Num Ring Disk Blk Tree
open Go.Proofs.YtbhidndgnldheaaGreat.Code hiding Bn
attribute [local go_sem ↓] Go.wp_at_zero Go.wp_at_succ
theorem filter_take {l : List Rc} (f : Rc → Bool) {k : Nat} {r : Rc} (hk : k < l.length) (hr : l.getD k r0 = r) : (l.take (k + 1)).filter f = (l.take k).filter f ++ (if f r = true then [r] else []) := by
 rw [take_at hk, hr, List.filter_append, List.filter_cons, List.filter_nil]
theorem rs_rb {w : World} {A : Option Addr} {l : List Rc} (h : Rs w 0 w.heap.size A l) : Rb w w.heap.size A l := fun hp => by
 obtain ⟨b, off, e, _, hb, hc⟩ := h hp
 exact ⟨b, off, e, hb, hc⟩
theorem rb_rs {w : World} {B : Nat} {A : Option Addr} {l : List Rc} (h : Rb w B A l) (hB : B ≤ w.heap.size) : Rs w 0 w.heap.size A l := fun hp => by
 obtain ⟨b, off, e, hb, hc⟩ := h hp
 refine ⟨b, off, e, Nat.zero_le _, hb, fun j hj => ?_⟩
 obtain ⟨A', c', h0, h1, h2, h3⟩ := hc j hj
 exact ⟨A', c', h0, h1, h2.more hB, h3⟩
def GrowR (f : Rc → Bool) (B n : Nat) (R : List Rc) (U : World) (v q : Value) (wr : World) : Prop :=
 ∃ (i x : Nat) (A1 : Option Addr) (c1 : Nat), q = .int .i64 i ∧ i ≤ n ∧ v = .slice A1 x c1 ∧ x ≤ i ∧ Hid (∃ ps, ps.map Prod.fst = (R.take i).filter f ∧ ps.length = x ∧ RowX U.heap.size B wr (.slice A1 x c1) ps ∧ Below U.heap.size U wr)
theorem GrowR.skip {f : Rc → Bool} {B n i x c1 : Nat} {R : List Rc} {U wr wr' : World} {A1 : Option Addr} {r : Rc} (h : ∃ ps, ps.map Prod.fst = (R.take i).filter f ∧ ps.length = x ∧ RowX U.heap.size B wr (.slice A1 x c1) ps ∧ Below U.heap.size U wr) (hi : i < n) (hx : x ≤ i) (hR : R.length = n) (hr : R.getD i r0 = r) (hf : f r = false) (hb : Below wr.heap.size wr wr') (hB : B ≤ wr.heap.size) : GrowR f B n R U (.slice A1 x c1) (.int .i64 ((i : Int) + 1)) wr' := by
 obtain ⟨ps, h1, h2, h3, h4⟩ := h
 refine ⟨i + 1, x, A1, c1, by push_cast; rfl, by omega, rfl, by omega, Lib.hid ⟨ps, ?_, h2, RowX.keepB h3 hb hB, h4.trans (hb.mono h4.size)⟩⟩
 rw [filter_take f (by omega) hr, hf, h1]
 simp
theorem GrowR.more {f : Rc → Bool} {B n i x c1 : Nat} {R : List Rc} {U wr W : World} {A1 A4 : Option Addr} {c4 ml : Nat} {key : Nm} {lv : List Vr} (h : ∃ ps, ps.map Prod.fst = (R.take i).filter f ∧ ps.length = x ∧ RowX U.heap.size B wr (.slice A1 x c1) ps ∧ Below U.heap.size U wr) (hi : i < n) (hx : x ≤ i) (hR : R.length = n) (hr : R.getD i r0 = (key, lv)) (hf : f (key, lv) = true) (hb : Below wr.heap.size wr W) (hB : B ≤ U.heap.size) (hml : lv.length = ml) (hv : Vs W 0 B A4 lv) (hz : ml ≤ c4 ∧ ml ≤ 140737488355328 ∧ key.size ≤ 140737488355328) :
  ∃ ps, ps.length = x ∧ W.ownsRow U.heap.size 46 2 (.slice A1 x c1) x (rcs ps) ∧ U.heap.size ≤ W.heap.size ∧ ∀ (w4 : World) (A5 : Option Addr) (c5 : Nat), w4.ownsRow U.heap.size 46 2 (.slice A5 (x + 1) c5) (x + 1) (rcs (ps ++ [((key, lv), A4, c4)])) → W.grownBy w4 (Value.slice A1 x c1).ownBlock → GrowR f B n R U (.slice A5 (x + 1) c5) (.int .i64 ((i : Int) + 1)) w4 := by
 obtain ⟨ps, h1, h2, h3, h4⟩ := h
 have hUW := h4.trans (hb.mono h4.size)
 have hrow := RowX.keepB h3 hb (Nat.le_trans hB h4.size)
 have hro := hrow.1
 rw [h2] at hro
 refine ⟨ps, h2, hro, hUW.size, fun w4 A5 c5 o4 g4 => ?_⟩
 have hp := RowX.put (key := key) (lv := lv) (ml := ml) hrow h2 hB hUW.size hUW hml hv hz o4 g4
 refine ⟨i + 1, x + 1, A5, c5, by push_cast; rfl, by omega, rfl, by omega, Lib.hid ⟨_, ?_, by simp [h2], hp.1, hp.2⟩⟩
 rw [filter_take f (by omega) hr, hf, List.map_append, h1]
 simp
end Mend
end Go.Proofs.YtbhidndgnldheaaGreat

/-
 The records that one takes are sorted by their keys (layer 14).
-/
namespace Go.Proofs.YtbhidndgnldheaaGreat
namespace Mend
open Go.RowKit Vers Num Ring Disk Blk Tree
open Go.Proofs.YtbhidndgnldheaaGreat.Code hiding Bn
attribute [local go_sem ↓] Go.wp_at_zero Go.wp_at_succ

set_option maxRecDepth 100000 in
theorem less_any (k k' : Nm) (A A' : Option Addr) (n c n' c' : Nat) (w : World) :
  Calls Tryz.prog 64 #[.agg #[.string k, .slice A n c], .agg #[.string k', .slice A' n' c']] w fun e w' => e = .returned (.int .i64 (Lib.compareBytes k.data.toList k'.data.toList)) ∧ ∃ q os, w' = Go.Sort.grow (w.drewN q) os := by
 have H1 := Lib.hid (fun W => Tryz.strings_Compare k k' W)
 obtain ⟨r, hr⟩ : ∃ r, Lib.compareBytes k.data.toList k'.data.toList = r := ⟨_, rfl⟩
 rw [hr] at H1 ⊢
 have HB : Hid (∃ q' os, (w.alloc (.cells #[.string k, .slice A n c] 46)).alloc (.cells #[.string k', .slice A' n' c'] 46) = Go.Sort.grow (w.drewN q') os) := Lib.hid ⟨0, _, by
  rw [Go.Sort.alloc_eq_grow, Go.Sort.alloc_eq_grow, Go.Sort.grow_grow]
  rfl⟩
 clear hr
 go_enter Tryz.func64, Tryz.ntmps64
 go_wp2_with fail
 refine (H1.out _).mono ?_
 rintro e w1 ⟨rfl, rfl⟩
 go_wp2_with fail
 go_ret
 exact ⟨rfl, HB.out⟩

set_option maxRecDepth 100000 in
theorem sort_any (g cap n base : Nat) (l : List Pr) (hn : l.length = n) (w : World) (ho : w.ownsRow base 46 2 (.slice (some ⟨g, 0, none⟩) n cap) n (rcs l)) (hn2 : n < 4611686018427387904) :
  Calls Tryz.prog 63 #[.slice (some ⟨g, 0, none⟩) n cap, .func (.func 64) #[] #[]] w fun e w' => e = .returned (.tuple #[]) ∧ ∃ l', Hid (l'.Perm l ∧ l'.Pairwise (fun p q => nlt q.1.1 p.1.1 = false) ∧ Prs w' g l' ∧ w.grownBy w' (some g) ∧ ∃ cur, w'.heap[g]? = some (.cells cur 46 (0, 0))) := by
 have eg : ∀ args w, (callFunc 64 args).run Tryz.prog w = .ok (.enter 64 args) w := enters_of Tryz.func64 (by kernel_rfl) rfl
 have hH := holds_own hn ho
 have hlt := ho.lt g rfl
 have hcon := AnyQ.slices_SortFunc Tryz.sortRec 2 Tryz.isAgg46 Tryz.sizeOf46 rcc (fun _ => rfl) (fun x v hv => by simp [rcc] at hv; rcases hv with rfl | rfl <;> rfl) cmpK swoK 64 #[] g 0 cap l.toArray w eg (fun m os dk _ x y => less_any x.1.1 y.1.1 x.2.1 y.2.1 _ _ _ _ _) hH hlt.2 (by simpa [hn] using hn2)
 simp only [List.size_toArray, hn] at hcon
 refine Calls.mono hcon ?_
 rintro e w' ⟨he, d', m, os, hp, hs, hw⟩
 have hsz : d'.size = n := by have := hp.1; simpa [hn] using this
 have hH' := holdsK_sortWorldK_c rcc 2 w g 0 l.toArray d' m os hH hlt.2 (by rw [hsz]; simp [hn])
 rw [← hw] at hH'
 have hget : ∀ i, i < n → d'[i]! = d'.toList.getD i (r0, none, 0) := fun i hi => by
  rw [getElem!_pos _ _ (by omega)]
  simp [List.getD_eq_getElem?_getD, show i < d'.size by omega]
 obtain ⟨cur, hcur⟩ := own_block ho (g := g) rfl
 refine ⟨he, d'.toList, Lib.hid ⟨?_, ?_, fun j hj => ?_, ?_, ?_⟩⟩
 ·have h3 := hp.2.2
  have e1 : d'.extract 0 n = d' := by rw [← hsz]; exact Array.extract_size
  have e2 : l.toArray.extract 0 n = l.toArray := by have h := Array.extract_size (xs := l.toArray); simpa [hn] using h
  rw [e1, e2] at h3
  simpa using h3
 ·rw [List.pairwise_iff_getElem]
  intro i j hi hj hij
  have hi' : i < d'.size := by simpa using hi
  have hj' : j < d'.size := by simpa using hj
  have h3 := hs i j (Nat.zero_le _) hij (by omega)
  unfold ltOf at h3
  rw [decide_eq_false_iff_not, cmpK_lt, Bool.not_eq_true] at h3
  rw [getElem!_pos d' i hi', getElem!_pos d' j hj'] at h3
  simpa only [Array.getElem_toList] using h3
 ·have hj' : j < d'.size := by simpa using hj
  have c0 := (hH'.cell hj' (c := 0) (by omega)).1
  have c1 := (hH'.cell hj' (c := 1) (by omega)).1
  rw [hget j (by omega), Nat.zero_add] at c0 c1
  exact ⟨c0, c1⟩
 ·rw [hw]
  refine ⟨rfl, rfl, rfl, size_sortWorldK_c _ _ _ _ _ _ _ _, fun k hk hne => ?_⟩
  have hkg : k ≠ g := fun e => hne (by rw [e])
  unfold sortWorldK
  rw [Go.Sort.heap_grow_old _ _ (by rw [Go.Sort.size_putRowK]; show k < w.heap.size; omega)]
  unfold Go.Sort.putRowK Go.Sort.putRow Go.Sort.mapBlock
  simp only [Go.Sort.heap_ahead, Array.getElem?_modify]
  rw [if_neg (fun e => hkg e.symm)]
 ·rw [hw]
  unfold sortWorldK
  rw [Go.Sort.heap_grow_old _ _ (by rw [Go.Sort.size_putRowK]; show g < w.heap.size; omega)]
  unfold Go.Sort.putRowK Go.Sort.putRow Go.Sort.mapBlock
  simp only [Go.Sort.heap_ahead, Array.getElem?_modify, hcur, if_true, Option.map_some]
  exact ⟨_, rfl⟩

end Mend
end Go.Proofs.YtbhidndgnldheaaGreat
