/-
  Several texts of this family in one: QuorumScanOwn, QuorumScanEach, QuorumScanGot, QuorumScanRecs, QuorumScanTake, Row.
-/
import Derived.Test.YtbhidndgnldheaaGreatK13
import Derived.Test.YtbhidndgnldheaaGreatK14
import Derived.RangeFuncNested
import Derived.RangeFuncBound
import Derived.RangeFuncCalls
import Derived.RangeFuncLeaves
import Derived.Shelf.Abstract
import Derived.Shelf.RegionOpen
import Derived.WalkKit
import Derived.OwnWalkIn
import Derived.TacticsInMore
import Derived.LoopNIn
import Derived.LoopIn
import Derived.Test.YtbhidndgnldheaaGreatK11
import Derived.Test.YtbhidndgnldheaaGreatK10
import Derived.Test.YtbhidndgnldheaaGreatK18
import Derived.Test.YtbhidndgnldheaaGreatK1
/-
 Askings for records: what is held of answers. Written by gen16/scan.py.
-/
namespace Go.Proofs.YtbhidndgnldheaaGreat
namespace Quorum
open Go.RowKit Vers Span Blk
open Go.Proofs.YtbhidndgnldheaaGreat.Code hiding Bn
attribute [local go_sem ↓] Go.wp_at_zero Go.wp_at_succ
abbrev ES := Int × Bool × List Rc
abbrev EPS := ES × Plc
def co (e : ES) : En := (e.1, e.2.1, [])
def startS (ls : List Int) : List ES := ls.map fun x => (x, false, [])
theorem co_start (ls : List Int) : (startS ls).map co = startF ls := by simp [startS, startF, co]
theorem co_fst (l : List ES) : (l.map co).map Prod.fst = l.map Prod.fst := by simp [co, Function.comp_def]
theorem co_at {l : List ES} {j : Nat} {e : ES} (h : l[j]? = some e) : (l.map co)[j]? = some (co e) := by rw [List.getElem?_map, h]; rfl
def isAtS (node : Int) (e : ES) : Bool := e.1 == node && !e.2.1
def countS (l : List ES) (node : Int) (a : List Rc) : Bool × List ES :=
 if (l.any (isAtS node)) = true then (true, l.set (l.findIdx (isAtS node)) (node, true, a)) else (false, l)
def AnsS (F : Nat → Prop) (w : World) (l : List ES) (ps : List Plc) (cb ab : Nat) : Prop :=
 ps.length = l.length ∧ Bn ab 23 ((l.zip ps).map fun e => .slice e.2.1 e.1.2.2.length e.2.2) w ∧
 ∀ (j : Nat) (e : ES) (p : Plc), l[j]? = some e → ps[j]? = some p → e.2.2.length ≤ p.2 ∧ e.2.2.length ≤ 1048576 ∧ ∃ L B, Code.Rs w L B p.1 e.2.2 ∧ B ≤ w.heap.size ∧ ∀ k, L ≤ k → k < B → F k ∧ k ≠ cb ∧ k ≠ ab
section
variable {T : TypeId} {F F' : Nat → Prop} {w w' : World} {rb n lb cl cb ab : Nat} {need : Int} {l : List ES} {x : List Value} {ps : List Plc}
theorem AnsS.keep (h : AnsS F w l ps cb ab) (hs : w.heap.size ≤ w'.heap.size) (hab : w'.heap[ab]? = w.heap[ab]?) (hk : ∀ k, F k → k ≠ cb → k ≠ ab → w'.heap[k]? = w.heap[k]?) : AnsS F w' l ps cb ab := by
 obtain ⟨h0, h1, h2⟩ := h
 refine ⟨h0, h1.same hab, fun j e p he hp => ?_⟩
 obtain ⟨a, b, L, B, c, d, f⟩ := h2 j e p he hp
 exact ⟨a, b, L, B, c.keep fun q q1 q2 => World.cell?_of_block (hk q.block (f _ q1 q2).1 (f _ q1 q2).2.1 (f _ q1 q2).2.2), Nat.le_trans d hs, f⟩
theorem AnsS.below (h : AnsS F w l ps cb ab) (hb : Below w.heap.size w w') : AnsS F w' l ps cb ab := by
 obtain ⟨h0, h1, h2⟩ := h
 refine ⟨h0, h1.same (hb.block _ h1.lt), fun j e p he hp => ?_⟩
 obtain ⟨a, b, L, B, c, d, f⟩ := h2 j e p he hp
 exact ⟨a, b, L, B, c.keep fun q _ q2 => World.cell?_of_block (hb.block q.block (Nat.lt_of_lt_of_le q2 d)), Nat.le_trans d hb.size, f⟩
theorem AnsS.at (h : AnsS F w l ps cb ab) {j : Nat} {e : ES} (he : l[j]? = some e) : ∃ p, ps[j]? = some p ∧ w.cell? ⟨ab, j, none⟩ = some (.slice p.1 e.2.2.length p.2) ∧ e.2.2.length ≤ p.2 ∧ e.2.2.length ≤ 1048576 ∧ Code.Rs w 0 w.heap.size p.1 e.2.2 := by
 obtain ⟨h0, h1, h2⟩ := h
 have hj := (List.getElem?_eq_some_iff.1 he).1
 obtain ⟨p, hp⟩ : ∃ p, ps[j]? = some p := ⟨ps[j]'(by omega), by simp⟩
 obtain ⟨a, b, L, B, c, d, f⟩ := h2 j e p he hp
 refine ⟨p, hp, ?_, a, b, (c.less (Nat.zero_le _)).more d⟩
 rw [h1.cell j, List.getElem?_map, show (l.zip ps)[j]? = some (e, p) from List.getElem?_zip_eq_some.2 ⟨he, hp⟩]
 rfl
end
theorem any_atS {l : List ES} {node : Int} (hn : (l.map Prod.fst).Nodup) {i : Nat} {b : Bool} {an : List Rc} (he : l[i]? = some (node, b, an)) {j : Nat} {e : ES} (hj : l[j]? = some e) (h : isAtS node e = true) : j = i ∧ b = false := by
 unfold isAtS at h
 rw [Bool.and_eq_true, beq_iff_eq, Bool.not_eq_true'] at h
 have h1 : (l.map Prod.fst)[j]? = some node := by rw [List.getElem?_map, hj]; simp [h.1]
 have h2 : (l.map Prod.fst)[i]? = some node := by rw [List.getElem?_map, he]; rfl
 have hjl := (List.getElem?_eq_some_iff.1 h1).1
 have e1 : j = i := (List.getElem?_inj hjl hn).1 (h1.trans h2.symm)
 subst e1
 rw [he] at hj
 injection hj with hj
 subst hj
 exact ⟨rfl, h.2⟩
theorem count_yesS {l : List ES} {node : Int} (hn : (l.map Prod.fst).Nodup) {i : Nat} {an a : List Rc} (he : l[i]? = some (node, false, an)) : countS l node a = (true, l.set i (node, true, a)) := by
 have hat : isAtS node (node, false, an) = true := by simp [isAtS]
 have hany : (l.any (isAtS node)) = true := List.any_eq_true.2 ⟨_, List.mem_of_getElem? he, hat⟩
 unfold countS
 rw [if_pos hany]
 have hlt : l.findIdx (isAtS node) < l.length := List.findIdx_lt_length_of_exists (by obtain ⟨x, h1, h2⟩ := List.any_eq_true.1 hany; exact ⟨x, h1, h2⟩)
 have hf : isAtS node l[l.findIdx (isAtS node)] = true := List.findIdx_getElem
 rw [(any_atS hn he (List.getElem?_eq_getElem hlt) hf).1]
theorem count_wasS {l : List ES} {node : Int} (hn : (l.map Prod.fst).Nodup) {i : Nat} {an a : List Rc} (he : l[i]? = some (node, true, an)) : countS l node a = (false, l) := by
 unfold countS
 rw [if_neg]
 intro h
 obtain ⟨x, h1, h2⟩ := List.any_eq_true.1 h
 obtain ⟨j, hj⟩ := List.getElem?_of_mem h1
 have := (any_atS hn he hj h2).2
 cases this
theorem count_noS {l : List ES} {node : Int} {a : List Rc} (h : ∀ e ∈ l, e.1 ≠ node) : countS l node a = (false, l) := by
 unfold countS
 rw [if_neg]
 intro h1
 obtain ⟨x, h2, h3⟩ := List.any_eq_true.1 h1
 unfold isAtS at h3
 rw [Bool.and_eq_true, beq_iff_eq] at h3
 exact h x h2 h3.1
section
variable {T : TypeId} {F : Nat → Prop} {w w' : World} {rb n lb cl cb ab : Nat} {need : Int} {l : List ES} {x : List Value} {ps : List Plc}
theorem AnsS.lay (h : AnsS F w l ps cb ab) {i : Nat} {node : Int} {b : Bool} {an a : List Rc} (he : l[i]? = some (node, b, an)) {A : Option Addr} {c L B : Nat} (hv : Code.Rs w L B A a) (hB : B ≤ w.heap.size) (hac : a.length ≤ c) (ha4 : a.length ≤ 1048576) (hF : ∀ k, L ≤ k → k < B → F k ∧ k ≠ cb ∧ k ≠ ab) : AnsS F (w.setCell ⟨ab, i, none⟩ (.slice A a.length c)) (l.set i (node, true, a)) (ps.set i (A, c)) cb ab := by
 obtain ⟨h0, h1, h2⟩ := h
 have hg := gset w ab i (.slice A a.length c)
 have hi := (List.getElem?_eq_some_iff.1 he).1
 have hkeep : ∀ k, k < w.heap.size → k ≠ ab → (w.setCell ⟨ab, i, none⟩ (.slice A a.length c)).heap[k]? = w.heap[k]? := fun k hk hne => hg.block k hk (by intro e; injection e with e; exact hne e)
 refine ⟨by rw [List.length_set, List.length_set]; exact h0, ?_, fun j e p hj hp => ?_⟩
 ·have := h1.set i (.slice A a.length c)
  rwa [show ((l.zip ps).map fun e => Value.slice e.2.1 e.1.2.2.length e.2.2).set i (.slice A a.length c) = ((l.set i (node, true, a)).zip (ps.set i (A, c))).map fun e => Value.slice e.2.1 e.1.2.2.length e.2.2 by rw [zip_set, List.map_set]] at this
 ·by_cases hij : i = j
  ·subst hij
   rw [List.getElem?_set_self hi] at hj
   rw [List.getElem?_set_self (by omega)] at hp
   injection hj with hj
   injection hp with hp
   subst hj hp
   exact ⟨hac, ha4, L, B, hv.keep fun q q1 q2 => World.cell?_of_block (hkeep q.block (by omega) (hF _ q1 q2).2.2), Nat.le_trans hB hg.size, hF⟩
  ·rw [List.getElem?_set_ne hij] at hj hp
   obtain ⟨a', b', L', B', c', d', f'⟩ := h2 j e p hj hp
   exact ⟨a', b', L', B', c'.keep fun q q1 q2 => World.cell?_of_block (hkeep q.block (by omega) (f' _ q1 q2).2.2), Nat.le_trans d' hg.size, f'⟩
end
theorem start_atS {ls : List Int} {j : Nat} {e : ES} (h : (startS ls)[j]? = some e) : ∃ x, ls[j]? = some x ∧ e = (x, false, []) := by
 unfold startS at h
 rw [List.getElem?_map] at h
 obtain ⟨x, hx, rfl⟩ := Option.map_eq_some_iff.1 h
 exact ⟨x, hx, rfl⟩
theorem start_lenS (ls : List Int) : (startS ls).length = ls.length := by simp [startS]
theorem beg_ansS {w w1 W : World} {ls : List Int} {n lb cb ab : Nat} (h : Beg 23 (List.replicate n (.slice none 0 0)) w w1 ls n lb cb ab) (hb : Below w1.heap.size w1 W) (hn : ls.length = n) (F : Nat → Prop) : AnsS F W (startS ls) (List.replicate n (none, 0)) cb ab := by
 refine ⟨by rw [List.length_replicate, start_lenS, hn], ?_, fun j e p he hp => ?_⟩
 ·have := bn_below h.2.2.2.2.1 hb
  have e : ((startS ls).zip (List.replicate n ((none, 0) : Plc))).map (fun e => Value.slice e.2.1 e.1.2.2.length e.2.2) = List.replicate n (.slice none 0 0) := by
   subst hn
   unfold startS
   clear this h
   induction ls with
   | nil => rfl
   | cons x l ih =>
    rw [List.length_cons, List.replicate_succ, List.map_cons, List.zip_cons_cons, List.map_cons, ih, List.replicate_succ]
    rfl
  rwa [e]
 ·obtain ⟨x, hx, rfl⟩ := start_atS he
  have hp' : p = (none, 0) := (List.eq_of_mem_replicate (List.mem_of_getElem? hp))
  subst hp'
  exact ⟨Nat.zero_le _, Nat.zero_le _, 0, 0, fun h => absurd h (by simp), Nat.zero_le _, fun k _ hk => absurd hk (Nat.not_lt_zero k)⟩
def NewedS (ls : List Int) (need : Int) (n : Nat) (w : World) (e : Ending) (w' : World) : Prop :=
 (¬ okL ls need ∧ e = .returned (.tuple #[.pointer none, .int .i64 1]) ∧ Below w.heap.size w w') ∨
 (okL ls need ∧ ∃ rb lb cl cb ab, e = .returned (.tuple #[hd rb, .int .i64 0]) ∧ Hid (Core 80 (fun k => w.heap.size ≤ k ∧ k < w'.heap.size) w' rb need (startF ls) n lb cl cb ab [] ∧ AnsS (fun k => w.heap.size ≤ k ∧ k < w'.heap.size) w' (startS ls) (List.replicate n (none, 0)) cb ab ∧ Below w.heap.size w w'))
set_option maxRecDepth 100000 in
set_option maxHeartbeats 1000000 in
theorem newS_any (A : Option Addr) (c n : Nat) (ls : List Int) (hn : ls.length = n) (need : Int) (w : World) (hr : Ns .i64 w w.heap.size A ls) (hbig : n ≤ 140737488355328) (hnc : n ≤ c) :
  Calls Tryz.prog 7 #[.slice A n c, .int .i64 need] w (NewedS ls need n w) := by
 have HB := Lib.hid (beginS_any A c n ls hn need w hr hbig hnc)
 have HN := Lib.hid hn
 clear hr hn
 go_enter Tryz.func7, Tryz.ntmps7
 go_wp2_with fail
 refine HB.out.mono ?_
 rintro e w1 (⟨hno, rfl, b1⟩ | ⟨hok, lb, cl, cb, ab, rfl, hbeg⟩)
 ·have b2 : Below w.heap.size w (w1.alloc (.cells #[.slice none 0 0, .int .i64 0, .slice none 0 0, .slice none 0 0] 76)) := b1.alloc b1.size _
  have HE := Lib.hid (And.intro hno b2)
  clear hno b1 b2 HB
  go_wp2_with fail
  go_ret2
  exact .inl ⟨HE.out.1, rfl, HE.out.2⟩
 ·obtain ⟨W1, hW1⟩ : ∃ W, w1.alloc (.cells #[.slice (some ⟨lb, 0, none⟩) n cl, .int .i64 need, .slice (some ⟨cb, 0, none⟩) n n, .slice (some ⟨ab, 0, none⟩) n n] 76) = W := ⟨_, rfl⟩
  have b1 : Below w1.heap.size w1 W1 := by rw [← hW1]; exact (Below.refl _ w1).alloc (Nat.le_refl _) _
  have B1 : Bn w1.heap.size 76 [.slice (some ⟨lb, 0, none⟩) n cl, .int .i64 need, .slice (some ⟨cb, 0, none⟩) n n, .slice (some ⟨ab, 0, none⟩) n n] W1 := by rw [← hW1]; exact heap_alloc_new w1 _
  obtain ⟨W2, hW2⟩ : ∃ W, W1.alloc (.cells #[.slice (some ⟨lb, 0, none⟩) n cl, .int .i64 need, .slice (some ⟨cb, 0, none⟩) n n, .slice (some ⟨ab, 0, none⟩) n n] 80) = W := ⟨_, rfl⟩
  have b2 : Below W1.heap.size W1 W2 := by rw [← hW2]; exact (Below.refl _ W1).alloc (Nat.le_refl _) _
  have B2 : Bn W1.heap.size 80 [.slice (some ⟨lb, 0, none⟩) n cl, .int .i64 need, .slice (some ⟨cb, 0, none⟩) n n, .slice (some ⟨ab, 0, none⟩) n n] W2 := by rw [← hW2]; exact heap_alloc_new W1 _
  have b12 := b1.trans (b2.mono b1.size)
  have hc := beg_core hbeg.out b12 B2 b1.size HN.out hok
  have hbw := hbeg.out.1.trans (b12.mono hbeg.out.1.size)
  have x0 := (B1.cell 0).trans rfl
  have x1 := (B1.cell 1).trans rfl
  have x2 := (B1.cell 2).trans rfl
  have x3 := (B1.cell 3).trans rfl
  obtain ⟨rb, hrb⟩ : ∃ k, W1.heap.size = k := ⟨_, rfl⟩
  rw [hrb] at hc
  have HE : Hid (Core 80 (fun k => w.heap.size ≤ k ∧ k < W2.heap.size) W2 rb need (startF ls) n lb cl cb ab [] ∧ AnsS (fun k => w.heap.size ≤ k ∧ k < W2.heap.size) W2 (startS ls) (List.replicate n (none, 0)) cb ab ∧ Below w.heap.size w W2) := Lib.hid ⟨hc, beg_ansS hbeg.out b12 HN.out _, hbw⟩
  have HO := Lib.hid hok
  have HW := Lib.hid (And.intro hW1 (And.intro hW2 hrb))
  clear hbeg hc hbw b1 b2 b12 B1 B2 hW1 hW2 hrb hok HB
  go_upto_region 2 with fail
  rw [HW.out.1]
  go_wp2_with fail
  rw [HW.out.2.1, HW.out.2.2]
  go_ret2
  exact .inr ⟨HO.out, rb, lb, cl, cb, ab, rfl, HE⟩
set_option maxRecDepth 100000 in
set_option maxHeartbeats 1000000 in
theorem countS_any {T : TypeId} {F : Nat → Prop} {w : World} {rb n lb cl cb ab : Nat} {need : Int} {l : List ES} {x : List Value} {ps : List Plc} (h : Core T F w rb need (l.map co) n lb cl cb ab x) (ha : AnsS F w l ps cb ab) (hnd : (l.map Prod.fst).Nodup) (node : Int) (Aa : Option Addr) (ca m : Nat) (an : List Rc) (hm : an.length = m) (hmc : m ≤ ca) (hm4 : m ≤ 1048576) {L B : Nat} (hv : Code.Rs w L B Aa an) (hB : B ≤ w.heap.size) (hF : ∀ k, L ≤ k → k < B → F k ∧ k ≠ cb ∧ k ≠ ab) {b : Bool} {l' : List ES} (hc : countS l node an = (b, l')) :
  Calls Tryz.prog 30 #[hd rb, .int .i64 node, .slice Aa m ca] w (fun e w' => e = .returned (.bool b) ∧ Hid (Core T F w' rb need (l'.map co) n lb cl cb ab x ∧ (∃ ps', AnsS F w' l' ps' cb ab) ∧ Chg F w w')) := by
 have hn8 : n ≤ 8 := h.1.2.2.2
 have hlen : l.length = n := by have := h.len; rwa [List.length_map] at this
 have hns := h.ns
 rw [co_fst] at hns
 have HX := Lib.hid (index_any (some ⟨lb, 0, none⟩) cl n (l.map Prod.fst) (by rw [List.length_map]; exact hlen) node w hns (by omega))
 obtain ⟨x0, x1, x2, x3⟩ := h.head
 subst hm
 go_enter Tryz.func30, Tryz.ntmps30
 skip
 go_wp2_with fail
 refine HX.out.mono ?_
 rintro e w1 ⟨⟨rfl, hno⟩ | ⟨i, rfl, hi⟩, rfl⟩
 ·have hq := count_noS (l := l) (node := node) (a := an) (fun e he e1 => hno (by rw [← e1]; exact List.mem_map_of_mem he))
  rw [hc] at hq
  injection hq.symm with q1 q2
  subst q1 q2
  have HK : Hid (Core T F w rb need (l.map co) n lb cl cb ab x ∧ (∃ ps', AnsS F w l ps' cb ab) ∧ Chg F w w) := Lib.hid ⟨h, ⟨ps, ha⟩, Chg.refl _ _⟩
  go_wp2_with fail
  go_ret
  exact ⟨rfl, by first | exact HK.out | (have h9 := HK.out; rw [List.map_set] at h9; exact h9)⟩
 ·rw [List.getElem?_map] at hi
  obtain ⟨⟨nd, bo, an0⟩, he, rfl⟩ := Option.map_eq_some_iff.1 hi
  simp only at hc hnd ⊢
  obtain ⟨y0, y1⟩ := h.at (co_at he)
  simp only [co] at y0 y1
  have hin : i < n := by rw [← hlen]; exact (List.getElem?_eq_some_iff.1 he).1
  have d1 : (0 : Int) ≤ (i : Int) := by omega
  have d2 : (i : Int) < (n : Int) := by omega
  have d3 : ¬ (i : Int) < 0 := by omega
  cases bo
  ·have hq := count_yesS (a := an) hnd he
   rw [hc] at hq
   injection hq.symm with q1 q2
   subst q1 q2
   have hcore := h.mark (co_at he) []
   have g1 := gset w cb i (.bool true)
   have hne := h.2.2.2.2
   have hans : AnsS F (w.setCell ⟨cb, i, none⟩ (.bool true)) l ps cb ab := ha.keep g1.size (g1.block ab ha.2.1.lt (by intro e; injection e with e; exact hne.2.2.2.2.1 e.symm)) fun k hk h1 _ => g1.block k (h.lt k hk) (by intro e; injection e with e; exact h1 e)
   have hv1 : Code.Rs (w.setCell ⟨cb, i, none⟩ (.bool true)) L B Aa an := hv.keep fun p p1 p2 => World.cell?_of_block (g1.block p.block (by omega) (by intro e; injection e with e; exact (hF _ p1 p2).2.1 e))
   have z0 := h.2.2.1.frozen i
   obtain ⟨zz, hzz⟩ : ∃ z, w.cell? ⟨cb, i, none⟩ = some z := ⟨_, y1⟩
   obtain ⟨p, hp, u0, _⟩ := hans.at he
   have u1 := hans.2.1.frozen i
   obtain ⟨v0', v1', v2', v3'⟩ := hcore.head
   obtain ⟨W1, hW1⟩ : ∃ W, w.setCell ⟨cb, i, none⟩ (.bool true) = W := ⟨_, rfl⟩
   rw [hW1] at hcore g1 hans hv1 u0 u1 v0' v1' v2' v3'
   have g2 := gset W1 ab i (.slice Aa an.length ca)
   have hlay := hans.lay he hv1 (Nat.le_trans hB g1.size) hmc hm4 hF
   have hcore2 : Core T F (W1.setCell ⟨ab, i, none⟩ (.slice Aa an.length ca)) rb need ((l.set i (nd, true, an)).map co) n lb cl cb ab x := by
    rw [List.map_set]
    show Core T F _ rb need ((l.map co).set i (nd, true, [])) n lb cl cb ab x
    obtain ⟨⟨c1, c2, c2'⟩, ⟨c3, c4⟩, c5, ⟨f1, f2, f3, f4, f5⟩, c7⟩ := hcore
    have nb : ∀ k, k ≠ ab → k < W1.heap.size → (W1.setCell ⟨ab, i, none⟩ (.slice Aa an.length ca)).heap[k]? = W1.heap[k]? := fun k h1 h2 => g2.block k h2 (by intro e; injection e with e; exact h1 e)
    exact ⟨⟨c1.same (nb rb c7.2.2.2.1 c1.lt), c2, c2'⟩, ⟨Nat.lt_of_lt_of_le c3 g2.size, fun j e hj => (World.cell?_of_block (nb lb c7.2.1 c3)).trans (c4 j e hj)⟩, c5.same (nb cb c7.2.2.2.2.1 c5.lt), ⟨f1, f2, f3, f4, fun k hk => Nat.lt_of_lt_of_le (f5 k hk) g2.size⟩, c7⟩
   have hchg : Chg F w (W1.setCell ⟨ab, i, none⟩ (.slice Aa an.length ca)) := (Chg.of_grown g1 (F := F) fun g e => by injection e with e; rw [← e]; exact h.2.2.2.1.2.2.1).trans (Chg.of_grown g2 (F := F) fun g e => by injection e with e; rw [← e]; exact h.2.2.2.1.2.2.2.1) fun k hk => .inl hk
   have HK := Lib.hid (And.intro hcore2 (And.intro (show ∃ ps', AnsS F _ (l.set i (nd, true, an)) ps' cb ab from ⟨_, hlay⟩) hchg))
   have HW1 := Lib.hid hW1
   clear hcore g1 hans hv1 g2 hlay hcore2 hchg hW1
   go_upto_region 5 with fail
   rw [HW1.out]
   clear x0 x1 x2 x3 y0 y1 hzz z0
   go_wp2_with fail
   go_ret
   exact ⟨rfl, by first | exact HK.out | (have h9 := HK.out; rw [List.map_set] at h9; exact h9)⟩
  ·have hq := count_wasS (a := an) hnd he
   rw [hc] at hq
   injection hq.symm with q1 q2
   subst q1 q2
   have HK : Hid (Core T F w rb need (l.map co) n lb cl cb ab x ∧ (∃ ps', AnsS F w l ps' cb ab) ∧ Chg F w w) := Lib.hid ⟨h, ⟨ps, ha⟩, Chg.refl _ _⟩
   go_wp2_with fail
   go_ret
   exact ⟨rfl, by first | exact HK.out | (have h9 := HK.out; rw [List.map_set] at h9; exact h9)⟩
end Quorum
end Go.Proofs.YtbhidndgnldheaaGreat

/-
 The iterator over the nodes that are counted: what it tells.
-/
namespace Go.Proofs.YtbhidndgnldheaaGreat
namespace Quorum
open Go.RowKit Go.Shelf Vers Span Blk
open Go.Proofs.YtbhidndgnldheaaGreat.Code hiding Bn
attribute [local go_sem] Oper.semAt_some

def toldS (z : List EPS) : List EPS := z.filter fun e => e.1.2.1
theorem told_snocS (z : List EPS) (e : EPS) : toldS (z ++ [e]) = if e.1.2.1 = true then toldS z ++ [e] else toldS z := by
 unfold toldS
 rw [List.filter_append]
 cases h : e.1.2.1 <;> simp [h]
theorem told_lenS (z : List EPS) : (toldS z).length ≤ z.length := List.length_filter_le _ _
def argsS (x : EPS) : Array Value := #[.int .i64 x.1.1, .slice x.2.1 x.1.2.2.length x.2.2]
def ToldS (m : Nat) (x : EPS) (W : World) : Prop := x.1.2.2.length ≤ x.2.2 ∧ x.1.2.2.length ≤ 1048576 ∧ Code.Rs W 0 m x.2.1 x.1.2.2
theorem rs_low {w : World} {L B m : Nat} {A : Option Addr} {l : List Rc} (h : Code.Rs w L B A l) (hm : ∀ k, L ≤ k → k < B → k < m) : Code.Rs w 0 m A l := by
 intro hp
 obtain ⟨b, _, _, h1, h2, _⟩ := h hp
 have := hm (B - 1) (by omega) (by omega)
 exact ((h.less (Nat.zero_le _)).more (show B ≤ m by omega)) hp
set_option maxRecDepth 100000 in
set_option maxHeartbeats 1000000 in
theorem each_inS (q : Nat) (hq : 1 ≤ q) (lq m : Nat) (J Jx : List EPS → World → Prop) {T : TypeId} {F : Nat → Prop} {rb n lb cl cb ab : Nat} {need : Int} {l : List ES} {x : List Value} {ps : List Plc}
  (hY : ∀ pre y W0, pre.length < 8 → J pre W0 → ToldS m y W0 → YieldAt Fence.wide (q - 1) Tryz.prog lq (argsS y) W0 fun e W' => (e = .returned (.bool true) ∧ J (pre ++ [y]) W' ∧ Below m W0 W') ∨ (e = .returned (.bool false) ∧ Jx (pre ++ [y]) W'))
  (W : World) (_hm : m ≤ W.heap.size) (hC : Core T F W rb need (l.map co) n lb cl cb ab x) (hA : AnsS F W l ps cb ab) (hF : ∀ k, F k → k < m) (h0 : J [] W) :
  CallsIn Fence.wide q Tryz.prog 34 #[hd rb, .func (.yield lq) #[] #[]] W fun e W' => (∃ v, e = .returned v) ∧ (J (toldS (l.zip ps)) W' ∨ ∃ pre y, Jx (pre ++ [y]) W') := by
 have hn8 : n ≤ 8 := hC.1.2.2.2
 have HC : Hid (∀ V, Below m W V → Core T F V rb need (l.map co) n lb cl cb ab x ∧ AnsS F V l ps cb ab) := Lib.hid fun V hV => ⟨hC.keep hV.size fun k hk => hV.block k (hF k hk), hA.keep hV.size (hV.block ab (hF ab hC.2.2.2.1.2.2.2.1)) fun k hk _ _ => hV.block k (hF k hk)⟩
 have HL := Lib.hid (And.intro (show l.length = n by have := hC.len; rwa [List.length_map] at this) hA.1)
 obtain ⟨x0, x1, x2, x3⟩ := hC.head
 have HY := Lib.hid hY
 have HF := Lib.hid hF
 clear hC hA hF hY
 refine callsIn_of_wp Tryz.func34 rfl trivial ?_ rfl
 simp only [Tryz.ntmps34, List.size_toArray, List.length_cons, List.length_nil, Nat.reduceAdd, Nat.reduceSub, Array.replicate_succ, Array.replicate_zero, List.push_toArray, List.append_toArray, List.nil_append, List.cons_append]
 gi_wp2
 gi_loopw [4, 5, 11] (fun _ _ p wr => ∃ k : Nat, p = .int .i64 k ∧ k ≤ n ∧ J (toldS ((l.zip ps).take k)) wr ∧ Below m W wr) (fun _ _ p _ => n - (intOf p).toNat)
 case atStart => exact ⟨0, rfl, by omega, by simpa [toldS] using h0, Below.refl _ _⟩
 case round =>
  clear x0 x1 x2 x3
  obtain ⟨k, rfl, hk, hJ, hb⟩ := hrel
  obtain ⟨hCw, hAw⟩ := HC.out wr hb
  obtain ⟨x0, x1, x2, x3⟩ := hCw.head
  by_cases hlt : k < n
  ·obtain ⟨⟨nd, bo, an⟩, he⟩ : ∃ e, l[k]? = some e := ⟨l[k]'(by have := HL.out.1; omega), by simp⟩
   obtain ⟨y0, y1⟩ := hCw.at (co_at he)
   obtain ⟨p, hp, y2, hpc, hp4, _⟩ := hAw.at he
   have hpv : Code.Rs wr 0 m p.1 (nd, bo, an).2.2 := by
    obtain ⟨_, _, L, B, c1, _, f1⟩ := hAw.2.2 k _ _ he hp
    exact rs_low c1 fun q q1 q2 => HF.out q (f1 q q1 q2).1
   simp only [co] at y0 y1 y2 hpc hp4 hpv
   have hz : (l.zip ps)[k]? = some ((nd, bo, an), p) := List.getElem?_zip_eq_some.2 ⟨he, hp⟩
   have HT := Lib.hid (take_one hz)
   have HTS := Lib.hid (told_snocS ((l.zip ps).take k) ((nd, bo, an), p))
   have d1 : (0 : Int) ≤ (k : Int) := by omega
   have d2 : (k : Int) < (n : Int) := by omega
   obtain ⟨Ap, cp⟩ := p
   simp only at y2 hpc hpv
   obtain ⟨man, hman⟩ : ∃ r, an.length = r := ⟨_, rfl⟩
   cases bo
   ·have HJ := Lib.hid hJ
    have HB := Lib.hid hb
    have HN : Hid (J (toldS ((l.zip ps).take (k + 1))) wr) := Lib.hid (by
     rw [HT.out, HTS.out]
     simpa using HJ.out)
    clear hJ hb he hp hz hCw hAw hpv
    gi_wp2
    refine ⟨fun f hf => (by cases hf), ?_⟩
    gi_wp2
    go_roundw
    case rel => exact ⟨k + 1, rfl, by omega, HN.out, HB.out⟩
    case measure => simp only [intOf]; omega
   ·obtain ⟨fn, tmps, assign, body, hy, hR⟩ := HY.out _ ((nd, true, an), (Ap, cp)) wr (by have h1 := told_lenS ((l.zip ps).take k); have h2 := List.length_take_le k (l.zip ps); omega) hJ ⟨hpc, hp4, hpv⟩
    simp only [argsS, hman] at hy
    try simp only [argsS, hman] at hR
    rw [hman] at y2
    have HB := Lib.hid hb
    clear hJ hb he hp hz hCw hAw hpv hpc hp4
    gi_wp2
    refine hR.mono ?_
    rintro e2 W3 (⟨rfl, hJ3, hk3⟩ | ⟨rfl, hJx3⟩)
    ·have B3 := Lib.hid (HB.out.trans hk3)
     have HN : Hid (J (toldS ((l.zip ps).take (k + 1))) W3) := Lib.hid (by
      rw [HT.out, HTS.out]
      simpa using hJ3)
     clear hJ3 hk3 hR hy
     gi_wp2
     go_roundw
     case rel => exact ⟨k + 1, rfl, by omega, HN.out, B3.out⟩
     case measure => simp only [intOf]; omega
    ·have J3 := Lib.hid hJx3
     clear hJx3 hR hy
     gi_wp2
     refine bodyPost_ret (results_none rfl _ _ _) rfl ?_
     exact ⟨⟨_, rfl⟩, .inr ⟨_, _, J3.out⟩⟩
  ·obtain rfl : k = n := by omega
   have hlk : (l.zip ps).take k = l.zip ps := List.take_of_length_le (by rw [List.length_zip]; have := HL.out.1; omega)
   rw [hlk] at hJ
   have HJ := Lib.hid hJ
   clear hJ hlk
   gi_wp2
   go_end0
   exact ⟨⟨_, rfl⟩, .inl HJ.out⟩
end Quorum
end Go.Proofs.YtbhidndgnldheaaGreat

/-
 Copies of records (fresh.Recs), and what a scan counts (layer 16).
-/
namespace Go.Proofs.YtbhidndgnldheaaGreat
namespace Quorum
open Go.RowKit Vers Span Blk
open Go.Proofs.YtbhidndgnldheaaGreat.Code hiding Bn
attribute [local go_sem ↓] Go.wp_at_zero Go.wp_at_succ
def NewR1 (key : ByteArray) (l : List Vr) (m : Nat) (w : World) (e : Ending) (w' : World) : Prop := ∃ A1 c1, e = .returned (.agg #[.string key, .slice A1 m c1]) ∧ Hid (Vs w' w.heap.size w'.heap.size A1 l ∧ m ≤ c1) ∧ Below w.heap.size w w'
set_option maxRecDepth 100000 in
theorem rec_any (key : ByteArray) (A : Option Addr) (c m : Nat) (l : List Vr) (hm : l.length = m) (hbig : m ≤ 1024) (hp : ∀ v ∈ l, v.past.length ≤ 4294967296) (w : World) (hv : Vs w 0 w.heap.size A l) :
  Calls Tryz.prog 59 #[.agg #[.string key, .slice A m c]] w (NewR1 key l m w) := by
 obtain ⟨U, hU⟩ : ∃ U, w.alloc (.cells #[.string key, .slice A m c] 46) = U := ⟨_, rfl⟩
 have bU : Below w.heap.size w U := by rw [← hU]; exact (Below.refl _ w).alloc (Nat.le_refl _) _
 have sU : U.heap.size = w.heap.size + 1 := by rw [← hU]; simp
 have BU : Bn w.heap.size 46 [.string key, .slice A m c] U := by rw [← hU]; exact heap_alloc_new w _
 obtain ⟨V, hV⟩ : ∃ V, U.alloc (.cells #[.string ⟨#[]⟩, .slice none 0 0] 46) = V := ⟨_, rfl⟩
 have bV : Below U.heap.size U V := by rw [← hV]; exact (Below.refl _ U).alloc (Nat.le_refl _) _
 have BV : Bn U.heap.size 46 [.string ⟨#[]⟩, .slice none 0 0] V := by rw [← hV]; exact heap_alloc_new U _
 have sV : V.heap.size = w.heap.size + 2 := by rw [← hV]; simp [sU]
 rw [sU] at BV
 have BU' := BU.same (bV.block _ BU.lt)
 have bB : Below w.heap.size w V := bU.trans (bV.mono bU.size)
 have x0 := BU'.cell 0
 have x1 := BU'.cell 1
 simp only [List.getElem?_cons_zero, List.getElem?_cons_succ] at x0 x1
 have h := Lib.hid (fresh_any A c m l hm hbig hp V ((hv.below bB).more bB.size))
 have HB := Lib.hid (And.intro bB (And.intro BU' (And.intro BV sV)))
 clear hv hm hp bB BU' BV sV bV bU BU
 go_enter Tryz.func59, Tryz.ntmps59
 go_wp2_with fail
 refine h.out.mono ?_
 rintro e w2 ⟨A1, c1, rfl, h2, b2⟩
 have B1 := HB.out.2.1.same (b2.block _ HB.out.2.1.lt)
 have B2 := HB.out.2.2.1.same (b2.block _ HB.out.2.2.1.lt)
 have c1' := B1.cell 1
 have f1' := B1.frozen 1
 have BX := B1.set 1 (.slice A1 m c1)
 have gX := gset w2 w.heap.size 1 (.slice A1 m c1)
 obtain ⟨X, hX⟩ : ∃ X, w2.setCell ⟨w.heap.size, 1, none⟩ (.slice A1 m c1) = X := ⟨_, rfl⟩
 rw [hX] at BX gX
 have B2X := B2.kept gX (by intro q; injection q with q; omega)
 have d0 := BX.cell 0
 have d1 := BX.cell 1
 have z0 := B2X.cell 0
 have z1 := B2X.cell 1
 simp [List.set] at c1' d0 d1 z0 z1
 have z0f := B2X.frozen 0
 have z1f := B2X.frozen 1
 have BY := (B2X.set 0 (.string key)).set 1 (.slice A1 m c1)
 have gY := grown_trans_one (gset X (w.heap.size + 1) 0 (.string key)) (gset _ (w.heap.size + 1) 1 (.slice A1 m c1))
 obtain ⟨Y, hY⟩ : ∃ Y, (X.setCell ⟨w.heap.size + 1, 0, none⟩ (.string key)).setCell ⟨w.heap.size + 1, 1, none⟩ (.slice A1 m c1) = Y := ⟨_, rfl⟩
 rw [hY] at BY gY
 have y0 := BY.cell 0
 have y1 := BY.cell 1
 simp [List.set] at y0 y1
 have hR : NewR1 key l m w (.returned (.agg #[.string key, .slice A1 m c1])) Y := by
  have s2 := HB.out.2.2.2
  have s3 := b2.size
  have hw2 : Below w.heap.size w w2 := HB.out.1.trans (b2.mono HB.out.1.size)
  have hX' : Below w.heap.size w X := hw2.grown gX hw2.size fun j hj => by injection hj with hj; omega
  have hY' : Below w.heap.size w Y := hX'.grown gY hX'.size fun j hj => by injection hj with hj; omega
  have g1 := gX.size
  have g2 := gY.size
  refine ⟨A1, c1, rfl, Lib.hid ⟨Vs.less (Vs.more (h2.out.1.keep fun p hp1 hp2 => ?_) (show w2.heap.size ≤ Y.heap.size by omega)) (by omega), h2.out.2⟩, hY'⟩
  exact (World.cell?_of_block (gY.block _ (by omega) (by intro q; injection q with q; omega))).trans (World.cell?_of_block (gX.block _ hp2 (by intro q; injection q with q; omega)))
 have HR := Lib.hid hR
 clear hR gX gY BY BX B1 B2 B2X b2 h2
 go_wp2_with fail
 refine bodyPost_ret (v := .agg #[.string key, .slice A1 m c1]) ?_ rfl HR.out
 rw [Blk.results_cell1 rfl]
 go_simp
def FillR (w : World) (g n : Nat) (ps : List Pr) : Prop :=
 ∃ cur, w.heap[g]? = some (.cells cur 46 (0, 0)) ∧ cur.size = n * 2 ∧ ∀ j, j < ps.length * 2 → cur[j]? = (rcs ps)[j]?
theorem rcs_len (ps : List Pr) : (rcs ps).length = ps.length * 2 := by
 induction ps with
 | nil => rfl
 | cons p ps ih =>
  have e : rcs (p :: ps) = rcc p ++ rcs ps := by simp [rcs]
  rw [e, List.length_append, ih, List.length_cons]
  simp [rcc]
  omega
section
variable {w w' : World} {g n : Nat} {ps : List Pr}
theorem FillR.keep (h : FillR w g n ps) (hk : w'.heap[g]? = w.heap[g]?) : FillR w' g n ps := by
 obtain ⟨cur, h1, h2, h3⟩ := h
 exact ⟨cur, hk.trans h1, h2, h3⟩
theorem FillR.frozen (h : FillR w g n ps) (j : Nat) : w.frozen? ⟨g, j, none⟩ = false := by
 obtain ⟨cur, h1, _⟩ := h
 simp [World.frozen?, h1]
theorem FillR.cell (h : FillR w g n ps) (j : Nat) (hj : j < n * 2) : ∃ z, w.cell? ⟨g, j, none⟩ = some z := by
 obtain ⟨cur, h1, h2, _⟩ := h
 exact ⟨cur[j]'(by omega), by rw [cell_of_row w g j cur 46 (0, 0) h1]; exact Array.getElem?_eq_getElem (by omega)⟩
theorem FillR.lt (h : FillR w g n ps) : g < w.heap.size := by
 obtain ⟨cur, h1, _⟩ := h
 exact (Array.getElem?_eq_some_iff.1 h1).1
theorem FillR.at (h : FillR w g n ps) {j : Nat} (hj : j < ps.length * 2) : w.cell? ⟨g, j, none⟩ = (rcs ps)[j]? := by
 obtain ⟨cur, h1, h2, h3⟩ := h
 rw [cell_of_row w g j cur 46 (0, 0) h1]
 exact h3 j hj
theorem FillR.put (h : FillR w g n ps) (hn : ps.length < n) (p : Pr) (o : Nat) (ho : o = ps.length * 2) : FillR ((w.setCell ⟨g, o, none⟩ (.string p.1.1)).setCell ⟨g, o + 1, none⟩ (.slice p.2.1 p.1.2.length p.2.2)) g n (ps ++ [p]) := by
 subst ho
 obtain ⟨cur, h1, h2, h3⟩ := h
 have k1 := set_row h1 (ps.length * 2) (.string p.1.1)
 have k2 := set_row k1 (ps.length * 2 + 1) (.slice p.2.1 p.1.2.length p.2.2)
 refine ⟨_, k2, by simpa using h2, fun j hj => ?_⟩
 rw [List.length_append, List.length_singleton] at hj
 rw [rcs_append, rcs_one]
 by_cases hj0 : j < ps.length * 2
 ·rw [List.getElem?_append_left (by rw [rcs_len]; exact hj0), ← h3 j hj0]
  rw [Array.getElem?_setIfInBounds_ne (by omega), Array.getElem?_setIfInBounds_ne (by omega)]
 ·rw [List.getElem?_append_right (by rw [rcs_len]; omega), rcs_len]
  obtain ⟨r, rfl⟩ : ∃ r, j = ps.length * 2 + r := ⟨j - ps.length * 2, by omega⟩
  have hr : r < 2 := by omega
  have hc : cur.size = n * 2 := h2
  rw [show ps.length * 2 + r - ps.length * 2 = r by omega]
  match r, hr with
  | 0, _ => rw [Array.getElem?_setIfInBounds_ne (by omega), Nat.add_zero, Array.getElem?_setIfInBounds_self_of_lt (by omega)]; rfl
  | 1, _ => rw [Array.getElem?_setIfInBounds_self_of_lt (by simp; omega)]; rfl
theorem fillr_start {base : Nat} {xs : List Value} (h : w.ownsRow base 46 2 (.slice (some ⟨g, 0, none⟩) n n) n xs) : FillR w g n [] := by
 rcases h.2 with ⟨h0, _⟩ | ⟨g', cap, cur, hv, _, hg, _, _, hs, _⟩
 ·cases h0
 ·injection hv with h1 _ h2
  injection h1 with h1
  injection h1 with h1
  subst h1
  subst h2
  exact ⟨cur, hg, hs, fun j hj => absurd hj (by simp)⟩
end
def Got1 (wr : World) (g : Nat) (y : Pr) : Prop := Vs wr (g + 1) wr.heap.size y.2.1 y.1.2 ∧ y.1.2.length ≤ y.2.2 ∧ y.1.2.length ≤ 140737488355328 ∧ y.1.1.size ≤ 140737488355328
def CopyR (P : List Rc) (n g : Nat) (w : World) (iv : Value) (wr : World) : Prop :=
 ∃ (k : Nat) (ys : List Pr), iv = .int .i64 (k : Int) ∧ k ≤ n ∧ ys.map Prod.fst = P.take k ∧ FillR wr g n ys ∧ (∀ y ∈ ys, Got1 wr g y) ∧ Below w.heap.size w wr
def NewRs (P : List Rc) (n : Nat) (w : World) (e : Ending) (w' : World) : Prop :=
 ∃ A1 c1, e = .returned (.slice A1 n c1) ∧ Hid (P.length = n ∧ n ≤ c1 ∧ Code.Rs w' w.heap.size w'.heap.size A1 P) ∧ Below w.heap.size w w'
theorem fillr_rs {w : World} {g n : Nat} {ys : List Pr} (h : FillR w g n ys) (hy : ∀ y ∈ ys, Got1 w g y) (B : Nat) (hB : B ≤ g) : Code.Rs w B w.heap.size (some ⟨g, 0, none⟩) (ys.map Prod.fst) := fun hp => by
 refine ⟨g, 0, rfl, hB, h.lt, fun j hj => ?_⟩
 rw [List.length_map] at hj
 have e : (ys.map Prod.fst).getD j r0 = (ys.getD j (r0, none, 0)).1 := by simp [List.getD_eq_getElem?_getD, hj]
 have hm : ys.getD j (r0, none, 0) ∈ ys := by
  rw [List.getD_eq_getElem?_getD, List.getElem?_eq_getElem hj]
  exact List.getElem_mem _
 rw [e]
 have hat : ∀ r, r < 2 → ∀ u, (rcc (ys.getD j (r0, none, 0)))[r]? = some u → w.cell? ⟨g, 0 + j * 2 + r, none⟩ = some u := fun r hr u hu => by
  rw [show 0 + j * 2 + r = j * 2 + r by omega, h.at (by omega), rcs_at ys j hj r hr]
  exact hu
 obtain ⟨q1, q2, q3, q4⟩ := hy _ hm
 exact ⟨_, _, hat 0 (by omega) _ (by simp [rcc]), hat 1 (by omega) _ (by simp [rcc]), q1.less (by omega), q2, q3, q4⟩
set_option maxRecDepth 100000 in
set_option maxHeartbeats 2000000 in
theorem list_rec (A : Option Addr) (c n : Nat) (P : List Rc) (hn : P.length = n) (w : World) (hf : Code.Rs w 0 w.heap.size A P) (hP : ∀ y ∈ P, okR y) (hbig : n ≤ 1048576) :
  Calls Tryz.prog 58 #[.slice A n c, .func (.func 59) #[] #[]] w (NewRs P n w) := by
 by_cases h0 : n = 0
 ·subst h0
  have : P = [] := List.eq_nil_of_length_eq_zero hn
  subst this
  clear hf hP
  go_enter Tryz.func58, Tryz.ntmps58
  go_wp2_with fail
  go_ret
  exact ⟨none, 0, rfl, Lib.hid ⟨rfl, Nat.le_refl _, Code.Rs.nil _⟩, Below.refl _ _⟩
 obtain ⟨i0, hi0, hz0, hz1, hz2⟩ := info_parts info_rec
 have e1 : ((n : Int) == 0) = false := by simp; omega
 have e2 : ¬ (n : Int) = 0 := by omega
 obtain ⟨b, off, rfl, _, hbB, hat⟩ := hf (by omega)
 have HV := Lib.hid (And.intro hat (And.intro hn (And.intro hP hbB)))
 clear hf hn hP hat
 go_enter Tryz.func58, Tryz.ntmps58
 go_wp2_with (at_make; refine wpList_make_full _ rfl _ _ 23 rfl w.heap.size 46 i0 _ 2 Tryz.underlying23 hi0 hz0 hz1 _ _ _ _ n rfl rfl rfl rfl (by rw [hz2]; omega) (by unfold maxLen; omega) (Nat.le_refl _) ?_; intro w1 o1 g1; have b1 : Below w.heap.size w w1 := (Below.refl _ _).grown g1 (Nat.le_refl _) (fun k hk => by cases hk))
 obtain ⟨g, hg⟩ : ∃ g, w.heap.size = g := ⟨_, rfl⟩
 have HG := Lib.hid hg
 have HI : Hid (CopyR P n g w (.int .i64 0) w1) := Lib.hid ⟨0, [], rfl, by omega, by simp, fillr_start (by rw [← hg]; exact o1), by simp, b1⟩
 rw [hg]
 clear hg o1 g1 b1
 go_loopw [6, 7, 16] (fun _ _ iv wr => CopyR P n g w iv wr) (fun _ _ iv _ => n - (intOf iv).toNat)
 case atStart => exact HI.out
 case round =>
  obtain ⟨k, ys, rfl, hk, hps, hf, hpa, hb⟩ := hrel
  clear HI
  by_cases hlt : k < n
  ·have hkP : k < P.length := by have := HV.out.2.1; omega
   obtain ⟨x, hx⟩ : ∃ x, P.getD k r0 = x := ⟨_, rfl⟩
   have hxe : P[k] = x := by rw [← hx, List.getD_eq_getElem?_getD, List.getElem?_eq_getElem hkP]; rfl
   have hxm : x ∈ P := by rw [← hxe]; exact List.getElem_mem _
   obtain ⟨a1, c1, hcl0, hcl1, hv1, hs1, hs2, hs3⟩ := HV.out.1 k hkP
   rw [hx] at hcl0 hcl1 hv1 hs1 hs2 hs3
   have hok := HV.out.2.2.1 x hxm
   have HT : Hid (P.take (k + 1) = P.take k ++ [x]) := Lib.hid (by rw [List.take_succ_eq_append_getElem hkP, hxe])
   obtain ⟨k1, v1⟩ := x
   simp only at hcl0 hcl1 hv1 hs1 hs2 hs3
   obtain ⟨r1, hrl⟩ : ∃ r, v1.length = r := ⟨_, rfl⟩
   rw [hrl] at hcl1
   have q0 : wr.cell? ⟨b, off + k * 2, none⟩ = some (.string k1) := (hb.cell (p := ⟨b, off + k * 2, none⟩) HV.out.2.2.2).trans hcl0
   have q1 : wr.cell? ⟨b, off + k * 2 + 1, none⟩ = some (.slice a1 r1 c1) := (hb.cell (p := ⟨b, off + k * 2 + 1, none⟩) HV.out.2.2.2).trans hcl1
   have d1 : (0 : Int) ≤ (k : Int) := by omega
   have d2 : (k : Int) < (n : Int) := by omega
   have hpl : ys.length = k := by have h := congrArg List.length hps; simpa [List.length_take, show k ≤ P.length by omega] using h
   have HO := Lib.hid (And.intro hf (And.intro hpa (And.intro hb (And.intro hps (And.intro hpl (And.intro hrl (And.intro hs2 hs3)))))))
   obtain ⟨W1, hW1⟩ : ∃ W, wr.alloc (.cells #[.string k1, .slice a1 r1 c1] 46) = W := ⟨_, rfl⟩
   have hW : Below wr.heap.size wr W1 := by rw [← hW1]; exact (Below.refl _ wr).alloc (Nat.le_refl _) _
   have B1 : Bn wr.heap.size 46 [.string k1, .slice a1 r1 c1] W1 := by rw [← hW1]; exact heap_alloc_new wr _
   have hKW := Lib.hid (rec_any k1 a1 c1 r1 v1 hrl (by have := hok.2.2.1; simp only at this; omega) (fun v hv => by have := right_past hok.2.2 v hv; omega) W1 ((hv1.below (hb.trans (hW.mono hb.size))).more (Nat.le_trans hb.size hW.size)))
   have HW1 := Lib.hid hW
   have x0 := (B1.cell 0).trans rfl
   have x1 := (B1.cell 1).trans rfl
   simp only [List.getElem?_cons_zero, List.getElem?_cons_succ] at x0 x1
   clear hf hpa hb hps hpl hrl hx hxe hxm hok hcl0 hcl1 hv1 hs1 hs2 hs3 hW B1
   go_wp2_with fail
   refine Calls.mono hKW.out ?_
   rintro e w2 ⟨A1, c3, rfl, hp2, b2⟩
   have b3 : Below wr.heap.size wr w2 := HW1.out.trans (b2.mono HW1.out.size)
   have hs1 := HW1.out.size
   have hf2 : FillR w2 g n ys := HO.out.1.keep (b3.block g HO.out.1.lt)
   obtain ⟨y0, hy0⟩ := hf2.cell (k * 2) (by omega)
   obtain ⟨y1, hy1⟩ := hf2.cell (k * 2 + 1) (by omega)
   have f0 := hf2.frozen (k * 2)
   have f1' := hf2.frozen (k * 2 + 1)
   obtain ⟨Y, hY⟩ : ∃ Y, (w2.setCell ⟨g, k * 2, none⟩ (.string k1)).setCell ⟨g, k * 2 + 1, none⟩ (.slice A1 r1 c3) = Y := ⟨_, rfl⟩
   have HF2 := Lib.hid (And.intro hf2 (And.intro b3 (And.intro hp2 hY)))
   clear hf2 b3 hp2 b2 hKW x0 x1
   go_wp2_with fail
   have hY := HF2.out.2.2.2
   have hfill := HF2.out.1.put (p := ((k1, v1), A1, c3)) (by have := HO.out.2.2.2.2.1; omega) (k * 2) (by have := HO.out.2.2.2.2.1; omega)
   simp only at hfill
   rw [HO.out.2.2.2.2.2.1, hY] at hfill
   have gY := grown_trans_one (gset w2 g (k * 2) (.string k1)) (gset _ g (k * 2 + 1) (.slice A1 r1 c3))
   rw [hY] at gY
   have hYh : ∀ q, q < w2.heap.size → q ≠ g → Y.heap[q]? = w2.heap[q]? := fun q hq hne => gY.block q hq (by intro e; injection e with e; exact hne e)
   have hYb : Below g w2 Y := (Below.refl _ _).grown gY (by have := HF2.out.1.lt; omega) fun j hj => by injection hj with hj; omega
   have hwg : w.heap.size = g := HG.out
   have s2 := HF2.out.2.1.size
   have hgl := HO.out.1.lt
   have sY := gY.size
   have hrel : CopyR P n g w (.int .i64 ((k : Int) + 1)) Y := ⟨k + 1, ys ++ [((k1, v1), A1, c3)], rfl, by omega, by
     rw [List.map_append, HO.out.2.2.2.1, HT.out]; rfl, hfill, fun q hq => by
     rcases List.mem_append.1 hq with hq | hq
     ·obtain ⟨h1, h2⟩ := HO.out.2.1 q hq
      exact ⟨((h1.below (HF2.out.2.1)).keep fun p p1 p2 => World.cell?_of_block (hYh _ (by omega) (by omega))).more (by omega), h2⟩
     ·rw [List.mem_singleton.1 hq]
      have hH := HF2.out.2.2.1.out
      exact ⟨((hH.1.keep fun p p1 p2 => World.cell?_of_block (hYh _ p2 (by omega))).less (by omega)).more sY, by simp only; rw [HO.out.2.2.2.2.2.1]; exact hH.2, HO.out.2.2.2.2.2.2.1, HO.out.2.2.2.2.2.2.2⟩, by
     rw [hwg]
     have h1 := HO.out.2.2.1
     rw [hwg] at h1
     exact (h1.trans (HF2.out.2.1.mono (by omega))).trans hYb⟩
   have HR := Lib.hid hrel
   clear hrel
   go_roundw
   case rel => exact HR.out
   case measure => simp only [intOf]; omega
  ·obtain rfl : k = n := by omega
   have hfin : NewRs P k w (.returned (.slice (some ⟨g, 0, none⟩) k k)) wr := by
    have hgw := HG.out
    have h := fillr_rs hf hpa w.heap.size (by omega)
    rw [hps, List.take_of_length_le (by have := HV.out.2.1; omega)] at h
    exact ⟨_, k, rfl, Lib.hid ⟨HV.out.2.1, Nat.le_refl _, h⟩, hb⟩
   have HR := Lib.hid hfin
   clear hfin hf hpa hps hb
   go_wp2_with fail
   go_ret
   exact HR.out
end Quorum
end Go.Proofs.YtbhidndgnldheaaGreat

/-
 What a scan counts, and what it tells of all that is counted (layer 16).
-/
namespace Go.Proofs.YtbhidndgnldheaaGreat
namespace Quorum
open Go.RowKit Go.Shelf Vers Span Blk Rounds
open Go.Proofs.YtbhidndgnldheaaGreat.Code hiding Bn
attribute [local go_sem] Oper.semAt_some
theorem rs_pick {w : World} {L B b off : Nat} {l : List Rc} (h : Code.Rs w L B (some ⟨b, off, none⟩) l) (hl : 0 < l.length) :
  ∃ ps : List Pr, ps.map Prod.fst = l ∧ (∀ j u, (rcs ps)[j]? = some u → w.cell? ((⟨b, off, none⟩ : Addr).add j) = some u) ∧ ∀ p ∈ ps, Vs w L B p.2.1 p.1.2 ∧ (p.1.2.length ≤ p.2.2 ∧ p.1.2.length ≤ 140737488355328 ∧ p.1.1.size ≤ 140737488355328) := by
 obtain ⟨b', off', e, _, hb, hc⟩ := h hl
 injection e with e
 injection e with e1 e2
 subst e1 e2
 obtain ⟨f, hf⟩ : ∃ f : Nat → Option Addr × Nat, ∀ j, j < l.length → Rat w L B b (off + j * 2) (l.getD j r0) (f j).1 (f j).2 :=
  ⟨fun j => if h : j < l.length then ((hc j h).choose, (hc j h).choose_spec.choose) else (none, 0), fun j h => by simp only [dif_pos h]; exact (hc j h).choose_spec.choose_spec⟩
 have hlen : ((List.range l.length).map fun j => ((l.getD j r0, f j) : Pr)).length = l.length := by simp
 have hat : ∀ j, j < l.length → ((List.range l.length).map fun j => ((l.getD j r0, f j) : Pr)).getD j (r0, none, 0) = (l.getD j r0, f j) := fun j hj => by simp [List.getD_eq_getElem?_getD, hj]
 refine ⟨(List.range l.length).map fun j => (l.getD j r0, f j), ?_, fun j u hu => ?_, fun p hp => ?_⟩
 ·rw [List.map_map]
  apply List.ext_getElem?
  intro j
  by_cases hj : j < l.length
  ·simp [hj, List.getD_eq_getElem?_getD]
  ·simp [hj]
 ·have hj : j < (rcs ((List.range l.length).map fun j => ((l.getD j r0, f j) : Pr))).length := by
   rcases Nat.lt_or_ge j (rcs ((List.range l.length).map fun j => ((l.getD j r0, f j) : Pr))).length with h | h
   ·exact h
   ·rw [List.getElem?_eq_none h] at hu; cases hu
  rw [rcs_len, hlen] at hj
  have hq : j / 2 < l.length := by omega
  have hj2 : j = j / 2 * 2 + j % 2 := by omega
  have hr : j % 2 < 2 := Nat.mod_lt _ (by omega)
  rw [hj2, rcs_at _ _ (by rw [hlen]; exact hq) _ hr, hat _ hq] at hu
  obtain ⟨h0, h1, _⟩ := hf (j / 2) hq
  rw [Vers.add_plain]
  have e0 : off + j = off + j / 2 * 2 + j % 2 := by omega
  rw [e0]
  obtain ⟨r, hrr⟩ : ∃ r, j % 2 = r := ⟨_, rfl⟩
  rw [hrr] at hu hr ⊢
  match r, hr with
  | 0, _ => simp [rcc] at hu; rw [← hu]; exact h0
  | 1, _ => simp [rcc] at hu; rw [← hu]; exact h1
 ·obtain ⟨j, hj, rfl⟩ := List.mem_map.1 hp
  exact (hf j (List.mem_range.1 hj)).2.2
theorem wpListIn_append_rs {F : Fence} {k : Nat} {P : Program} (w : World) {ops : Array Oper} {rest : List Oper} {o : Oper} {a : Act} {Q : Exit → Act → World → Prop} (hgd : o.guard = none) (s x : Operand) (t : TypeId)
  (ho : o.op = .call { callee := .builtin .append, args := #[s, x], argTypes := #[t, t] })
  (base : Nat) (e : TypeId) (i : TypeInfo) (z : Value) (bytes : Nat) (ht : P.underlying t = some (.slice e)) (hi : P.info? e = some i) (hz : i.zero = some z)
  (hsize : i.size = 2) (hby : i.bytes = bytes) (hzs : z.cells.size = 2)
  (v : Value) (n : Nat) (ps : List Pr) (hs : a.eval s = v) (hown : w.ownsRow base e 2 v n (rcs ps)) (L B : Nat) (A : Option Addr) (m c : Nat) (ys : List Rc) (hm : ys.length = m)
  (hx : a.eval x = .slice A m c) (hr : Code.Rs w L B A ys)
  (hbytes : (n + m) * bytes ≤ 140737488355328) (hn : n + m ≤ 140737488355328) (hbase : base ≤ w.heap.size)
  (h : ∀ v' w' qs, qs.map Prod.fst = ys → (∀ p ∈ qs, Vs w L B p.2.1 p.1.2 ∧ (p.1.2.length ≤ p.2.2 ∧ p.1.2.length ≤ 140737488355328 ∧ p.1.1.size ≤ 140737488355328)) → w'.ownsRow base e 2 v' (n + m) (rcs (ps ++ qs)) → w.grownBy w' v.ownBlock → (v'.ownBlock = v.ownBlock ∨ v'.ownBlock = some w.heap.size) → wpListIn F k P ops Q rest (a.put o.dst v') w') :
  wpListIn F k P ops Q (o :: rest) a w := by
 subst hm
 refine wpListIn_plain hgd fun K hK => ?_
 have main : ∃ v' w' qs, (Builtin.append_ #[t, t] o.type #[v, .slice A ys.length c]).run P w = .ok v' w' ∧ qs.map Prod.fst = ys ∧ (∀ p ∈ qs, Vs w L B p.2.1 p.1.2 ∧ (p.1.2.length ≤ p.2.2 ∧ p.1.2.length ≤ 140737488355328 ∧ p.1.1.size ≤ 140737488355328)) ∧ w'.ownsRow base e 2 v' (n + ys.length) (rcs (ps ++ qs)) ∧ w.grownBy w' v.ownBlock ∧ (v'.ownBlock = v.ownBlock ∨ v'.ownBlock = some w.heap.size) := by
  rcases A with _ | ad
  ·have h0 : ys = [] := by
    rcases Nat.eq_zero_or_pos ys.length with h0 | h0
    ·exact List.eq_nil_of_length_eq_zero h0
    ·obtain ⟨b, off, he, _⟩ := hr h0
     cases he
   subst h0
   refine ⟨v, w, [], ?_, rfl, by simp, by simpa using hown, World.grownBy.refl w _, .inl rfl⟩
   rcases hown.2 with ⟨rfl, rfl⟩ | ⟨g, cap, cur, rfl, _, _, hnc, _⟩
   ·simp [Builtin.append_, run_underlying ht, sizeOf, typeInfo, hi, Builtin.lenOf, Builtin.firstCells]
   ·simp [Builtin.append_, run_underlying ht, sizeOf, typeInfo, hi, Builtin.lenOf, Builtin.firstCells, hnc, storeCells]
  ·rcases ys with _ | ⟨y, ys⟩
   ·obtain ⟨v', w', hrun, r1, hg, _, hat⟩ := run_append_own_at (P := P) (w := w) base t o.type e i z 2 bytes ht hi hz hsize hby hzs (by omega) v n (rcs ps) hown ad 0 c [] (by simp) (by simp) (by simp) (by unfold maxLen; simp at hn; omega) hbytes hbase
    exact ⟨v', w', [], hrun, rfl, by simp, by simpa using r1, hg, hat⟩
   ·obtain ⟨b, off, he, _⟩ := hr (by simp)
    injection he with he
    subst he
    obtain ⟨qs, hq1, hq2, hq3⟩ := rs_pick hr (by simp)
    have hql : qs.length = (y :: ys).length := by rw [← hq1, List.length_map]
    obtain ⟨v', w', hrun, r1, hg, _, hat⟩ := run_append_own_at (P := P) (w := w) base t o.type e i z 2 bytes ht hi hz hsize hby hzs (by omega) v n (rcs ps) hown ⟨b, off, none⟩ (y :: ys).length c (rcs qs) (by rw [rcs_len, hql]) hq2 (rcs_cell qs) (by unfold maxLen; omega) hbytes hbase
    exact ⟨v', w', qs, hrun, hq1, hq3, by rw [rcs_append]; exact r1, hg, hat⟩
 obtain ⟨v', w', qs, hrun, h1, h2, h3, h4, h5⟩ := main
 unfold Oper.wpIn
 refine ⟨?_, ?_⟩
 ·simp [Oper.about, ho, resolve, Target.leads, Sem.run_pure]
 ·rw [Oper.semAt_plain F _ _ (by rw [ho]; intro c hc'; cases hc')]
  simp only [execOp, ho, resolve, invoke, builtin, List.map_toArray, List.map_cons, List.map_nil, hs, hx, Sem.run_bind, Sem.run_pure, Result.andThen_ok, hrun]
  exact hK _ _ (h v' w' qs h1 h2 h3 h4 h5)
def accS (z : List EPS) : List Rc := z.flatMap fun e => e.1.2.2
theorem accS_snoc (z : List EPS) (e : EPS) : accS (z ++ [e]) = accS z ++ e.1.2.2 := by simp [accS]
def allS (l : List ES) : List Rc := (l.filter fun e => e.2.1).flatMap fun e => e.2.2
theorem accS_told (l : List ES) (ps : List Plc) (h : ps.length = l.length) : accS (toldS (l.zip ps)) = allS l := by
 unfold accS toldS allS
 have e : (l.zip ps).map Prod.fst = l := List.map_fst_zip (by omega)
 conv => rhs; rw [← e]
 rw [List.filter_map, List.flatMap_map]
 rfl
def MidS (m : Nat) (w : World) (pre : List EPS) (W : World) : Prop :=
 Below m w W ∧ m + 3 ≤ W.heap.size ∧ ∃ (A : Option Addr) (c n : Nat) (ps : List Pr), Bn m 23 [.slice A n c] W ∧ ps.map Prod.fst = accS pre ∧ ps.length = n ∧ n ≤ pre.length * 1048576 ∧ W.ownsRow (m + 3) 46 2 (.slice A n c) n (rcs ps) ∧ ∀ p ∈ ps, Vs W 0 m p.2.1 p.1.2 ∧ (p.1.2.length ≤ p.2.2 ∧ p.1.2.length ≤ 140737488355328 ∧ p.1.1.size ≤ 140737488355328)
theorem midS_put {m : Nat} {w : World} (pre : List EPS) (W : World) (o : Obj) (h : MidS m w pre W) : MidS m w pre (W.putObj (m + 1 + 1) o) := by
 obtain ⟨h1, h2, A, c, n, ps, h3, h4, h5, h6, h7, h8⟩ := h
 refine ⟨below_put h1 (by omega), by simpa using h2, A, c, n, ps, h3.same (World.putObj_heap_other (by omega)), h4, h5, h6, own_same h7 fun k hk => World.putObj_heap_other (by have := (h7.lt k hk).1; omega), fun p hp => ?_⟩
 exact ⟨(h8 p hp).1.keep fun q _ hq => World.cell?_of_block (World.putObj_heap_other (by omega)), (h8 p hp).2⟩
theorem row_rs {base m n c : Nat} {w : World} {A : Option Addr} {ps : List Pr} (ho : w.ownsRow base 46 2 (.slice A n c) n (rcs ps)) (hl : ps.length = n) (hpa : ∀ p ∈ ps, Vs w 0 m p.2.1 p.1.2 ∧ (p.1.2.length ≤ p.2.2 ∧ p.1.2.length ≤ 140737488355328 ∧ p.1.1.size ≤ 140737488355328)) (hm : m ≤ w.heap.size) : Code.Rs w 0 w.heap.size A (ps.map Prod.fst) := fun hp => by
 subst hl
 rw [List.length_map] at hp
 rcases ho.2 with ⟨_, h0⟩ | ⟨g, cap, cur, hv, hbg, hg, rest⟩
 ·omega
 ·injection hv with h1 h2 h3
  subst h1
  refine ⟨g, 0, rfl, Nat.zero_le _, (Array.getElem?_eq_some_iff.1 hg).1, fun j hj => ?_⟩
  rw [List.length_map] at hj
  have e : (ps.map Prod.fst).getD j r0 = (ps.getD j (r0, none, 0)).1 := by simp [List.getD_eq_getElem?_getD, hj]
  have hm : ps.getD j (r0, none, 0) ∈ ps := by
   rw [List.getD_eq_getElem?_getD, List.getElem?_eq_getElem hj]
   exact List.getElem_mem _
  rw [e]
  have hat : ∀ r, r < 2 → ∀ u, (rcc (ps.getD j (r0, none, 0)))[r]? = some u → w.cell? ⟨g, 0 + j * 2 + r, none⟩ = some u := fun r hr u hu => by
   have hc := ho.cells (g := g) rfl (j * 2 + r) u (by rw [rcs_at ps j hj r hr]; exact hu)
   rw [Vers.add_plain] at hc
   rw [show 0 + j * 2 + r = 0 + (j * 2 + r) by omega]
   exact hc
  obtain ⟨q1, q2, q3, q4⟩ := hpa _ hm
  exact ⟨_, _, hat 0 (by omega) _ (by simp [rcc]), hat 1 (by omega) _ (by simp [rcc]), q1.more (by omega), q2, q3, q4⟩
theorem got_low {base b2 : Nat} {w : World} {A : Option Addr} {ps : List Pr} (h : Tree.Got base w A ps) (hb : b2 ≤ base) : Tree.Got b2 w A ps := fun hp => by
 obtain ⟨g, h1, h2, h3, h4, h5⟩ := h hp
 refine ⟨g, h1, by omega, h3, h4, fun p hp => ?_⟩
 obtain ⟨L, B, k1, k2⟩ := h5 p hp
 exact ⟨L, B, by omega, k2⟩
def RecsP (R : List Rc) (w : World) (e : Ending) (w' : World) : Prop := ∃ A n c ps, e = .returned (.slice A n c) ∧ Hid (ps.map Prod.fst = R ∧ R.length = n ∧ n ≤ c ∧ Tree.Got w.heap.size w' A ps) ∧ Below w.heap.size w w'
set_option maxRecDepth 100000 in
set_option maxHeartbeats 2000000 in
theorem recs_any {T : TypeId} {F : Nat → Prop} {w : World} {rb n lb cl cb ab : Nat} {need : Int} {l : List ES} {x : List Value} {ps : List Plc} (h : Core T F w rb need (l.map co) n lb cl cb ab x) (ha : AnsS F w l ps cb ab) :
  Calls Tryz.prog 11 #[hd rb] w (RecsP (Mend.takeR [] (allS l)).1 w) := by
 refine (callsIn_wide (n := 3)).1 ?_
 refine callsIn_of_wp_marks Tryz.func11 rfl trivial ?_ rfl
 simp only [Tryz.ntmps11, List.size_toArray, List.length_cons, List.length_nil, Nat.reduceAdd, Nat.reduceSub, Array.replicate_succ, Array.replicate_zero, List.push_toArray, List.append_toArray, List.nil_append, List.cons_append]
 obtain ⟨i0, hi0, hz0, hz1, hz2⟩ := info_parts info_rec
 obtain ⟨m, hm⟩ : ∃ m, w.heap.size = m := ⟨_, rfl⟩
 obtain ⟨W1, hW1⟩ : ∃ W, w.alloc (.cells #[.slice none 0 0] 23) = W := ⟨_, rfl⟩
 have b1 : Below w.heap.size w W1 := by rw [← hW1]; exact (Below.refl _ w).alloc (Nat.le_refl _) _
 have s1 : W1.heap.size = m + 1 := by rw [← hW1]; simp [hm]
 have B1 : Bn m 23 [.slice none 0 0] W1 := by rw [← hm, ← hW1]; exact heap_alloc_new w _
 obtain ⟨V, hV⟩ : ∃ V, allS l = V := ⟨_, rfl⟩
 have hF : ∀ k, F k → k < m := fun k hk => by rw [← hm]; exact h.lt k hk
 have HH := Lib.hid (And.intro h (And.intro ha (And.intro hF (And.intro b1 (And.intro B1 (And.intro hV hm))))))
 have HW1 := Lib.hid hW1
 have HI := Lib.hid (And.intro hi0 (And.intro hz0 (And.intro hz1 hz2)))
 rw [hV]
 clear h ha hF b1 B1 hV hW1 hi0 hz0 hz1 hz2
 gi_wp2
 rw [HW1.out]
 refine range_bound (F := Fence.wide) (n := 3) (α := EPS) (D := m + 1) s1 rfl (by omega) (gf := 34) (lb := #[hd rb]) rfl trivial (enters_of Tryz.func34 (by kernel_rfl) rfl)
  argsS (fun x => rfl)
  (fun pre W0 x W1 => W0 = W1 ∧ pre.length < 8 ∧ ToldS m x W0)
  (fun pre W0 x W1 h => by rw [h.1]; exact Below.refl _ _)
  (fun W1 W' => Below m W1 W')
  (MidS m w) (fun _ _ _ => False) midS_put (fun _ _ _ _ h => h)
  (fun xs => xs = toldS (l.zip ps))
  (fun _ => True)
  ?seq ?start ?round ?done ?stop
 case seq =>
  intro J Jx W hb hs h0 hY
  obtain ⟨hC, hA, hF, b1, B1, hV, hm⟩ := HH.out
  have b2 : Below m w W := by rw [← hm]; exact (b1.trans (hb.mono (by omega)))
  refine (each_inS 2 (by omega) (m + 1 + 1) m J Jx (T := T) (F := F) (x := x) (fun pre y W0 h8 h1 h2 => hY pre y W0 W0 ⟨rfl, h8, h2⟩ h1) W (by omega) (hC.keep b2.size fun k hk => b2.block k (hF k hk)) (hA.keep b2.size (b2.block ab (hF ab hC.2.2.2.1.2.2.2.1)) fun k hk _ _ => b2.block k (hF k hk)) hF h0).mono ?_
  rintro e W' ⟨hv, h | ⟨_, _, h⟩⟩
  ·exact ⟨hv, .inl ⟨_, rfl, h⟩⟩
  ·exact ⟨hv, .inr ⟨_, trivial, h⟩⟩
 case start =>
  intro W hb hs
  obtain ⟨hC, hA, hF, b1, B1, hV, hm⟩ := HH.out
  refine ⟨by rw [← hm]; exact b1.trans (hb.mono (by omega)), by omega, none, 0, 0, [], ?_, by simp [accS], rfl, by omega, World.ownsRow_nil _ _ _ _, by simp⟩
  exact B1.same (hb.block m (by omega))
 case round =>
  rintro pre x W0 W1 hs0 ⟨i1, i2, A, c, N, qs, i3, i4, i5, i6, i7, i8⟩ ⟨rfl, h8, t1, t2, t3⟩
  obtain ⟨⟨nd, bo, an⟩, Ap, cp⟩ := x
  simp only at t1 t2 t3
  have HS := Lib.hid (accS_snoc pre ((nd, bo, an), Ap, cp))
  obtain ⟨M, hM⟩ : ∃ M, an.length = M := ⟨_, rfl⟩
  rw [hM] at t1 t2
  have hN8 : N ≤ 7 * 1048576 := Nat.le_trans i6 (Nat.mul_le_mul_right _ (by omega))
  have HT := Lib.hid (And.intro i1 (And.intro i2 (And.intro i3 (And.intro i4 (And.intro i5 (And.intro i6 (And.intro i7 (And.intro i8 (And.intro t1 (And.intro t3 (And.intro hM h8)))))))))))
  simp only [argsS, hM]
  clear hM i1 i2 i3 i4 i5 i6 i7 i8 t1 t3 h8
  gi_wp2
  refine ⟨Held.refl _ _, fun o => ?_⟩
  obtain ⟨i1, i2, i3, i4, i5, i6, i7, i8, t1, t3, hM, h8⟩ := HT.out
  obtain ⟨Wb, hWb⟩ : ∃ Wb, W0.putObj (m + 1 + 1) o = Wb := ⟨_, rfl⟩
  have sb : Wb.heap.size = W0.heap.size := by rw [← hWb]; simp
  have fb : ∀ k, k ≠ m + 1 + 1 → Wb.heap[k]? = W0.heap[k]? := fun k hne => by rw [← hWb, World.putObj_heap_other hne]
  have pb : Below m W0 Wb := by rw [← hWb]; exact below_put (Below.refl _ _) (by omega)
  have B3 : Bn m 23 [.slice A N c] Wb := i3.same (fb m (by omega))
  have o3 : Wb.ownsRow (m + 3) 46 2 (.slice A N c) N (rcs qs) := own_same i7 fun k hk => fb k (by have := (i7.lt k hk).1; omega)
  have v3 : Code.Rs Wb 0 m Ap an := t3.below pb
  have hbs : m + 3 ≤ Wb.heap.size := by omega
  have c0 := B3.cell 0
  have z0 := B3.frozen 0
  have HB := Lib.hid (And.intro pb (And.intro sb (And.intro B3 (And.intro o3 (And.intro v3 hbs)))))
  rw [hWb]
  clear hWb fb pb sb B3 v3 i1 i2 i3 i4 i5 i6 i7 i8 t1 t3 hM h8
  gi_wp2_with (gi_at_builtin; refine wpListIn_append_rs _ rfl _ _ 23 rfl (m + 3) 46 i0 _ 40 Tryz.underlying23 HI.out.1 HI.out.2.1 HI.out.2.2.1 HI.out.2.2.2 rfl _ N qs rfl o3 0 m Ap M cp an HT.out.2.2.2.2.2.2.2.2.2.2.1 rfl HB.out.2.2.2.2.1 (by omega) (by omega) hbs ?_; intro v5 w5 ys hy1 hy2 o5 g5 _; obtain ⟨A5, c5, rfl⟩ := own_form o5
               have B6 : Bn m 23 [.slice A N c] w5 := HB.out.2.2.1.kept g5 (fun e => by have := (o3.lt _ e.symm).1; omega)
               have c6 := B6.cell 0
               have z6 := B6.frozen 0
               have G6 := Lib.hid (And.intro hy1 (And.intro hy2 (And.intro o5 (And.intro g5 B6))))
               clear hy1 hy2 o5 g5 B6)
  obtain ⟨hy1, hy2, o5, g5, B6⟩ := G6.out
  obtain ⟨pb, sb, B3, o3', v3, hbs'⟩ := HB.out
  obtain ⟨i1, i2, i3, i4, i5, i6, i7, i8, t1, t3, hM, h8⟩ := HT.out
  have hrow : ∀ k, (Value.slice A N c).ownBlock = some k → m + 3 ≤ k := fun k hk => (o3'.lt k hk).1
  have B7 := B6.set 0 (.slice A5 (N + M) c5)
  have hs5 := g5.size
  have g4 : Below m Wb w5 := (Below.refl _ _).grown g5 (by omega) fun k hk => by have := hrow k hk; omega
  have b5 : Below m W0 (w5.setCell ⟨m, 0, none⟩ (.slice A5 (N + M) c5)) := (pb.trans g4).setCell (by simp only; omega) _
  refine ⟨(Held.grown g5 (by omega) (fun k hk => by have := hrow k hk; omega)).trans (Held.setCell _ _ _ (by simp only; omega) (by simp only; omega)), ⟨i1.trans b5, by simp [World.setCell]; omega, A5, c5, N + M, qs ++ ys, B7, ?_, ?_, ?_, ?_, ?_⟩, fun o => below_put b5 (by omega)⟩
  ·rw [HS.out, List.map_append, i4, hy1]
  ·rw [List.length_append, i5, ← hM, ← hy1, List.length_map]
  ·rw [List.length_append, List.length_singleton, Nat.add_mul]
   omega
  ·exact own_same (w' := w5.setCell ⟨m, 0, none⟩ (.slice A5 (N + M) c5)) o5 fun k hk => Below.heap_setCell _ _ _ _ (by have := (o5.lt k hk).1; simp only; omega)
  ·intro p hp
   have hkeep : ∀ q : Addr, q.block < m → (w5.setCell ⟨m, 0, none⟩ (.slice A5 (N + M) c5)).cell? q = Wb.cell? q := fun q hq => (World.cell?_of_block (Below.heap_setCell _ _ _ _ (by simp only; omega))).trans (World.cell?_of_block (g4.block _ hq))
   rcases List.mem_append.1 hp with hp | hp
   ·exact ⟨((i8 p hp).1.below pb).keep fun q _ hq => hkeep q hq, (i8 p hp).2⟩
   ·exact ⟨(hy2 p hp).1.keep fun q _ hq => hkeep q hq, (hy2 p hp).2⟩
 case done =>
  rintro xs W rfl ⟨j1, j2, A, c, N, qs, j3, j4, j5, j6, j7, j8⟩ hd
  obtain ⟨hC, hA, hF, b1, B1, hV, hm⟩ := HH.out
  rw [accS_told l ps hA.1, hV] at j4
  have hlen : (toldS (l.zip ps)).length ≤ 8 := by
   have h1 := told_lenS (l.zip ps)
   rw [List.length_zip] at h1
   have h2 := hC.1.2.2.2
   have h3 := hC.len
   rw [List.length_map] at h3
   omega
  have hN : N ≤ 8388608 := by
   have := Nat.mul_le_mul_right 1048576 hlen
   omega
  obtain ⟨W2, hW2⟩ : ∃ W2, W.putObj (m + 1) (.deferred none) = W2 := ⟨_, rfl⟩
  have c0 := j3.cell 0
  have J := Lib.hid (And.intro j1 (And.intro j2 (And.intro j3 (And.intro j4 (And.intro j5 (And.intro j7 (And.intro j8 hm)))))))
  have HTk := Lib.hid (Mend.take_any none A 0 c 0 N [] V rfl (by rw [← j4, List.length_map]; exact j5) (by omega) (by omega) W (Code.Rs.nil _) (by rw [← j4]; exact row_rs j7 j5 j8 (by omega)))
  clear hC hA hF b1 B1 hV hm j1 j2 j3 j4 j5 j6 j7 j8 hlen
  have HD := Lib.hid hd
  clear hd
  gi_wp2_with (refine ⟨trivial, ?_⟩; gi_at_call 35; refine (callsIn_wide.2 HTk.out).mono ?_; rintro e1 w2 ⟨A2, n2, c2, qs2, rfl, h2, b2⟩)
  obtain ⟨j1, j2, j3, j4, j5, j7, j8, hm⟩ := J.out
  have hd2 := (b2.block (m + 1) (by omega)).trans HD.out
  refine ⟨by simp, .inl ⟨_, _, rfl, run_takeDeferred (w := w2) hd2, ?_⟩⟩
  refine ⟨_, results_tmp rfl _ _ _, ?_⟩
  have hs2 := b2.size
  refine ⟨A2, n2, c2, qs2, rfl, Lib.hid ⟨h2.out.1, h2.out.2.1, h2.out.2.2.1, ?_⟩, ?_⟩
  ·rw [hm]
   exact got_low (h2.out.2.2.2.keep (by simp) fun k hk _ => World.putObj_heap_other (by omega)) (by omega)
  ·rw [hm]
   exact below_put (j1.trans (b2.mono (by omega))) (by omega)
 case stop =>
  rintro c0 xs W _ h
  exact h.elim
end Quorum
end Go.Proofs.YtbhidndgnldheaaGreat

/-
 A scan counts what it is given: every record right, copied (layer 16).
-/
namespace Go.Proofs.YtbhidndgnldheaaGreat
namespace Quorum
open Go.RowKit Vers Span Blk
open Go.Proofs.YtbhidndgnldheaaGreat.Code hiding Bn
attribute [local go_sem ↓] Go.wp_at_zero Go.wp_at_succ
def gotS (l : List ES) (node : Int) (a : List Rc) : Bool × List ES := if ∀ x ∈ a, okR x then countS l node a else (false, l)
theorem recs_new (A : Option Addr) (c n : Nat) (P : List Rc) (hn : P.length = n) (w : World) (hf : Code.Rs w 0 w.heap.size A P) (hP : ∀ y ∈ P, okR y) (hbig : n ≤ 1048576) :
  Calls Tryz.prog 31 #[.slice A n c] w (NewRs P n w) := by
 have h := Lib.hid (list_rec A c n P hn w hf hP hbig)
 clear hn hf hP
 go_enter Tryz.func31, Tryz.ntmps31
 go_wp2_with fail
 refine h.out.mono ?_
 rintro e w2 ⟨A1, c1, rfl, h2, b2⟩
 go_wp2_with fail
 go_ret
 exact ⟨A1, c1, rfl, h2, b2⟩
theorem AnsS.wide {F F' : Nat → Prop} {w : World} {l : List ES} {ps : List Plc} {cb ab : Nat} (h : AnsS F w l ps cb ab) (hF : ∀ k, F k → F' k) : AnsS F' w l ps cb ab := by
 obtain ⟨h0, h1, h2⟩ := h
 refine ⟨h0, h1, fun j e p he hp => ?_⟩
 obtain ⟨a, b, L, B, c, d, f⟩ := h2 j e p he hp
 exact ⟨a, b, L, B, c, d, fun k q1 q2 => ⟨hF k (f k q1 q2).1, (f k q1 q2).2⟩⟩
set_option maxRecDepth 100000 in
set_option maxHeartbeats 1000000 in
theorem gotS_any {T : TypeId} {F : Nat → Prop} {w : World} {rb n lb cl cb ab : Nat} {need : Int} {l : List ES} {x : List Value} {ps : List Plc} (h : Core T F w rb need (l.map co) n lb cl cb ab x) (ha : AnsS F w l ps cb ab) (hnd : (l.map Prod.fst).Nodup) (node : Int) (Aa : Option Addr) (ca m : Nat) (an : List Rc) (hm : an.length = m) (hbig : m ≤ 1048576) (hv : Code.Rs w 0 w.heap.size Aa an) {b : Bool} {l' : List ES} (hc : gotS l node an = (b, l')) :
  Calls Tryz.prog 9 #[hd rb, .int .i64 node, .slice Aa m ca] w (fun e w' => e = .returned (.bool b) ∧ Hid (∃ F' ps', Core T F' w' rb need (l'.map co) n lb cl cb ab x ∧ AnsS F' w' l' ps' cb ab ∧ Stp F w F' w')) := by
 have HK : Hid (∀ V, Below w.heap.size w V → ∃ F' ps', Core T F' V rb need (l.map co) n lb cl cb ab x ∧ AnsS F' V l ps' cb ab ∧ Stp F w F' V) := Lib.hid fun V hV => ⟨F, ps, h.below hV, ha.below hV, Stp.of_below hV⟩
 have HCN : Hid (∀ V V' A1 c1, Below w.heap.size w V → (∀ x ∈ an, okR x) → NewRs an m V (.returned (.slice A1 m c1)) V' → Calls Tryz.prog 30 #[hd rb, .int .i64 node, .slice A1 m c1] V' (fun e w' => e = .returned (.bool b) ∧ Hid (∃ F' ps', Core T F' w' rb need (l'.map co) n lb cl cb ab x ∧ AnsS F' w' l' ps' cb ab ∧ Stp F w F' w'))) := Lib.hid fun V V' A1 c1 hV hall hn => by
  unfold gotS at hc
  rw [if_pos hall] at hc
  obtain ⟨A1', c1', he, h2, b2⟩ := hn
  injection he with he
  injection he with he1 _ he2
  subst he1 he2
  have hV' : Below w.heap.size w V' := hV.trans (b2.mono hV.size)
  have hs := hV.size
  have hs2 := b2.size
  have hF' : ∀ k, (F k ∨ (V.heap.size ≤ k ∧ k < V'.heap.size)) → k < V'.heap.size := fun k hk => hk.elim (fun h1 => Nat.lt_of_lt_of_le (h.lt k h1) hV'.size) fun h1 => h1.2
  have hcore := (h.below hV').wide (F' := fun k => F k ∨ (V.heap.size ≤ k ∧ k < V'.heap.size)) (fun _ h1 => .inl h1) hF'
  have hans := (ha.below hV').wide (F' := fun k => F k ∨ (V.heap.size ≤ k ∧ k < V'.heap.size)) fun _ h1 => .inl h1
  have hcb := h.lt cb h.2.2.2.1.2.2.1
  have hab := h.lt ab h.2.2.2.1.2.2.2.1
  refine (countS_any hcore hans hnd node A1 c1 m an hm h2.out.2.1 hbig h2.out.2.2 (Nat.le_refl _) (fun k q1 q2 => ⟨.inr ⟨q1, q2⟩, by omega, by omega⟩) hc).mono fun e w' ⟨g1, g2⟩ => ⟨g1, Lib.hid ?_⟩
  obtain ⟨k1, ⟨ps', k2⟩, k3⟩ := g2.out
  refine ⟨_, ps', k1, k2, (Chg.of_below (F := F) hV').trans k3 fun k hk => ?_, fun k hk => ?_⟩
  ·exact hk.elim .inl fun h1 => .inr (by omega)
  ·exact hk.elim .inl fun h1 => .inr (by omega)
 have HV := Lib.hid (And.intro hm hv)
 have HC := Lib.hid hc
 clear h ha hnd hm hv hc
 go_enter Tryz.func9, Tryz.ntmps9
 go_wp2_with fail
 go_loopw [8, 11] (fun _ q wr => ∃ k : Nat, q = .int .i64 k ∧ k ≤ m ∧ Hid (Below w.heap.size w wr ∧ ∀ j, j < k → okR (an.getD j r0))) (fun _ q _ => m - (intOf q).toNat)
 case atStart => exact ⟨0, rfl, by omega, Lib.hid ⟨Below.refl _ _, fun j hj => by omega⟩⟩
 case round =>
  obtain ⟨k, rfl, hk, hst⟩ := hrel
  by_cases hlt : k < m
  ·have d1 : (0 : Int) ≤ (k : Int) := by omega
   have d2 : (k : Int) < (m : Int) := by omega
   have hkP : k < an.length := by have := HV.out.1; omega
   obtain ⟨b0, off, rfl, _, hbB, hat⟩ := HV.out.2 (by omega)
   obtain ⟨y, hy⟩ : ∃ y, an.getD k r0 = y := ⟨_, rfl⟩
   have hym : y ∈ an := by
    rw [← hy, List.getD_eq_getElem?_getD, List.getElem?_eq_getElem hkP]
    exact List.getElem_mem _
   obtain ⟨a1, c1, hcl0, hcl1, hv1, hs1, hs2, hs3⟩ := hat k hkP
   rw [hy] at hcl0 hcl1 hv1 hs1 hs2 hs3
   obtain ⟨k1, v1⟩ := y
   simp only at hcl0 hcl1 hv1 hs1 hs2 hs3
   obtain ⟨r1, hrl⟩ : ∃ r, v1.length = r := ⟨_, rfl⟩
   rw [hrl] at hcl1
   have q0 : wr.cell? ⟨b0, off + k * 2, none⟩ = some (.string k1) := (hst.out.1.cell (p := ⟨b0, off + k * 2, none⟩) hbB).trans hcl0
   have q1 : wr.cell? ⟨b0, off + k * 2 + 1, none⟩ = some (.slice a1 r1 c1) := (hst.out.1.cell (p := ⟨b0, off + k * 2 + 1, none⟩) hbB).trans hcl1
   obtain ⟨W1, hW1⟩ : ∃ W, wr.alloc (.cells #[.string k1, .slice a1 r1 c1] 46) = W := ⟨_, rfl⟩
   have hW : Below wr.heap.size wr W1 := by rw [← hW1]; exact (Below.refl _ wr).alloc (Nat.le_refl _) _
   have B1 : Bn wr.heap.size 46 [.string k1, .slice a1 r1 c1] W1 := by rw [← hW1]; exact heap_alloc_new wr _
   have bW1 : Below w.heap.size w W1 := hst.out.1.trans (hW.mono hst.out.1.size)
   have H1 := rrecord_any a1 c1 r1 k1 v1 hrl (by omega) hs3 W1 ((hv1.below bW1).more bW1.size)
   have x0 := (B1.cell 0).trans rfl
   have x1 := (B1.cell 1).trans rfl
   simp only [List.getElem?_cons_zero, List.getElem?_cons_succ] at x0 x1
   have HO := Lib.hid (And.intro bW1 (And.intro hst.out.2 (And.intro hy hym)))
   by_cases hok : okR (k1, v1)
   ·rw [decide_eq_true hok] at H1
    have H1 := Lib.hid H1
    have HOK := Lib.hid hok
    clear hst hy hym hcl0 hcl1 hv1 hs1 hs2 hs3 hrl hW B1 bW1 hok hat hkP
    go_wp2_with fail
    refine H1.out.mono ?_
    rintro e w2 ⟨rfl, b2⟩
    have HF : Hid (Below w.heap.size w w2 ∧ ∀ j, j < k + 1 → okR (an.getD j r0)) := Lib.hid ⟨HO.out.1.trans (b2.mono HO.out.1.size), fun j hj => by
     by_cases hjk : j = k
     ·rw [hjk, HO.out.2.2.1]; exact HOK.out
     ·exact HO.out.2.1 j (by omega)⟩
    clear b2 H1 x0 x1 HO HOK
    go_wp2_with fail
    go_roundw
    case rel => exact ⟨k + 1, by go_num, by omega, HF⟩
    case measure => simp only [intOf]; omega
   ·rw [decide_eq_false hok] at H1
    have H1 := Lib.hid H1
    have hcc := HC.out
    unfold gotS at hcc
    rw [if_neg (fun h => hok (h _ hym))] at hcc
    injection hcc with e1 e2
    subst e1 e2
    clear hst hy hym hcl0 hcl1 hv1 hs1 hs2 hs3 hrl hW B1 bW1 hok hat hkP HCN HC
    go_wp2_with fail
    refine H1.out.mono ?_
    rintro e w2 ⟨rfl, b2⟩
    have HF := Lib.hid (HK.out _ (HO.out.1.trans (b2.mono HO.out.1.size)))
    clear b2 H1 x0 x1 HO HK
    go_wp2_with fail
    go_ret
    exact ⟨rfl, HF⟩
  ·have hkm : k = m := by omega
   subst hkm
   have hall : ∀ y ∈ an, okR y := fun y hy => by
    obtain ⟨j, hj, rfl⟩ := List.getElem_of_mem hy
    have := hst.out.2 j (by have := HV.out.1; omega)
    rwa [List.getD_eq_getElem?_getD, List.getElem?_eq_getElem hj] at this
   have HCO : Hid (∀ V, Below wr.heap.size wr V → Calls Tryz.prog 31 #[.slice Aa k ca] V (NewRs an k V)) := Lib.hid fun V hV => by
    have hb := hst.out.1.trans (hV.mono hst.out.1.size)
    exact recs_new Aa ca k an HV.out.1 V ((HV.out.2.below hb).more hb.size) hall hbig
   have HC2 := Lib.hid (fun V V' A1 c1 (hV : Below wr.heap.size wr V) => HCN.out V V' A1 c1 (hst.out.1.trans (hV.mono hst.out.1.size)) hall)
   have hwd : Below wr.heap.size wr wr.drew := (Below.refl _ wr).drew
   clear hst hall HK HCN HC
   go_wp2_with fail
   go_region_held3 (fun _ => True) (first | trivial)
    (first
     | (go_at_call 31; refine (HCO.out _ hwd).mono ?_; rintro e w2 ⟨A1, c1, rfl, h2, b2⟩; have HC3 := Lib.hid (HC2.out _ w2 A1 c1 hwd ⟨A1, c1, rfl, h2, b2⟩))
     | (go_at_call 30; refine HC3.out.mono ?_; rintro e w3 ⟨rfl, h3⟩))
   all_goals
    have HE := h3
    clear h3 h2 b2 HCO HC2 HC3
    go_wp2_with fail
    go_ret
    exact ⟨rfl, HE⟩
end Quorum
end Go.Proofs.YtbhidndgnldheaaGreat

/-
 A row of bytes of the call's own, written at will: it stays a row of bytes.
-/
namespace Go.Proofs.YtbhidndgnldheaaGreat
open Go.RowKit

def Rw (k : IntKind) (w : World) (g n : Nat) : Prop := ∃ cur e, w.heap[g]? = some (.cells cur e (0, 0)) ∧ ∀ j, j < n → ∃ z, cur[j]? = some (.int k z)
theorem Rw.cell {k : IntKind} {w : World} {g n : Nat} (h : Rw k w g n) (j : Nat) (hj : j < n) : ∃ z, w.cell? ⟨g, j, none⟩ = some (.int k z) := by
 obtain ⟨cur, e, h1, h2⟩ := h
 obtain ⟨z, hz⟩ := h2 j hj
 exact ⟨z, by rw [cell_of_row w g j cur e (0, 0) h1]; exact hz⟩
theorem Rw.frozen {k : IntKind} {w : World} {g n : Nat} (h : Rw k w g n) (j : Nat) : w.frozen? ⟨g, j, none⟩ = false := by
 obtain ⟨cur, e, h1, _⟩ := h
 simp [World.frozen?, h1]
theorem Rw.set {k : IntKind} {w : World} {g n : Nat} (h : Rw k w g n) (i : Nat) (x : Int) : Rw k (w.setCell ⟨g, i, none⟩ (.int k x)) g n := by
 obtain ⟨cur, e, h1, h2⟩ := h
 refine ⟨cur.setIfInBounds i (.int k x), e, ?_, fun j hj => ?_⟩
 ·simp [World.setCell, Array.getElem?_modify, h1]
 ·obtain ⟨z, hz⟩ := h2 j hj
  by_cases hij : i = j
  ·subst hij
   exact ⟨x, by rw [Array.getElem?_setIfInBounds_self_of_lt (Array.getElem?_eq_some_iff.1 hz).1]⟩
  ·exact ⟨z, by rw [Array.getElem?_setIfInBounds_ne hij]; exact hz⟩
theorem Rw.keep {k : IntKind} {w w' : World} {g n : Nat} (h : Rw k w g n) (hk : w'.heap[g]? = w.heap[g]?) : Rw k w' g n := by
 obtain ⟨cur, e, h1, h2⟩ := h
 exact ⟨cur, e, hk.trans h1, h2⟩
theorem Ns.other {k : IntKind} {w w' : World} {B b off : Nat} {zs : List Int} (h : Ns k w B (some ⟨b, off, none⟩) zs) (hk : w'.heap[b]? = w.heap[b]?) : Ns k w' B (some ⟨b, off, none⟩) zs := fun hp => by
 obtain ⟨b', off', e, hb, hc⟩ := h hp
 injection e with e
 injection e with e1 e2
 subst e1
 subst e2
 exact ⟨b, off, rfl, hb, fun j hj => (World.cell?_of_block (w := w) (w' := w') (a := ⟨b, off + j, none⟩) hk).trans (hc j hj)⟩
end Go.Proofs.YtbhidndgnldheaaGreat
