/-
  Several texts of this family in one: QuorumCount, QuorumMake, RingInts, QuorumBeg, QuorumBeginR, CodeParse, CodeRd, CodeSpans, CodeWr, CodeWrSet, CodeVerPlain, CodeMsgPlain, TreeOnce.
-/
import Derived.Test.YtbhidndgnldheaaGreatK11
import Derived.Deep.RegionLaw
import Derived.Deep.AppendLies
import Derived.Deep.OwnRows
import Derived.Test.YtbhidndgnldheaaGreatK10
import Derived.Test.YtbhidndgnldheaaGreatK1
import Derived.Test.YtbhidndgnldheaaGreatRows
import Derived.RangeFuncBox
import Derived.WalkLawsBesides
import Derived.Deep.RegionHeld3
import Derived.Deep.DrawnRows
import Derived.Test.YtbhidndgnldheaaGreatK2
import Derived.Test.YtbhidndgnldheaaGreatK5
import Derived.Tactics
import Derived.Tactics2
import Derived.Defers
import Derived.Laws.Pointers
import Derived.Laws.LoneSync
import Derived.RegionTactic
import Derived.RegionCalls
import Derived.ChangeAlike
/-
 A node is counted. Written by gen16/count.py.
-/
namespace Go.Proofs.YtbhidndgnldheaaGreat
namespace Quorum
open Go.RowKit Vers Span Blk
attribute [local go_sem ↓] Go.wp_at_zero Go.wp_at_succ

theorem any_at {l : List En} {node : Int} (hn : (l.map Prod.fst).Nodup) {i : Nat} {b : Bool} {an : List Vr} (he : l[i]? = some (node, b, an)) {j : Nat} {e : En} (hj : l[j]? = some e) (h : isAt node e = true) : j = i ∧ b = false := by
 unfold isAt at h
 rw [Bool.and_eq_true, beq_iff_eq, Bool.not_eq_true'] at h
 have h1 : (l.map Prod.fst)[j]? = some node := by rw [List.getElem?_map, hj]; simp [h.1]
 have h2 : (l.map Prod.fst)[i]? = some node := by rw [List.getElem?_map, he]; rfl
 have hjl := (List.getElem?_eq_some_iff.1 h1).1
 have e1 : j = i := (List.getElem?_inj hjl hn).1 (h1.trans h2.symm)
 subst e1
 rw [he] at hj
 injection hj with hj
 subst hj
 exact ⟨rfl, h.2⟩
theorem count_yes {l : List En} {node : Int} (hn : (l.map Prod.fst).Nodup) {i : Nat} {an a : List Vr} (he : l[i]? = some (node, false, an)) : countF l node a = (true, l.set i (node, true, a)) := by
 have hat : isAt node (node, false, an) = true := by simp [isAt]
 have hany : (l.any (isAt node)) = true := List.any_eq_true.2 ⟨_, List.mem_of_getElem? he, hat⟩
 unfold countF
 rw [if_pos hany]
 have hlt : l.findIdx (isAt node) < l.length := List.findIdx_lt_length_of_exists (by obtain ⟨x, h1, h2⟩ := List.any_eq_true.1 hany; exact ⟨x, h1, h2⟩)
 have hf : isAt node l[l.findIdx (isAt node)] = true := List.findIdx_getElem
 rw [(any_at hn he (List.getElem?_eq_getElem hlt) hf).1]
theorem count_was {l : List En} {node : Int} (hn : (l.map Prod.fst).Nodup) {i : Nat} {an a : List Vr} (he : l[i]? = some (node, true, an)) : countF l node a = (false, l) := by
 unfold countF
 rw [if_neg]
 intro h
 obtain ⟨x, h1, h2⟩ := List.any_eq_true.1 h
 obtain ⟨j, hj⟩ := List.getElem?_of_mem h1
 have := (any_at hn he hj h2).2
 cases this
theorem count_no {l : List En} {node : Int} {a : List Vr} (h : ∀ e ∈ l, e.1 ≠ node) : countF l node a = (false, l) := by
 unfold countF
 rw [if_neg]
 intro h1
 obtain ⟨x, h2, h3⟩ := List.any_eq_true.1 h1
 unfold isAt at h3
 rw [Bool.and_eq_true, beq_iff_eq] at h3
 exact h x h2 h3.1

set_option maxRecDepth 100000 in
theorem index_any (A : Option Addr) (c n : Nat) (l : List Int) (hn : l.length = n) (x : Int) (w : World) (hr : Ns .i64 w w.heap.size A l) (hbig : n ≤ 140737488355328) :
  Calls Tryz.prog 55 #[.slice A n c, .int .i64 x] w fun e w' => ((e = .returned (.int .i64 (-1)) ∧ x ∉ l) ∨ ∃ i : Nat, e = .returned (.int .i64 i) ∧ l[i]? = some x) ∧ w = w' := by
 have HV := Lib.hid (And.intro hr hn)
 clear hr hn
 go_enter Tryz.func55, Tryz.ntmps55
 go_wp2_with fail
 go_loopw [5, 8] (fun _ q wr => ∃ k : Nat, q = .int .i64 k ∧ k ≤ n ∧ wr = w ∧ Hid (x ∉ l.take k)) (fun _ q _ => n - (intOf q).toNat)
 case atStart => exact ⟨0, rfl, by omega, rfl, Lib.hid (by simp)⟩
 case round =>
  obtain ⟨k, rfl, hk, rfl, hno⟩ := hrel
  by_cases hlt : k < n
  ·obtain ⟨b, off, rfl, hbl, hat⟩ := HV.out.1 (by have := HV.out.2; omega)
   have z0 := hat k (by have := HV.out.2; omega)
   obtain ⟨y, hy⟩ : ∃ y, l[k]? = some y := ⟨l[k]'(by have := HV.out.2; omega), by simp⟩
   rw [List.getD_eq_getElem?_getD, hy] at z0
   simp only [Option.getD_some] at z0
   have d1 : (0 : Int) ≤ (k : Int) := by omega
   have d2 : (k : Int) < (n : Int) := by omega
   have HY := Lib.hid hy
   clear hat hy
   by_cases hxy : x = y
   ·subst hxy
    have g1 : (x == x) = true := by simp
    go_wp2_with fail
    go_ret
    exact ⟨.inr ⟨k, by trivial, HY.out⟩, rfl⟩
   ·have g1 : (x == y) = false := by simp [hxy]
    have HN : Hid (x ∉ l.take (k + 1)) := Lib.hid (by
     obtain ⟨hkl, he⟩ := List.getElem?_eq_some_iff.1 HY.out
     rw [List.take_succ_eq_append_getElem hkl, List.mem_append, he]
     rintro (h | h)
     ·exact hno.out h
     ·exact hxy (List.mem_singleton.1 h))
    clear hno
    go_wp2_with fail
    go_roundw
    case rel => exact ⟨k + 1, rfl, by omega, by trivial, HN⟩
    case measure => simp only [intOf]; omega
  ·obtain rfl : k = n := by omega
   have HF := hno.out
   rw [List.take_of_length_le (by have := HV.out.2; omega)] at HF
   have HFF := Lib.hid HF
   clear hno HF
   go_wp2_with fail
   go_ret
   exact ⟨.inl ⟨by trivial, HFF.out⟩, rfl⟩
theorem Core.ns {T : TypeId} {F : Nat → Prop} {w : World} {rb n lb cl cb ab : Nat} {need : Int} {l : List En} {x : List Value} (h : Core T F w rb need l n lb cl cb ab x) : Ns .i64 w w.heap.size (some ⟨lb, 0, none⟩) (l.map Prod.fst) := fun _ => ⟨lb, 0, rfl, h.2.1.1, fun j hj => by
 rw [List.length_map] at hj
 rw [Nat.zero_add, h.2.1.2 j l[j] (List.getElem?_eq_getElem hj), List.getD_eq_getElem?_getD, List.getElem?_map, List.getElem?_eq_getElem hj]
 rfl⟩
theorem zip_set {α β : Type} (l : List α) (m : List β) (i : Nat) (a : α) (b : β) : (l.set i a).zip (m.set i b) = (l.zip m).set i (a, b) := by
 induction l generalizing m i with
 | nil => simp
 | cons x l ih =>
  cases m with
  | nil => simp
  | cons y m =>
   cases i with
   | zero => simp
   | succ i => simp [ih]
section
variable {T : TypeId} {F : Nat → Prop} {w w' : World} {rb n lb cl cb ab : Nat} {need : Int} {l : List En} {x : List Value} {ps : List Plc}
theorem Core.mark (h : Core T F w rb need l n lb cl cb ab x) {i : Nat} {node : Int} {b : Bool} {an : List Vr} (he : l[i]? = some (node, b, an)) (a : List Vr) : Core T F (w.setCell ⟨cb, i, none⟩ (.bool true)) rb need (l.set i (node, true, a)) n lb cl cb ab x := by
 obtain ⟨⟨h1, h2, h2'⟩, ⟨h3, h4⟩, h5, ⟨f1, f2, f3, f4, f5⟩, h7⟩ := h
 have hg := gset w cb i (.bool true)
 have hi := (List.getElem?_eq_some_iff.1 he).1
 refine ⟨⟨h1.same (hg.block rb h1.lt (by intro e; injection e with e; exact h7.2.2.1 e)), by rw [List.length_set]; exact h2, h2'⟩, ⟨Nat.lt_of_lt_of_le h3 hg.size, fun j e hj => ?_⟩, ?_, ⟨f1, f2, f3, f4, fun k hk => Nat.lt_of_lt_of_le (f5 k hk) hg.size⟩, h7⟩
 ·rw [World.cell?_of_block (hg.block lb h3 (by intro e; injection e with e; exact h7.1 e))]
  by_cases hij : i = j
  ·subst hij
   rw [List.getElem?_set_self hi] at hj
   injection hj with hj
   subst hj
   exact h4 i (node, b, an) he
  ·rw [List.getElem?_set_ne hij] at hj
   exact h4 j e hj
 ·have := h5.set i (.bool true)
  rwa [show (l.map fun e => Value.bool e.2.1).set i (.bool true) = (l.set i (node, true, a)).map fun e => Value.bool e.2.1 by rw [List.map_set]] at this
theorem Ans.lay (h : Ans F w l ps cb ab) {i : Nat} {node : Int} {b : Bool} {an a : List Vr} (he : l[i]? = some (node, b, an)) {A : Option Addr} {c L B : Nat} (hv : Vs w L B A a) (hB : B ≤ w.heap.size) (hac : a.length ≤ c) (ha4 : a.length ≤ 1024) (hF : ∀ k, L ≤ k → k < B → F k ∧ k ≠ cb ∧ k ≠ ab) : Ans F (w.setCell ⟨ab, i, none⟩ (.slice A a.length c)) (l.set i (node, true, a)) (ps.set i (A, c)) cb ab := by
 obtain ⟨h0, h1, h2⟩ := h
 have hg := gset w ab i (.slice A a.length c)
 have hi := (List.getElem?_eq_some_iff.1 he).1
 have hkeep : ∀ k, k < w.heap.size → k ≠ ab → (w.setCell ⟨ab, i, none⟩ (.slice A a.length c)).heap[k]? = w.heap[k]? := fun k hk hne => hg.block k hk (by intro e; injection e with e; exact hne e)
 refine ⟨by rw [List.length_set, List.length_set]; exact h0, ?_, fun j e p hj hp => ?_⟩
 ·have := h1.set i (.slice A a.length c)
  rwa [show ((l.zip ps).map fun e => Value.slice e.2.1 e.1.2.2.length e.2.2).set i (.slice A a.length c) = ((l.set i (node, true, a)).zip (ps.set i (A, c))).map fun e => Value.slice e.2.1 e.1.2.2.length e.2.2 by rw [zip_set, List.map_set]] at this
 ·by_cases hij : i = j
  ·subst hij
   rw [List.getElem?_set_self hi] at hj
   rw [List.getElem?_set_self (by omega)] at hp
   injection hj with hj
   injection hp with hp
   subst hj hp
   exact ⟨hac, ha4, L, B, hv.keep fun q q1 q2 => World.cell?_of_block (hkeep q.block (by omega) (hF _ q1 q2).2.2), Nat.le_trans hB hg.size, hF⟩
  ·rw [List.getElem?_set_ne hij] at hj hp
   obtain ⟨a', b', L', B', c', d', f'⟩ := h2 j e p hj hp
   exact ⟨a', b', L', B', c'.keep fun q q1 q2 => World.cell?_of_block (hkeep q.block (by omega) (f' _ q1 q2).2.2), Nat.le_trans d' hg.size, f'⟩
end
set_option maxRecDepth 100000 in
set_option maxHeartbeats 1000000 in
theorem countR_any {T : TypeId} {F : Nat → Prop} {w : World} {rb n lb cl cb ab : Nat} {need : Int} {l : List En} {x : List Value} {ps : List Plc} (h : Core T F w rb need l n lb cl cb ab x) (ha : Ans F w l ps cb ab) (hnd : (l.map Prod.fst).Nodup) (node : Int) (Aa : Option Addr) (ca m : Nat) (an : List Vr) (hm : an.length = m) (hmc : m ≤ ca) (hm4 : m ≤ 1024) {L B : Nat} (hv : Vs w L B Aa an) (hB : B ≤ w.heap.size) (hF : ∀ k, L ≤ k → k < B → F k ∧ k ≠ cb ∧ k ≠ ab) {b : Bool} {l' : List En} (hc : countF l node an = (b, l')) :
  Calls Tryz.prog 27 #[hd rb, .int .i64 node, .slice Aa m ca] w (fun e w' => e = .returned (.bool b) ∧ Hid (Core T F w' rb need l' n lb cl cb ab x ∧ (∃ ps', Ans F w' l' ps' cb ab) ∧ Chg F w w')) := by
 have hn8 : n ≤ 8 := h.1.2.2.2
 have HX := Lib.hid (index_any (some ⟨lb, 0, none⟩) cl n (l.map Prod.fst) (by rw [List.length_map]; exact h.len) node w h.ns (by omega))
 obtain ⟨x0, x1, x2, x3⟩ := h.head
 subst hm
 go_enter Tryz.func27, Tryz.ntmps27
 skip
 go_wp2_with fail
 refine HX.out.mono ?_
 rintro e w1 ⟨⟨rfl, hno⟩ | ⟨i, rfl, hi⟩, rfl⟩
 ·have hq := count_no (l := l) (node := node) (a := an) (fun e he e1 => hno (by rw [← e1]; exact List.mem_map_of_mem he))
  rw [hc] at hq
  injection hq.symm with q1 q2
  subst q1 q2
  have HK : Hid (Core T F w rb need l n lb cl cb ab x ∧ (∃ ps', Ans F w l ps' cb ab) ∧ Chg F w w) := Lib.hid ⟨h, ⟨ps, ha⟩, Chg.refl _ _⟩
  go_wp2_with fail
  go_ret
  exact ⟨rfl, HK.out⟩
 ·rw [List.getElem?_map] at hi
  obtain ⟨⟨nd, bo, an0⟩, he, rfl⟩ := Option.map_eq_some_iff.1 hi
  simp only at hc hnd ⊢
  obtain ⟨y0, y1⟩ := h.at he
  simp only at y0 y1
  have hin : i < n := by rw [← h.len]; exact (List.getElem?_eq_some_iff.1 he).1
  have d1 : (0 : Int) ≤ (i : Int) := by omega
  have d2 : (i : Int) < (n : Int) := by omega
  have d3 : ¬ (i : Int) < 0 := by omega
  cases bo
  ·have hq := count_yes (a := an) hnd he
   rw [hc] at hq
   injection hq.symm with q1 q2
   subst q1 q2
   have hcore := h.mark he an
   have g1 := gset w cb i (.bool true)
   have hne := h.2.2.2.2
   have hans : Ans F (w.setCell ⟨cb, i, none⟩ (.bool true)) l ps cb ab := ha.keep g1.size (g1.block ab ha.2.1.lt (by intro e; injection e with e; exact hne.2.2.2.2.1 e.symm)) fun k hk h1 _ => g1.block k (h.lt k hk) (by intro e; injection e with e; exact h1 e)
   have hv1 : Vs (w.setCell ⟨cb, i, none⟩ (.bool true)) L B Aa an := hv.keep fun p p1 p2 => World.cell?_of_block (g1.block p.block (by omega) (by intro e; injection e with e; exact (hF _ p1 p2).2.1 e))
   have z0 := h.2.2.1.frozen i
   obtain ⟨zz, hzz⟩ : ∃ z, w.cell? ⟨cb, i, none⟩ = some z := ⟨_, y1⟩
   obtain ⟨p, hp, u0, _⟩ := hans.at he
   have u1 := hans.2.1.frozen i
   obtain ⟨v0', v1', v2', v3'⟩ := hcore.head
   obtain ⟨W1, hW1⟩ : ∃ W, w.setCell ⟨cb, i, none⟩ (.bool true) = W := ⟨_, rfl⟩
   rw [hW1] at hcore g1 hans hv1 u0 u1 v0' v1' v2' v3'
   have g2 := gset W1 ab i (.slice Aa an.length ca)
   have hlay := hans.lay he hv1 (Nat.le_trans hB g1.size) hmc hm4 hF
   have hcore2 : Core T F (W1.setCell ⟨ab, i, none⟩ (.slice Aa an.length ca)) rb need (l.set i (nd, true, an)) n lb cl cb ab x := by
    obtain ⟨⟨c1, c2, c2'⟩, ⟨c3, c4⟩, c5, ⟨f1, f2, f3, f4, f5⟩, c7⟩ := hcore
    have nb : ∀ k, k ≠ ab → k < W1.heap.size → (W1.setCell ⟨ab, i, none⟩ (.slice Aa an.length ca)).heap[k]? = W1.heap[k]? := fun k h1 h2 => g2.block k h2 (by intro e; injection e with e; exact h1 e)
    exact ⟨⟨c1.same (nb rb c7.2.2.2.1 c1.lt), c2, c2'⟩, ⟨Nat.lt_of_lt_of_le c3 g2.size, fun j e hj => (World.cell?_of_block (nb lb c7.2.1 c3)).trans (c4 j e hj)⟩, c5.same (nb cb c7.2.2.2.2.1 c5.lt), ⟨f1, f2, f3, f4, fun k hk => Nat.lt_of_lt_of_le (f5 k hk) g2.size⟩, c7⟩
   have hchg : Chg F w (W1.setCell ⟨ab, i, none⟩ (.slice Aa an.length ca)) := (Chg.of_grown g1 (F := F) fun g e => by injection e with e; rw [← e]; exact h.2.2.2.1.2.2.1).trans (Chg.of_grown g2 (F := F) fun g e => by injection e with e; rw [← e]; exact h.2.2.2.1.2.2.2.1) fun k hk => .inl hk
   have HK := Lib.hid (And.intro hcore2 (And.intro (show ∃ ps', Ans F _ (l.set i (nd, true, an)) ps' cb ab from ⟨_, hlay⟩) hchg))
   have HW1 := Lib.hid hW1
   clear hcore g1 hans hv1 g2 hlay hcore2 hchg hW1
   go_upto_region 5 with fail
   rw [HW1.out]
   clear x0 x1 x2 x3 y0 y1 hzz z0
   go_wp2_with fail
   go_ret
   exact ⟨rfl, HK.out⟩
  ·have hq := count_was (a := an) hnd he
   rw [hc] at hq
   injection hq.symm with q1 q2
   subst q1 q2
   have HK : Hid (Core T F w rb need l n lb cl cb ab x ∧ (∃ ps', Ans F w l ps' cb ab) ∧ Chg F w w) := Lib.hid ⟨h, ⟨ps, ha⟩, Chg.refl _ _⟩
   go_wp2_with fail
   go_ret
   exact ⟨rfl, HK.out⟩
set_option maxRecDepth 100000 in
set_option maxHeartbeats 1000000 in
theorem countW_any {T : TypeId} {F : Nat → Prop} {w : World} {rb n lb cl cb ab : Nat} {need : Int} {l : List En} {x : List Value} (h : Core T F w rb need l n lb cl cb ab x) (hnd : (l.map Prod.fst).Nodup) (node : Int) {b : Bool} {l' : List En} (hc : countF l node [] = (b, l')) :
  Calls Tryz.prog 42 #[hd rb, .int .i64 node, .agg #[]] w (fun e w' => e = .returned (.bool b) ∧ Hid (Core T F w' rb need l' n lb cl cb ab x ∧ Chg F w w')) := by
 have hn8 : n ≤ 8 := h.1.2.2.2
 have HX := Lib.hid (index_any (some ⟨lb, 0, none⟩) cl n (l.map Prod.fst) (by rw [List.length_map]; exact h.len) node (w.alloc (.cells #[] 62)) (h.below ((Below.refl _ w).alloc (Nat.le_refl _) _)).ns (by omega))
 obtain ⟨x0, x1, x2, x3⟩ := h.head
 have hB := h.below (w' := w.alloc (.cells #[] 62)) ((Below.refl _ w).alloc (Nat.le_refl _) _)
 obtain ⟨x0, x1, x2, x3⟩ := hB.head
 have hchg0 : Chg F w (w.alloc (.cells #[] 62)) := Chg.of_below ((Below.refl _ w).alloc (Nat.le_refl _) _)
 go_enter Tryz.func42, Tryz.ntmps42
 skip
 go_wp2_with fail
 refine HX.out.mono ?_
 rintro e w1 ⟨⟨rfl, hno⟩ | ⟨i, rfl, hi⟩, rfl⟩
 ·have hq := count_no (l := l) (node := node) (a := []) (fun e he e1 => hno (by rw [← e1]; exact List.mem_map_of_mem he))
  rw [hc] at hq
  injection hq.symm with q1 q2
  subst q1 q2
  have HK : Hid (Core T F (w.alloc (.cells #[] 62)) rb need l n lb cl cb ab x ∧ Chg F w (w.alloc (.cells #[] 62))) := Lib.hid ⟨hB, hchg0⟩
  go_wp2_with fail
  go_ret
  exact ⟨rfl, HK.out⟩
 ·rw [List.getElem?_map] at hi
  obtain ⟨⟨nd, bo, an0⟩, he, rfl⟩ := Option.map_eq_some_iff.1 hi
  simp only at hc hnd ⊢
  obtain ⟨y0, y1⟩ := hB.at he
  simp only at y0 y1
  have hin : i < n := by rw [← h.len]; exact (List.getElem?_eq_some_iff.1 he).1
  have d1 : (0 : Int) ≤ (i : Int) := by omega
  have d2 : (i : Int) < (n : Int) := by omega
  have d3 : ¬ (i : Int) < 0 := by omega
  cases bo
  ·have hq := count_yes (a := []) hnd he
   rw [hc] at hq
   injection hq.symm with q1 q2
   subst q1 q2
   have hcore := hB.mark he []
   have g1 := gset (w.alloc (.cells #[] 62)) cb i (.bool true)
   have z0 := hB.2.2.1.frozen i
   have hchg : Chg F w ((w.alloc (.cells #[] 62)).setCell ⟨cb, i, none⟩ (.bool true)) := hchg0.trans (Chg.of_grown g1 (F := F) fun g e => by injection e with e; rw [← e]; exact h.2.2.2.1.2.2.1) fun k hk => .inl hk
   obtain ⟨v0', v1', v2', v3'⟩ := hcore.head
   have HK := Lib.hid (And.intro hcore hchg)
   obtain ⟨W1, hW1⟩ : ∃ W, (w.alloc (.cells #[] 62)).setCell ⟨cb, i, none⟩ (.bool true) = W := ⟨_, rfl⟩
   rw [hW1] at HK v0' v1' v2' v3'
   have HW1 := Lib.hid hW1
   clear hcore g1 hchg hW1
   go_upto_region 5 with fail
   rw [HW1.out]
   clear x0 x1 x2 x3 y0 y1 z0
   have HKD : Hid (Core T F W1.drew rb need (l.set i (nd, true, [])) n lb cl cb ab x ∧ Chg F w W1.drew) := Lib.hid (by
    have hd : Below W1.heap.size W1 W1.drew := (Below.refl _ W1).drew
    exact ⟨HK.out.1.below hd, HK.out.2.trans (Chg.of_below (F := F) hd) fun k hk => .inl hk⟩)
   clear HK
   go_region_law (fail)
   all_goals
    go_wp2_with fail
    go_ret
    exact ⟨rfl, HKD.out⟩
  ·have hq := count_was (a := []) hnd he
   rw [hc] at hq
   injection hq.symm with q1 q2
   subst q1 q2
   have HK : Hid (Core T F (w.alloc (.cells #[] 62)) rb need l n lb cl cb ab x ∧ Chg F w (w.alloc (.cells #[] 62))) := Lib.hid ⟨hB, hchg0⟩
   go_wp2_with fail
   go_ret
   exact ⟨rfl, HK.out⟩
end Quorum
end Go.Proofs.YtbhidndgnldheaaGreat

/-
 make as a step of a region that draws.
-/
namespace Go.Proofs.YtbhidndgnldheaaGreat
namespace Quorum
open Go.RowKit Vers Span Blk
theorem made_is (z : Value) (n : Nat) : madeCells #[z] n = (List.replicate n z).toArray := by
 apply Array.ext
 ·simp [size_madeCells]
 ·intro i h1 h2
  simp [madeCells, Nat.mod_one]
section
variable {P : Program} {w : World}
end
end Quorum
end Go.Proofs.YtbhidndgnldheaaGreat

/-
 Lists of numbers: whether two are the same, whether a number is among some; the partitions that a node keeps.
-/
namespace Go.Proofs.YtbhidndgnldheaaGreat
namespace Ring
open Go.RowKit
attribute [local go_sem ↓] Go.wp_at_zero Go.wp_at_succ

theorem below_drewN (B : Nat) (w : World) (n : Nat) : Below B w (w.drewN n) := ⟨rfl, rfl, rfl, Nat.le_refl _, fun _ _ => rfl⟩
theorem drop_in {l : List Int} {k : Nat} (h : k < l.length) (x : Int) : decide (x ∈ l.drop k) = (decide (l.getD k 0 = x) || decide (x ∈ l.drop (k + 1))) := by
 have e : l.getD k 0 = l[k] := by simp [List.getD_eq_getElem?_getD, h]
 rw [e, List.drop_eq_getElem_cons h, ← Bool.decide_or]
 congr 1
 refine propext ?_
 rw [List.mem_cons]
 constructor
 ·rintro (h | h)
  ·exact .inl h.symm
  ·exact .inr h
 ·rintro (h | h)
  ·exact .inl h.symm
  ·exact .inr h

set_option maxRecDepth 100000 in
theorem index_any (A : Option Addr) (c n : Nat) (l : List Int) (hn : l.length = n) (x : Int) (w : World) (hr : Ns .i64 w w.heap.size A l) (hbig : n ≤ 140737488355328) :
  Calls Tryz.prog 55 #[.slice A n c, .int .i64 x] w fun e w' => (∃ z : Int, e = .returned (.int .i64 z) ∧ (0 ≤ z ↔ x ∈ l)) ∧ w = w' := by
 have HV := Lib.hid (And.intro hr hn)
 clear hr hn
 go_enter Tryz.func55, Tryz.ntmps55
 go_wp2_with fail
 go_loop [8] (fun q => ∃ k : Nat, q = .int .i64 k ∧ k ≤ n ∧ Hid (decide (x ∈ l) = decide (x ∈ l.drop k))) (fun q => n - (intOf q).toNat)
 case atStart => exact ⟨0, rfl, by omega, Lib.hid rfl⟩
 case round =>
  obtain ⟨k, rfl, hk, hst⟩ := hrel
  by_cases hlt : k < n
  ·obtain ⟨b, off, rfl, _, hc⟩ := HV.out.1 (by have := HV.out.2; omega)
   have c0 := hc k (by have := HV.out.2; omega)
   have hd := drop_in (l := l) (k := k) (by have := HV.out.2; omega) x
   obtain ⟨y, hy⟩ : ∃ y, l.getD k 0 = y := ⟨_, rfl⟩
   rw [hy] at c0 hd
   have HD := Lib.hid (hst.out.trans hd)
   clear hd hy hc hst
   by_cases he : x = y
   ·have HF := Lib.hid (show x ∈ l from of_decide_eq_true (by rw [HD.out]; simp [he]))
    subst he
    clear HD
    go_wp2_with fail
    go_ret
    exact ⟨⟨(k : Int), rfl, fun _ => HF.out, fun _ => by omega⟩, rfl⟩
   ·have HF := Lib.hid (show decide (x ∈ l) = decide (x ∈ l.drop (k + 1)) by rw [HD.out]; have : ¬ y = x := fun h => he h.symm; simp [this])
    have g1 : (x == y) = false := by simpa using he
    clear HD
    go_wp2_with fail
    exact ⟨⟨k + 1, rfl, by omega, HF⟩, by simp only [intOf]; omega⟩
  ·have hkn : k = n := by omega
   subst hkn
   have HF := Lib.hid (show ¬ x ∈ l from of_decide_eq_false (by rw [hst.out, List.drop_of_length_le (by have := HV.out.2; omega)]; simp))
   clear hst
   go_wp2_with fail
   go_ret
   exact ⟨⟨-1, rfl, fun h => absurd h (by omega), fun h => absurd h HF.out⟩, rfl⟩

theorem contains_any (A : Option Addr) (c n : Nat) (l : List Int) (hn : l.length = n) (x : Int) (w : World) (hr : Ns .i64 w w.heap.size A l) (hbig : n ≤ 140737488355328) :
  Calls Tryz.prog 49 #[.slice A n c, .int .i64 x] w fun e w' => e = .returned (.bool (decide (x ∈ l))) ∧ Below w.heap.size w w' := by
 have H1 := Lib.hid (index_any A c n l hn x w hr hbig)
 clear hr hn
 by_cases hin : x ∈ l
 ·rw [decide_eq_true hin]
  have HI := Lib.hid hin
  clear hin
  go_enter Tryz.func49, Tryz.ntmps49
  go_wp2_with fail
  refine H1.out.mono ?_
  rintro e w1 ⟨⟨z, rfl, hz⟩, rfl⟩
  have hz0 : 0 ≤ z := hz.2 HI.out
  clear hz
  go_wp2_with fail
  go_ret
  exact ⟨rfl, Below.refl _ _⟩
 ·rw [decide_eq_false hin]
  have HI := Lib.hid hin
  clear hin
  go_enter Tryz.func49, Tryz.ntmps49
  go_wp2_with fail
  refine H1.out.mono ?_
  rintro e w1 ⟨⟨z, rfl, hz⟩, rfl⟩
  have hz0 : ¬ 0 ≤ z := fun h => HI.out (hz.1 h)
  have hd : decide (0 ≤ z) = false := decide_eq_false hz0
  clear hz
  go_wp2_with fail
  go_ret
  exact ⟨rfl, Below.refl _ _⟩
end Ring
end Go.Proofs.YtbhidndgnldheaaGreat

/-
 An asking is begun. Written by gen16/begin.py.
-/
namespace Go.Proofs.YtbhidndgnldheaaGreat
namespace Quorum
open Go.RowKit Vers Span Blk
attribute [local go_sem ↓] Go.wp_at_zero Go.wp_at_succ

theorem nodup_snoc {l : List Int} {x : Int} : (l ++ [x]).Nodup ↔ l.Nodup ∧ x ∉ l := by
 rw [List.nodup_append]
 constructor
 ·rintro ⟨h1, _, h3⟩
  exact ⟨h1, fun hx => h3 x hx x (by simp) rfl⟩
 ·rintro ⟨h1, h2⟩
  exact ⟨h1, by simp, fun a ha b hb e => h2 (by rw [List.mem_singleton.1 hb] at e; rw [← e]; exact ha)⟩
def Good (ls : List Int) (k : Nat) : Prop := (∀ x ∈ ls.take k, 1 ≤ x ∧ x ≤ 8) ∧ (ls.take k).Nodup
theorem good_zero (ls : List Int) : Good ls 0 := by
 unfold Good
 simp
theorem good_step {ls : List Int} {k : Nat} {x : Int} (h : Good ls k) (hx : ls[k]? = some x) (h1 : 1 ≤ x ∧ x ≤ 8) (h2 : x ∉ ls.take k) : Good ls (k + 1) := by
 unfold Good
 rw [take_one hx]
 exact ⟨fun y hy => (List.mem_append.1 hy).elim (h.1 y) fun e => by rw [List.mem_singleton.1 e]; exact h1, nodup_snoc.2 ⟨h.2, h2⟩⟩
theorem good_not {ls : List Int} {need : Int} {k : Nat} {x : Int} (hx : ls[k]? = some x) (h : ¬ (1 ≤ x ∧ x ≤ 8) ∨ x ∈ ls.take k) : ¬ okL ls need := fun ho => by
 rcases h with h | h
 ·exact h (ho.2.1 x (List.mem_of_getElem? hx))
 ·have h1 : (ls.take (k + 1)).Nodup := ho.2.2.sublist (List.take_sublist _ _)
  rw [take_one hx, nodup_snoc] at h1
  exact h1.2 h
theorem good_all {ls : List Int} {need : Int} (hb : ls.length ≤ 8 ∧ 1 ≤ need ∧ need ≤ ls.length) (h : Good ls ls.length) : okL ls need := by
 unfold Good at h
 rw [List.take_length] at h
 exact ⟨hb, h.1, h.2⟩
def Beg (t : TypeId) (z : List Value) (w w' : World) (ls : List Int) (n lb cb ab : Nat) : Prop :=
 Below w.heap.size w w' ∧ (w.heap.size ≤ lb ∧ w.heap.size ≤ cb ∧ w.heap.size ≤ ab) ∧ (lb < w'.heap.size ∧ ∀ (j : Nat) (x : Int), ls[j]? = some x → w'.cell? ⟨lb, j, none⟩ = some (.int .i64 x)) ∧ Bn cb 4 (List.replicate n (.bool false)) w' ∧ Bn ab t z w' ∧ (lb ≠ cb ∧ lb ≠ ab ∧ cb ≠ ab)
def Lst (V : World) (ls : List Int) (base lb : Nat) : Prop := base ≤ lb ∧ (∃ cur, V.heap[lb]? = some (.cells cur 3 (0, 0))) ∧ ∀ (j : Nat) (x : Int), ls[j]? = some x → V.cell? ⟨lb, j, none⟩ = some (.int .i64 x)
theorem Lst.lt {V : World} {ls : List Int} {base lb : Nat} (h : Lst V ls base lb) : lb < V.heap.size := by
 obtain ⟨_, ⟨cur, hc⟩, _⟩ := h
 exact (Array.getElem?_eq_some_iff.1 hc).1
theorem Lst.same {V V' : World} {ls : List Int} {base lb : Nat} (h : Lst V ls base lb) (hk : V'.heap[lb]? = V.heap[lb]?) : Lst V' ls base lb := by
 obtain ⟨h1, ⟨cur, hc⟩, h2⟩ := h
 exact ⟨h1, ⟨cur, hk.trans hc⟩, fun j x hx => (World.cell?_of_block hk).trans (h2 j x hx)⟩
theorem Lst.below {V V' : World} {ls : List Int} {base lb : Nat} (h : Lst V ls base lb) (hb : Below V.heap.size V V') : Lst V' ls base lb := h.same (hb.block lb h.lt)
theorem bn_below {V V' : World} {g : Nat} {t : TypeId} {cs : List Value} (h : Bn g t cs V) (hb : Below V.heap.size V V') : Bn g t cs V' := h.same (hb.block g h.lt)
theorem lst_ne {V : World} {ls : List Int} {base lb g : Nat} {t : TypeId} {cs : List Value} (h : Lst V ls base lb) (hb : Bn g t cs V) (ht : t ≠ 3) : lb ≠ g := fun e => by
 obtain ⟨_, ⟨cur, hc⟩, _⟩ := h
 have hb' : V.heap[g]? = some (.cells cs.toArray t (0, 0)) := hb
 rw [e, hb'] at hc
 injection hc with hc
 injection hc with _ hc
 exact ht hc
theorem Lst.base {V : World} {ls : List Int} {base base' lb : Nat} (h : Lst V ls base lb) (hb : base' ≤ base) : Lst V ls base' lb := ⟨Nat.le_trans hb h.1, h.2⟩
def four (X : World) (rk : Nat) (v0 v1 v2 v3 : Value) : World := (((X.setCell ⟨rk, 0, none⟩ v0).setCell ⟨rk, 1, none⟩ v1).setCell ⟨rk, 2, none⟩ v2).setCell ⟨rk, 3, none⟩ v3
theorem four_bn {X : World} {rk : Nat} {t : TypeId} {z0 z1 z2 z3 : Value} (h : Bn rk t [z0, z1, z2, z3] X) (v0 v1 v2 v3 : Value) : Bn rk t [v0, v1, v2, v3] (four X rk v0 v1 v2 v3) := by
 have h4 := (((h.set 0 v0).set 1 v1).set 2 v2).set 3 v3
 simp only [List.set_cons_zero, List.set_cons_succ] at h4
 exact h4
theorem four_grown (X : World) (rk : Nat) (v0 v1 v2 v3 : Value) : X.grownBy (four X rk v0 v1 v2 v3) (some rk) := grown_trans_one (grown_trans_one (grown_trans_one (gset X rk 0 v0) (gset _ rk 1 v1)) (gset _ rk 2 v2)) (gset _ rk 3 v3)
set_option maxHeartbeats 1000000 in
theorem begun_close {X w : World} {rk lb cb ab n : Nat} {ls : List Int} {t ta : TypeId} {z zs : List Value} (hr : w.heap.size = rk) (hbel : Below w.heap.size w X) (_hrk : Bn rk ta zs X) (hlst : Lst X ls (rk + 1) lb) (hcb : Bn cb 4 (List.replicate n (.bool false)) X) (hcbl : rk + 1 ≤ cb) (hab : Bn ab t z X) (habl : rk + 1 ≤ ab) (h1 : t ≠ 3) (h2 : t ≠ 4) (v0 v1 v2 v3 : Value) :
  Beg t z w (four X rk v0 v1 v2 v3) ls n lb cb ab := by
 have hg := four_grown X rk v0 v1 v2 v3
 have hs := hlst.1
 refine ⟨hbel.grown hg hbel.size fun g e => by injection e with e; omega, ⟨by omega, by omega, by omega⟩, ⟨Nat.lt_of_lt_of_le hlst.lt hg.size, fun j x hx => (World.cell?_of_block (hg.block lb hlst.lt (by intro e; injection e with e; omega))).trans (hlst.2.2 j x hx)⟩, hcb.kept hg (by intro e; injection e with e; omega), hab.kept hg (by intro e; injection e with e; omega), lst_ne hlst hcb (by decide), lst_ne hlst hab h1, fun e => ?_⟩
 subst e
 exact h2 (hab.type hcb)
def Fin (t ta : TypeId) (z : List Value) (w X : World) (ls : List Int) (need : Int) (n rk lb cl cb ab : Nat) : Prop :=
 (X.cell? ⟨rk, 0, none⟩ = some (.slice none 0 0) ∧ X.cell? ⟨rk, 1, none⟩ = some (.int .i64 0) ∧ X.cell? ⟨rk, 2, none⟩ = some (.slice none 0 0) ∧ X.cell? ⟨rk, 3, none⟩ = some (.slice none 0 0)) ∧
 (X.frozen? ⟨rk, 0, none⟩ = false ∧ X.frozen? ⟨rk, 1, none⟩ = false ∧ X.frozen? ⟨rk, 2, none⟩ = false ∧ X.frozen? ⟨rk, 3, none⟩ = false) ∧
 Hid (Beg t z w (four X rk (.slice (some ⟨lb, 0, none⟩) n cl) (.int .i64 need) (.slice (some ⟨cb, 0, none⟩) n n) (.slice (some ⟨ab, 0, none⟩) n n)) ls n lb cb ab ∧ Bn rk ta [.slice (some ⟨lb, 0, none⟩) n cl, .int .i64 need, .slice (some ⟨cb, 0, none⟩) n n, .slice (some ⟨ab, 0, none⟩) n n] (four X rk (.slice (some ⟨lb, 0, none⟩) n cl) (.int .i64 need) (.slice (some ⟨cb, 0, none⟩) n n) (.slice (some ⟨ab, 0, none⟩) n n)))
theorem fin_of {w w2 X : World} {rk lb cb ab n cl : Nat} {ls : List Int} {need : Int} {t ta : TypeId} {z : List Value} (hr : w.heap.size = rk) (hbel : Below w.heap.size w w2) (hrk : Bn rk ta [.slice none 0 0, .int .i64 0, .slice none 0 0, .slice none 0 0] w2) (hlst : Lst w2 ls (rk + 1) lb) (bX : Below w2.heap.size w2 X) (hcb : Bn cb 4 (List.replicate n (.bool false)) X) (hcbl : rk + 1 ≤ cb) (hab : Bn ab t z X) (habl : rk + 1 ≤ ab) (h1 : t ≠ 3) (h2 : t ≠ 4) :
  Fin t ta z w X ls need n rk lb cl cb ab := by
 have hx := bn_below hrk bX
 exact ⟨⟨(hx.cell 0).trans rfl, (hx.cell 1).trans rfl, (hx.cell 2).trans rfl, (hx.cell 3).trans rfl⟩, ⟨hx.frozen 0, hx.frozen 1, hx.frozen 2, hx.frozen 3⟩, Lib.hid ⟨begun_close hr (hbel.trans (bX.mono hbel.size)) hx (hlst.below bX) hcb hcbl hab habl h1 h2 _ _ _ _, four_bn hx _ _ _ _⟩⟩
theorem up_bn {V : World} {g : Nat} {t : TypeId} {cs : List Value} (h : Bn g t cs V) (o : Obj) : Bn g t cs (V.alloc o) := bn_below h ((Below.refl _ _).alloc (Nat.le_refl _) _)
theorem nw_bn (V : World) (t : TypeId) (cs : List Value) {o : Obj} (ho : Obj.cells cs.toArray t = o) : Bn V.heap.size t cs (V.alloc o) := by
 rw [← ho]
 exact heap_alloc_new V _
theorem nw_bn1 (V : World) (t : TypeId) (cs : List Value) {o o' : Obj} (ho : Obj.cells cs.toArray t = o) : Bn (V.heap.size + 1) t cs ((V.alloc o').alloc o) := by
 have h := nw_bn (V.alloc o') t cs ho
 rwa [World.size_alloc] at h
theorem new_lst {V V' : World} {ls : List Int} {n c : Nat} {A : Option Addr} (hn : ls.length = n) (hp : 0 < n) (h : Ns .i64 V' V'.heap.size A ls ∧ (0 < n → ∃ g, A = some ⟨g, 0, none⟩ ∧ V.heap.size ≤ g) ∧ Ints.Tn 3 V' n A) : ∃ lb, Value.slice A n c = .slice (some ⟨lb, 0, none⟩) n c ∧ Lst V' ls V.heap.size lb := by
 obtain ⟨g, rfl, hg⟩ := h.2.1 hp
 refine ⟨g, rfl, hg, h.2.2 hp _ rfl, fun j x hx => ?_⟩
 obtain ⟨b, off, e, _, hat⟩ := h.1 (by omega)
 injection e with e
 injection e with e1 e2 _
 subst e1 e2
 have := hat j (List.getElem?_eq_some_iff.1 hx).1
 rwa [Nat.zero_add, List.getD_eq_getElem?_getD, hx] at this
end Quorum
end Go.Proofs.YtbhidndgnldheaaGreat

/-
 An asking is begun (readings). Written by gen16/begin.py.
-/
namespace Go.Proofs.YtbhidndgnldheaaGreat
namespace Quorum
open Go.RowKit Vers Span Blk
attribute [local go_sem ↓] Go.wp_at_zero Go.wp_at_succ

abbrev zeroR : List Value := [.slice none 0 0, .int .i64 0, .slice none 0 0, .slice none 0 0]
def BegunR (ls : List Int) (need : Int) (n : Nat) (w : World) (e : Ending) (w' : World) : Prop :=
 (¬ okL ls need ∧ e = .returned (.tuple #[.agg #[.slice none 0 0, .int .i64 0, .slice none 0 0, .slice none 0 0], .bool false]) ∧ Below w.heap.size w w') ∨
 (okL ls need ∧ ∃ lb cl cb ab, e = .returned (.tuple #[.agg #[.slice (some ⟨lb, 0, none⟩) n cl, .int .i64 need, .slice (some ⟨cb, 0, none⟩) n n, .slice (some ⟨ab, 0, none⟩) n n], .bool true]) ∧ Hid (Beg 22 (List.replicate n (.slice none 0 0)) w w' ls n lb cb ab))
set_option maxRecDepth 100000 in
set_option maxHeartbeats 4000000 in
theorem beginR_any (A : Option Addr) (c n : Nat) (ls : List Int) (hn : ls.length = n) (need : Int) (w : World) (hr : Ns .i64 w w.heap.size A ls) (hbig : n ≤ 140737488355328) (hnc : n ≤ c) :
  Calls Tryz.prog 24 #[.slice A n c, .int .i64 need] w (BegunR ls need n w) := by
 obtain ⟨U, hU⟩ : ∃ U, w.alloc (.cells #[.slice none 0 0, .int .i64 0, .slice none 0 0, .slice none 0 0] 66) = U := ⟨_, rfl⟩
 have bU : Below w.heap.size w U := by rw [← hU]; exact (Below.refl _ w).alloc (Nat.le_refl _) _
 have sU : U.heap.size = w.heap.size + 1 := by rw [← hU]; simp
 have BU : Bn w.heap.size 66 zeroR U := by rw [← hU]; exact heap_alloc_new w _
 obtain ⟨rk, hrk⟩ : ∃ k, w.heap.size = k := ⟨_, rfl⟩
 have HV := Lib.hid (And.intro hr hn)
 rw [hrk] at BU sU
 have HU := Lib.hid (And.intro hU (And.intro hrk (And.intro bU (And.intro BU sU))))
 clear hr hn hU bU BU sU
 have hbad : ∀ V : World, Below U.heap.size U V → ¬ okL ls need → Hid (BegunR ls need n w (.returned (.tuple #[.agg #[.slice none 0 0, .int .i64 0, .slice none 0 0, .slice none 0 0], .bool false])) ((((V.setCell ⟨rk, 0, none⟩ (.slice none 0 0)).setCell ⟨rk, 1, none⟩ (.int .i64 0)).setCell ⟨rk, 2, none⟩ (.slice none 0 0)).setCell ⟨rk, 3, none⟩ (.slice none 0 0))) := fun V hV ho => Lib.hid (.inl ⟨ho, rfl, by
  have h := HU.out.2.2.1.trans (hV.mono HU.out.2.2.1.size)
  rw [HU.out.2.1] at h ⊢
  exact (((h.setCell (Nat.le_refl _) _).setCell (Nat.le_refl _) _).setCell (Nat.le_refl _) _).setCell (Nat.le_refl _) _⟩)
 have HBAD := Lib.hid hbad
 clear hbad
 by_cases hb : (n : Int) ≤ 8 ∧ 1 ≤ need ∧ need ≤ (n : Int)
 ·obtain ⟨hb1, hb2, hb3⟩ := hb
  have g1 : ¬ (8 : Int) < (n : Int) := by omega
  have g2 : ¬ need < 1 := by omega
  have g3 : ¬ (n : Int) < need := by omega
  obtain ⟨ob, oo, rfl, hbl, _⟩ := HV.out.1 (by have := HV.out.2; omega)
  have hc0 : ¬ 0 = c := by omega
  have hc1 : ¬ c = 0 := by omega
  go_enter Tryz.func24, Tryz.ntmps24
  go_wp2_with fail
  rw [HU.out.1]
  go_loopw [6, 7, 24] (fun _ _ q wr => ∃ k : Nat, q = .int .i64 k ∧ k ≤ n ∧ Hid (Below U.heap.size U wr ∧ Good ls k)) (fun _ _ q _ => n - (intOf q).toNat)
  case atStart => exact ⟨0, rfl, by omega, Lib.hid ⟨Below.refl _ _, good_zero ls⟩⟩
  case round =>
   obtain ⟨k, rfl, hk, hst⟩ := hrel
   by_cases hlt : k < n
   ·obtain ⟨x, hx⟩ : ∃ x, ls[k]? = some x := ⟨ls[k]'(by have := HV.out.2; omega), by simp⟩
    have hbw := HU.out.2.2.1.trans (hst.out.1.mono HU.out.2.2.1.size)
    have hnw := HV.out.1.below hbw
    obtain ⟨b', o', e', _, hat⟩ := hnw (by have := HV.out.2; omega)
    injection e' with e'
    injection e' with e1 e2 _
    subst e1 e2
    have z0 := hat k (by have := HV.out.2; omega)
    rw [List.getD_eq_getElem?_getD, hx] at z0
    simp only [Option.getD_some] at z0
    have d1 : (0 : Int) ≤ (k : Int) := by omega
    have d2 : (k : Int) < (n : Int) := by omega
    have hkc : k ≤ c := by omega
    have d3 : (k : Int) ≤ (c : Int) := by omega
    have B1 := HU.out.2.2.2.1.same (hst.out.1.block rk HU.out.2.2.2.1.lt)
    have r0 := (B1.cell 0).trans rfl
    have r1 := (B1.cell 1).trans rfl
    have r2 := (B1.cell 2).trans rfl
    have r3 := (B1.cell 3).trans rfl
    have f0 := B1.frozen 0
    have f1 := B1.frozen 1
    have f2 := B1.frozen 2
    have f3 := B1.frozen 3
    by_cases hx1 : 1 ≤ x ∧ x ≤ 8
    ·have g4 : ¬ x < 1 := by omega
     have g5 : ¬ (8 : Int) < x := by omega
     have HCO := Lib.hid (Ring.contains_any (some ⟨ob, oo, none⟩) c k (ls.take k) (by rw [List.length_take]; have := HV.out.2; omega) x wr ((hnw.take k).more (Nat.le_trans HU.out.2.2.1.size hst.out.1.size)) (by omega))
     have HX := Lib.hid hx
     clear hx hnw hat
     go_wp2_with fail
     refine HCO.out.mono ?_
     rintro e w2 ⟨rfl, b2⟩
     have hb2' := hst.out.1.trans (b2.mono hst.out.1.size)
     by_cases hin : x ∈ ls.take k
     ·rw [decide_eq_true hin]
      have HBB := Lib.hid (HBAD.out w2 hb2' (good_not HX.out (.inr hin)))
      have B2 := B1.same (b2.block rk B1.lt)
      have r0 := (B2.cell 0).trans rfl
      have r1 := (B2.cell 1).trans rfl
      have r2 := (B2.cell 2).trans rfl
      have r3 := (B2.cell 3).trans rfl
      have f0 := B2.frozen 0
      have f1 := B2.frozen 1
      have f2 := B2.frozen 2
      have f3 := B2.frozen 3
      have BY := (((B2.set 0 (.slice none 0 0)).set 1 (.int .i64 0)).set 2 (.slice none 0 0)).set 3 (.slice none 0 0)
      simp only [List.set_cons_zero, List.set_cons_succ] at BY
      obtain ⟨Y, hY⟩ : ∃ Y, (((w2.setCell ⟨rk, 0, none⟩ (.slice none 0 0)).setCell ⟨rk, 1, none⟩ (.int .i64 0)).setCell ⟨rk, 2, none⟩ (.slice none 0 0)).setCell ⟨rk, 3, none⟩ (.slice none 0 0) = Y := ⟨_, rfl⟩
      rw [hY] at BY HBB
      have u0 := (BY.cell 0).trans rfl
      have u1 := (BY.cell 1).trans rfl
      have u2 := (BY.cell 2).trans rfl
      have u3 := (BY.cell 3).trans rfl
      clear BY B2 B1 b2 hb2' hst HCO
      go_wp2_with fail
      refine bodyPost_ret (v := .tuple #[.agg #[.slice none 0 0, .int .i64 0, .slice none 0 0, .slice none 0 0], .bool false]) ?_ rfl HBB.out.out
      rw [results_cell_tmp rfl]
      go_simp
     ·rw [decide_eq_false hin]
      have HN : Hid (Below U.heap.size U w2 ∧ Good ls (k + 1)) := Lib.hid ⟨hb2', good_step hst.out.2 HX.out hx1 hin⟩
      clear b2 hb2' hst HCO B1
      go_wp2_with fail
      go_roundw
      case rel => exact ⟨k + 1, rfl, by omega, HN⟩
      case measure => simp only [intOf]; omega
    ·have HBB := Lib.hid (HBAD.out wr hst.out.1 (good_not hx (.inl hx1)))
     have BY := (((B1.set 0 (.slice none 0 0)).set 1 (.int .i64 0)).set 2 (.slice none 0 0)).set 3 (.slice none 0 0)
     simp only [List.set_cons_zero, List.set_cons_succ] at BY
     obtain ⟨Y, hY⟩ : ∃ Y, (((wr.setCell ⟨rk, 0, none⟩ (.slice none 0 0)).setCell ⟨rk, 1, none⟩ (.int .i64 0)).setCell ⟨rk, 2, none⟩ (.slice none 0 0)).setCell ⟨rk, 3, none⟩ (.slice none 0 0) = Y := ⟨_, rfl⟩
     rw [hY] at BY HBB
     have u0 := (BY.cell 0).trans rfl
     have u1 := (BY.cell 1).trans rfl
     have u2 := (BY.cell 2).trans rfl
     have u3 := (BY.cell 3).trans rfl
     clear BY B1 hst hnw hat hx
     by_cases hx0 : x < 1
     ·go_wp2_with fail
      refine bodyPost_ret (v := .tuple #[.agg #[.slice none 0 0, .int .i64 0, .slice none 0 0, .slice none 0 0], .bool false]) ?_ rfl HBB.out.out
      rw [results_cell_tmp rfl]
      go_simp
     ·have hx8 : (8 : Int) < x := by omega
      go_wp2_with fail
      refine bodyPost_ret (v := .tuple #[.agg #[.slice none 0 0, .int .i64 0, .slice none 0 0, .slice none 0 0], .bool false]) ?_ rfl HBB.out.out
      rw [results_cell_tmp rfl]
      go_simp
   ·obtain rfl : k = n := by omega
    have hokl : okL ls need := good_all (by have := HV.out.2; omega) (by rw [HV.out.2]; exact hst.out.2)
    have HOK := Lib.hid hokl
    clear hokl
    have hbU := hst.out.1
    have hw0 : Below w.heap.size w wr.drew := (HU.out.2.2.1.trans (hbU.mono HU.out.2.2.1.size)).drew
    have B0 : Bn rk 66 zeroR wr.drew := HU.out.2.2.2.1.same (hbU.block rk HU.out.2.2.2.1.lt)
    have hd : Below wr.drew.heap.size wr.drew wr.drew := Below.refl _ _
    have hm1 : ∀ W : World, (Instr.makeSlice 56 (.int .i64 (k : Int)) (.int .i64 (k : Int))).run Tryz.prog W = .ok (.slice (some ⟨W.heap.size, 0, none⟩) k k) (W.alloc (.cells (List.replicate k (.bool false)).toArray 4)) := fun W => by
     rw [← made_is]
     exact run_make_row' 56 4 (.bool false) 1 Tryz.underlying56 (by kernel_rfl) rfl .i64 .i64 k (by omega) (by omega) W
    have hm2 : ∀ W : World, (Instr.makeSlice 64 (.int .i64 (k : Int)) (.int .i64 (k : Int))).run Tryz.prog W = .ok (.slice (some ⟨W.heap.size, 0, none⟩) k k) (W.alloc (.cells (List.replicate k (.slice none 0 0) : List Value).toArray 22)) := fun W => by
     rw [← made_is]
     exact run_make_row' 64 22 (.slice none 0 0) 24 Tryz.underlying64 (by kernel_rfl) rfl .i64 .i64 k (by omega) (by omega) W
    have HCL : Hid (∀ V, Below w.heap.size w V → Calls Tryz.prog 50 #[.slice (some ⟨ob, oo, none⟩) k c] V (Ints.NewI ls k V)) := Lib.hid fun V hV => Ints.clonei_any (some ⟨ob, oo, none⟩) c k ls HV.out.2 V ((HV.out.1.below hV).more hV.size) (by omega)
    have HM1 := Lib.hid hm1
    have HM2 := Lib.hid hm2
    have hcf : ∀ (a : Array Value) (w : World), (callFunc 50 a).run Tryz.prog w = .ok (.enter 50 a) w := fun a w => by simp [go_sem]
    have hk0 : 0 < k := by omega
    have hlen := HV.out.2
    clear hst hm1 hm2
    obtain ⟨M1, hM1⟩ : ∃ o, Obj.cells (List.replicate k (.bool false)).toArray 4 = o := ⟨_, rfl⟩
    obtain ⟨M2, hM2⟩ : ∃ o, Obj.cells (List.replicate k (.slice none 0 0) : List Value).toArray 22 = o := ⟨_, rfl⟩
    have hm1 := HM1.out
    have hm2 := HM2.out
    rw [hM1] at hm1
    rw [hM2] at hm2
    have HM := Lib.hid (And.intro hM1 hM2)
    have hs2 := Lib.hid (show rk + 1 ≤ wr.heap.size from B0.lt)
    have ba : ∀ (V : World) (o : Obj), Below V.heap.size V (V.alloc o) := fun V o => (Below.refl _ V).alloc (Nat.le_refl _) _
    have n1 : Bn wr.heap.size 4 (List.replicate k (.bool false)) (wr.drew.alloc M1) := by rw [← hM1]; exact heap_alloc_new wr.drew _
    have n2 : Bn wr.heap.size 22 (List.replicate k (.slice none 0 0) : List Value) (wr.drew.alloc M2) := by rw [← hM2]; exact heap_alloc_new wr.drew _
    have n12 : Bn (wr.heap.size + 1) 22 (List.replicate k (.slice none 0 0) : List Value) ((wr.drew.alloc M1).alloc M2) := by
     have h : Bn (wr.drew.alloc M1).heap.size 22 (List.replicate k (.slice none 0 0) : List Value) ((wr.drew.alloc M1).alloc M2) := by rw [← hM2]; exact heap_alloc_new _ _
     rwa [World.size_alloc] at h
    have n21 : Bn (wr.heap.size + 1) 4 (List.replicate k (.bool false)) ((wr.drew.alloc M2).alloc M1) := by
     have h : Bn (wr.drew.alloc M2).heap.size 4 (List.replicate k (.bool false)) ((wr.drew.alloc M2).alloc M1) := by rw [← hM1]; exact heap_alloc_new _ _
     rwa [World.size_alloc] at h
    have HB0 := Lib.hid (And.intro hw0 (And.intro (show rk + 1 ≤ wr.drew.heap.size from B0.lt) B0))
    have HB1 : Hid (Below w.heap.size w (wr.drew.alloc M1) ∧ rk + 1 ≤ (wr.drew.alloc M1).heap.size ∧ Bn rk 66 zeroR (wr.drew.alloc M1)) := Lib.hid ⟨hw0.trans ((ba _ _).mono hw0.size), Nat.le_trans B0.lt (ba wr.drew M1).size, bn_below B0 (ba _ _)⟩
    have HB2 : Hid (Below w.heap.size w (wr.drew.alloc M2) ∧ rk + 1 ≤ (wr.drew.alloc M2).heap.size ∧ Bn rk 66 zeroR (wr.drew.alloc M2)) := Lib.hid ⟨hw0.trans ((ba _ _).mono hw0.size), Nat.le_trans B0.lt (ba wr.drew M2).size, bn_below B0 (ba _ _)⟩
    have HB12 : Hid (Below w.heap.size w ((wr.drew.alloc M1).alloc M2) ∧ rk + 1 ≤ ((wr.drew.alloc M1).alloc M2).heap.size ∧ Bn rk 66 zeroR ((wr.drew.alloc M1).alloc M2)) := Lib.hid ⟨HB1.out.1.trans ((ba _ _).mono HB1.out.1.size), Nat.le_trans HB1.out.2.1 (ba _ M2).size, bn_below HB1.out.2.2 (ba _ _)⟩
    have HB21 : Hid (Below w.heap.size w ((wr.drew.alloc M2).alloc M1) ∧ rk + 1 ≤ ((wr.drew.alloc M2).alloc M1).heap.size ∧ Bn rk 66 zeroR ((wr.drew.alloc M2).alloc M1)) := Lib.hid ⟨HB2.out.1.trans ((ba _ _).mono HB2.out.1.size), Nat.le_trans HB2.out.2.1 (ba _ M1).size, bn_below HB2.out.2.2 (ba _ _)⟩
    have HB1M := Lib.hid n1
    have HB2M := Lib.hid n2
    have HB12M := Lib.hid (And.intro (bn_below n1 (ba (wr.drew.alloc M1) M2)) n12)
    have HB21M := Lib.hid (And.intro (bn_below n2 (ba (wr.drew.alloc M2) M1)) n21)
    clear hM1 hM2 HM1 HM2 ba n1 n2 n12 n21 B0 hw0 hbU hd
    go_wp2_with fail
    go_region_law (first
     | (refine step_call (by rfl) 50 _ _ (by rfl) (hcf _ _) #[.slice (some ⟨ob, oo, none⟩) k c] (by simp [Act.eval, Act.put]) (HCL.out _ HB0.out.1) (fun e w' h => by obtain ⟨_, _, rfl, _⟩ := h; exact ⟨_, rfl⟩) ?_; rintro v2 w2 ⟨A2, c2, hv2, h2, b2⟩; injection hv2 with hv2; subst hv2; obtain ⟨lb, hlb, hlst0⟩ := new_lst (c := c2) hlen hk0 h2.out; rw [hlb]; have hlst := hlst0.base (base' := rk + 1) HB0.out.2.1; clear hlst0 hlb; have hbel := HB0.out.1.trans (b2.mono HB0.out.1.size); have hrkB := bn_below HB0.out.2.2 b2; have Fa := fin_of (n := k) (cl := c2) (need := need) HU.out.2.1 hbel hrkB hlst (((Below.refl _ w2).alloc (Nat.le_refl _) _).alloc (by simp) _) (up_bn (nw_bn w2 4 _ HM.out.1) M2) (Nat.le_trans HB0.out.2.1 b2.size) (nw_bn1 w2 22 _ HM.out.2) (Nat.le_succ_of_le (Nat.le_trans HB0.out.2.1 b2.size)) (by decide) (by decide); obtain ⟨⟨ra0, ra1, ra2, ra3⟩, ⟨fa0, fa1, fa2, fa3⟩, HEa⟩ := Fa; have Fb := fin_of (n := k) (cl := c2) (need := need) HU.out.2.1 hbel hrkB hlst (((Below.refl _ w2).alloc (Nat.le_refl _) _).alloc (by simp) _) (nw_bn1 w2 4 _ HM.out.1) (Nat.le_succ_of_le (Nat.le_trans HB0.out.2.1 b2.size)) (up_bn (nw_bn w2 22 _ HM.out.2) M1) (Nat.le_trans HB0.out.2.1 b2.size) (by decide) (by decide); obtain ⟨⟨rb0, rb1, rb2, rb3⟩, ⟨fb0, fb1, fb2, fb3⟩, HEb⟩ := Fb; clear hrkB hlst hbel b2 h2)
     | (refine step_call (by rfl) 50 _ _ (by rfl) (hcf _ _) #[.slice (some ⟨ob, oo, none⟩) k c] (by simp [Act.eval]) (HCL.out _ HB1.out.1) (fun e w' h => by obtain ⟨_, _, rfl, _⟩ := h; exact ⟨_, rfl⟩) ?_; rintro v2 w2 ⟨A2, c2, hv2, h2, b2⟩; injection hv2 with hv2; subst hv2; obtain ⟨lb, hlb, hlst0⟩ := new_lst (c := c2) hlen hk0 h2.out; rw [hlb]; have hlst := hlst0.base (base' := rk + 1) HB1.out.2.1; clear hlst0 hlb; have hbel := HB1.out.1.trans (b2.mono HB1.out.1.size); have hrkB := bn_below HB1.out.2.2 b2; have Fa := fin_of (n := k) (cl := c2) (need := need) HU.out.2.1 hbel hrkB hlst ((Below.refl _ w2).alloc (Nat.le_refl _) _) (up_bn (bn_below HB1M.out b2) M2) hs2.out (nw_bn w2 22 _ HM.out.2) (Nat.le_trans HB1.out.2.1 b2.size) (by decide) (by decide); obtain ⟨⟨ra0, ra1, ra2, ra3⟩, ⟨fa0, fa1, fa2, fa3⟩, HEa⟩ := Fa; clear hrkB hlst hbel b2 h2)
     | (refine step_call (by rfl) 50 _ _ (by rfl) (hcf _ _) #[.slice (some ⟨ob, oo, none⟩) k c] (by simp [Act.eval]) (HCL.out _ HB2.out.1) (fun e w' h => by obtain ⟨_, _, rfl, _⟩ := h; exact ⟨_, rfl⟩) ?_; rintro v2 w2 ⟨A2, c2, hv2, h2, b2⟩; injection hv2 with hv2; subst hv2; obtain ⟨lb, hlb, hlst0⟩ := new_lst (c := c2) hlen hk0 h2.out; rw [hlb]; have hlst := hlst0.base (base' := rk + 1) HB2.out.2.1; clear hlst0 hlb; have hbel := HB2.out.1.trans (b2.mono HB2.out.1.size); have hrkB := bn_below HB2.out.2.2 b2; have Fa := fin_of (n := k) (cl := c2) (need := need) HU.out.2.1 hbel hrkB hlst ((Below.refl _ w2).alloc (Nat.le_refl _) _) (nw_bn w2 4 _ HM.out.1) (Nat.le_trans HB2.out.2.1 b2.size) (up_bn (bn_below HB2M.out b2) M1) hs2.out (by decide) (by decide); obtain ⟨⟨ra0, ra1, ra2, ra3⟩, ⟨fa0, fa1, fa2, fa3⟩, HEa⟩ := Fa; clear hrkB hlst hbel b2 h2)
     | (refine step_call (by rfl) 50 _ _ (by rfl) (hcf _ _) #[.slice (some ⟨ob, oo, none⟩) k c] (by simp [Act.eval]) (HCL.out _ HB12.out.1) (fun e w' h => by obtain ⟨_, _, rfl, _⟩ := h; exact ⟨_, rfl⟩) ?_; rintro v2 w2 ⟨A2, c2, hv2, h2, b2⟩; injection hv2 with hv2; subst hv2; obtain ⟨lb, hlb, hlst0⟩ := new_lst (c := c2) hlen hk0 h2.out; rw [hlb]; have hlst := hlst0.base (base' := rk + 1) HB12.out.2.1; clear hlst0 hlb; have hbel := HB12.out.1.trans (b2.mono HB12.out.1.size); have hrkB := bn_below HB12.out.2.2 b2; have Fa := fin_of (n := k) (cl := c2) (need := need) HU.out.2.1 hbel hrkB hlst (Below.refl _ w2) (bn_below HB12M.out.1 b2) hs2.out (bn_below HB12M.out.2 b2) (Nat.le_succ_of_le hs2.out) (by decide) (by decide); obtain ⟨⟨ra0, ra1, ra2, ra3⟩, ⟨fa0, fa1, fa2, fa3⟩, HEa⟩ := Fa; clear hrkB hlst hbel b2 h2)
     | (refine step_call (by rfl) 50 _ _ (by rfl) (hcf _ _) #[.slice (some ⟨ob, oo, none⟩) k c] (by simp [Act.eval]) (HCL.out _ HB21.out.1) (fun e w' h => by obtain ⟨_, _, rfl, _⟩ := h; exact ⟨_, rfl⟩) ?_; rintro v2 w2 ⟨A2, c2, hv2, h2, b2⟩; injection hv2 with hv2; subst hv2; obtain ⟨lb, hlb, hlst0⟩ := new_lst (c := c2) hlen hk0 h2.out; rw [hlb]; have hlst := hlst0.base (base' := rk + 1) HB21.out.2.1; clear hlst0 hlb; have hbel := HB21.out.1.trans (b2.mono HB21.out.1.size); have hrkB := bn_below HB21.out.2.2 b2; have Fa := fin_of (n := k) (cl := c2) (need := need) HU.out.2.1 hbel hrkB hlst (Below.refl _ w2) (bn_below HB21M.out.2 b2) (Nat.le_succ_of_le hs2.out) (bn_below HB21M.out.1 b2) hs2.out (by decide) (by decide); obtain ⟨⟨ra0, ra1, ra2, ra3⟩, ⟨fa0, fa1, fa2, fa3⟩, HEa⟩ := Fa; clear hrkB hlst hbel b2 h2))
    all_goals
     clear HB0 HB1 HB2 HB12 HB21 HB1M HB2M HB12M HB21M HCL HM
     first
      | (have u0 := (HEa.out.2.cell 0).trans rfl; have u1 := (HEa.out.2.cell 1).trans rfl; have u2 := (HEa.out.2.cell 2).trans rfl; have u3 := (HEa.out.2.cell 3).trans rfl; unfold four at u0 u1 u2 u3; go_wp2_with fail; refine bodyPost_ret (v := .tuple #[.agg #[.slice (some ⟨lb, 0, none⟩) k c2, .int .i64 need, .slice (some ⟨_, 0, none⟩) k k, .slice (some ⟨_, 0, none⟩) k k], .bool true]) ?_ rfl (.inr ⟨HOK.out, lb, c2, _, _, rfl, Lib.hid HEa.out.1⟩); rw [results_cell_tmp rfl]; go_simp)
      | (have u0 := (HEb.out.2.cell 0).trans rfl; have u1 := (HEb.out.2.cell 1).trans rfl; have u2 := (HEb.out.2.cell 2).trans rfl; have u3 := (HEb.out.2.cell 3).trans rfl; unfold four at u0 u1 u2 u3; go_wp2_with fail; refine bodyPost_ret (v := .tuple #[.agg #[.slice (some ⟨lb, 0, none⟩) k c2, .int .i64 need, .slice (some ⟨_, 0, none⟩) k k, .slice (some ⟨_, 0, none⟩) k k], .bool true]) ?_ rfl (.inr ⟨HOK.out, lb, c2, _, _, rfl, Lib.hid HEb.out.1⟩); rw [results_cell_tmp rfl]; go_simp)
 ·have hno : ¬ okL ls need := fun ho => hb (by have := ho.1; have := HV.out.2; omega)
  have B1 := HU.out.2.2.2.1
  have r0 := (B1.cell 0).trans rfl
  have r1 := (B1.cell 1).trans rfl
  have r2 := (B1.cell 2).trans rfl
  have r3 := (B1.cell 3).trans rfl
  have f0 := B1.frozen 0
  have f1 := B1.frozen 1
  have f2 := B1.frozen 2
  have f3 := B1.frozen 3
  have HBB := Lib.hid (HBAD.out U (Below.refl _ _) hno)
  have BY := (((B1.set 0 (.slice none 0 0)).set 1 (.int .i64 0)).set 2 (.slice none 0 0)).set 3 (.slice none 0 0)
  simp only [List.set_cons_zero, List.set_cons_succ] at BY
  obtain ⟨Y, hY⟩ : ∃ Y, (((U.setCell ⟨rk, 0, none⟩ (.slice none 0 0)).setCell ⟨rk, 1, none⟩ (.int .i64 0)).setCell ⟨rk, 2, none⟩ (.slice none 0 0)).setCell ⟨rk, 3, none⟩ (.slice none 0 0) = Y := ⟨_, rfl⟩
  rw [hY] at BY HBB
  have u0 := (BY.cell 0).trans rfl
  have u1 := (BY.cell 1).trans rfl
  have u2 := (BY.cell 2).trans rfl
  have u3 := (BY.cell 3).trans rfl
  clear BY B1 hno
  by_cases h1 : (8 : Int) < (n : Int)
  ·have g1 : decide ((8 : Int) < (n : Int)) = true := decide_eq_true h1
   go_enter Tryz.func24, Tryz.ntmps24
   go_upto_region 1 with fail
   rw [HU.out.1]
   go_wp2_with fail
   refine bodyPost_ret (v := .tuple #[.agg #[.slice none 0 0, .int .i64 0, .slice none 0 0, .slice none 0 0], .bool false]) ?_ rfl HBB.out.out
   rw [results_cell_tmp rfl]
   go_simp
  ·by_cases h2 : need < 1
   ·go_enter Tryz.func24, Tryz.ntmps24
    go_upto_region 1 with fail
    rw [HU.out.1]
    go_wp2_with fail
    refine bodyPost_ret (v := .tuple #[.agg #[.slice none 0 0, .int .i64 0, .slice none 0 0, .slice none 0 0], .bool false]) ?_ rfl HBB.out.out
    rw [results_cell_tmp rfl]
    go_simp
   ·have h3 : (n : Int) < need := by omega
    go_enter Tryz.func24, Tryz.ntmps24
    go_upto_region 1 with fail
    rw [HU.out.1]
    go_wp2_with fail
    refine bodyPost_ret (v := .tuple #[.agg #[.slice none 0 0, .int .i64 0, .slice none 0 0, .slice none 0 0], .bool false]) ?_ rfl HBB.out.out
    rw [results_cell_tmp rfl]
    go_simp
end Quorum
end Go.Proofs.YtbhidndgnldheaaGreat

/-
 Plain words of layer 6: what is taken from bytes, one thing behind the other, and what is written.
-/
namespace Go.Proofs.YtbhidndgnldheaaGreat
namespace Code
open Num Span

def Std (zs : List Int) (p : Nat) (e : List Int) : Prop := p ≤ zs.length ∧ e <+: zs.drop p
theorem std_nil {zs : List Int} {p : Nat} (h : p ≤ zs.length) : Std zs p [] := ⟨h, List.nil_prefix⟩
theorem std_le {zs e : List Int} {p : Nat} (h : Std zs p e) : p + e.length ≤ zs.length := by
 have h1 := h.2.length_le
 rw [List.length_drop] at h1
 have := h.1
 omega
theorem std_append {zs a b : List Int} {p : Nat} : Std zs p (a ++ b) ↔ Std zs p a ∧ Std zs (p + a.length) b := by
 constructor
 ·intro h
  have hl := std_le h
  rw [List.length_append] at hl
  obtain ⟨t, ht⟩ := h.2
  refine ⟨⟨h.1, ⟨b ++ t, by rw [← ht, List.append_assoc]⟩⟩, by omega, ⟨t, ?_⟩⟩
  rw [← List.drop_drop, ← ht, List.append_assoc, List.drop_left]
 ·rintro ⟨⟨h1, t, ht⟩, h2, u, hu⟩
  refine ⟨h1, u, ?_⟩
  rw [List.append_assoc, hu, ← List.drop_drop, ← ht, List.drop_left]
def numP (zs : List Int) (p : Nat) : Option (Int × Nat) := if (numF zs p).2.2 = 0 then some ((numF zs p).1, (numF zs p).2.1) else none
theorem numP_put {zs : List Int} {p : Nat} {n : Int} (h0 : 0 ≤ n) (h1 : n ≤ 9223372036854775807) (h : Std zs p (putL n)) : numP zs p = some (n, p + (putL n).length) := by
 obtain ⟨hp, t, ht⟩ := h
 have e : zs = zs.take p ++ putL n ++ t := by rw [List.append_assoc, ht, List.take_append_drop]
 have hl : (zs.take p).length = p := by rw [List.length_take]; omega
 have h2 := numF_put n h0 h1 (zs.take p) t
 rw [← e, hl] at h2
 unfold numP
 rw [h2]
 rfl
theorem numP_ok {zs : List Int} {p q : Nat} {n : Int} (hby : ∀ z ∈ zs, 0 ≤ z ∧ z ≤ 255) (hp : p ≤ zs.length) (h : numP zs p = some (n, q)) : Std zs p (putL n) ∧ q = p + (putL n).length ∧ 0 ≤ n ∧ n ≤ 9223372036854775807 := by
 unfold numP at h
 split at h
 ·rename_i he
  obtain ⟨⟨n', q', e⟩, hF⟩ : ∃ r, numF zs p = r := ⟨_, rfl⟩
  rw [hF] at h he
  simp only [Option.some.injEq, Prod.mk.injEq] at h he
  obtain ⟨rfl, rfl⟩ := h
  subst he
  obtain ⟨h0, h1, _, _⟩ := numF_ok hby hF
  obtain ⟨m, k, g1, g2, g3, g4, g5, g6, g7, g8⟩ := numR_ok (zs.drop p) p 0 0 n' q' (fun z hz => hby z (List.mem_of_mem_drop hz)) (by omega) hF
  have hn : n' = m := by rw [g4]; simp
  subst hn
  have hk : (putL n').length = k := by
   have := congrArg List.length g8
   rw [List.length_take] at this
   unfold putL
   have e9 : 9 - 0 = 9 := rfl
   rw [e9] at this
   omega
  refine ⟨⟨hp, ?_⟩, by omega, h0, h1⟩
  show putF 9 n' <+: _
  rw [show putF 9 n' = (zs.drop p).take k from g8.symm]
  exact List.take_prefix _ _
 ·cases h
def listP {α : Type} (P : Nat → Option (α × Nat)) : Nat → Nat → Option (List α × Nat)
 | 0, p => some ([], p)
 | k + 1, p =>
  match P p with
  | none => none
  | some (x, q) => (listP P k q).map fun r => (x :: r.1, r.2)
theorem listP_more {α : Type} {P : Nat → Option (α × Nat)} {k p q : Nat} {x : α} (h : P p = some (x, q)) : listP P (k + 1) p = (listP P k q).map fun r => (x :: r.1, r.2) := by rw [listP, h]
theorem listP_put {α : Type} {P : Nat → Option (α × Nat)} {enc : α → List Int} {ok : α → Prop} {zs : List Int} (hP : ∀ x p, ok x → Std zs p (enc x) → P p = some (x, p + (enc x).length)) :
  ∀ (l : List α) (p : Nat), (∀ x ∈ l, ok x) → Std zs p (l.flatMap enc) → listP P l.length p = some (l, p + (l.flatMap enc).length)
 | [], p, _, _ => by simp [listP]
 | x :: l, p, hok, h => by
  rw [List.flatMap_cons] at h
  obtain ⟨h1, h2⟩ := std_append.1 h
  rw [List.length_cons, listP_more (hP x p (hok x (by simp)) h1), listP_put hP l _ (fun y hy => hok y (by simp [hy])) h2]
  simp [Nat.add_assoc]
theorem listP_ok {α : Type} {P : Nat → Option (α × Nat)} {enc : α → List Int} {ok : α → Prop} {zs : List Int} (hP : ∀ x p q, p ≤ zs.length → P p = some (x, q) → q ≤ zs.length ∧ (ok x → Std zs p (enc x) ∧ q = p + (enc x).length)) :
  ∀ (k p q : Nat) (l : List α), p ≤ zs.length → listP P k p = some (l, q) → l.length = k ∧ q ≤ zs.length ∧ ((∀ x ∈ l, ok x) → Std zs p (l.flatMap enc) ∧ q = p + (l.flatMap enc).length)
 | 0, p, q, l, hp, h => by
  simp only [listP, Option.some.injEq, Prod.mk.injEq] at h
  obtain ⟨rfl, rfl⟩ := h
  exact ⟨rfl, hp, fun _ => ⟨std_nil hp, rfl⟩⟩
 | k + 1, p, q, l, hp, h => by
  rw [listP] at h
  split at h
  ·cases h
  ·rename_i x r hx
   obtain ⟨y, hy, he⟩ := Option.map_eq_some_iff.1 h
   simp only [Prod.mk.injEq] at he
   obtain ⟨rfl, rfl⟩ := he
   obtain ⟨hr, hx2⟩ := hP x p r hp hx
   obtain ⟨h1, h2, h3⟩ := listP_ok hP k r y.2 y.1 hr hy
   refine ⟨by simp [h1], h2, fun hok => ?_⟩
   obtain ⟨g1, g2⟩ := hx2 (hok x (by simp))
   obtain ⟨g3, g4⟩ := h3 (fun z hz => hok z (by simp [hz]))
   rw [List.flatMap_cons]
   refine ⟨std_append.2 ⟨g1, by rw [← g2]; exact g3⟩, ?_⟩
   rw [List.length_append]
   omega

def seqP {α : Type} (P : Nat → Option (α × Nat)) (zs : List Int) (p : Nat) : Option (List α × Nat) :=
 match numP zs p with
 | none => none
 | some (n, q) => listP P n.toNat q
def seqL {α : Type} (enc : α → List Int) (l : List α) : List Int := putL (l.length : Int) ++ l.flatMap enc
theorem seqP_put {α : Type} {P : Nat → Option (α × Nat)} {enc : α → List Int} {ok : α → Prop} {zs : List Int} (hP : ∀ x p, ok x → Std zs p (enc x) → P p = some (x, p + (enc x).length))
  {l : List α} {p : Nat} (hl : l.length ≤ 9223372036854775807) (hok : ∀ x ∈ l, ok x) (h : Std zs p (seqL enc l)) : seqP P zs p = some (l, p + (seqL enc l).length) := by
 obtain ⟨h1, h2⟩ := std_append.1 h
 unfold seqP
 rw [numP_put (by omega) (by omega) h1]
 simp only [Int.toNat_natCast]
 rw [listP_put hP l _ hok h2]
 unfold seqL
 rw [List.length_append, Nat.add_assoc]
theorem seqP_ok {α : Type} {P : Nat → Option (α × Nat)} {enc : α → List Int} {ok : α → Prop} {zs : List Int} (hby : ∀ z ∈ zs, 0 ≤ z ∧ z ≤ 255) (hP : ∀ x p q, p ≤ zs.length → P p = some (x, q) → q ≤ zs.length ∧ (ok x → Std zs p (enc x) ∧ q = p + (enc x).length))
  {l : List α} {p q : Nat} (hp : p ≤ zs.length) (h : seqP P zs p = some (l, q)) : q ≤ zs.length ∧ ((∀ x ∈ l, ok x) → Std zs p (seqL enc l) ∧ q = p + (seqL enc l).length) := by
 unfold seqP at h
 split at h
 ·cases h
 ·rename_i n r hn
  obtain ⟨g1, g2, g3, g4⟩ := numP_ok hby hp hn
  have gl := std_le g1
  obtain ⟨h1, h2, h3⟩ := listP_ok hP _ r q l (by omega) h
  refine ⟨h2, fun hok => ?_⟩
  obtain ⟨k1, k2⟩ := h3 hok
  have e : (l.length : Int) = n := by omega
  unfold seqL
  rw [e, List.length_append]
  exact ⟨std_append.2 ⟨g1, by rw [← g2]; exact k1⟩, by omega⟩

/-! ### Spans, as the program takes them and as the document does -/
end Code
end Go.Proofs.YtbhidndgnldheaaGreat

/-
 The reader of layer 6: its block, and what taking comes to; numbers and texts.
-/
namespace Go.Proofs.YtbhidndgnldheaaGreat
namespace Code
open Go.RowKit Num Span
attribute [local go_sem ↓] Go.wp_at_zero Go.wp_at_succ

section
variable {w w' : World} {g n p c : Nat} {A : Option Addr}
end

def Src (g : Nat) (A : Option Addr) (c n : Nat) (zs : List Int) (w : World) : Prop :=
 Ns .u8 w g A zs ∧ (∀ z ∈ zs, 0 ≤ z ∧ z ≤ 255) ∧ zs.length = n ∧ n ≤ c ∧ n ≤ 4294967296
theorem Src.kept {w w' : World} {g n c : Nat} {A : Option Addr} {zs : List Int} (h : Src g A c n zs w) (hg : w.grownBy w' (some g)) (hlt : g < w.heap.size) : Src g A c n zs w' :=
 ⟨h.1.grown hg (by omega) (fun k hk => by injection hk with hk; omega), h.2⟩
theorem Src.drew {w : World} {g n c : Nat} {A : Option Addr} {zs : List Int} (h : Src g A c n zs w) : Src g A c n zs w.drew := h

end Code
end Go.Proofs.YtbhidndgnldheaaGreat

/-
 The reader of layer 6: spans and sets.
-/
namespace Go.Proofs.YtbhidndgnldheaaGreat
namespace Code
open Go.RowKit Num Span
attribute [local go_sem ↓] Go.wp_at_zero Go.wp_at_succ

theorem results_cell1 {fn : Func} {p : Tmp} {ty : TypeId} (h : fn.results = #[.cell p ty]) (tmps : Array Value) (P : Program) (w : World) :
  (results fn tmps).run P w = ((asAddr (tmps.getD p undef)).run P w).andThen fun a w₁ => (loadVar ty a).run P w₁ := by
 simp only [results, h]
 simp [Sem.run_bind, Result.andThen]

def Box3 (B : Nat) (t : TypeId) (x y z : Value) (w : World) : Prop := w.heap[B]? = some (.cells #[x, y, z] t (0, 0))
section
variable {w w' : World} {B : Nat} {t : TypeId} {x y z x' y' z' : Value}
theorem Box3.lt (h : Box3 B t x y z w) : B < w.heap.size := (Array.getElem?_eq_some_iff.1 h).1
theorem Box3.kept {row : Option Nat} (h : Box3 B t x y z w) (hg : w.grownBy w' row) (hne : some B ≠ row) : Box3 B t x y z w' := (hg.block B h.lt hne).trans h
theorem Box3.cell (h : Box3 B t x y z w) : w.cell? ⟨B, 0, none⟩ = some x ∧ w.cell? ⟨B, 1, none⟩ = some y ∧ w.cell? ⟨B, 2, none⟩ = some z := by
 have h' : w.heap[B]? = _ := h
 refine ⟨?_, ?_, ?_⟩ <;> simp [World.cell?, h']
theorem Box3.frozen (h : Box3 B t x y z w) (j : Nat) : w.frozen? ⟨B, j, none⟩ = false := by simp [World.frozen?, show w.heap[B]? = _ from h]
def set3 (w : World) (B : Nat) (x y z : Value) : World := ((w.setCell ⟨B, 0, none⟩ x).setCell ⟨B, 1, none⟩ y).setCell ⟨B, 2, none⟩ z
theorem Box3.set (h : Box3 B t x y z w) : Box3 B t x' y' z' (set3 w B x' y' z') := by
 have h' : w.heap[B]? = some (.cells #[x, y, z] t (0, 0)) := h
 show (set3 w B x' y' z').heap[B]? = _
 simp [set3, World.setCell, Array.getElem?_modify, h']
end

theorem listP_len {α : Type} {P : Nat → Option (α × Nat)} {n : Nat} (hP : ∀ x p q, p ≤ n → P p = some (x, q) → p < q ∧ q ≤ n) : ∀ (k p q : Nat) (l : List α), p ≤ n → listP P k p = some (l, q) → p + l.length ≤ q ∧ q ≤ n
 | 0, p, q, l, hp, h => by
  simp only [listP, Option.some.injEq, Prod.mk.injEq] at h
  obtain ⟨rfl, rfl⟩ := h
  exact ⟨by simp, hp⟩
 | k + 1, p, q, l, hp, h => by
  rw [listP] at h
  split at h
  ·cases h
  ·rename_i x r hx
   obtain ⟨y, hy, he⟩ := Option.map_eq_some_iff.1 h
   simp only [Prod.mk.injEq] at he
   obtain ⟨rfl, rfl⟩ := he
   obtain ⟨h1, h2⟩ := hP x p r hp hx
   obtain ⟨h3, h4⟩ := listP_len hP k r y.2 y.1 h2 hy
   simp only [List.length_cons]
   omega
theorem seqP_len {α : Type} {P : Nat → Option (α × Nat)} {zs : List Int} (hby : ∀ z ∈ zs, 0 ≤ z ∧ z ≤ 255) (hP : ∀ x p q, p ≤ zs.length → P p = some (x, q) → p < q ∧ q ≤ zs.length) {p q : Nat} {l : List α} (hp : p ≤ zs.length) (h : seqP P zs p = some (l, q)) : p + l.length < q ∧ q ≤ zs.length := by
 unfold seqP at h
 split at h
 ·cases h
 ·rename_i n r hn
  obtain ⟨g1, g2, g3, g4⟩ := numP_ok hby hp hn
  have gl := std_le g1
  have gp := putL_len n
  have := listP_len hP _ r q l (by omega) h
  omega
end Code
end Go.Proofs.YtbhidndgnldheaaGreat

/-
 The writer of layer 6: its block and the row of its bytes; numbers, texts, spans, sets.
-/
namespace Go.Proofs.YtbhidndgnldheaaGreat
namespace Code
open Go.RowKit Num Span
attribute [local go_sem ↓] Go.wp_at_zero Go.wp_at_succ

def Kp (g : Nat) (v : Value) (w : World) (v' : Value) (w' : World) : Prop :=
 w'.os = w.os ∧ w'.tape = w.tape ∧ w'.output = w.output ∧ w.heap.size ≤ w'.heap.size ∧ ∀ j, j < w.heap.size → j ≠ g → some j ≠ v.ownBlock → w'.heap[j]? = w.heap[j]? ∧ some j ≠ v'.ownBlock
section
variable {base g : Nat} {L : List Int} {v v' v'' : Value} {w w' w'' : World}
theorem Kp.refl (g : Nat) (v : Value) (w : World) : Kp g v w v w := ⟨rfl, rfl, rfl, Nat.le_refl _, fun _ _ _ h => ⟨rfl, h⟩⟩
theorem Kp.trans (h : Kp g v w v' w') (k : Kp g v' w' v'' w'') : Kp g v w v'' w'' :=
 ⟨k.1.trans h.1, k.2.1.trans h.2.1, k.2.2.1.trans h.2.2.1, Nat.le_trans h.2.2.2.1 k.2.2.2.1, fun j hj hg hv => by
  obtain ⟨h1, h2⟩ := h.2.2.2.2 j hj hg hv
  obtain ⟨h3, h4⟩ := k.2.2.2.2 j (Nat.lt_of_lt_of_le hj h.2.2.2.1) hg h2
  exact ⟨h3.trans h1, h4⟩⟩
theorem Kp.of_below (hb : Below w.heap.size w w') : Kp g v w v w' := ⟨hb.os, hb.tape, hb.output, hb.size, fun j hj _ hv => ⟨hb.block j hj, hv⟩⟩
theorem Kp.alloc (g : Nat) (v : Value) (w : World) (o : Obj) : Kp g v w v (w.alloc o) := Kp.of_below ((Below.refl _ w).alloc (Nat.le_refl _) o)
theorem Kp.block (h : Kp g v w v' w') {j : Nat} {o : Obj} (ho : w.heap[j]? = some o) (hg : j ≠ g) (hv : some j ≠ v.ownBlock) : w'.heap[j]? = some o ∧ some j ≠ v'.ownBlock := by
 obtain ⟨h1, h2⟩ := h.2.2.2.2 j (Array.getElem?_eq_some_iff.1 ho).1 hg hv
 exact ⟨h1.trans ho, h2⟩
end

section
variable {P : Program} {w : World}
theorem step_call {ops : Array Oper} {o : Oper} {a : Act} {K : Act → World → Prop} {Q : Exit → Act → World → Prop} {E : Prop} (hgd : o.guard = none) (f : FuncId) (args : Array Operand) (ats : Array TypeId)
  (ho : o.op = .call { callee := .value (.func f), args := args, argTypes := ats }) (hcf : (callFunc f (args.map a.eval)).run P w = .ok (.enter f (args.map a.eval)) w) (vals : Array Value) (hv : args.map a.eval = vals) {R : Ending → World → Prop} (hc : Calls P f vals w R)
  (hR : ∀ e w', R e w' → ∃ v, e = .returned v) (hK : ∀ v w', R (.returned v) w' → K (a.put o.dst v) w') :
  if Region.wanted o (yielded ops a.tmps) = true then Oper.wp P o a w K Q else E := by
 have hw : Region.wanted o (yielded ops a.tmps) = true := by simp [Region.wanted, hgd]
 rw [if_pos hw]
 have hrun : (execOp a.eval o).run P w = .ok (.enter f vals) w := by
  subst hv
  unfold execOp
  simp [ho, go_sem, hcf]
 unfold Oper.wp
 rw [hrun, Oper.upon_enter]
 refine hc.mono fun e w' h => ?_
 obtain ⟨v, rfl⟩ := hR e w' h
 exact hK v w' h
end

end Code
end Go.Proofs.YtbhidndgnldheaaGreat

/-
 The writer of layer 6: spans and sets.
-/
namespace Go.Proofs.YtbhidndgnldheaaGreat
namespace Code
open Go.RowKit Num Span
attribute [local go_sem ↓] Go.wp_at_zero Go.wp_at_succ

theorem Box3.kp {g B : Nat} {v v' : Value} {w w' : World} {t : TypeId} {x y z : Value} (h : Box3 B t x y z w) (hk : Kp g v w v' w') (hg : B ≠ g) (hv : some B ≠ v.ownBlock) : Box3 B t x y z w' ∧ some B ≠ v'.ownBlock := hk.block h hg hv

end Code
end Go.Proofs.YtbhidndgnldheaaGreat

/-
 Plain words of layer 6: versions, records, addresses, hashes, as they are taken and written.
-/
namespace Go.Proofs.YtbhidndgnldheaaGreat
namespace Code
open Num Span Vers

/-! ### Versions -/
/-! ### Records -/
abbrev Rc := ByteArray × List Vr
def okR (r : Rc) : Prop := 1 ≤ r.1.size ∧ r.1.size ≤ 32 ∧ RightV r.2
instance (r : Rc) : Decidable (okR r) := by unfold okR; infer_instance
/-! ### Addresses and hashes -/
end Code
end Go.Proofs.YtbhidndgnldheaaGreat

/-
 Plain words of layer 6: messages, as they are taken and written.
-/
namespace Go.Proofs.YtbhidndgnldheaaGreat
namespace Code
open Num Span Vers

structure Par {α : Type} (zs : List Int) (P : Nat → Option (α × Nat)) (enc : α → List Int) (ok : α → Prop) (gets : α → Prop) : Prop where
 put : ∀ x p, gets x → ok x → Std zs p (enc x) → P p = some (x, p + (enc x).length)
 goes : ∀ x p q, p ≤ zs.length → P p = some (x, q) → p < q ∧ q ≤ zs.length
 got : ∀ x p q, p ≤ zs.length → P p = some (x, q) → gets x
 back : ∀ x p q, p ≤ zs.length → P p = some (x, q) → ok x → Std zs p (enc x) ∧ q = p + (enc x).length
/-! ### The parts -/
theorem listP_all {α : Type} {P : Nat → Option (α × Nat)} {n : Nat} {gets : α → Prop} (hP : ∀ x p q, p ≤ n → P p = some (x, q) → p < q ∧ q ≤ n) (hG : ∀ x p q, p ≤ n → P p = some (x, q) → gets x) : ∀ (k p q : Nat) (l : List α), p ≤ n → listP P k p = some (l, q) → ∀ x ∈ l, gets x
 | 0, p, q, l, hp, h => by
  simp only [listP, Option.some.injEq, Prod.mk.injEq] at h
  obtain ⟨rfl, rfl⟩ := h
  intro x hx
  cases hx
 | k + 1, p, q, l, hp, h => by
  rw [listP] at h
  split at h
  ·cases h
  ·rename_i x r hx
   obtain ⟨y, hy, he⟩ := Option.map_eq_some_iff.1 h
   simp only [Prod.mk.injEq] at he
   obtain ⟨rfl, rfl⟩ := he
   have h1 := hP x p r hp hx
   intro z hz
   rcases List.mem_cons.1 hz with rfl | hz
   ·exact hG _ _ _ hp hx
   ·exact listP_all hP hG k r y.2 y.1 (by omega) hy z hz
section
variable {zs : List Int}
theorem Par.list {α : Type} {P : Nat → Option (α × Nat)} {enc : α → List Int} {ok gets : α → Prop} (h : Par zs P enc ok gets) (hby : ∀ z ∈ zs, 0 ≤ z ∧ z ≤ 255) (hb : zs.length ≤ 4294967296) :
  Par zs (seqP P zs) (seqL enc) (fun l => ∀ x ∈ l, ok x) (fun l => l.length ≤ 9223372036854775807 ∧ ∀ x ∈ l, gets x) where
 put := fun l p hg hk hs => seqP_put (ok := fun x => gets x ∧ ok x) (fun x p hx hs => h.put x p hx.1 hx.2 hs) hg.1 (fun x hx => ⟨hg.2 x hx, hk x hx⟩) hs
 goes := fun l p q hp hx => by
  have := seqP_len hby (fun x p q hp h' => h.goes x p q hp h') hp hx
  omega
 got := fun l p q hp hx => by
  have h1 := seqP_len hby (fun x p q hp h' => h.goes x p q hp h') hp hx
  refine ⟨by omega, ?_⟩
  unfold seqP at hx
  split at hx
  ·cases hx
  ·rename_i n r hn
   obtain ⟨g1, g2, g3, g4⟩ := numP_ok hby hp hn
   have gl := std_le g1
   exact listP_all (fun x p q hp h' => h.goes x p q hp h') (fun x p q hp h' => h.got x p q hp h') _ _ _ _ (by omega) hx
 back := fun l p q hp hx hk => (seqP_ok hby (fun x p q hp h' => ⟨(h.goes x p q hp h').2, h.back x p q hp h'⟩) hp hx).2 hk
end

/-! ### Messages -/
abbrev Ms := Int × (Int × Int) × (Int × Int) × Int × Int × Int × Int × ByteArray × List Rc × List Int × List Int × List Int × List Int
def okA (a : Int × Int) : Prop := (1 ≤ a.1 ∧ a.1 ≤ 16) ∧ (0 ≤ a.2 ∧ a.2 ≤ 8)
def okM : Ms → Prop
 | (kind, fr, to_, id, n, for_, code, key, recs, vec, path, hashes, route) =>
  (1 ≤ kind ∧ kind ≤ 17) ∧ okA fr ∧ okA to_ ∧ 0 ≤ id ∧ 0 ≤ n ∧ (0 ≤ for_ ∧ for_ ≤ 8) ∧ (0 ≤ code ∧ code ≤ 999) ∧ key.size ≤ 32 ∧ (∀ x ∈ recs, okR x) ∧
  (vec.length ≤ 16 ∧ ∀ x ∈ vec, 0 ≤ x ∧ x ≤ 4611686018427387904) ∧ (path.length ≤ 2 ∧ ∀ x ∈ path, 0 ≤ x ∧ x < 16) ∧ hashes.length ≤ 16 ∧ (route.length ≤ 16 ∧ ∀ x ∈ route, 1 ≤ x ∧ x ≤ 16)
end Code
end Go.Proofs.YtbhidndgnldheaaGreat

/-
 sync.Once in one goroutine: what is done once by a closure, whatever the closure does, if it leaves the Once itself alone.
-/
namespace Go.Proofs.YtbhidndgnldheaaGreat
namespace Once
open Go.RowKit Blk

def Held (b off : Nat) (Q : World → Prop) (e : Ending) (w' : World) : Prop :=
 e = .returned (.tuple #[]) ∧ Q w' ∧ w'.cell? ⟨b, off, none⟩ = some (.int .u32 0) ∧ w'.cell? ⟨b, off + 1, none⟩ = some (.int .i32 1) ∧ w'.frozen? ⟨b, off, none⟩ = false ∧ w'.frozen? ⟨b, off + 1, none⟩ = false
end Once
end Go.Proofs.YtbhidndgnldheaaGreat
