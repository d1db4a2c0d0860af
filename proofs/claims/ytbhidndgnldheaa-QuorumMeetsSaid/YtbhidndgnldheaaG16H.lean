/-
  Several texts of this family in one: QuorumFine, QuorumStay, QuorumMeetsPlain, QuorumMeetArgs.
-/
import Derived.Test.YtbhidndgnldheaaG16E
import Derived.Deep.RegionHeld3
import Derived.Deep.RegionLaw
import Derived.Deep.AppendLies
import Derived.Deep.DrawnRows
import Derived.Test.YtbhidndgnldheaaG16F
/-
  In which blocks counting turns cells: those of who is counted, and of what was answered (layer 16). Written by gen16/fine.py.
-/
namespace Go.Proofs.Ytbhidndgnldheaa
namespace Quorum
open Go.RowKit Vers Span Blk
attribute [local go_sem ↓] Go.wp_at_zero Go.wp_at_succ
def Cs (cb ab k : Nat) : Prop := k = cb ∨ k = ab
set_option maxRecDepth 100000 in
set_option maxHeartbeats 1000000 in
theorem countR_fine {T : TypeId} {F : Nat → Prop} {w : World} {rb n lb cl cb ab : Nat} {need : Int} {l : List En} {x : List Value} {ps : List Plc} (h : Core T F w rb need l n lb cl cb ab x) (ha : Ans F w l ps cb ab) (hnd : (l.map Prod.fst).Nodup) (node : Int) (Aa : Option Addr) (ca m : Nat) (an : List Vr) (hm : an.length = m) (hmc : m ≤ ca) (hm4 : m ≤ 1024) {L B : Nat} (hv : Vs w L B Aa an) (hB : B ≤ w.heap.size) (hF : ∀ k, L ≤ k → k < B → F k ∧ k ≠ cb ∧ k ≠ ab) {b : Bool} {l' : List En} (hc : countF l node an = (b, l')) :
    Calls Try.prog 40 #[hd rb, .int .i64 node, .slice Aa m ca] w (fun e w' => e = .returned (.bool b) ∧ Hid (Core T F w' rb need l' n lb cl cb ab x ∧ (∃ ps', Ans F w' l' ps' cb ab) ∧ Chg F w w' ∧ Chg (Cs cb ab) w w')) := by
  have hn8 : n ≤ 8 := h.1.2.2.2
  have HX := Lib.hid (index_any (some ⟨lb, 0, none⟩) cl n (l.map Prod.fst) (by rw [List.length_map]; exact h.len) node w h.ns (by omega))
  obtain ⟨x0, x1, x2, x3⟩ := h.head
  subst hm
  go_enter Try.func40, Try.ntmps40
  skip
  go_wp2_with fail
  refine HX.out.mono ?_
  rintro e w1 ⟨⟨rfl, hno⟩ | ⟨i, rfl, hi⟩, rfl⟩
  · have hq := count_no (l := l) (node := node) (a := an) (fun e he e1 => hno (by rw [← e1]; exact List.mem_map_of_mem he))
    rw [hc] at hq
    injection hq.symm with q1 q2
    subst q1 q2
    have HK : Hid (Core T F w rb need l n lb cl cb ab x ∧ (∃ ps', Ans F w l ps' cb ab) ∧ Chg F w w ∧ Chg (Cs cb ab) w w) := Lib.hid ⟨h, ⟨ps, ha⟩, Chg.refl _ _, Chg.refl _ _⟩
    go_wp2_with fail
    go_ret
    exact ⟨rfl, HK.out⟩
  · rw [List.getElem?_map] at hi
    obtain ⟨⟨nd, bo, an0⟩, he, rfl⟩ := Option.map_eq_some_iff.1 hi
    simp only at hc hnd ⊢
    obtain ⟨y0, y1⟩ := h.at he
    simp only at y0 y1
    have hin : i < n := by rw [← h.len]; exact (List.getElem?_eq_some_iff.1 he).1
    have d1 : (0 : Int) ≤ (i : Int) := by omega
    have d2 : (i : Int) < (n : Int) := by omega
    have d3 : ¬ (i : Int) < 0 := by omega
    cases bo
    · have hq := count_yes (a := an) hnd he
      rw [hc] at hq
      injection hq.symm with q1 q2
      subst q1 q2
      have hcore := h.mark he an
      have g1 := gset w cb i (.bool true)
      have hne := h.2.2.2.2
      have hans : Ans F (w.setCell ⟨cb, i, none⟩ (.bool true)) l ps cb ab := ha.keep g1.size (g1.block ab ha.2.1.lt (by intro e; injection e with e; exact hne.2.2.2.2.1 e.symm)) fun k hk h1 _ => g1.block k (h.lt k hk) (by intro e; injection e with e; exact h1 e)
      have hv1 : Vs (w.setCell ⟨cb, i, none⟩ (.bool true)) L B Aa an := hv.keep fun p p1 p2 => World.cell?_of_block (g1.block p.block (by omega) (by intro e; injection e with e; exact (hF _ p1 p2).2.1 e))
      have z0 := h.2.2.1.frozen i
      obtain ⟨zz, hzz⟩ : ∃ z, w.cell? ⟨cb, i, none⟩ = some z := ⟨_, y1⟩
      obtain ⟨p, hp, u0, _⟩ := hans.at he
      have u1 := hans.2.1.frozen i
      obtain ⟨v0', v1', v2', v3'⟩ := hcore.head
      obtain ⟨W1, hW1⟩ : ∃ W, w.setCell ⟨cb, i, none⟩ (.bool true) = W := ⟨_, rfl⟩
      rw [hW1] at hcore g1 hans hv1 u0 u1 v0' v1' v2' v3'
      have g2 := gset W1 ab i (.slice Aa an.length ca)
      have hlay := hans.lay he hv1 (Nat.le_trans hB g1.size) hmc hm4 hF
      have hcore2 : Core T F (W1.setCell ⟨ab, i, none⟩ (.slice Aa an.length ca)) rb need (l.set i (nd, true, an)) n lb cl cb ab x := by
        obtain ⟨⟨c1, c2, c2'⟩, ⟨c3, c4⟩, c5, ⟨f1, f2, f3, f4, f5⟩, c7⟩ := hcore
        have nb : ∀ k, k ≠ ab → k < W1.heap.size → (W1.setCell ⟨ab, i, none⟩ (.slice Aa an.length ca)).heap[k]? = W1.heap[k]? := fun k h1 h2 => g2.block k h2 (by intro e; injection e with e; exact h1 e)
        exact ⟨⟨c1.same (nb rb c7.2.2.2.1 c1.lt), c2, c2'⟩, ⟨Nat.lt_of_lt_of_le c3 g2.size, fun j e hj => (World.cell?_of_block (nb lb c7.2.1 c3)).trans (c4 j e hj)⟩, c5.same (nb cb c7.2.2.2.2.1 c5.lt), ⟨f1, f2, f3, f4, fun k hk => Nat.lt_of_lt_of_le (f5 k hk) g2.size⟩, c7⟩
      have hchg : Chg F w (W1.setCell ⟨ab, i, none⟩ (.slice Aa an.length ca)) := (Chg.of_grown g1 (F := F) fun g e => by injection e with e; rw [← e]; exact h.2.2.2.1.2.2.1).trans (Chg.of_grown g2 (F := F) fun g e => by injection e with e; rw [← e]; exact h.2.2.2.1.2.2.2.1) fun k hk => .inl hk
      have hchg2 : Chg (Cs cb ab) w (W1.setCell ⟨ab, i, none⟩ (.slice Aa an.length ca)) := (Chg.of_grown g1 (F := Cs cb ab) fun g e => by injection e with e; exact .inl e.symm).trans (Chg.of_grown g2 (F := Cs cb ab) fun g e => by injection e with e; exact .inr e.symm) fun k hk => .inl hk
      have HK := Lib.hid (And.intro hcore2 (And.intro (show ∃ ps', Ans F _ (l.set i (nd, true, an)) ps' cb ab from ⟨_, hlay⟩) (And.intro hchg hchg2)))
      have HW1 := Lib.hid hW1
      clear hcore g1 hans hv1 g2 hlay hcore2 hchg hchg2 hW1
      go_upto_region 5 with fail
      rw [HW1.out]
      clear x0 x1 x2 x3 y0 y1 hzz z0
      go_wp2_with fail
      go_ret
      exact ⟨rfl, HK.out⟩
    · have hq := count_was (a := an) hnd he
      rw [hc] at hq
      injection hq.symm with q1 q2
      subst q1 q2
      have HK : Hid (Core T F w rb need l n lb cl cb ab x ∧ (∃ ps', Ans F w l ps' cb ab) ∧ Chg F w w ∧ Chg (Cs cb ab) w w) := Lib.hid ⟨h, ⟨ps, ha⟩, Chg.refl _ _, Chg.refl _ _⟩
      go_wp2_with fail
      go_ret
      exact ⟨rfl, HK.out⟩
set_option maxRecDepth 100000 in
set_option maxHeartbeats 1000000 in
theorem countW_fine {T : TypeId} {F : Nat → Prop} {w : World} {rb n lb cl cb ab : Nat} {need : Int} {l : List En} {x : List Value} (h : Core T F w rb need l n lb cl cb ab x) (hnd : (l.map Prod.fst).Nodup) (node : Int) {b : Bool} {l' : List En} (hc : countF l node [] = (b, l')) :
    Calls Try.prog 36 #[hd rb, .int .i64 node, .agg #[]] w (fun e w' => e = .returned (.bool b) ∧ Hid (Core T F w' rb need l' n lb cl cb ab x ∧ Chg F w w' ∧ Chg (Cs cb cb) w w')) := by
  have hn8 : n ≤ 8 := h.1.2.2.2
  have HX := Lib.hid (index_any (some ⟨lb, 0, none⟩) cl n (l.map Prod.fst) (by rw [List.length_map]; exact h.len) node (w.alloc (.cells #[] 38)) (h.below ((Below.refl _ w).alloc (Nat.le_refl _) _)).ns (by omega))
  obtain ⟨x0, x1, x2, x3⟩ := h.head
  have hB := h.below (w' := w.alloc (.cells #[] 38)) ((Below.refl _ w).alloc (Nat.le_refl _) _)
  obtain ⟨x0, x1, x2, x3⟩ := hB.head
  have hchg0 : Chg F w (w.alloc (.cells #[] 38)) := Chg.of_below ((Below.refl _ w).alloc (Nat.le_refl _) _)
  have hchg1 : Chg (Cs cb cb) w (w.alloc (.cells #[] 38)) := Chg.of_below ((Below.refl _ w).alloc (Nat.le_refl _) _)
  go_enter Try.func36, Try.ntmps36
  skip
  go_wp2_with fail
  refine HX.out.mono ?_
  rintro e w1 ⟨⟨rfl, hno⟩ | ⟨i, rfl, hi⟩, rfl⟩
  · have hq := count_no (l := l) (node := node) (a := []) (fun e he e1 => hno (by rw [← e1]; exact List.mem_map_of_mem he))
    rw [hc] at hq
    injection hq.symm with q1 q2
    subst q1 q2
    have HK : Hid (Core T F (w.alloc (.cells #[] 38)) rb need l n lb cl cb ab x ∧ Chg F w (w.alloc (.cells #[] 38)) ∧ Chg (Cs cb cb) w (w.alloc (.cells #[] 38))) := Lib.hid ⟨hB, hchg0, hchg1⟩
    go_wp2_with fail
    go_ret
    exact ⟨rfl, HK.out⟩
  · rw [List.getElem?_map] at hi
    obtain ⟨⟨nd, bo, an0⟩, he, rfl⟩ := Option.map_eq_some_iff.1 hi
    simp only at hc hnd ⊢
    obtain ⟨y0, y1⟩ := hB.at he
    simp only at y0 y1
    have hin : i < n := by rw [← h.len]; exact (List.getElem?_eq_some_iff.1 he).1
    have d1 : (0 : Int) ≤ (i : Int) := by omega
    have d2 : (i : Int) < (n : Int) := by omega
    have d3 : ¬ (i : Int) < 0 := by omega
    cases bo
    · have hq := count_yes (a := []) hnd he
      rw [hc] at hq
      injection hq.symm with q1 q2
      subst q1 q2
      have hcore := hB.mark he []
      have g1 := gset (w.alloc (.cells #[] 38)) cb i (.bool true)
      have z0 := hB.2.2.1.frozen i
      have hchg : Chg F w ((w.alloc (.cells #[] 38)).setCell ⟨cb, i, none⟩ (.bool true)) := hchg0.trans (Chg.of_grown g1 (F := F) fun g e => by injection e with e; rw [← e]; exact h.2.2.2.1.2.2.1) fun k hk => .inl hk
      have hchg2 : Chg (Cs cb cb) w ((w.alloc (.cells #[] 38)).setCell ⟨cb, i, none⟩ (.bool true)) := hchg1.trans (Chg.of_grown g1 (F := Cs cb cb) fun g e => by injection e with e; exact .inl e.symm) fun k hk => .inl hk
      obtain ⟨v0', v1', v2', v3'⟩ := hcore.head
      have HK := Lib.hid (And.intro hcore (And.intro hchg hchg2))
      obtain ⟨W1, hW1⟩ : ∃ W, (w.alloc (.cells #[] 38)).setCell ⟨cb, i, none⟩ (.bool true) = W := ⟨_, rfl⟩
      rw [hW1] at HK v0' v1' v2' v3'
      have HW1 := Lib.hid hW1
      clear hcore g1 hchg hchg2 hW1
      go_upto_region 5 with fail
      rw [HW1.out]
      clear x0 x1 x2 x3 y0 y1 z0
      have HKD : Hid (Core T F W1.drew rb need (l.set i (nd, true, [])) n lb cl cb ab x ∧ Chg F w W1.drew ∧ Chg (Cs cb cb) w W1.drew) := Lib.hid (by
        have hd : Below W1.heap.size W1 W1.drew := (Below.refl _ W1).drew
        exact ⟨HK.out.1.below hd, HK.out.2.1.trans (Chg.of_below (F := F) hd) fun k hk => .inl hk, HK.out.2.2.trans (Chg.of_below (F := Cs cb cb) hd) fun k hk => .inl hk⟩)
      clear HK
      go_region_law (fail)
      all_goals
        go_wp2_with fail
        go_ret
        exact ⟨rfl, HKD.out⟩
    · have hq := count_was (a := []) hnd he
      rw [hc] at hq
      injection hq.symm with q1 q2
      subst q1 q2
      have HK : Hid (Core T F (w.alloc (.cells #[] 38)) rb need l n lb cl cb ab x ∧ Chg F w (w.alloc (.cells #[] 38)) ∧ Chg (Cs cb cb) w (w.alloc (.cells #[] 38))) := Lib.hid ⟨hB, hchg0, hchg1⟩
      go_wp2_with fail
      go_ret
      exact ⟨rfl, HK.out⟩
set_option maxRecDepth 100000 in
set_option maxHeartbeats 1000000 in
theorem ack_fine {T : TypeId} {F : Nat → Prop} {w : World} {rb n lb cl cb ab : Nat} {need : Int} {l : List En} {x : List Value} (h : Core T F w rb need l n lb cl cb ab x) (hnd : (l.map Prod.fst).Nodup) (node : Int) {b : Bool} {l' : List En} (hc : countF l node [] = (b, l')) :
    Calls Try.prog 11 #[hd rb, .int .i64 node] w (fun e w' => e = .returned (.bool b) ∧ Hid (Core T F w' rb need l' n lb cl cb ab x ∧ Chg F w w' ∧ Chg (Cs cb cb) w w')) := by
  have HC := Lib.hid (countW_fine h hnd node hc)
  clear h hnd hc
  go_enter Try.func11, Try.ntmps11
  go_wp2_with fail
  refine HC.out.mono ?_
  rintro e w1 ⟨rfl, h1⟩
  go_wp2_with fail
  go_ret
  exact ⟨rfl, h1⟩
set_option maxRecDepth 100000 in
set_option maxHeartbeats 1000000 in
theorem got_fine {T : TypeId} {F : Nat → Prop} {w : World} {rb n lb cl cb ab : Nat} {need : Int} {l : List En} {x : List Value} {ps : List Plc} (h : Core T F w rb need l n lb cl cb ab x) (ha : Ans F w l ps cb ab) (hnd : (l.map Prod.fst).Nodup) (node : Int) (Aa : Option Addr) (ca m : Nat) (an : List Vr) (hm : an.length = m) (hbig : m ≤ 140737488355328) (hv : Vs w 0 w.heap.size Aa an) {b : Bool} {l' : List En} (hc : gotF l node an = (b, l')) :
    Calls Try.prog 19 #[hd rb, .int .i64 node, .slice Aa m ca] w (fun e w' => e = .returned (.bool b) ∧ Hid (∃ F' ps', Core T F' w' rb need l' n lb cl cb ab x ∧ Ans F' w' l' ps' cb ab ∧ Stp F w F' w' ∧ Chg (Cs cb ab) w w')) := by
  have HRI := Lib.hid (rightV_any Aa ca m an hm w.drew hv hbig)
  by_cases hr : RightV an
  · rw [decide_eq_true hr] at HRI
    unfold gotF at hc
    rw [if_pos hr] at hc
    have hm4 : m ≤ 512 := by rw [← hm]; exact hr.1
    have HCO : Hid (∀ V, Below w.heap.size w V → Calls Try.prog 41 #[.slice Aa m ca] V (NewV an m V)) := Lib.hid fun V hV => fresh_any Aa ca m an hm (by omega) (fun v hv => by have := right_past hr v hv; omega) V ((hv.below hV).more hV.size)
    have HCN : Hid (∀ V V' A1 c1, Below w.heap.size w V → NewV an m V (.returned (.slice A1 m c1)) V' → Calls Try.prog 40 #[hd rb, .int .i64 node, .slice A1 m c1] V' (fun e w' => e = .returned (.bool b) ∧ Hid (∃ F' ps', Core T F' w' rb need l' n lb cl cb ab x ∧ Ans F' w' l' ps' cb ab ∧ Stp F w F' w' ∧ Chg (Cs cb ab) w w'))) := Lib.hid fun V V' A1 c1 hV hn => by
      obtain ⟨A1', c1', he, h2, b2⟩ := hn
      injection he with he
      injection he with he1 _ he2
      subst he1 he2
      have hV' : Below w.heap.size w V' := hV.trans (b2.mono hV.size)
      have hs := hV.size
      have hs2 := b2.size
      have hF' : ∀ k, (F k ∨ (V.heap.size ≤ k ∧ k < V'.heap.size)) → k < V'.heap.size := fun k hk => hk.elim (fun h1 => Nat.lt_of_lt_of_le (h.lt k h1) hV'.size) fun h1 => h1.2
      have hcore := (h.below hV').wide (F' := fun k => F k ∨ (V.heap.size ≤ k ∧ k < V'.heap.size)) (fun _ h1 => .inl h1) hF'
      have hans := (ha.below hV').wide (F' := fun k => F k ∨ (V.heap.size ≤ k ∧ k < V'.heap.size)) fun _ h1 => .inl h1
      have hcb := h.lt cb h.2.2.2.1.2.2.1
      have hab := h.lt ab h.2.2.2.1.2.2.2.1
      refine (countR_fine hcore hans hnd node A1 c1 m an hm h2.out.2 (by omega) h2.out.1 (Nat.le_refl _) (fun k q1 q2 => ⟨.inr ⟨q1, q2⟩, by omega, by omega⟩) hc).mono fun e w' ⟨g1, g2⟩ => ⟨g1, Lib.hid ?_⟩
      obtain ⟨k1, ⟨ps', k2⟩, k3, k4⟩ := g2.out
      refine ⟨_, ps', k1, k2, ⟨(Chg.of_below (F := F) hV').trans k3 fun k hk => ?_, fun k hk => ?_⟩, (Chg.of_below (F := Cs cb ab) hV').trans k4 fun k hk => .inl hk⟩
      · exact hk.elim .inl fun h1 => .inr (by omega)
      · exact hk.elim .inl fun h1 => .inr (by omega)
    have hcf1 : ∀ (a : Array Value) (w : World), (callFunc 39 a).run Try.prog w = .ok (.enter 39 a) w := fun a w => by simp [go_sem]
    have hcf2 : ∀ (a : Array Value) (w : World), (callFunc 41 a).run Try.prog w = .ok (.enter 41 a) w := fun a w => by simp [go_sem]
    have hcf3 : ∀ (a : Array Value) (w : World), (callFunc 40 a).run Try.prog w = .ok (.enter 40 a) w := fun a w => by simp [go_sem]
    have hwd : Below w.heap.size w w.drew := (Below.refl _ w).drew
    clear h ha hnd hm hv hc hr
    go_enter Try.func19, Try.ntmps19
    go_wp2_with fail
    go_region_held3 (fun _ => True) (first | trivial)
      (first
        | (go_at_call 39; refine HRI.out.mono ?_; rintro e w1 ⟨rfl, b1⟩; have hb1 := hwd.trans (b1.mono hwd.size); have HC1 := Lib.hid (HCO.out w1 hb1))
        | (go_at_call 41; refine HC1.out.mono ?_; rintro e w2 ⟨A1, c1, rfl, h2, b2⟩; have HC2 := Lib.hid (HCN.out w1 w2 A1 c1 hb1 ⟨A1, c1, rfl, h2, b2⟩))
        | (go_at_call 40; refine HC2.out.mono ?_; rintro e w3 ⟨rfl, h3⟩))
    all_goals
      have HE := h3
      clear h3 h2 b2 b1 hb1 HC1 HC2 HRI
      go_wp2_with fail
      go_ret
      exact ⟨rfl, HE⟩
  · rw [decide_eq_false hr] at HRI
    unfold gotF at hc
    rw [if_neg hr] at hc
    injection hc with e1 e2
    subst e1 e2
    have hwd : Below w.heap.size w w.drew := (Below.refl _ w).drew
    have HK : Hid (∀ V, Below w.heap.size w V → ∃ F' ps', Core T F' V rb need l n lb cl cb ab x ∧ Ans F' V l ps' cb ab ∧ Stp F w F' V ∧ Chg (Cs cb ab) w V) := Lib.hid fun V hV => ⟨F, ps, h.below hV, ha.below hV, Stp.of_below hV, Chg.of_below hV⟩
    clear h ha hnd hm hv hr
    go_enter Try.func19, Try.ntmps19
    go_wp2_with fail
    refine wp_region_held_drew (S := fun _ => True) (by kernel_rfl) trivial (fun hHeld => ?_)
    refine wpAnyH_take (i := 0) (oi := { dst := some 7, op := Op.move (Operand.tmp 2), type := 47, pos := "quorum.go:104", after := #[], guard := none }) (v := ?vg1) rfl (by kernel_rfl) (by kernel_rfl) (by kernel_rfl) (fun _ _ _ h => h) (Or.inl ⟨by rfl, ?hyg1⟩) (by assumption) ?restg1
    case hyg1 =>
      intro w hSw
      (try dsimp only at hSw)
      go_simp
      (try with_reducible rfl)
    (try simp only [Act.put, List.setIfInBounds_toArray, List.set_cons_zero, List.set_cons_succ])
    refine wpAnyH_ready (rs := [1]) (by kernel_rfl) (by simp) ?_
    refine AllReadyH.cons (o := { dst := some 8, op := Op.call { callee := Callee.value (Operand.func 39), args := #[Operand.tmp 7], argTypes := #[47] }, type := 4, pos := "quorum.go:104", after := #[{ on := 0, ground := Ground.data }], guard := none }) rfl (fun K hK => ?_) AllReadyH.nil
    go_simp
    (go_at_call 39; refine HRI.out.mono ?_; rintro e w1 ⟨rfl, b1⟩)
    go_wp2_with fail
    refine hK.out _ _ trivial (fun hHeld => ?_)
    clear hK K
    (try simp only [Act.put, List.setIfInBounds_toArray, List.set_cons_zero, List.set_cons_succ])
    refine wpAnyH_take (i := 2) (oi := { dst := some 9, op := Op.move (Operand.tmp 8), type := 4, pos := "quorum.go:104", after := #[{ on := 1, ground := Ground.data }, { on := 1, ground := Ground.chain }], guard := none }) (v := ?vg2) rfl (by kernel_rfl) (by kernel_rfl) (by kernel_rfl) (fun _ _ _ h => h) (Or.inl ⟨by rfl, ?hyg2⟩) (by assumption) ?restg2
    case hyg2 =>
      intro w hSw
      (try dsimp only at hSw)
      go_simp
      (try with_reducible rfl)
    (try simp only [Act.put, List.setIfInBounds_toArray, List.set_cons_zero, List.set_cons_succ])
    refine wpAnyH_take (i := 3) (oi := { dst := some 10, op := Op.move (Operand.tmp 0), type := 43, pos := "quorum.go:104", after := #[{ on := 2, ground := Ground.guard }], guard := some (2, true) }) (v := undef) rfl (by kernel_rfl) (by kernel_rfl) (by kernel_rfl) (fun _ _ _ h => h) (Or.inr ⟨by rfl, rfl⟩) (by assumption) ?_
    (try simp only [Act.put, List.setIfInBounds_toArray, List.set_cons_zero, List.set_cons_succ])
    refine wpAnyH_take (i := 4) (oi := { dst := some 11, op := Op.nilCheck (Operand.tmp 10), type := 0, pos := "quorum.go:104", after := #[{ on := 3, ground := Ground.data }, { on := 2, ground := Ground.guard }], guard := some (2, true) }) (v := undef) rfl (by kernel_rfl) (by kernel_rfl) (by kernel_rfl) (fun _ _ _ h => h) (Or.inr ⟨by rfl, rfl⟩) (by assumption) ?_
    (try simp only [Act.put, List.setIfInBounds_toArray, List.set_cons_zero, List.set_cons_succ])
    refine wpAnyH_take (i := 5) (oi := { dst := some 12, op := Op.fieldAddr 55 (Operand.tmp 11) 0, type := 0, pos := "quorum.go:104", after := #[{ on := 4, ground := Ground.data }, { on := 2, ground := Ground.guard }], guard := some (2, true) }) (v := undef) rfl (by kernel_rfl) (by kernel_rfl) (by kernel_rfl) (fun _ _ _ h => h) (Or.inr ⟨by rfl, rfl⟩) (by assumption) ?_
    (try simp only [Act.put, List.setIfInBounds_toArray, List.set_cons_zero, List.set_cons_succ])
    refine wpAnyH_take (i := 6) (oi := { dst := some 13, op := Op.move (Operand.tmp 1), type := 3, pos := "quorum.go:104", after := #[{ on := 2, ground := Ground.guard }], guard := some (2, true) }) (v := undef) rfl (by kernel_rfl) (by kernel_rfl) (by kernel_rfl) (fun _ _ _ h => h) (Or.inr ⟨by rfl, rfl⟩) (by assumption) ?_
    (try simp only [Act.put, List.setIfInBounds_toArray, List.set_cons_zero, List.set_cons_succ])
    refine wpAnyH_take (i := 7) (oi := { dst := some 14, op := Op.move (Operand.tmp 2), type := 47, pos := "quorum.go:104", after := #[{ on := 2, ground := Ground.guard }], guard := some (2, true) }) (v := undef) rfl (by kernel_rfl) (by kernel_rfl) (by kernel_rfl) (fun _ _ _ h => h) (Or.inr ⟨by rfl, rfl⟩) (by assumption) ?_
    (try simp only [Act.put, List.setIfInBounds_toArray, List.set_cons_zero, List.set_cons_succ])
    refine wpAnyH_take (i := 8) (oi := { dst := some 15, op := Op.call { callee := Callee.value (Operand.func 41), args := #[Operand.tmp 14], argTypes := #[47] }, type := 47, pos := "quorum.go:104", after := #[{ on := 7, ground := Ground.data }, { on := 2, ground := Ground.chain }, { on := 2, ground := Ground.guard }], guard := some (2, true) }) (v := undef) rfl (by kernel_rfl) (by kernel_rfl) (by kernel_rfl) (fun _ _ _ h => h) (Or.inr ⟨by rfl, rfl⟩) (by assumption) ?_
    (try simp only [Act.put, List.setIfInBounds_toArray, List.set_cons_zero, List.set_cons_succ])
    refine wpAnyH_take (i := 9) (oi := { dst := some 16, op := Op.call { callee := Callee.value (Operand.func 40), args := #[Operand.tmp 12, Operand.tmp 13, Operand.tmp 15], argTypes := #[53, 3, 47] }, type := 4, pos := "quorum.go:104", after := #[{ on := 5, ground := Ground.data }, { on := 6, ground := Ground.data }, { on := 8, ground := Ground.data }, { on := 8, ground := Ground.chain }, { on := 2, ground := Ground.guard }], guard := some (2, true) }) (v := undef) rfl (by kernel_rfl) (by kernel_rfl) (by kernel_rfl) (fun _ _ _ h => h) (Or.inr ⟨by rfl, rfl⟩) (by assumption) ?_
    (try simp only [Act.put, List.setIfInBounds_toArray, List.set_cons_zero, List.set_cons_succ])
    refine wpAnyH_take (i := 10) (oi := { dst := some 17, op := Op.pick (Operand.tmp 9) (Operand.tmp 16) (Operand.const (Value.bool false)), type := 4, pos := "quorum.go:104", after := #[{ on := 2, ground := Ground.data }, { on := 9, ground := Ground.data }], guard := none }) (v := ?vg10) rfl (by kernel_rfl) (by kernel_rfl) (by kernel_rfl) (fun _ _ _ h => h) (Or.inl ⟨by rfl, ?hyg10⟩) (by assumption) ?restg10
    case hyg10 =>
      intro w hSw
      (try dsimp only at hSw)
      go_simp
      (try with_reducible rfl)
    (try simp only [Act.put, List.setIfInBounds_toArray, List.set_cons_zero, List.set_cons_succ])
    refine wpAnyH_take (i := 11) (oi := { dst := some 6, op := Op.assign (Operand.tmp 17), type := 4, pos := "quorum.go:104", after := #[{ on := 10, ground := Ground.data }, { on := 9, ground := Ground.chain }, { on := 0, ground := Ground.phase }, { on := 1, ground := Ground.phase }, { on := 2, ground := Ground.phase }, { on := 3, ground := Ground.phase }, { on := 4, ground := Ground.phase }, { on := 5, ground := Ground.phase }, { on := 6, ground := Ground.phase }, { on := 7, ground := Ground.phase }, { on := 8, ground := Ground.phase }, { on := 9, ground := Ground.phase }, { on := 10, ground := Ground.phase }], guard := none }) (v := ?vg11) rfl (by kernel_rfl) (by kernel_rfl) (by kernel_rfl) (fun _ _ _ h => h) (Or.inl ⟨by rfl, ?hyg11⟩) (by assumption) ?restg11
    case hyg11 =>
      intro w hSw
      (try dsimp only at hSw)
      go_simp
      (try with_reducible rfl)
    (try simp only [Act.put, List.setIfInBounds_toArray, List.set_cons_zero, List.set_cons_succ])
    refine wpAnyH_done (by kernel_rfl) ?_ _
    have HE := Lib.hid (HK.out w1 (hwd.trans (b1.mono hwd.size)))
    clear b1 HRI
    go_wp2_with fail
    go_ret
    exact ⟨rfl, HE.out⟩
end Quorum
end Go.Proofs.Ytbhidndgnldheaa

/-
  What counting leaves: versions, wherever they lie (layer 16).
-/
namespace Go.Proofs.Ytbhidndgnldheaa
namespace Quorum
open Go.RowKit Vers Span Blk
/-- Versions stay, wherever they lie. -/
def Stay (w w' : World) : Prop := w.heap.size ≤ w'.heap.size ∧ ∀ A l, Vs w 0 w.heap.size A l → Vs w' 0 w'.heap.size A l
theorem Stay.refl (w : World) : Stay w w := ⟨Nat.le_refl _, fun _ _ h => h⟩
theorem Stay.trans {w w' w'' : World} (h : Stay w w') (h' : Stay w' w'') : Stay w w'' := ⟨Nat.le_trans h.1 h'.1, fun A l hv => h'.2 A l (h.2 A l hv)⟩
theorem Stay.below {w w' : World} (h : Below w.heap.size w w') : Stay w w' := ⟨h.size, fun _ _ hv => (hv.below h).more h.size⟩
theorem stay_of {w w' : World} {G : Nat → Prop} (hc : Chg G w w') (hG : ∀ k, G k → ∀ off z, w.cell? ⟨k, off, none⟩ ≠ some (.int .i64 z)) : Stay w w' := ⟨hc.size, fun A l hv hp => by
  obtain ⟨b, off, e, hL, hB, hat⟩ := hv hp
  have hb : ∀ k off z, k < w.heap.size → w.cell? ⟨k, off, none⟩ = some (.int .i64 z) → w'.heap[k]? = w.heap[k]? := fun k off z hk hz => hc.block k hk fun hg => hG k hg off z hz
  refine ⟨b, off, e, hL, Nat.lt_of_lt_of_le hB hc.size, fun j hj => ?_⟩
  obtain ⟨A', c', x0, x1, x2, x3, x4, hs, h1, h2, h3, h4⟩ := hat j hj
  have hbb := hb b _ _ hB x0
  refine ⟨A', c', (World.cell?_of_block hbb).trans x0, (World.cell?_of_block hbb).trans x1, (World.cell?_of_block hbb).trans x2, (World.cell?_of_block hbb).trans x3, (World.cell?_of_block hbb).trans x4, fun hp' => ?_, h1, h2, h3, h4⟩
  obtain ⟨b', off', e', hB', hat'⟩ := hs hp'
  have hbb' := hb b' _ _ hB' (hat' 0 hp').1
  exact ⟨b', off', e', Nat.lt_of_lt_of_le hB' hc.size, fun i hi => ⟨(World.cell?_of_block hbb').trans (hat' i hi).1, (World.cell?_of_block hbb').trans (hat' i hi).2.1, (World.cell?_of_block hbb').trans (hat' i hi).2.2⟩⟩⟩
theorem bools_no {w : World} {g : Nat} {t : TypeId} {l : List En} (h : Bn g t (l.map fun e => .bool e.2.1) w) (off : Nat) (z : Int) : w.cell? ⟨g, off, none⟩ ≠ some (.int .i64 z) := fun e => by
  rw [h.cell off, List.getElem?_map] at e
  obtain ⟨x, _, hx⟩ := Option.map_eq_some_iff.1 e
  cases hx
theorem slices_no {α : Type} {w : World} {g : Nat} {t : TypeId} {l : List α} {A : α → Option Addr} {n c : α → Nat} (h : Bn g t (l.map fun e => .slice (A e) (n e) (c e)) w) (off : Nat) (z : Int) : w.cell? ⟨g, off, none⟩ ≠ some (.int .i64 z) := fun e => by
  rw [h.cell off, List.getElem?_map] at e
  obtain ⟨x, _, hx⟩ := Option.map_eq_some_iff.1 e
  cases hx
section
variable {X : Nat → Prop} {w W : World} {n : Nat} {q1 : Prop} {T1 : TypeId} {r1 : Nat} {m1 : Int} {l1 : List En} {q2 : Prop} {T2 : TypeId} {r2 : Nat} {m2 : Int} {l2 : List En}
theorem Pr.newX {F1 F2 : Nat → Prop} {V : World} {s1 : Nat} (h1 : Side q1 T1 F1 V r1 m1 l1 n) (hf1 : ∀ k, F1 k → s1 ≤ k) (hs : w.heap.size ≤ s1) (hsV : s1 ≤ V.heap.size) (hb : Below w.heap.size w V) (h2 : Side q2 T2 F2 W r2 m2 l2 n) (hf2 : ∀ k, F2 k → V.heap.size ≤ k) (hb2 : Below V.heap.size V W) : Pr (fun k => k < s1) w n q1 T1 r1 m1 l1 q2 T2 r2 m2 l2 W :=
  ⟨F1, F2, h1.keep hb2.size fun k hk => hb2.block k (h1.lt k hk), h2, fun k hk => ⟨Nat.le_trans hs (hf1 k hk), fun h => by have := hf2 k h; have := h1.lt k hk; omega⟩, fun k hk => Nat.le_trans hb.size (hf2 k hk), hb.trans (hb2.mono hb.size), fun k hk => ⟨by have := hb2.size; omega, fun h => by have := hf1 k h; omega, fun h => by have := hf2 k h; omega⟩⟩
theorem Pr.ackS (h : Pr X w n False T1 r1 m1 l1 q2 T2 r2 m2 l2 W) (node : Int) {b : Bool} {l' : List En} (hc : countF l1 node [] = (b, l')) :
    Calls Try.prog 11 #[hd r1, .int .i64 node] W (fun e w' => e = .returned (.bool b) ∧ Hid (Pr X w n False T1 r1 m1 l' q2 T2 r2 m2 l2 w' ∧ Kept X W w' ∧ Stay W w')) := by
  obtain ⟨F1, ⟨⟨lb, cl, cb, ab, x, hC, _⟩, hnd⟩, _, hstep⟩ := h.one
  refine (ack_fine hC hnd node hc).mono ?_
  rintro e w' ⟨he, hh⟩
  obtain ⟨h1, h2⟩ := hstep F1 w' l' ⟨⟨lb, cl, cb, ab, x, hh.out.1, False.elim⟩, by rw [count_fst hc]; exact hnd⟩ ⟨hh.out.2.1, fun _ h => .inl h⟩
  exact ⟨he, Lib.hid ⟨h1, h2, stay_of hh.out.2.2 fun k hk => by
    rcases hk with rfl | rfl
    · exact bools_no hC.2.2.1
    · exact bools_no hC.2.2.1⟩⟩
theorem Pr.gotS (h : Pr X w n True T1 r1 m1 l1 q2 T2 r2 m2 l2 W) (node : Int) (Aa : Option Addr) (ca m : Nat) (an : List Vr) (hm : an.length = m) (hbig : m ≤ 140737488351328) (hv : Vs W 0 W.heap.size Aa an) {b : Bool} {l' : List En} (hc : gotF l1 node an = (b, l')) :
    Calls Try.prog 19 #[hd r1, .int .i64 node, .slice Aa m ca] W (fun e w' => e = .returned (.bool b) ∧ Hid (Pr X w n True T1 r1 m1 l' q2 T2 r2 m2 l2 w' ∧ Kept X W w' ∧ Stay W w')) := by
  obtain ⟨F1, ⟨⟨lb, cl, cb, ab, x, hC, ha⟩, hnd⟩, _, hstep⟩ := h.one
  obtain ⟨ps, hA⟩ := ha trivial
  refine (got_fine hC hA hnd node Aa ca m an hm (by omega) hv hc).mono ?_
  rintro e w' ⟨he, hh⟩
  obtain ⟨F', ps', h1, h2, h3, h4⟩ := hh.out
  obtain ⟨g1, g2⟩ := hstep F' w' l' ⟨⟨lb, cl, cb, ab, x, h1, fun _ => ⟨ps', h2⟩⟩, by rw [got_fst hc]; exact hnd⟩ h3
  exact ⟨he, Lib.hid ⟨g1, g2, stay_of h4 fun k hk => by
    rcases hk with rfl | rfl
    · exact bools_no hC.2.2.1
    · exact slices_no (A := fun e : En × Plc => e.2.1) (n := fun e : En × Plc => e.1.2.2.length) (c := fun e : En × Plc => e.2.2) hA.2.1⟩⟩
end
/-- Rows of versions held in an array. -/
abbrev Hl := List (List Vr × Plc)
def hlc (hl : Hl) : List Value := hl.map fun e => .slice e.2.1 e.1.length e.2.2
def Held (hb : Nat) (hl : Hl) (V : World) : Prop := hl.length = 9 ∧ Bn hb 71 (hlc hl) V ∧ ∀ e ∈ hl, Vs V 0 V.heap.size e.2.1 e.1 ∧ e.1.length ≤ e.2.2 ∧ RightV e.1
theorem Held.at {hb : Nat} {hl : Hl} {V : World} (h : Held hb hl V) {j : Nat} (hj : j < 9) : ∃ e, hl[j]? = some e ∧ V.cell? ⟨hb, j, none⟩ = some (.slice e.2.1 e.1.length e.2.2) ∧ Vs V 0 V.heap.size e.2.1 e.1 ∧ e.1.length ≤ e.2.2 ∧ RightV e.1 := by
  obtain ⟨e, he⟩ : ∃ e, hl[j]? = some e := ⟨hl[j]'(by have := h.1; omega), by simp⟩
  refine ⟨e, he, ?_, h.2.2 e (List.mem_of_getElem? he)⟩
  rw [h.2.1.cell j]
  unfold hlc
  rw [List.getElem?_map, he]
  rfl
theorem Held.stay {hb : Nat} {hl : Hl} {V V' : World} (h : Held hb hl V) (hs : Stay V V') (hk : V'.heap[hb]? = V.heap[hb]?) : Held hb hl V' := ⟨h.1, h.2.1.same hk, fun e he => ⟨hs.2 _ _ (h.2.2 e he).1, (h.2.2 e he).2⟩⟩
theorem Held.below {hb : Nat} {hl : Hl} {V V' : World} (h : Held hb hl V) (hb' : Below V.heap.size V V') : Held hb hl V' := h.stay (Stay.below hb') (hb'.block hb h.2.1.lt)
theorem Held.set {hb : Nat} {hl : Hl} {V : World} (h : Held hb hl V) (j : Nat) (A : Option Addr) (c : Nat) (l : List Vr) (hv : Vs V 0 V.heap.size A l) (hc : l.length ≤ c) (hr : RightV l) : Held hb (hl.set j (l, (A, c))) (V.setCell ⟨hb, j, none⟩ (.slice A l.length c)) ∧ Stay V (V.setCell ⟨hb, j, none⟩ (.slice A l.length c)) := by
  have hst : Stay V (V.setCell ⟨hb, j, none⟩ (.slice A l.length c)) := stay_of (Chg.of_grown (gset V hb j (.slice A l.length c)) (F := fun k => k = hb) fun g e => by injection e with e; exact e.symm) fun k hk => by
    subst hk
    exact slices_no (A := fun e : List Vr × Plc => e.2.1) (n := fun e : List Vr × Plc => e.1.length) (c := fun e : List Vr × Plc => e.2.2) h.2.1
  refine ⟨⟨by rw [List.length_set]; exact h.1, ?_, fun e he => ?_⟩, hst⟩
  · have h1 := h.2.1.set j (.slice A l.length c)
    unfold hlc at h1 ⊢
    rwa [← List.map_set (f := fun e : List Vr × Plc => Value.slice e.2.1 e.1.length e.2.2) (a := (l, (A, c)))] at h1
  · rcases List.mem_or_eq_of_mem_set he with h1 | h1
    · exact ⟨hst.2 _ _ (h.2.2 e h1).1, (h.2.2 e h1).2⟩
    · subst h1
      exact ⟨hst.2 _ _ hv, hc, hr⟩
end Quorum
end Go.Proofs.Ytbhidndgnldheaa

/-
  What so many nodes have taken is told by so many others, in the plain (layer 16).
-/
namespace Go.Proofs.Ytbhidndgnldheaa
namespace Quorum
open Go.RowKit Vers Blk
open Span hiding behind
theorem behind_one (x : Vr) (s n : Int) : behind [x] s n ↔ mem x.past s n := by simp [behind]
/-- Versions such as writes make them. -/
def OkU (U : List Vr) : Prop := (∀ x ∈ U, okV x) ∧ wrF U = true
theorem OkU.plain {U : List Vr} (h : OkU U) : plainF U := fun x hx y hy => by
  have h1 := List.all_eq_true.1 (List.all_eq_true.1 h.2 x hx) y hy
  unfold wrP at h1
  rw [Bool.and_eq_true] at h1
  refine ⟨fun hm => ?_, fun hs => ?_⟩
  · have h2 := h1.2
    rw [decide_eq_true ((behind_one x y.s y.n).2 hm)] at h2
    simp only [Bool.not_true, Bool.false_or, Bool.and_eq_true, Bool.not_eq_true', decide_eq_false_iff_not] at h2
    refine ⟨within_yes (h.1 y hy).2.1 (h.1 x hx).2.1 fun z hz => ?_, fun hn => h2.1 ((behind_one y x.s x.n).2 hn)⟩
    obtain ⟨q, hq, h4⟩ := List.any_eq_true.1 (List.all_eq_true.1 h2.2 z hz)
    unfold Quorum.inOne at h4
    simp only [Bool.and_eq_true, beq_iff_eq, decide_eq_true_eq] at h4
    exact ⟨q, hq, h4.1.symm, h4.2.1, h4.2.2⟩
  · have h2 := h1.1
    rw [show (x.s == y.s) = true by simpa using hs.1, show (x.n == y.n) = true by simpa using hs.2] at h2
    simpa using h2
theorem OkU.plain3 {U : List Vr} (h : OkU U) : plainF (U ++ [] ++ []) := by simpa using h.plain
theorem len_sub : ∀ {l U : List Vr}, l.Nodup → (∀ x ∈ l, x ∈ U) → l.length ≤ U.length
  | [], _, _, _ => by simp
  | x :: l, U, hn, h => by
    rw [List.nodup_cons] at hn
    have hx := h x (by simp)
    have h1 := len_sub (l := l) (U := U.erase x) hn.2 fun y hy => (List.mem_erase_of_ne (fun (e : y = x) => hn.1 (e ▸ hy))).2 (h y (by simp [hy]))
    rw [List.length_erase_of_mem hx] at h1
    have := List.length_pos_of_mem hx
    simp only [List.length_cons]
    omega
theorem rising_nodup {l : List Vr} (h : l.Pairwise dlt) : l.Nodup := List.Pairwise.imp (S := fun a b : Vr => a ≠ b) (fun {a b} hab (e : a = b) => dlt_irrefl hab ⟨by rw [e], by rw [e]⟩) h
section
variable {U : List Vr} (hU : OkU U)
include hU
theorem no_twin {a b : List Vr} (ha : ∀ x ∈ a, x ∈ U) (hb : ∀ x ∈ b, x ∈ U) : ¬ Vers.Twin a b := plain_notwin hU.plain3 (fun x hx => .inl (ha x hx)) fun x hx => .inl (hb x hx)
theorem stay_behind {a b r : List Vr} (ha : ∀ x ∈ a, x ∈ U) (hb : ∀ x ∈ b, x ∈ U) (ra : RightV a) (rb : RightV b) (hr : IsStay a b r) (s n : Int) : behind r s n ↔ behind a s n ∨ behind b s n :=
  behind_stay hU.plain3 (fun x hx => .inl (ha x hx)) (fun x hx => .inl (hb x hx)) ra rb hr s n
theorem merge_in {a b : List Vr} (hl : U.length ≤ 512) (ha : ∀ x ∈ a, x ∈ U) (hb : ∀ x ∈ b, x ∈ U) (ra : RightV a) (rb : RightV b) : mergeF a b = (stayF a b, 0) ∧ IsStay a b (stayF a b) := by
  have ht := no_twin hU ha hb
  have hs := stay_is ra rb ht
  refine ⟨merge_ok ra rb ht ?_, hs⟩
  have := len_sub (rising_nodup hs.1) fun x hx => by
    rcases ((hs.2 x).1 hx).1 with h | h
    · exact ha x h
    · exact hb x h
  omega
end
/-- What stays of all that was told. -/
def Mx (T r : List Vr) : Prop := RightV r ∧ (∀ x, x ∈ r ↔ x ∈ T ∧ ¬ behind T x.s x.n) ∧ ∀ s n, behind r s n ↔ behind T s n
theorem mx_nil : Mx [] [] := ⟨right_none, by simp, by simp [behind]⟩
theorem mx_step {U T r a : List Vr} (hU : OkU U) (hl : U.length ≤ 512) (hT : ∀ x ∈ T, x ∈ U) (ha : ∀ x ∈ a, x ∈ U) (ra : RightV a) (h : Mx T r) : Mx (T ++ a) (mrg r a) := by
  have hr : ∀ x ∈ r, x ∈ U := fun x hx => hT x ((h.2.1 x).1 hx).1
  obtain ⟨hm, hs⟩ := merge_in hU hl hr ha h.1 ra
  have hq := merge_right hm
  have hb := stay_behind hU hr ha h.1 ra hs
  have e : mrg r a = stayF r a := by
    unfold mrg
    rw [hm]
    rfl
  rw [e]
  refine ⟨hq.2.2.2.2, fun x => ?_, fun s n => ?_⟩
  · rw [hs.2 x, behind_append, List.mem_append, h.2.2]
    constructor
    · rintro ⟨hx, h1, h2⟩
      exact ⟨hx.elim (fun hx => .inl ((h.2.1 x).1 hx).1) .inr, fun hh => hh.elim h1 h2⟩
    · rintro ⟨hx, h1⟩
      exact ⟨hx.elim (fun hx => .inl ((h.2.1 x).2 ⟨hx, fun hh => h1 (.inl hh)⟩)) .inr, fun hh => h1 (.inl hh), fun hh => h1 (.inr hh)⟩
  · rw [hb, behind_append, h.2.2]
/-- All that was told. -/
def tellF (l : List En) : List Vr := l.flatMap fun e => if e.2.1 = true then e.2.2 else []
theorem tell_snoc (l : List En) (e : En) : tellF (l ++ [e]) = tellF l ++ if e.2.1 = true then e.2.2 else [] := by simp [tellF]
theorem tell_mem {l : List En} {e : En} (he : e ∈ l) (hb : e.2.1 = true) : ∀ x ∈ e.2.2, x ∈ tellF l := fun x hx => List.mem_flatMap.2 ⟨e, he, by rw [if_pos hb]; exact hx⟩
theorem vers_mx {U : List Vr} (hU : OkU U) (hl : U.length ≤ 512) (l : List En) : (∀ e ∈ l, e.2.1 = true → RightV e.2.2 ∧ ∀ x ∈ e.2.2, x ∈ U) → Mx (tellF l) (versF l) := by
  induction l using snoc_induct with
  | h0 => exact fun _ => mx_nil
  | h1 l e ih =>
    intro h
    have h1 := ih fun e he hb => h e (by simp [he]) hb
    rw [tell_snoc, vers_snoc]
    by_cases hb : e.2.1 = true
    · rw [if_pos hb, if_pos hb]
      obtain ⟨h2, h3⟩ := h e (by simp) hb
      refine mx_step hU hl (fun x hx => ?_) h3 h2 h1
      obtain ⟨e', he', hx⟩ := List.mem_flatMap.1 hx
      by_cases hb' : e'.2.1 = true
      · rw [if_pos hb'] at hx
        exact (h e' (by simp [he']) hb').2 x hx
      · rw [if_neg hb'] at hx
        simp at hx
    · rw [if_neg hb, if_neg hb, List.append_nil]
      exact h1
/-- Who has told lacks nothing behind what comes of all. -/
theorem merge_told {U T G H : List Vr} (hU : OkU U) (hl : U.length ≤ 512) (hT : ∀ x ∈ T, x ∈ U) (hG : Mx T G) (hH : RightV H) (hs : ∀ x ∈ H, x ∈ T) : mergeF H G = (G, 0) := by
  obtain ⟨hm, hst⟩ := merge_in hU hl (fun x hx => hT x (hs x hx)) (fun x hx => hT x ((hG.2.1 x).1 hx).1) hH hG.1
  have hb : ∀ s n, behind H s n → behind T s n := fun s n ⟨v, hv, hh⟩ => ⟨v, hs v hv, hh⟩
  have e : G = stayF H G := stay_one hH hG.1 (no_twin hU (fun x hx => hT x (hs x hx)) fun x hx => hT x ((hG.2.1 x).1 hx).1) ⟨hG.1.2.1.2, fun x => by
    constructor
    · intro hx
      have h1 := (hG.2.1 x).1 hx
      exact ⟨.inr hx, fun hh => h1.2 (hb _ _ hh), fun hh => h1.2 ((hG.2.2 _ _).1 hh)⟩
    · rintro ⟨hx, _, h2⟩
      rcases hx with hx | hx
      · exact (hG.2.1 x).2 ⟨hs x hx, fun hh => h2 ((hG.2.2 _ _).2 hh)⟩
      · exact hx⟩
  rw [hm, ← e]
theorem lacks_told {H G : List Vr} (h : mergeF H G = (G, 0)) : lacksF H G = !decide (H = G) := by
  unfold lacksF
  rw [h]
  by_cases e : H = G
  · simp [e]
  · simp [e, show ¬ G = H from fun q => e q.symm]
/-- A node has taken a version, or what came behind it. -/
def Tk (v : Vr) (H : List Vr) : Prop := v ∈ H ∨ behind H v.s v.n
theorem took_step {U H H' : List Vr} {v : Vr} (hU : OkU U) (hH : RightV H) (hs : ∀ x ∈ H, x ∈ U) (hv : v ∈ U) (hm : mergeF H [v] = (H', 0)) : RightV H' ∧ (∀ x ∈ H', x ∈ U) ∧ Tk v H' := by
  obtain ⟨_, hr, ht, he, hR⟩ := merge_right hm
  have hst := stay_is hH hr ht
  rw [← he] at hst
  have hvs : ∀ x ∈ [v], x ∈ U := fun x hx => by rw [List.mem_singleton.1 hx]; exact hv
  refine ⟨hR, fun x hx => ?_, ?_⟩
  · rcases ((hst.2 x).1 hx).1 with h | h
    · exact hs x h
    · exact hvs x h
  · by_cases hb : behind H v.s v.n
    · exact .inr ((stay_behind hU hs hvs hH hr hst _ _).2 (.inl hb))
    · exact .inl ((hst.2 v).2 ⟨.inr (by simp), hb, hr.2.2 v (by simp)⟩)
theorem told_has {T G H : List Vr} {v : Vr} (hG : Mx T G) (hs : ∀ x ∈ H, x ∈ T) (h : Tk v H) : behind G v.s v.n ∨ v ∈ G := by
  by_cases hb : behind T v.s v.n
  · exact .inl ((hG.2.2 _ _).2 hb)
  · rcases h with h | ⟨u, hu, hh⟩
    · exact .inr ((hG.2.1 v).2 ⟨hs v h, hb⟩)
    · exact absurd ⟨u, hs u hu, hh⟩ hb
theorem count_mem {l : List En} {node : Int} {a : List Vr} {b : Bool} {l' : List En} (hc : countF l node a = (b, l')) {e : En} (he : e ∈ l') : e ∈ l ∨ e = (node, true, a) := by
  unfold countF at hc
  split at hc
  · injection hc with _ hc
    rw [← hc] at he
    rcases List.mem_or_eq_of_mem_set he with h | h
    · exact .inl h
    · exact .inr h
  · injection hc with _ hc
    rw [← hc] at he
    exact .inl he
theorem got_mem {l : List En} {node : Int} {a : List Vr} {b : Bool} {l' : List En} (hc : gotF l node a = (b, l')) {e : En} (he : e ∈ l') : e ∈ l ∨ e = (node, true, a) := by
  unfold gotF at hc
  split at hc
  · exact count_mem hc he
  · injection hc with _ hc
    rw [← hc] at he
    exact .inl he
theorem waits_mem {l : List En} {x : Int} : x ∈ waitsF l ↔ ∃ e ∈ l, e.2.1 = false ∧ e.1 = x := by
  unfold waitsF
  rw [List.mem_map]
  simp only [List.mem_filter, Bool.not_eq_true']
  constructor
  · rintro ⟨e, ⟨h1, h2⟩, h3⟩
    exact ⟨e, h1, h2, h3⟩
  · rintro ⟨e, h1, h2, h3⟩
    exact ⟨e, ⟨h1, h2⟩, h3⟩
theorem behind_mem {l : List En} {G : List Vr} {x : Int} : x ∈ behindF l G ↔ ∃ e ∈ l, e.2.1 = true ∧ lacksF e.2.2 G = true ∧ e.1 = x := by
  unfold behindF
  rw [List.mem_map]
  simp only [List.mem_filter, Bool.and_eq_true]
  constructor
  · rintro ⟨e, ⟨h1, h2, h3⟩, h4⟩
    exact ⟨e, h1, h2, h3, h4⟩
  · rintro ⟨e, h1, h2, h3, h4⟩
    exact ⟨e, ⟨h1, h2, h3⟩, h4⟩
theorem waits_count (l : List En) : (waitsF l).length + (l.filter fun e => e.2.1).length = l.length := by
  induction l with
  | nil => rfl
  | cons e l ih =>
    unfold waitsF at *
    rw [List.length_map] at *
    rcases e with ⟨x, b, a⟩
    cases b <;> simp only [List.filter_cons, Bool.not_false, Bool.not_true, if_true, Bool.false_eq_true, if_false, List.length_cons] <;> omega
theorem both_in : ∀ (l m : List En), l.map Prod.fst = m.map Prod.fst → l.length < (l.filter fun e => e.2.1).length + (m.filter fun e => e.2.1).length → ∃ e ∈ l, ∃ f ∈ m, e.1 = f.1 ∧ e.2.1 = true ∧ f.2.1 = true
  | [], [], _, h => by simp at h
  | [], _ :: _, h, _ => by simp at h
  | _ :: _, [], h, _ => by simp at h
  | e :: l, f :: m, h, hl => by
    simp only [List.map_cons, List.cons.injEq] at h
    by_cases hb : e.2.1 = true ∧ f.2.1 = true
    · exact ⟨e, by simp, f, by simp, h.1, hb⟩
    · obtain ⟨e', he, f', hf, h1⟩ := both_in l m h.2 (by
        simp only [List.filter_cons, List.length_cons] at hl
        by_cases h1 : e.2.1 = true
        · have h2 : f.2.1 = false := by
            cases hh : f.2.1
            · rfl
            · exact absurd ⟨h1, hh⟩ hb
          rw [h1, h2] at hl
          simp only [if_true, Bool.false_eq_true, if_false, List.length_cons] at hl
          omega
        · rw [Bool.not_eq_true] at h1
          rw [h1] at hl
          simp only [Bool.false_eq_true, if_false] at hl
          split at hl
          · simp only [List.length_cons] at hl
            omega
          · omega)
      exact ⟨e', by simp [he], f', by simp [hf], h1⟩
theorem done_both {l m : List En} {n : Nat} {W R : Int} (hl : l.length = n) (hf : l.map Prod.fst = m.map Prod.fst) (hW : doneF W l = true) (hR : doneF R m = true) (hs : (n : Int) < W + R) : ∃ e ∈ l, ∃ f ∈ m, e.1 = f.1 ∧ e.2.1 = true ∧ f.2.1 = true := by
  have h1 := of_decide_eq_true hW
  have h2 := of_decide_eq_true hR
  have h3 := waits_count l
  have h4 := waits_count m
  have h5 := len_fst hf
  exact both_in l m hf (by omega)
/-- The nodes 1 to N. -/
def nodes (N : Nat) : List Int := (List.range N).map fun i => ((i + 1 : Nat) : Int)
theorem nodes_snoc (N : Nat) : nodes (N + 1) = nodes N ++ [((N + 1 : Nat) : Int)] := by
  unfold nodes
  rw [List.range_succ, List.map_append]
  rfl
theorem nodes_len (N : Nat) : (nodes N).length = N := by simp [nodes]
theorem nodes_mem {N : Nat} {x : Int} : x ∈ nodes N ↔ 1 ≤ x ∧ x ≤ N := by
  unfold nodes
  rw [List.mem_map]
  constructor
  · rintro ⟨i, hi, rfl⟩
    have := List.mem_range.1 hi
    omega
  · rintro ⟨h1, h2⟩
    exact ⟨x.toNat - 1, List.mem_range.2 (by omega), by omega⟩
theorem nodes_nodup (N : Nat) : (nodes N).Nodup := by
  induction N with
  | zero => simp [nodes]
  | succ N ih =>
    rw [nodes_snoc, nodup_snoc]
    refine ⟨ih, fun h => ?_⟩
    have := (nodes_mem.1 h).2
    omega
theorem nodes_ok {N : Nat} {W : Int} (h8 : N ≤ 8) (h1 : 1 ≤ W) (h2 : W ≤ N) : okL (nodes N) W := ⟨⟨by rw [nodes_len]; exact h8, h1, by rw [nodes_len]; exact h2⟩, fun x hx => by have := nodes_mem.1 hx; omega, nodes_nodup N⟩
end Quorum
end Go.Proofs.Ytbhidndgnldheaa

/-
  A meeting, and lists of versions, among a law's arguments (layer 16).
-/
namespace Go.Proofs.Ytbhidndgnldheaa
namespace Quorum
open Go.ChangeShapes Go.WideShapes Go.ChangeAt Go.RowKit Go.Joins Go.Deep Vers Span Blk
theorem trod_struct5 {H : Type} {enc : TypeId × Value → H} {P : Program} {w : World} {base : Nat} {spare : Nat → Bool} {held : Bool} {t : TypeId} {f0 f1 f2 f3 f4 : Field} {fuel : Nat} {cs : List Value} {x : DataW H × List MemPlace} (ht : P.underlying t = some (.struct #[f0, f1, f2, f3, f4])) (h : DataW.trod enc P w base spare held fuel t cs = some x) :
    ∃ y0 y1 y2 y3 y4 n, x.1 = .agg [y0.1, y1.1, y2.1, y3.1, y4.1] ∧ cs.length = P.cellsOf t ∧ DataW.trod enc P w base spare held n f0.type ((cs.drop f0.offset).take (P.cellsOf f0.type)) = some y0 ∧ DataW.trod enc P w base spare held n f1.type ((cs.drop f1.offset).take (P.cellsOf f1.type)) = some y1 ∧ DataW.trod enc P w base spare held n f2.type ((cs.drop f2.offset).take (P.cellsOf f2.type)) = some y2 ∧ DataW.trod enc P w base spare held n f3.type ((cs.drop f3.offset).take (P.cellsOf f3.type)) = some y3 ∧ DataW.trod enc P w base spare held n f4.type ((cs.drop f4.offset).take (P.cellsOf f4.type)) = some y4 := by
  obtain ⟨xs, n, _, rfl, hl, hlen, hf⟩ := DataW.trod_struct ht h
  match xs, hlen with
  | [y0, y1, y2, y3, y4], _ => exact ⟨y0, y1, y2, y3, y4, n, by simp, hl, by simpa using hf 0 f0 rfl, by simpa using hf 1 f1 rfl, by simpa using hf 2 f2 rfl, by simpa using hf 3 f3 rfl, by simpa using hf 4 f4 rfl⟩
theorem cells_meet : Try.prog.cellsOf 64 = 5 := by kernel_rfl
theorem cells_is : Try.prog.cellsOf 22 = 1 := by kernel_rfl
theorem bytes_is : Try.prog.bytesOf 3 = 8 := by kernel_rfl
theorem bytes_vs : Try.prog.bytesOf 47 = 24 := by kernel_rfl
section
variable {H : Type} {enc : TypeId × Value → H} {W : World}
/-- Numbers by their cell. -/
theorem is_cell {n : Nat} {cs : List Value} {D : DataW H} {Pl : List MemPlace} (h : DataW.trod enc Try.prog W 0 (fun _ => true) true n 22 cs = some (D, Pl)) (hw : Wgt.Wt Try.prog 22 D) :
    ∃ (A : Option Addr) (c : Nat) (l : List Int), cs = [.slice A l.length c] ∧ Ns .i64 W W.heap.size A l ∧ l.length * 8 ≤ 140737488351232 := by
  obtain ⟨A, c, l, rfl, h1, h2, h3, h4⟩ := Wgt.slice_at Try.underlying22 h hw cells_int bytes_is (by omega) (fun x => [.int .i64 x]) (fun _ => True) 0 (fun _ => rfl) (fun n cs D Pl h hw => by
    obtain ⟨s, e0, _, w0⟩ := DataW.trod_int Try.underlying3 h
    exact ⟨s, e0, trivial⟩)
  refine ⟨A, c, l, rfl, fun h0 => ?_, h2⟩
  obtain ⟨b, off, e, hbl, hat⟩ := h4 h0
  exact ⟨b, off, e, hbl, fun j hj => by have := hat j hj 0 _ rfl; simpa using this⟩
set_option maxRecDepth 100000 in
theorem meet_at {n : Nat} {cs : List Value} {D : DataW H} {Pl : List MemPlace} (h : DataW.trod enc Try.prog W 0 (fun _ => true) true n 64 cs = some (D, Pl)) (hw : Wgt.Wt Try.prog 64 D) :
    ∃ (N X R : Int) (A : Option Addr) (c : Nat) (l : List Int) (A' : Option Addr) (c' : Nat) (l' : List Int), cs = [.int .i64 N, .int .i64 X, .int .i64 R, .slice A l.length c, .slice A' l'.length c'] ∧ Ns .i64 W W.heap.size A l ∧ Ns .i64 W W.heap.size A' l' ∧ l.length * 8 ≤ 140737488351232 ∧ l'.length * 8 ≤ 140737488351232 := by
  obtain ⟨y0, y1, y2, y3, y4, m, hx, hl, h0, h1, h2, h3, h4⟩ := trod_struct5 Try.underlying64 h
  rw [cells_meet] at hl
  match cs, hl with
  | [q0, q1, q2, q3, q4], _ =>
    simp only [cells_int, cells_is, List.drop_zero, List.take_succ_cons, List.take_zero, List.drop_succ_cons] at h0 h1 h2 h3 h4
    obtain ⟨f0, e0, _, _⟩ := DataW.trod_int Try.underlying3 h0
    obtain ⟨f1, e1, _, _⟩ := DataW.trod_int Try.underlying3 h1
    obtain ⟨f2, e2, _, _⟩ := DataW.trod_int Try.underlying3 h2
    have hxx : D = _ := hx
    have hww := Wgt.wt_struct Try.underlying64 (hxx ▸ hw)
    obtain ⟨A, c, l, e3, v1, v2⟩ := is_cell (D := y3.1) (Pl := y3.2) h3 (hww 3 22 y3.1 rfl rfl)
    obtain ⟨A', c', l', e4, i1, i2⟩ := is_cell (D := y4.1) (Pl := y4.2) h4 (hww 4 22 y4.1 rfl rfl)
    simp only [List.cons.injEq, and_true] at e0 e1 e2 e3 e4
    subst e0 e1 e2 e3 e4
    exact ⟨f0, f1, f2, A, c, l, A', c', l', rfl, v1, i1, v2, i2⟩
set_option maxRecDepth 100000 in
theorem arg_meet {v : Value} {d : DataW H} {p : List MemPlace} {r : Reach} {b0 : Nat} (hv : Value.okWide Try.prog W r b0 64 v) (h : DataW.Trod enc Try.prog W 0 (fun _ => true) true 64 v d p) (hw : Wgt.Wt Try.prog 64 d) :
    ∃ (N X R : Int) (A : Option Addr) (c : Nat) (l : List Int) (A' : Option Addr) (c' : Nat) (l' : List Int), v = .agg #[.int .i64 N, .int .i64 X, .int .i64 R, .slice A l.length c, .slice A' l'.length c'] ∧ Ns .i64 W W.heap.size A l ∧ Ns .i64 W W.heap.size A' l' ∧ l.length * 8 ≤ 140737488351232 ∧ l'.length * 8 ≤ 140737488351232 := by
  obtain ⟨cs, rfl, hsz⟩ := okWide_struct Try.underlying64 hv
  obtain ⟨fuel, hf⟩ := h
  obtain ⟨N, X, R, A, c, l, A', c', l', hcs, rest⟩ := meet_at hf hw
  refine ⟨N, X, R, A, c, l, A', c', l', ?_, rest⟩
  congr 1
  rw [← Array.toList_inj]
  simpa [Value.cells] using hcs
/-- Lists of versions, read from the address A on. -/
def Vss (w : World) (A : Option Addr) (l : Hl) : Prop :=
  (0 < l.length → ∃ b off, A = some ⟨b, off, none⟩ ∧ b < w.heap.size ∧ ∀ (j : Nat) (x : List Vr × Plc), l[j]? = some x → w.cell? ⟨b, off + j, none⟩ = some (.slice x.2.1 x.1.length x.2.2)) ∧
  ∀ x ∈ l, Vs w 0 w.heap.size x.2.1 x.1 ∧ x.1.length ≤ x.2.2 ∧ x.1.length * 64 ≤ 140737488351232
set_option maxRecDepth 100000 in
theorem arg_vss {v : Value} {d : DataW H} {p : List MemPlace} {r : Reach} {b0 : Nat} (hv : Value.okWide Try.prog W r b0 51 v) (h : DataW.Trod enc Try.prog W 0 (fun _ => true) true 51 v d p) (hw : Wgt.Wt Try.prog 51 d) :
    ∃ (A : Option Addr) (c : Nat) (l : Hl), v = .slice A l.length c ∧ Vss W A l ∧ l.length ≤ c ∧ l.length * 24 ≤ 140737488351232 := by
  obtain ⟨A, c, l, rfl, hc, hb, hq, hp⟩ := Wgt.arg_slice Try.underlying51 hv h hw cells_vs bytes_vs (by omega) (fun x : List Vr × Plc => [.slice x.2.1 x.1.length x.2.2]) (fun x => Vs W 0 W.heap.size x.2.1 x.1 ∧ x.1.length ≤ x.2.2 ∧ x.1.length * 64 ≤ 140737488351232) ([], (none, 0)) (fun _ => rfl) (fun n cs D Pl h hw => by
    obtain ⟨A, c, l, e, h1⟩ := vs_cell h hw
    exact ⟨(l, (A, c)), e, h1⟩)
  refine ⟨A, c, l, rfl, ⟨fun h0 => ?_, hq⟩, hc, hb⟩
  obtain ⟨b, off, e, hbl, hat⟩ := hp h0
  refine ⟨b, off, e, hbl, fun j x hx => ?_⟩
  have hj := (List.getElem?_eq_some_iff.1 hx).1
  have hg : l.getD j ([], (none, 0)) = x := by rw [List.getD_eq_getElem?_getD, hx]; rfl
  have h1 := hat j hj 0 _ rfl
  rw [hg] at h1
  simpa using h1
end
end Quorum
end Go.Proofs.Ytbhidndgnldheaa
