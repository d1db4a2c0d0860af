/-
  Several texts of this family in one: QuorumGot, Told, ToldBound, QuorumEach, QuorumVers, QuorumBehind.
-/
import Derived.Test.YtbhidndgnldheaaG16B
import Derived.RangeFuncNested
import Derived.RangeFuncBound
import Derived.RangeFuncCalls
import Derived.RangeFuncLeaves
import Derived.Shelf.Abstract
import Derived.Shelf.RegionOpen
import Derived.WalkKit
import Derived.OwnWalkIn
import Derived.TacticsInMore
import Derived.LoopNIn
import Derived.LoopIn
import Derived.Test.YtbhidndgnldheaaVersMerge
/-
  A node answers a reading.
-/
namespace Go.Proofs.Ytbhidndgnldheaa
namespace Quorum
open Go.RowKit Vers Span Blk
attribute [local go_sem ↓] Go.wp_at_zero Go.wp_at_succ

def gotF (l : List En) (node : Int) (a : List Vr) : Bool × List En := if RightV a then countF l node a else (false, l)
theorem right_past {a : List Vr} (h : RightV a) : ∀ v ∈ a, v.past.length ≤ 1024 := fun v hv => (h.2.1.1 v hv).2.1.1
section
variable {T : TypeId} {F F' : Nat → Prop} {w w' : World} {rb n lb cl cb ab : Nat} {need : Int} {l : List En} {x : List Value} {ps : List Plc}
theorem Core.wide (h : Core T F w rb need l n lb cl cb ab x) (hF : ∀ k, F k → F' k) (hlt : ∀ k, F' k → k < w.heap.size) : Core T F' w rb need l n lb cl cb ab x := by
  obtain ⟨h1, h2, h3, ⟨f1, f2, f3, f4, _⟩, h5⟩ := h
  exact ⟨h1, h2, h3, ⟨hF _ f1, hF _ f2, hF _ f3, hF _ f4, hlt⟩, h5⟩
theorem Ans.wide (h : Ans F w l ps cb ab) (hF : ∀ k, F k → F' k) : Ans F' w l ps cb ab := by
  obtain ⟨h0, h1, h2⟩ := h
  refine ⟨h0, h1, fun j e p he hp => ?_⟩
  obtain ⟨a, b, L, B, c, d, f⟩ := h2 j e p he hp
  exact ⟨a, b, L, B, c, d, fun k q1 q2 => ⟨hF _ (f k q1 q2).1, (f k q1 q2).2⟩⟩
end
/-- Versions of the call's own. -/
def NewV (l : List Vr) (m : Nat) (w : World) (e : Ending) (w' : World) : Prop := ∃ A1 c1, e = .returned (.slice A1 m c1) ∧ Hid (Vs w' w.heap.size w'.heap.size A1 l ∧ m ≤ c1) ∧ Below w.heap.size w w'
theorem fresh_any (A : Option Addr) (c m : Nat) (l : List Vr) (hm : l.length = m) (hbig : m ≤ 1024) (hp : ∀ v ∈ l, v.past.length ≤ 4294967296) (w : World) (hv : Vs w 0 w.heap.size A l) :
    Calls Try.prog 41 #[.slice A m c] w (NewV l m w) := by
  have h := Lib.hid (list_any A c m l hm 0 w.heap.size w (Nat.le_refl _) hv hbig hp)
  have HM := Lib.hid hm
  clear hm hv
  go_enter Try.func41, Try.ntmps41
  go_wp2_with fail
  refine h.out.mono ?_
  rintro e w2 ⟨A1, c1, ps, rfl, h2, b2⟩
  rw [HM.out]
  go_wp2_with fail
  go_ret
  have h3 : m ≤ c1 := by
    have h4 := h2.out.1.1
    rw [show ps.length = l.length by rw [← h2.out.2, List.length_map]] at h4
    have h5 := (own_low h4).1
    rwa [HM.out] at h5
  refine ⟨A1, c1, rfl, Lib.hid ⟨?_, h3⟩, b2⟩
  have := h2.out.1.vs (Nat.le_refl _) (Nat.le_refl _)
  rwa [h2.out.2] at this
set_option maxRecDepth 100000 in
set_option maxHeartbeats 1000000 in
theorem got_any {T : TypeId} {F : Nat → Prop} {w : World} {rb n lb cl cb ab : Nat} {need : Int} {l : List En} {x : List Value} {ps : List Plc} (h : Core T F w rb need l n lb cl cb ab x) (ha : Ans F w l ps cb ab) (hnd : (l.map Prod.fst).Nodup) (node : Int) (Aa : Option Addr) (ca m : Nat) (an : List Vr) (hm : an.length = m) (hbig : m ≤ 140737488355328) (hv : Vs w 0 w.heap.size Aa an) {b : Bool} {l' : List En} (hc : gotF l node an = (b, l')) :
    Calls Try.prog 19 #[hd rb, .int .i64 node, .slice Aa m ca] w (fun e w' => e = .returned (.bool b) ∧ Hid (∃ F' ps', Core T F' w' rb need l' n lb cl cb ab x ∧ Ans F' w' l' ps' cb ab ∧ Stp F w F' w')) := by
  have HRI := Lib.hid (rightV_any Aa ca m an hm w.drew hv hbig)
  by_cases hr : RightV an
  · rw [decide_eq_true hr] at HRI
    unfold gotF at hc
    rw [if_pos hr] at hc
    have hm4 : m ≤ 512 := by rw [← hm]; exact hr.1
    have HCO : Hid (∀ V, Below w.heap.size w V → Calls Try.prog 41 #[.slice Aa m ca] V (NewV an m V)) := Lib.hid fun V hV => fresh_any Aa ca m an hm (by omega) (fun v hv => by have := right_past hr v hv; omega) V ((hv.below hV).more hV.size)
    have HCN : Hid (∀ V V' A1 c1, Below w.heap.size w V → NewV an m V (.returned (.slice A1 m c1)) V' → Calls Try.prog 40 #[hd rb, .int .i64 node, .slice A1 m c1] V' (fun e w' => e = .returned (.bool b) ∧ Hid (∃ F' ps', Core T F' w' rb need l' n lb cl cb ab x ∧ Ans F' w' l' ps' cb ab ∧ Stp F w F' w'))) := Lib.hid fun V V' A1 c1 hV hn => by
      obtain ⟨A1', c1', he, h2, b2⟩ := hn
      injection he with he
      injection he with he1 _ he2
      subst he1 he2
      have hV' : Below w.heap.size w V' := hV.trans (b2.mono hV.size)
      have hs := hV.size
      have hs2 := b2.size
      have hF' : ∀ k, (F k ∨ (V.heap.size ≤ k ∧ k < V'.heap.size)) → k < V'.heap.size := fun k hk => hk.elim (fun h1 => Nat.lt_of_lt_of_le (h.lt k h1) hV'.size) fun h1 => h1.2
      have hcore := (h.below hV').wide (F' := fun k => F k ∨ (V.heap.size ≤ k ∧ k < V'.heap.size)) (fun _ h1 => .inl h1) hF'
      have hans := (ha.below hV').wide (F' := fun k => F k ∨ (V.heap.size ≤ k ∧ k < V'.heap.size)) fun _ h1 => .inl h1
      have hcb := h.lt cb h.2.2.2.1.2.2.1
      have hab := h.lt ab h.2.2.2.1.2.2.2.1
      refine (countR_any hcore hans hnd node A1 c1 m an hm h2.out.2 (by omega) h2.out.1 (Nat.le_refl _) (fun k q1 q2 => ⟨.inr ⟨q1, q2⟩, by omega, by omega⟩) hc).mono fun e w' ⟨g1, g2⟩ => ⟨g1, Lib.hid ?_⟩
      obtain ⟨k1, ⟨ps', k2⟩, k3⟩ := g2.out
      refine ⟨_, ps', k1, k2, (Chg.of_below (F := F) hV').trans k3 fun k hk => ?_, fun k hk => ?_⟩
      · exact hk.elim .inl fun h1 => .inr (by omega)
      · exact hk.elim .inl fun h1 => .inr (by omega)
    have hcf1 : ∀ (a : Array Value) (w : World), (callFunc 39 a).run Try.prog w = .ok (.enter 39 a) w := fun a w => by simp [go_sem]
    have hcf2 : ∀ (a : Array Value) (w : World), (callFunc 41 a).run Try.prog w = .ok (.enter 41 a) w := fun a w => by simp [go_sem]
    have hcf3 : ∀ (a : Array Value) (w : World), (callFunc 40 a).run Try.prog w = .ok (.enter 40 a) w := fun a w => by simp [go_sem]
    have hwd : Below w.heap.size w w.drew := (Below.refl _ w).drew
    clear h ha hnd hm hv hc hr
    go_enter Try.func19, Try.ntmps19
    go_wp2_with fail
    go_region_held3 (fun _ => True) (first | trivial)
      (first
        | (go_at_call 39; refine HRI.out.mono ?_; rintro e w1 ⟨rfl, b1⟩; have hb1 := hwd.trans (b1.mono hwd.size); have HC1 := Lib.hid (HCO.out w1 hb1))
        | (go_at_call 41; refine HC1.out.mono ?_; rintro e w2 ⟨A1, c1, rfl, h2, b2⟩; have HC2 := Lib.hid (HCN.out w1 w2 A1 c1 hb1 ⟨A1, c1, rfl, h2, b2⟩))
        | (go_at_call 40; refine HC2.out.mono ?_; rintro e w3 ⟨rfl, h3⟩))
    all_goals
      have HE := h3
      clear h3 h2 b2 b1 hb1 HC1 HC2 HRI
      go_wp2_with fail
      go_ret
      exact ⟨rfl, HE⟩
  · rw [decide_eq_false hr] at HRI
    unfold gotF at hc
    rw [if_neg hr] at hc
    injection hc with e1 e2
    subst e1 e2
    have hwd : Below w.heap.size w w.drew := (Below.refl _ w).drew
    have HK : Hid (∀ V, Below w.heap.size w V → ∃ F' ps', Core T F' V rb need l n lb cl cb ab x ∧ Ans F' V l ps' cb ab ∧ Stp F w F' V) := Lib.hid fun V hV => ⟨F, ps, h.below hV, ha.below hV, Stp.of_below hV⟩
    clear h ha hnd hm hv hr
    go_enter Try.func19, Try.ntmps19
    go_wp2_with fail
    refine wp_region_held_drew (S := fun _ => True) (by kernel_rfl) trivial (fun hHeld => ?_)
    refine wpAnyH_take (i := 0) (oi := { dst := some 7, op := Op.move (Operand.tmp 2), type := 47, pos := "quorum.go:104", after := #[], guard := none }) (v := ?vg1) rfl (by kernel_rfl) (by kernel_rfl) (by kernel_rfl) (fun _ _ _ h => h) (Or.inl ⟨by rfl, ?hyg1⟩) (by assumption) ?restg1
    case hyg1 =>
      intro w hSw
      (try dsimp only at hSw)
      go_simp
      (try with_reducible rfl)
    (try simp only [Act.put, List.setIfInBounds_toArray, List.set_cons_zero, List.set_cons_succ])
    refine wpAnyH_ready (rs := [1]) (by kernel_rfl) (by simp) ?_
    refine AllReadyH.cons (o := { dst := some 8, op := Op.call { callee := Callee.value (Operand.func 39), args := #[Operand.tmp 7], argTypes := #[47] }, type := 4, pos := "quorum.go:104", after := #[{ on := 0, ground := Ground.data }], guard := none }) rfl (fun K hK => ?_) AllReadyH.nil
    go_simp
    (go_at_call 39; refine HRI.out.mono ?_; rintro e w1 ⟨rfl, b1⟩)
    go_wp2_with fail
    refine hK.out _ _ trivial (fun hHeld => ?_)
    clear hK K
    (try simp only [Act.put, List.setIfInBounds_toArray, List.set_cons_zero, List.set_cons_succ])
    refine wpAnyH_take (i := 2) (oi := { dst := some 9, op := Op.move (Operand.tmp 8), type := 4, pos := "quorum.go:104", after := #[{ on := 1, ground := Ground.data }, { on := 1, ground := Ground.chain }], guard := none }) (v := ?vg2) rfl (by kernel_rfl) (by kernel_rfl) (by kernel_rfl) (fun _ _ _ h => h) (Or.inl ⟨by rfl, ?hyg2⟩) (by assumption) ?restg2
    case hyg2 =>
      intro w hSw
      (try dsimp only at hSw)
      go_simp
      (try with_reducible rfl)
    (try simp only [Act.put, List.setIfInBounds_toArray, List.set_cons_zero, List.set_cons_succ])
    refine wpAnyH_take (i := 3) (oi := { dst := some 10, op := Op.move (Operand.tmp 0), type := 43, pos := "quorum.go:104", after := #[{ on := 2, ground := Ground.guard }], guard := some (2, true) }) (v := undef) rfl (by kernel_rfl) (by kernel_rfl) (by kernel_rfl) (fun _ _ _ h => h) (Or.inr ⟨by rfl, rfl⟩) (by assumption) ?_
    (try simp only [Act.put, List.setIfInBounds_toArray, List.set_cons_zero, List.set_cons_succ])
    refine wpAnyH_take (i := 4) (oi := { dst := some 11, op := Op.nilCheck (Operand.tmp 10), type := 0, pos := "quorum.go:104", after := #[{ on := 3, ground := Ground.data }, { on := 2, ground := Ground.guard }], guard := some (2, true) }) (v := undef) rfl (by kernel_rfl) (by kernel_rfl) (by kernel_rfl) (fun _ _ _ h => h) (Or.inr ⟨by rfl, rfl⟩) (by assumption) ?_
    (try simp only [Act.put, List.setIfInBounds_toArray, List.set_cons_zero, List.set_cons_succ])
    refine wpAnyH_take (i := 5) (oi := { dst := some 12, op := Op.fieldAddr 55 (Operand.tmp 11) 0, type := 0, pos := "quorum.go:104", after := #[{ on := 4, ground := Ground.data }, { on := 2, ground := Ground.guard }], guard := some (2, true) }) (v := undef) rfl (by kernel_rfl) (by kernel_rfl) (by kernel_rfl) (fun _ _ _ h => h) (Or.inr ⟨by rfl, rfl⟩) (by assumption) ?_
    (try simp only [Act.put, List.setIfInBounds_toArray, List.set_cons_zero, List.set_cons_succ])
    refine wpAnyH_take (i := 6) (oi := { dst := some 13, op := Op.move (Operand.tmp 1), type := 3, pos := "quorum.go:104", after := #[{ on := 2, ground := Ground.guard }], guard := some (2, true) }) (v := undef) rfl (by kernel_rfl) (by kernel_rfl) (by kernel_rfl) (fun _ _ _ h => h) (Or.inr ⟨by rfl, rfl⟩) (by assumption) ?_
    (try simp only [Act.put, List.setIfInBounds_toArray, List.set_cons_zero, List.set_cons_succ])
    refine wpAnyH_take (i := 7) (oi := { dst := some 14, op := Op.move (Operand.tmp 2), type := 47, pos := "quorum.go:104", after := #[{ on := 2, ground := Ground.guard }], guard := some (2, true) }) (v := undef) rfl (by kernel_rfl) (by kernel_rfl) (by kernel_rfl) (fun _ _ _ h => h) (Or.inr ⟨by rfl, rfl⟩) (by assumption) ?_
    (try simp only [Act.put, List.setIfInBounds_toArray, List.set_cons_zero, List.set_cons_succ])
    refine wpAnyH_take (i := 8) (oi := { dst := some 15, op := Op.call { callee := Callee.value (Operand.func 41), args := #[Operand.tmp 14], argTypes := #[47] }, type := 47, pos := "quorum.go:104", after := #[{ on := 7, ground := Ground.data }, { on := 2, ground := Ground.chain }, { on := 2, ground := Ground.guard }], guard := some (2, true) }) (v := undef) rfl (by kernel_rfl) (by kernel_rfl) (by kernel_rfl) (fun _ _ _ h => h) (Or.inr ⟨by rfl, rfl⟩) (by assumption) ?_
    (try simp only [Act.put, List.setIfInBounds_toArray, List.set_cons_zero, List.set_cons_succ])
    refine wpAnyH_take (i := 9) (oi := { dst := some 16, op := Op.call { callee := Callee.value (Operand.func 40), args := #[Operand.tmp 12, Operand.tmp 13, Operand.tmp 15], argTypes := #[53, 3, 47] }, type := 4, pos := "quorum.go:104", after := #[{ on := 5, ground := Ground.data }, { on := 6, ground := Ground.data }, { on := 8, ground := Ground.data }, { on := 8, ground := Ground.chain }, { on := 2, ground := Ground.guard }], guard := some (2, true) }) (v := undef) rfl (by kernel_rfl) (by kernel_rfl) (by kernel_rfl) (fun _ _ _ h => h) (Or.inr ⟨by rfl, rfl⟩) (by assumption) ?_
    (try simp only [Act.put, List.setIfInBounds_toArray, List.set_cons_zero, List.set_cons_succ])
    refine wpAnyH_take (i := 10) (oi := { dst := some 17, op := Op.pick (Operand.tmp 9) (Operand.tmp 16) (Operand.const (Value.bool false)), type := 4, pos := "quorum.go:104", after := #[{ on := 2, ground := Ground.data }, { on := 9, ground := Ground.data }], guard := none }) (v := ?vg10) rfl (by kernel_rfl) (by kernel_rfl) (by kernel_rfl) (fun _ _ _ h => h) (Or.inl ⟨by rfl, ?hyg10⟩) (by assumption) ?restg10
    case hyg10 =>
      intro w hSw
      (try dsimp only at hSw)
      go_simp
      (try with_reducible rfl)
    (try simp only [Act.put, List.setIfInBounds_toArray, List.set_cons_zero, List.set_cons_succ])
    refine wpAnyH_take (i := 11) (oi := { dst := some 6, op := Op.assign (Operand.tmp 17), type := 4, pos := "quorum.go:104", after := #[{ on := 10, ground := Ground.data }, { on := 9, ground := Ground.chain }, { on := 0, ground := Ground.phase }, { on := 1, ground := Ground.phase }, { on := 2, ground := Ground.phase }, { on := 3, ground := Ground.phase }, { on := 4, ground := Ground.phase }, { on := 5, ground := Ground.phase }, { on := 6, ground := Ground.phase }, { on := 7, ground := Ground.phase }, { on := 8, ground := Ground.phase }, { on := 9, ground := Ground.phase }, { on := 10, ground := Ground.phase }], guard := none }) (v := ?vg11) rfl (by kernel_rfl) (by kernel_rfl) (by kernel_rfl) (fun _ _ _ h => h) (Or.inl ⟨by rfl, ?hyg11⟩) (by assumption) ?restg11
    case hyg11 =>
      intro w hSw
      (try dsimp only at hSw)
      go_simp
      (try with_reducible rfl)
    (try simp only [Act.put, List.setIfInBounds_toArray, List.set_cons_zero, List.set_cons_succ])
    refine wpAnyH_done (by kernel_rfl) ?_ _
    have HE := Lib.hid (HK.out w1 (hwd.trans (b1.mono hwd.size)))
    clear b1 HRI
    go_wp2_with fail
    go_ret
    exact ⟨rfl, HE.out⟩
end Quorum
end Go.Proofs.Ytbhidndgnldheaa

/-
  A range over a function whose rounds are told, beside what is told, what holds of it in the world of the telling (new memory of the iterator's, say).
-/
namespace Go.Proofs.Ytbhidndgnldheaa
namespace Rounds
open Go.RowKit
variable {F : Fence} {n : Nat} {P : Program}

/-- The two blocks that a loop lays lie as they lay. -/
structure Held (D : Nat) (X Y : World) : Prop where
  size : X.heap.size ≤ Y.heap.size
  one : Y.heap[D]? = X.heap[D]?
  two : Y.heap[D + 1]? = X.heap[D + 1]?

theorem Held.refl (D : Nat) (X : World) : Held D X X := ⟨Nat.le_refl _, rfl, rfl⟩
theorem Held.trans {D : Nat} {X Y Z : World} (h : Held D X Y) (k : Held D Y Z) : Held D X Z := ⟨Nat.le_trans h.size k.size, k.one.trans h.one, k.two.trans h.two⟩
theorem Held.below {D B : Nat} {X Y : World} (h : Below B X Y) (hB : D + 1 < B) : Held D X Y := ⟨h.size, h.block _ (by omega), h.block _ hB⟩
theorem Held.grown {D : Nat} {X Y : World} {row : Option Nat} (h : X.grownBy Y row) (hD : D + 1 < X.heap.size) (hr : ∀ k, row = some k → k ≠ D ∧ k ≠ D + 1) : Held D X Y :=
  ⟨h.size, h.block _ (by omega) (fun e => (hr _ e.symm).1 rfl), h.block _ hD (fun e => (hr _ e.symm).2 rfl)⟩
theorem Held.setCell {D : Nat} (X : World) (p : Addr) (v : Value) (h : p.block ≠ D) (h' : p.block ≠ D + 1) : Held D X (X.setCell p v) :=
  ⟨by simp [World.setCell], Below.heap_setCell _ _ _ _ (fun e => h e.symm), Below.heap_setCell _ _ _ _ (fun e => h' e.symm)⟩
theorem Held.alloc {D : Nat} (X : World) (o : Obj) (hD : D + 1 < X.heap.size) : Held D X (X.alloc o) :=
  ⟨by simp, Below.heap_alloc _ _ _ (by omega), Below.heap_alloc _ _ _ hD⟩

/-- How a round's body may be left. -/
def toldPost {α : Type} (D : Nat) (Kp : World → World → Prop) (I : List α → World → Prop) (Ix : Code → List α → World → Prop) (xs : List α) (W1 Wb : World) : Exit → Act → World → Prop
  | .normal, _, W => Held D Wb W ∧ I xs W ∧ ∀ o, Kp W1 (W.putObj (D + 1) o)
  | .ret, _, W => Held D Wb W ∧ Ix .ret xs W
  | .exit id, _, W => Held D Wb W ∧ Ix (.exit id) xs W
  | .goto t, _, W => Held D Wb W ∧ Ix (.goto t) xs W
  | .panic _, _, _ => False
  | .outgrown, _, _ => False

theorem range_told {α : Type} {g : Operand} {ps : Array Tmp} {assign body : Code} {Q : Exit → Act → World → Prop} {a : Act} {w : World} {D : Nat} (hD : w.heap.size = D)
    (hro : F.round = none) (h1 : 1 ≤ n) {gf : Nat} {lb : Array Value} (hg : a.eval g = .func (.func gf) #[] lb) (hFg : F.fn gf) (eg : ∀ args w, (callFunc gf args).run P w = .ok (.enter gf args) w)
    (encs : α → Array Value) (hps : ∀ x, (encs x).size = ps.size) (T : List α → World → α → World → Prop) (hT : ∀ pre W0 x W1, T pre W0 x W1 → Below W0.heap.size W0 W1) (Kp : World → World → Prop)
    (I : List α → World → Prop) (Ix : Code → List α → World → Prop) (hI : ∀ xs W o, I xs W → I xs (W.putObj (D + 1) o)) (hIx : ∀ c xs W o, Ix c xs W → Ix c xs (W.putObj (D + 1) o)) (Ej Ex : List α → Prop)
    (hseq : ∀ (J Jx : List α → World → Prop) (W : World), Below D w W → W.heap.size = D + 2 → J [] W →
      (∀ pre x W0 W1, T pre W0 x W1 → J pre W0 → YieldAt F (n - 1 - 1) P (D + 1) (encs x) W1 fun e W' => (e = .returned (.bool true) ∧ J (pre ++ [x]) W' ∧ Kp W1 W') ∨ (e = .returned (.bool false) ∧ Jx (pre ++ [x]) W')) →
      CallsIn F (n - 1) P gf (#[.func (.yield (D + 1)) #[] #[]] ++ lb) W fun e W' => (∃ v, e = .returned v) ∧ ((∃ xs, Ej xs ∧ J xs W') ∨ (∃ xs, Ex xs ∧ Jx xs W')))
    (h0 : ∀ W, Below D w W → W.heap.size = D + 2 → I [] W)
    (hround : ∀ pre x W0 W1, D + 2 ≤ W0.heap.size → I pre W0 → T pre W0 x W1 → assign.wpIn (F.inRound (D + 1)) (n - 1 - 1) P
      (Exit.then (fun a' Wa => Held D W1 Wa ∧ ∀ o, body.wpIn (F.inRound (D + 1)) (n - 1 - 1) P (toldPost D Kp I Ix (pre ++ [x]) W1 (Wa.putObj (D + 1) o)) a' (Wa.putObj (D + 1) o)) (fun _ _ _ => False))
      { tmps := (ps.zip (encs x)).foldl (fun t (p, v) => t.setIfInBounds p v) a.tmps, defers := [] } W1)
    (hdone : ∀ xs W, Ej xs → I xs W → W.heap[D]? = some (.deferred (some [])) → Q .normal { a with defers := { target := .collected D, args := #[] } :: a.defers } W)
    (hstop : ∀ c xs W, Ex xs → Ix c xs W → W.heap[D]? = some (.deferred (some [])) → c.wpIn F n P Q { a with defers := { target := .collected D, args := #[] } :: a.defers } W) :
    (Code.rangeFunc g ps assign body).wpIn F n P Q a w := by
  subst hD
  refine wpIn_rangeFunc fun fn hfn => ?_
  rw [hro]
  obtain ⟨rec, hrec⟩ : ∃ rec : LoopState → Option Code → Loop, rec = fun st pe => { state := st, pending := pe, fn, tmps := a.tmps, params := ps, assign, body, defers := w.heap.size } := ⟨_, rfl⟩
  obtain ⟨Wl, hWl⟩ : ∃ Wl, (w.alloc (.deferred (some []))).alloc (.loop (rec .ready none)) = Wl := ⟨_, rfl⟩
  have two : Wl.heap[w.heap.size + 1]? = some (.loop (rec .ready none)) := by
    rw [← hWl]; simpa using World.alloc_heap_new (w.alloc (.deferred (some []))) (.loop (rec .ready none))
  have one : Wl.heap[w.heap.size]? = some (.deferred (some [])) := by
    rw [← hWl, Below.heap_alloc _ _ _ (by simp), World.alloc_heap_new]
  have bel : Below w.heap.size w Wl := by
    rw [← hWl]; exact ((Below.refl _ w).alloc (Nat.le_refl _) _).alloc (by simp) _
  have siz : Wl.heap.size = w.heap.size + 2 := by rw [← hWl]; simp
  refine ⟨w.heap.size + 1, [{ target := .collected w.heap.size, args := #[] }], Wl, { target := .fn (.func gf) lb, args := #[.func (.yield (w.heap.size + 1)) #[] #[]] }, Wl, gf,
    #[.func (.yield (w.heap.size + 1)) #[] #[]] ++ lb, Wl, ?_, ?_, ?_, ?_, fun _ => h1, ?_⟩
  · rw [← hWl, hrec]; exact run_enterLoop_outer _ _ _ _ _
  · simp only [resolve, hg]
    simp [go_sem]
  · intro f' hf'; simp [Target.leads] at hf'; subst hf'; exact hFg
  · simp [invoke, go_sem, eg]
  have two_lt : ∀ {W : World} {o : Obj}, W.heap[w.heap.size + 1]? = some o → w.heap.size + 1 < W.heap.size := fun h => (Array.getElem?_eq_some_iff.1 h).1
  refine (hseq (fun xs W => I xs W ∧ W.heap[w.heap.size + 1]? = some (.loop (rec .ready none)) ∧ W.heap[w.heap.size]? = some (.deferred (some [])))
    (fun xs W => ∃ c, Ix c xs W ∧ W.heap[w.heap.size + 1]? = some (.loop (rec .done (some c))) ∧ W.heap[w.heap.size]? = some (.deferred (some []))) Wl bel siz ⟨h0 _ bel siz, two, one⟩ ?_).mono ?_
  · rintro pre x W0 W1 ht ⟨hi, hl, hk⟩
    have lt0 := two_lt hl
    have h01 : Held w.heap.size W0 W1 := Held.below (hT _ _ _ _ ht) lt0
    have hl1 := h01.two.trans hl
    have hk1 := h01.one.trans hk
    have hy := run_yield (P := P) (args := encs x) hl1 (by rw [hrec]; exact hps x)
    rw [hrec] at hy
    refine ⟨fn, _, assign, body, hy, roundIn_of_wpIn hfn (wpIn_mono (hround pre x W0 W1 lt0 hi ht) ?_)⟩
    intro e a' Wa hp
    cases e with
    | normal =>
      obtain ⟨h1a, hbody⟩ := hp
      have hla := h1a.two.trans hl1
      have hka := h1a.one.trans hk1
      refine ⟨_, run_beginRound hla (by rw [hrec]), ?_⟩
      have lta := two_lt hla
      have hl2 : (Wa.putObj (w.heap.size + 1) (.loop { rec .ready none with state := .busy })).heap[w.heap.size + 1]? = some (.loop { rec .ready none with state := .busy }) := World.putObj_heap_same lta
      have hk2 : (Wa.putObj (w.heap.size + 1) (.loop { rec .ready none with state := .busy })).heap[w.heap.size]? = some (.deferred (some [])) := (World.putObj_heap_other (by omega)).trans hka
      refine wpIn_mono (hbody _) ?_
      have fin : ∀ (jump : Option Code) (W3 : World), Held w.heap.size (Wa.putObj (w.heap.size + 1) (.loop { rec .ready none with state := .busy })) W3 →
          (Instr.endRound (w.heap.size + 1) jump).run P W3 = .ok (.bool jump.isNone) (W3.putObj (w.heap.size + 1) (.loop (rec (if jump.isNone then .ready else .done) jump))) ∧
          (W3.putObj (w.heap.size + 1) (.loop (rec (if jump.isNone then .ready else .done) jump))).heap[w.heap.size + 1]? = some (.loop (rec (if jump.isNone then .ready else .done) jump)) ∧
          (W3.putObj (w.heap.size + 1) (.loop (rec (if jump.isNone then .ready else .done) jump))).heap[w.heap.size]? = some (.deferred (some [])) := fun jump W3 h3 => by
        have hl3 := h3.two.trans hl2
        have hr := run_endRound (P := P) jump hl3
        rw [hrec] at hr ⊢
        exact ⟨hr, World.putObj_heap_same (two_lt hl3), (World.putObj_heap_other (by omega)).trans (h3.one.trans hk2)⟩
      rintro e a3 W3 hp3
      cases e with
      | normal =>
        obtain ⟨h3, hi3, hkp⟩ := hp3
        obtain ⟨hr, hl4, hk4⟩ := fin none W3 h3
        exact ⟨_, _, hr, .inl ⟨rfl, ⟨hI _ _ _ hi3, hl4, hk4⟩, hkp _⟩⟩
      | ret =>
        obtain ⟨hr, hl4, hk4⟩ := fin (some .ret) W3 hp3.1
        exact ⟨_, _, hr, .inr ⟨rfl, .ret, hIx _ _ _ _ hp3.2, hl4, hk4⟩⟩
      | exit id =>
        obtain ⟨hr, hl4, hk4⟩ := fin (some (.exit id)) W3 hp3.1
        exact ⟨_, _, hr, .inr ⟨rfl, .exit id, hIx _ _ _ _ hp3.2, hl4, hk4⟩⟩
      | goto t =>
        obtain ⟨hr, hl4, hk4⟩ := fin (some (.goto t)) W3 hp3.1
        exact ⟨_, _, hr, .inr ⟨rfl, .goto t, hIx _ _ _ _ hp3.2, hl4, hk4⟩⟩
      | panic ch => exact hp3.elim
      | outgrown => exact hp3.elim
    | ret => exact hp.elim
    | exit id => exact hp.elim
    | goto t => exact hp.elim
    | panic ch => exact hp.elim
    | outgrown => exact hp.elim
  · rintro e W2 ⟨⟨v, rfl⟩, ⟨xs, hE, hi, hl, hk⟩ | ⟨xs, hE, c, hi, hl, hk⟩⟩
    · have hr := run_endLoop (P := P) hl (by rw [hrec]; simp)
      rw [hrec] at hr
      exact ⟨none, _, hr, hdone xs _ hE (hI _ _ _ hi) ((World.putObj_heap_other (by omega)).trans hk)⟩
    · have hr := run_endLoop (P := P) hl (by rw [hrec]; simp)
      rw [hrec] at hr
      exact ⟨some c, _, hr, hstop c xs _ hE (hIx _ _ _ _ hi) ((World.putObj_heap_other (by omega)).trans hk)⟩
end Rounds
end Go.Proofs.Ytbhidndgnldheaa

/-
  A range over a method value (its receiver is bound ahead) whose rounds are told, beside what is told, what holds of it.
-/
namespace Go.Proofs.Ytbhidndgnldheaa
namespace Rounds
open Go.RowKit
variable {F : Fence} {n : Nat} {P : Program}
theorem range_bound {α : Type} {g : Operand} {ps : Array Tmp} {assign body : Code} {Q : Exit → Act → World → Prop} {a : Act} {w : World} {D : Nat} (hD : w.heap.size = D)
    (hro : F.round = none) (h1 : 1 ≤ n) {gf : Nat} {lb : Array Value} (hg : a.eval g = .func (.func gf) lb #[]) (hFg : F.fn gf) (eg : ∀ args w, (callFunc gf args).run P w = .ok (.enter gf args) w)
    (encs : α → Array Value) (hps : ∀ x, (encs x).size = ps.size) (T : List α → World → α → World → Prop) (hT : ∀ pre W0 x W1, T pre W0 x W1 → Below W0.heap.size W0 W1) (Kp : World → World → Prop)
    (I : List α → World → Prop) (Ix : Code → List α → World → Prop) (hI : ∀ xs W o, I xs W → I xs (W.putObj (D + 1) o)) (hIx : ∀ c xs W o, Ix c xs W → Ix c xs (W.putObj (D + 1) o)) (Ej Ex : List α → Prop)
    (hseq : ∀ (J Jx : List α → World → Prop) (W : World), Below D w W → W.heap.size = D + 2 → J [] W →
      (∀ pre x W0 W1, T pre W0 x W1 → J pre W0 → YieldAt F (n - 1 - 1) P (D + 1) (encs x) W1 fun e W' => (e = .returned (.bool true) ∧ J (pre ++ [x]) W' ∧ Kp W1 W') ∨ (e = .returned (.bool false) ∧ Jx (pre ++ [x]) W')) →
      CallsIn F (n - 1) P gf (lb ++ #[.func (.yield (D + 1)) #[] #[]]) W fun e W' => (∃ v, e = .returned v) ∧ ((∃ xs, Ej xs ∧ J xs W') ∨ (∃ xs, Ex xs ∧ Jx xs W')))
    (h0 : ∀ W, Below D w W → W.heap.size = D + 2 → I [] W)
    (hround : ∀ pre x W0 W1, D + 2 ≤ W0.heap.size → I pre W0 → T pre W0 x W1 → assign.wpIn (F.inRound (D + 1)) (n - 1 - 1) P
      (Exit.then (fun a' Wa => Held D W1 Wa ∧ ∀ o, body.wpIn (F.inRound (D + 1)) (n - 1 - 1) P (toldPost D Kp I Ix (pre ++ [x]) W1 (Wa.putObj (D + 1) o)) a' (Wa.putObj (D + 1) o)) (fun _ _ _ => False))
      { tmps := (ps.zip (encs x)).foldl (fun t (p, v) => t.setIfInBounds p v) a.tmps, defers := [] } W1)
    (hdone : ∀ xs W, Ej xs → I xs W → W.heap[D]? = some (.deferred (some [])) → Q .normal { a with defers := { target := .collected D, args := #[] } :: a.defers } W)
    (hstop : ∀ c xs W, Ex xs → Ix c xs W → W.heap[D]? = some (.deferred (some [])) → c.wpIn F n P Q { a with defers := { target := .collected D, args := #[] } :: a.defers } W) :
    (Code.rangeFunc g ps assign body).wpIn F n P Q a w := by
  subst hD
  refine wpIn_rangeFunc fun fn hfn => ?_
  rw [hro]
  obtain ⟨rec, hrec⟩ : ∃ rec : LoopState → Option Code → Loop, rec = fun st pe => { state := st, pending := pe, fn, tmps := a.tmps, params := ps, assign, body, defers := w.heap.size } := ⟨_, rfl⟩
  obtain ⟨Wl, hWl⟩ : ∃ Wl, (w.alloc (.deferred (some []))).alloc (.loop (rec .ready none)) = Wl := ⟨_, rfl⟩
  have two : Wl.heap[w.heap.size + 1]? = some (.loop (rec .ready none)) := by
    rw [← hWl]; simpa using World.alloc_heap_new (w.alloc (.deferred (some []))) (.loop (rec .ready none))
  have one : Wl.heap[w.heap.size]? = some (.deferred (some [])) := by
    rw [← hWl, Below.heap_alloc _ _ _ (by simp), World.alloc_heap_new]
  have bel : Below w.heap.size w Wl := by
    rw [← hWl]; exact ((Below.refl _ w).alloc (Nat.le_refl _) _).alloc (by simp) _
  have siz : Wl.heap.size = w.heap.size + 2 := by rw [← hWl]; simp
  refine ⟨w.heap.size + 1, [{ target := .collected w.heap.size, args := #[] }], Wl, { target := .fn (.func gf) #[], args := lb ++ #[.func (.yield (w.heap.size + 1)) #[] #[]] }, Wl, gf,
    lb ++ #[.func (.yield (w.heap.size + 1)) #[] #[]], Wl, ?_, ?_, ?_, ?_, fun _ => h1, ?_⟩
  · rw [← hWl, hrec]; exact run_enterLoop_outer _ _ _ _ _
  · simp only [resolve, hg]
    simp [go_sem]
  · intro f' hf'; simp [Target.leads] at hf'; subst hf'; exact hFg
  · simp [invoke, go_sem, eg]
  have two_lt : ∀ {W : World} {o : Obj}, W.heap[w.heap.size + 1]? = some o → w.heap.size + 1 < W.heap.size := fun h => (Array.getElem?_eq_some_iff.1 h).1
  refine (hseq (fun xs W => I xs W ∧ W.heap[w.heap.size + 1]? = some (.loop (rec .ready none)) ∧ W.heap[w.heap.size]? = some (.deferred (some [])))
    (fun xs W => ∃ c, Ix c xs W ∧ W.heap[w.heap.size + 1]? = some (.loop (rec .done (some c))) ∧ W.heap[w.heap.size]? = some (.deferred (some []))) Wl bel siz ⟨h0 _ bel siz, two, one⟩ ?_).mono ?_
  · rintro pre x W0 W1 ht ⟨hi, hl, hk⟩
    have lt0 := two_lt hl
    have h01 : Held w.heap.size W0 W1 := Held.below (hT _ _ _ _ ht) lt0
    have hl1 := h01.two.trans hl
    have hk1 := h01.one.trans hk
    have hy := run_yield (P := P) (args := encs x) hl1 (by rw [hrec]; exact hps x)
    rw [hrec] at hy
    refine ⟨fn, _, assign, body, hy, roundIn_of_wpIn hfn (wpIn_mono (hround pre x W0 W1 lt0 hi ht) ?_)⟩
    intro e a' Wa hp
    cases e with
    | normal =>
      obtain ⟨h1a, hbody⟩ := hp
      have hla := h1a.two.trans hl1
      have hka := h1a.one.trans hk1
      refine ⟨_, run_beginRound hla (by rw [hrec]), ?_⟩
      have lta := two_lt hla
      have hl2 : (Wa.putObj (w.heap.size + 1) (.loop { rec .ready none with state := .busy })).heap[w.heap.size + 1]? = some (.loop { rec .ready none with state := .busy }) := World.putObj_heap_same lta
      have hk2 : (Wa.putObj (w.heap.size + 1) (.loop { rec .ready none with state := .busy })).heap[w.heap.size]? = some (.deferred (some [])) := (World.putObj_heap_other (by omega)).trans hka
      refine wpIn_mono (hbody _) ?_
      have fin : ∀ (jump : Option Code) (W3 : World), Held w.heap.size (Wa.putObj (w.heap.size + 1) (.loop { rec .ready none with state := .busy })) W3 →
          (Instr.endRound (w.heap.size + 1) jump).run P W3 = .ok (.bool jump.isNone) (W3.putObj (w.heap.size + 1) (.loop (rec (if jump.isNone then .ready else .done) jump))) ∧
          (W3.putObj (w.heap.size + 1) (.loop (rec (if jump.isNone then .ready else .done) jump))).heap[w.heap.size + 1]? = some (.loop (rec (if jump.isNone then .ready else .done) jump)) ∧
          (W3.putObj (w.heap.size + 1) (.loop (rec (if jump.isNone then .ready else .done) jump))).heap[w.heap.size]? = some (.deferred (some [])) := fun jump W3 h3 => by
        have hl3 := h3.two.trans hl2
        have hr := run_endRound (P := P) jump hl3
        rw [hrec] at hr ⊢
        exact ⟨hr, World.putObj_heap_same (two_lt hl3), (World.putObj_heap_other (by omega)).trans (h3.one.trans hk2)⟩
      rintro e a3 W3 hp3
      cases e with
      | normal =>
        obtain ⟨h3, hi3, hkp⟩ := hp3
        obtain ⟨hr, hl4, hk4⟩ := fin none W3 h3
        exact ⟨_, _, hr, .inl ⟨rfl, ⟨hI _ _ _ hi3, hl4, hk4⟩, hkp _⟩⟩
      | ret =>
        obtain ⟨hr, hl4, hk4⟩ := fin (some .ret) W3 hp3.1
        exact ⟨_, _, hr, .inr ⟨rfl, .ret, hIx _ _ _ _ hp3.2, hl4, hk4⟩⟩
      | exit id =>
        obtain ⟨hr, hl4, hk4⟩ := fin (some (.exit id)) W3 hp3.1
        exact ⟨_, _, hr, .inr ⟨rfl, .exit id, hIx _ _ _ _ hp3.2, hl4, hk4⟩⟩
      | goto t =>
        obtain ⟨hr, hl4, hk4⟩ := fin (some (.goto t)) W3 hp3.1
        exact ⟨_, _, hr, .inr ⟨rfl, .goto t, hIx _ _ _ _ hp3.2, hl4, hk4⟩⟩
      | panic ch => exact hp3.elim
      | outgrown => exact hp3.elim
    | ret => exact hp.elim
    | exit id => exact hp.elim
    | goto t => exact hp.elim
    | panic ch => exact hp.elim
    | outgrown => exact hp.elim
  · rintro e W2 ⟨⟨v, rfl⟩, ⟨xs, hE, hi, hl, hk⟩ | ⟨xs, hE, c, hi, hl, hk⟩⟩
    · have hr := run_endLoop (P := P) hl (by rw [hrec]; simp)
      rw [hrec] at hr
      exact ⟨none, _, hr, hdone xs _ hE (hI _ _ _ hi) ((World.putObj_heap_other (by omega)).trans hk)⟩
    · have hr := run_endLoop (P := P) hl (by rw [hrec]; simp)
      rw [hrec] at hr
      exact ⟨some c, _, hr, hstop c xs _ hE (hIx _ _ _ _ hi) ((World.putObj_heap_other (by omega)).trans hk)⟩
end Rounds
end Go.Proofs.Ytbhidndgnldheaa

/-
  The iterator over the nodes that are counted: what it tells.
-/
namespace Go.Proofs.Ytbhidndgnldheaa
namespace Quorum
open Go.RowKit Go.Shelf Vers Span Blk
attribute [local go_sem] Oper.semAt_some

def toldF (z : List EP) : List EP := z.filter fun e => e.1.2.1
theorem told_snoc (z : List EP) (e : EP) : toldF (z ++ [e]) = if e.1.2.1 = true then toldF z ++ [e] else toldF z := by
  unfold toldF
  rw [List.filter_append]
  cases h : e.1.2.1 <;> simp [h]
theorem told_len (z : List EP) : (toldF z).length ≤ z.length := List.length_filter_le _ _
def argsE (x : EP) : Array Value := #[.int .i64 x.1.1, .slice x.2.1 x.1.2.2.length x.2.2]
/-- What is known of what is told. -/
def Told (m : Nat) (x : EP) (W : World) : Prop := x.1.2.2.length ≤ x.2.2 ∧ x.1.2.2.length ≤ 1024 ∧ Vs W 0 m x.2.1 x.1.2.2
theorem vs_low {w : World} {L B m : Nat} {A : Option Addr} {l : List Vr} (h : Vs w L B A l) (hm : ∀ k, L ≤ k → k < B → k < m) : Vs w 0 m A l := by
  intro hp
  obtain ⟨b, _, _, h1, h2, _⟩ := h hp
  have := hm (B - 1) (by omega) (by omega)
  exact ((h.less (Nat.zero_le _)).more (show B ≤ m by omega)) hp
set_option maxRecDepth 100000 in
set_option maxHeartbeats 1000000 in
theorem each_in (q : Nat) (hq : 1 ≤ q) (lq m : Nat) (J Jx : List EP → World → Prop) {T : TypeId} {F : Nat → Prop} {rb n lb cl cb ab : Nat} {need : Int} {l : List En} {x : List Value} {ps : List Plc}
    (hY : ∀ pre y W0, pre.length < 8 → J pre W0 → Told m y W0 → YieldAt Fence.wide (q - 1) Try.prog lq (argsE y) W0 fun e W' => (e = .returned (.bool true) ∧ J (pre ++ [y]) W' ∧ Below m W0 W') ∨ (e = .returned (.bool false) ∧ Jx (pre ++ [y]) W'))
    (W : World) (_hm : m ≤ W.heap.size) (hC : Core T F W rb need l n lb cl cb ab x) (hA : Ans F W l ps cb ab) (hF : ∀ k, F k → k < m) (h0 : J [] W) :
    CallsIn Fence.wide q Try.prog 44 #[hd rb, .func (.yield lq) #[] #[]] W fun e W' => (∃ v, e = .returned v) ∧ (J (toldF (l.zip ps)) W' ∨ ∃ pre y, Jx (pre ++ [y]) W') := by
  have hn8 : n ≤ 8 := hC.1.2.2.2
  have HC : Hid (∀ V, Below m W V → Core T F V rb need l n lb cl cb ab x ∧ Ans F V l ps cb ab) := Lib.hid fun V hV => ⟨hC.keep hV.size fun k hk => hV.block k (hF k hk), hA.keep hV.size (hV.block ab (hF ab hC.2.2.2.1.2.2.2.1)) fun k hk _ _ => hV.block k (hF k hk)⟩
  have HL := Lib.hid (And.intro hC.len hA.1)
  obtain ⟨x0, x1, x2, x3⟩ := hC.head
  have HY := Lib.hid hY
  have HF := Lib.hid hF
  clear hC hA hF hY
  refine callsIn_of_wp Try.func44 rfl trivial ?_ rfl
  simp only [Try.ntmps44, List.size_toArray, List.length_cons, List.length_nil, Nat.reduceAdd, Nat.reduceSub, Array.replicate_succ, Array.replicate_zero, List.push_toArray, List.append_toArray, List.nil_append, List.cons_append]
  gi_wp2
  gi_loopw [4, 5, 11] (fun _ _ p wr => ∃ k : Nat, p = .int .i64 k ∧ k ≤ n ∧ J (toldF ((l.zip ps).take k)) wr ∧ Below m W wr) (fun _ _ p _ => n - (intOf p).toNat)
  case atStart => exact ⟨0, rfl, by omega, by simpa [toldF] using h0, Below.refl _ _⟩
  case round =>
    clear x0 x1 x2 x3
    obtain ⟨k, rfl, hk, hJ, hb⟩ := hrel
    obtain ⟨hCw, hAw⟩ := HC.out wr hb
    obtain ⟨x0, x1, x2, x3⟩ := hCw.head
    by_cases hlt : k < n
    · obtain ⟨⟨nd, bo, an⟩, he⟩ : ∃ e, l[k]? = some e := ⟨l[k]'(by have := HL.out.1; omega), by simp⟩
      obtain ⟨y0, y1⟩ := hCw.at he
      obtain ⟨p, hp, y2, hpc, hp4, _⟩ := hAw.at he
      have hpv : Vs wr 0 m p.1 (nd, bo, an).2.2 := by
        obtain ⟨_, _, L, B, c1, _, f1⟩ := hAw.2.2 k _ _ he hp
        exact vs_low c1 fun q q1 q2 => HF.out q (f1 q q1 q2).1
      simp only at y0 y1 y2 hpc hp4 hpv
      have hz : (l.zip ps)[k]? = some ((nd, bo, an), p) := List.getElem?_zip_eq_some.2 ⟨he, hp⟩
      have HT := Lib.hid (take_one hz)
      have HTS := Lib.hid (told_snoc ((l.zip ps).take k) ((nd, bo, an), p))
      have d1 : (0 : Int) ≤ (k : Int) := by omega
      have d2 : (k : Int) < (n : Int) := by omega
      obtain ⟨Ap, cp⟩ := p
      simp only at y2 hpc hpv
      obtain ⟨man, hman⟩ : ∃ r, an.length = r := ⟨_, rfl⟩
      cases bo
      · have HJ := Lib.hid hJ
        have HB := Lib.hid hb
        have HN : Hid (J (toldF ((l.zip ps).take (k + 1))) wr) := Lib.hid (by
          rw [HT.out, HTS.out]
          simpa using HJ.out)
        clear hJ hb he hp hz hCw hAw hpv
        gi_wp2
        refine ⟨fun f hf => (by cases hf), ?_⟩
        gi_wp2
        go_roundw
        case rel => exact ⟨k + 1, rfl, by omega, HN.out, HB.out⟩
        case measure => simp only [intOf]; omega
      · obtain ⟨fn, tmps, assign, body, hy, hR⟩ := HY.out _ ((nd, true, an), (Ap, cp)) wr (by have h1 := told_len ((l.zip ps).take k); have h2 := List.length_take_le k (l.zip ps); omega) hJ ⟨hpc, hp4, hpv⟩
        simp only [argsE, hman] at hy
        try simp only [argsE, hman] at hR
        rw [hman] at y2
        have HB := Lib.hid hb
        clear hJ hb he hp hz hCw hAw hpv hpc hp4
        gi_wp2
        refine hR.mono ?_
        rintro e2 W3 (⟨rfl, hJ3, hk3⟩ | ⟨rfl, hJx3⟩)
        · have B3 := Lib.hid (HB.out.trans hk3)
          have HN : Hid (J (toldF ((l.zip ps).take (k + 1))) W3) := Lib.hid (by
            rw [HT.out, HTS.out]
            simpa using hJ3)
          clear hJ3 hk3 hR hy
          gi_wp2
          go_roundw
          case rel => exact ⟨k + 1, rfl, by omega, HN.out, B3.out⟩
          case measure => simp only [intOf]; omega
        · have J3 := Lib.hid hJx3
          clear hJx3 hR hy
          gi_wp2
          refine bodyPost_ret (results_none rfl _ _ _) rfl ?_
          exact ⟨⟨_, rfl⟩, .inr ⟨_, _, J3.out⟩⟩
    · obtain rfl : k = n := by omega
      have hlk : (l.zip ps).take k = l.zip ps := List.take_of_length_le (by rw [List.length_zip]; have := HL.out.1; omega)
      rw [hlk] at hJ
      have HJ := Lib.hid hJ
      clear hJ hlk
      gi_wp2
      go_end0
      exact ⟨⟨_, rfl⟩, .inl HJ.out⟩
end Quorum
end Go.Proofs.Ytbhidndgnldheaa

/-
  What comes of the versions of all nodes that are counted.
-/
namespace Go.Proofs.Ytbhidndgnldheaa
namespace Quorum
open Go.RowKit Go.Shelf Vers Span Blk Rounds
attribute [local go_sem] Oper.semAt_some

def accF (z : List EP) : List Vr := z.foldl (fun all e => mrg all e.1.2.2) []
theorem acc_snoc (z : List EP) (e : EP) : accF (z ++ [e]) = mrg (accF z) e.1.2.2 := by
  unfold accF
  rw [List.foldl_append]
  rfl
theorem snoc_induct {α : Type} {P : List α → Prop} (h0 : P []) (h1 : ∀ l x, P l → P (l ++ [x])) (l : List α) : P l := by
  have : ∀ r : List α, P r.reverse := fun r => by
    induction r with
    | nil => exact h0
    | cons x r ih => rw [List.reverse_cons]; exact h1 _ x ih
  have h := this l.reverse
  rwa [List.reverse_reverse] at h
theorem acc_told (z : List EP) : accF (toldF z) = versF (z.map Prod.fst) := by
  revert z
  refine snoc_induct rfl ?_
  intro z e ih
  · rw [told_snoc, List.map_append, List.map_singleton, vers_snoc, ← ih]
    split
    · rw [acc_snoc]
    · rfl
theorem zip_fst {l : List En} {ps : List Plc} (h : ps.length = l.length) : (l.zip ps).map Prod.fst = l := List.map_fst_zip (by omega)
theorem mrg_len {a b : List Vr} (h : a.length ≤ 1024) : (mrg a b).length ≤ 1024 := by
  unfold mrg
  split
  · have := merge_len a b
    omega
  · exact h
theorem vers_small (l : List En) : (versF l).length ≤ 1024 := by
  refine snoc_induct (P := fun l => (versF l).length ≤ 1024) (by simp [versF]) ?_ l
  intro l x h
  rw [vers_snoc]
  split
  · exact mrg_len h
  · exact h
theorem below_put {W w : World} {B l : Nat} {o : Obj} (h : Below B w W) (hl : B ≤ l) : Below B w (W.putObj l o) := ⟨h.os, h.tape, h.output, by simpa using h.size, fun k hk => (World.putObj_heap_other (by omega)).trans (h.block k hk)⟩
/-- What holds between the rounds. -/
def Mid (m : Nat) (w : World) (pre : List EP) (W : World) : Prop :=
  Below m w W ∧ m + 3 ≤ W.heap.size ∧ ∃ A c, Bn m 47 [.slice A (accF pre).length c] W ∧ (accF pre).length ≤ c ∧ (accF pre).length ≤ 1024 ∧ Vs W (m + 3) W.heap.size A (accF pre)
theorem mid_put {m : Nat} {w : World} (pre : List EP) (W : World) (o : Obj) (h : Mid m w pre W) : Mid m w pre (W.putObj (m + 1 + 1) o) := by
  obtain ⟨h1, h2, A, c, h3, h4, h5, h6⟩ := h
  refine ⟨⟨h1.os, h1.tape, h1.output, by simpa using h1.size, fun k hk => (World.putObj_heap_other (by omega)).trans (h1.block k hk)⟩, by simpa using h2, A, c, h3.same (World.putObj_heap_other (by omega)), h4, h5, ?_⟩
  have h7 : Vs (W.putObj (m + 1 + 1) o) (m + 3) W.heap.size A (accF pre) := h6.keep fun p h1 _ => World.cell?_of_block (World.putObj_heap_other (by omega))
  simpa using h7
/-- Versions that a call makes. -/
def GotVs (all : List Vr) (w : World) (e : Ending) (w' : World) : Prop := ∃ A c, e = .returned (.slice A all.length c) ∧ Hid (all.length ≤ c ∧ Vs w' w.heap.size w'.heap.size A all) ∧ Below w.heap.size w w'
set_option maxRecDepth 100000 in
set_option maxHeartbeats 2000000 in
theorem vers_any {T : TypeId} {F : Nat → Prop} {w : World} {rb n lb cl cb ab : Nat} {need : Int} {l : List En} {x : List Value} {ps : List Plc} (h : Core T F w rb need l n lb cl cb ab x) (ha : Ans F w l ps cb ab) :
    Calls Try.prog 24 #[hd rb] w (GotVs (versF l) w) := by
  refine (callsIn_wide (n := 3)).1 ?_
  refine callsIn_of_wp_marks Try.func24 rfl trivial ?_ rfl
  simp only [Try.ntmps24, List.size_toArray, List.length_cons, List.length_nil, Nat.reduceAdd, Nat.reduceSub, Array.replicate_succ, Array.replicate_zero, List.push_toArray, List.append_toArray, List.nil_append, List.cons_append]
  obtain ⟨m, hm⟩ : ∃ m, w.heap.size = m := ⟨_, rfl⟩
  obtain ⟨W1, hW1⟩ : ∃ W, w.alloc (.cells #[.slice none 0 0] 47) = W := ⟨_, rfl⟩
  have b1 : Below w.heap.size w W1 := by rw [← hW1]; exact (Below.refl _ w).alloc (Nat.le_refl _) _
  have s1 : W1.heap.size = m + 1 := by rw [← hW1]; simp [hm]
  have B1 : Bn m 47 [.slice none 0 0] W1 := by rw [← hm, ← hW1]; exact heap_alloc_new w _
  obtain ⟨V, hV⟩ : ∃ V, versF l = V := ⟨_, rfl⟩
  have hF : ∀ k, F k → k < m := fun k hk => by rw [← hm]; exact h.lt k hk
  have HH := Lib.hid (And.intro h (And.intro ha (And.intro hF (And.intro b1 (And.intro B1 (And.intro hV hm))))))
  have HW1 := Lib.hid hW1
  rw [hV]
  clear h ha hF b1 B1 hV hW1
  gi_wp2
  rw [HW1.out]
  refine range_bound (F := Fence.wide) (n := 3) (α := EP) (D := m + 1) s1 rfl (by omega) (gf := 44) (lb := #[hd rb]) rfl trivial (enters_of Try.func44 (by kernel_rfl) rfl)
    argsE (fun x => rfl)
    (fun pre W0 x W1 => W0 = W1 ∧ Told m x W0)
    (fun pre W0 x W1 h => by rw [h.1]; exact Below.refl _ _)
    (fun W1 W' => Below m W1 W')
    (Mid m w) (fun _ _ _ => False) mid_put (fun _ _ _ _ h => h)
    (fun xs => xs = toldF (l.zip ps))
    (fun _ => True)
    ?seq ?start ?round ?done ?stop
  case seq =>
    intro J Jx W hb hs h0 hY
    obtain ⟨hC, hA, hF, b1, B1, hV, hm⟩ := HH.out
    have b2 : Below m w W := by rw [← hm]; exact (b1.trans (hb.mono (by omega)))
    refine (each_in 2 (by omega) (m + 1 + 1) m J Jx (T := T) (F := F) (x := x) (fun pre y W0 _ h1 h2 => hY pre y W0 W0 ⟨rfl, h2⟩ h1) W (by omega) (hC.keep b2.size fun k hk => b2.block k (hF k hk)) (hA.keep b2.size (b2.block ab (hF ab hC.2.2.2.1.2.2.2.1)) fun k hk _ _ => b2.block k (hF k hk)) hF h0).mono ?_
    rintro e W' ⟨hv, h | ⟨_, _, h⟩⟩
    · exact ⟨hv, .inl ⟨_, rfl, h⟩⟩
    · exact ⟨hv, .inr ⟨_, trivial, h⟩⟩
  case start =>
    intro W hb hs
    obtain ⟨hC, hA, hF, b1, B1, hV, hm⟩ := HH.out
    refine ⟨by rw [← hm]; exact b1.trans (hb.mono (by omega)), by omega, none, 0, ?_, by simp [accF], by simp [accF], Vs.nil _⟩
    exact B1.same (hb.block m (by omega))
  case round =>
    rintro pre x W0 W1 hs0 ⟨i1, i2, A, c, i3, i4, i5, i6⟩ ⟨rfl, t1, t2, t3⟩
    obtain ⟨⟨nd, bo, an⟩, Ap, cp⟩ := x
    simp only at t1 t2 t3
    have HS := Lib.hid (acc_snoc pre ((nd, bo, an), Ap, cp))
    obtain ⟨P, hP⟩ : ∃ P, accF pre = P := ⟨_, rfl⟩
    rw [hP] at i3 i4 i5 i6 HS
    obtain ⟨N, hN⟩ : ∃ N, P.length = N := ⟨_, rfl⟩
    obtain ⟨M, hM⟩ : ∃ M, an.length = M := ⟨_, rfl⟩
    rw [hN] at i3 i4 i5
    rw [hM] at t1 t2
    have HT := Lib.hid (And.intro i1 (And.intro i2 (And.intro i3 (And.intro i4 (And.intro i5 (And.intro i6 (And.intro t1 (And.intro t2 (And.intro t3 (And.intro hN hM))))))))))
    have HP := Lib.hid hP
    simp only [argsE, hM]
    clear hP hN hM i1 i2 i3 i4 i5 i6 t1 t2 t3
    gi_wp2
    refine ⟨Held.refl _ _, fun o => ?_⟩
    obtain ⟨i1, i2, i3, i4, i5, i6, t1, t2, t3, hN, hM⟩ := HT.out
    obtain ⟨Wb, hWb⟩ : ∃ Wb, W0.putObj (m + 1 + 1) o = Wb := ⟨_, rfl⟩
    have sb : Wb.heap.size = W0.heap.size := by rw [← hWb]; simp
    have fb : ∀ k, k ≠ m + 1 + 1 → Wb.heap[k]? = W0.heap[k]? := fun k hne => by rw [← hWb, World.putObj_heap_other hne]
    have pb : Below m W0 Wb := by rw [← hWb]; exact below_put (Below.refl _ _) (by omega)
    have B3 : Bn m 47 [.slice A N c] Wb := i3.same (fb m (by omega))
    have v6 : Vs Wb 0 Wb.heap.size A P := (i6.keep fun p h1 h2 => World.cell?_of_block (fb _ (by omega))).less (Nat.zero_le _) |>.more (by omega)
    have v3 : Vs Wb 0 Wb.heap.size Ap an := (t3.below pb).more (by omega)
    have HM := Lib.hid (merge_any A Ap c cp N M P an hN hM i4 t1 Wb v6 v3 (by omega) (by omega))
    have c0 := B3.cell 0
    have HB := Lib.hid (And.intro pb (And.intro sb B3))
    have HW := Lib.hid hWb.symm
    rw [hWb]
    obtain ⟨r1, r2, hr⟩ : ∃ r1 r2, mergeF P an = (r1, r2) := ⟨_, _, rfl⟩
    have HL := Lib.hid (show r1.length ≤ 512 by have := merge_len P an; rw [hr] at this; exact this)
    rw [hr] at HM
    have HR := Lib.hid hr
    have HI := Lib.hid (And.intro i1 i2)
    clear hWb fb pb sb B3 v6 v3 i1 i2 i3 i4 i5 i6 t1 t2 t3 hN hM hr
    cases hz : r2 == 0
    · gi_wp2_with (refine ⟨trivial, ?_⟩; gi_at_call 45; refine (callsIn_wide.2 HM.out).mono ?_; rintro e1 w1 ⟨A', c', rfl, g1, g2, g3⟩)
      obtain ⟨pb, sb, B3⟩ := HB.out
      obtain ⟨i1, i2, i3, i4, i5, i6, t1, t2, t3, hN, hM⟩ := HT.out
      have hmr : mrg P an = P := by unfold mrg; rw [HR.out, if_neg (fun h => by simp only at h; rw [h] at hz; cases hz)]
      have g4 : Below (m + 1 + 1) Wb w1 := g3.mono (by omega)
      refine ⟨Held.below g3 (by omega), ⟨(i1.trans pb).trans (g4.mono (by omega)), by have := g3.size; omega, A, c, ?_, ?_, ?_, ?_⟩, fun o => below_put (pb.trans (g4.mono (by omega))) (by omega)⟩
      all_goals rw [HS.out, hmr]
      · rw [hN]
        exact B3.same (g3.block m (by omega))
      · omega
      · omega
      · have h7 : Vs Wb (m + 3) W0.heap.size A P := i6.keep fun p h1 _ => World.cell?_of_block (by rw [HW.out]; exact World.putObj_heap_other (by omega))
        exact ((h7.more (by omega)).below g3).more g3.size
    · gi_wp2_with (refine ⟨trivial, ?_⟩; gi_at_call 45; refine (callsIn_wide.2 HM.out).mono ?_; rintro e1 w1 ⟨A', c', rfl, g1, g2, g3⟩
                   have B4 : Bn m 47 [.slice A N c] w1 := HB.out.2.2.same (g3.block m (by have := HB.out.2.1; omega))
                   have c4 := B4.cell 0
                   have z4 := B4.frozen 0
                   have G := Lib.hid (And.intro g1 (And.intro g2 (And.intro g3 B4)))
                   clear g1 g2 g3 B4)
      obtain ⟨pb, sb, B3⟩ := HB.out
      obtain ⟨i1, i2, i3, i4, i5, i6, t1, t2, t3, hN, hM⟩ := HT.out
      obtain ⟨g1, g2, g3, B4⟩ := G.out
      have hmr : mrg P an = r1 := by unfold mrg; rw [HR.out, if_pos (by simpa using hz)]
      have hl := HL.out
      have B5 := B4.set 0 (.slice A' r1.length c')
      have g4 : Below m Wb (w1.setCell ⟨m, 0, none⟩ (.slice A' r1.length c')) := (g3.mono (by omega)).setCell (by simp only; omega) _
      have g5 := g3.size
      refine ⟨(Held.below g3 (by omega)).trans (Held.setCell _ _ _ (by simp only; omega) (by simp only; omega)), ⟨(i1.trans pb).trans g4, by simp [World.setCell]; omega, A', c', ?_, ?_, ?_, ?_⟩, fun o => below_put (pb.trans g4) (by omega)⟩
      all_goals rw [HS.out, hmr]
      · exact B5
      · exact g1
      · omega
      · have h7 : Vs (w1.setCell ⟨m, 0, none⟩ (.slice A' r1.length c')) Wb.heap.size w1.heap.size A' r1 := g2.keep fun p h1 _ => World.cell?_of_block (Below.heap_setCell _ _ _ _ (by simp only; omega))
        exact (h7.less (by omega)).more (by simp [World.setCell])
  case done =>
    rintro xs W rfl ⟨j1, j2, A, c, j3, j4, j5, j6⟩ hd
    obtain ⟨hC, hA, hF, b1, B1, hV, hm⟩ := HH.out
    have hacc : accF (toldF (l.zip ps)) = V := by
      rw [acc_told, zip_fst hA.1, hV]
    rw [hacc] at j3 j4 j5 j6
    have c0 := j3.cell 0
    have J := Lib.hid (And.intro j1 (And.intro j2 (And.intro j4 (And.intro j6 hm))))
    clear hC hA hF b1 B1 hV hm hacc j1 j2 j3 j4 j5 j6
    gi_wp2
    refine ⟨by simp, .inl ⟨_, _, rfl, run_takeDeferred (w := W) hd, ?_⟩⟩
    refine ⟨_, results_tmp rfl _ _ _, ?_⟩
    obtain ⟨j1, j2, j4, j6, hm⟩ := J.out
    have h7 : Vs (W.putObj (m + 1) (.deferred none)) (m + 3) W.heap.size A V := j6.keep fun p h1 _ => World.cell?_of_block (World.putObj_heap_other (by omega))
    refine ⟨A, c, rfl, Lib.hid ⟨j4, ?_⟩, ?_⟩
    · rw [hm]
      exact (h7.less (by omega)).more (by simp)
    · rw [hm]
      exact below_put j1 (by omega)
  case stop =>
    rintro c0 xs W _ h
    exact h.elim
end Quorum
end Go.Proofs.Ytbhidndgnldheaa

/-
  The nodes that lack something of what comes of all.
-/
namespace Go.Proofs.Ytbhidndgnldheaa
namespace Quorum
open Go.RowKit Go.Shelf Vers Span Blk Rounds
attribute [local go_sem] Oper.semAt_some

theorem wpListIn_append_int {F : Fence} {k : Nat} {P : Program} (w : World) {ops : Array Oper} {rest : List Oper} {o : Oper} {a : Act} {Q : Exit → Act → World → Prop} (hgd : o.guard = none) (s x : Operand) (t : TypeId)
    (ho : o.op = .call { callee := .builtin .append, args := #[s, x], argTypes := #[t, t] })
    (base : Nat) (e : TypeId) (i : TypeInfo) (z : Value) (bytes : Nat) (ht : P.underlying t = some (.slice e)) (hi : P.info? e = some i) (hz : i.zero = some z)
    (hsize : i.size = 1) (hby : i.bytes = bytes) (hzs : z.cells.size = 1)
    (v : Value) (n : Nat) (xs : List Value) (hs : a.eval s = v) (hown : w.ownsRow base e 1 v n xs) (u : Value) (c : Nat)
    (hx : a.eval x = .slice (some ⟨w.heap.size, 0, none⟩) 1 c) (h1 : u.oneCell' = true)
    (hbytes : (n + 1) * bytes ≤ 140737488355328) (hn : n + 1 ≤ 140737488355328) (hbase : base ≤ w.heap.size)
    (h : ∀ v' w', w'.ownsRow base e 1 v' (n + 1) (xs ++ [u]) → w.grownBy w' v.ownBlock → (v'.ownBlock = v.ownBlock ∨ ∃ g, v'.ownBlock = some g ∧ w.heap.size ≤ g) → wpListIn F k P ops Q rest (a.put o.dst v') w') :
    wpListIn F k P ops Q (o :: rest) a (w.alloc (.cells #[u] e)) := by
  refine wpListIn_plain hgd fun K hK => ?_
  obtain ⟨v', w', hrun, r1, hg, _, hat⟩ := run_append_own_at (P := P) (w := w.alloc (.cells #[u] e)) base t o.type e i z 1 bytes ht hi hz hsize hby hzs (by omega) v n xs (hown.alloc _) ⟨w.heap.size, 0, none⟩ 1 c [u] rfl
    (by
      intro j u' hj
      match j, hj with
      | 0, hj => simp at hj; subst hj; simp [Addr.add])
    (by intro u' hu; simp at hu; subst hu; exact h1) (by unfold maxLen; omega) hbytes (by simp; omega)
  unfold Oper.wpIn
  refine ⟨?_, ?_⟩
  · simp [Oper.about, ho, resolve, Target.leads, Sem.run_pure]
  · rw [Oper.semAt_plain F _ _ (by rw [ho]; intro c hc'; cases hc')]
    simp only [execOp, ho, resolve, invoke, builtin, List.map_toArray, List.map_cons, List.map_nil, hs, hx, Sem.run_bind, Sem.run_pure, Result.andThen_ok, hrun]
    refine hK _ _ (h v' w' r1 ?_ ?_)
    · exact ⟨hg.os, hg.tape, hg.output, Nat.le_trans (by simp) hg.size, fun k hk hne => (hg.block k (by simp; omega) hne).trans (Below.heap_alloc w _ k hk)⟩
    · rcases hat with h1 | h1
      · exact .inl h1
      · exact .inr ⟨_, h1, by simp⟩


def lagF (z : List EP) (all : List Vr) : List Int := (z.filter fun e => lacksF e.1.2.2 all).map fun e => e.1.1
theorem lag_snoc (z : List EP) (e : EP) (all : List Vr) : lagF (z ++ [e]) all = if lacksF e.1.2.2 all = true then lagF z all ++ [e.1.1] else lagF z all := by
  unfold lagF
  rw [List.filter_append, List.map_append]
  cases h : lacksF e.1.2.2 all <;> simp [h]
theorem lag_len (z : List EP) (all : List Vr) : (lagF z all).length ≤ z.length := by
  unfold lagF
  rw [List.length_map]
  exact List.length_filter_le _ _
theorem lag_told (z : List EP) (all : List Vr) : lagF (toldF z) all = behindF (z.map Prod.fst) all := by
  unfold lagF toldF behindF
  rw [List.filter_filter, List.filter_map, List.map_map]
  congr 1
  apply List.filter_congr
  intro e _
  simp [Bool.and_comm]
theorem own_keep {w w' : World} {B : Nat} {t : TypeId} {v : Value} {n : Nat} {xs : List Value} (h : w.ownsRow B t 1 v n xs) (hb : ∀ k, B ≤ k → k < w.heap.size → w'.heap[k]? = w.heap[k]?) : w'.ownsRow B t 1 v n xs := by
  refine ⟨h.1, ?_⟩
  rcases h.2 with hn | ⟨g, cap, cur, rfl, hbg, hg, rest⟩
  · exact .inl hn
  · exact .inr ⟨g, cap, cur, rfl, hbg, by rw [hb g hbg (Array.getElem?_eq_some_iff.1 hg).1]; exact hg, rest⟩
theorem own_from {w : World} {B B' : Nat} {t : TypeId} {v : Value} {n : Nat} {xs : List Value} (h : w.ownsRow B t 1 v n xs) (hB : B' ≤ B) : w.ownsRow B' t 1 v n xs := by
  refine ⟨h.1, ?_⟩
  rcases h.2 with hn | ⟨g, cap, cur, rfl, hbg, hg, rest⟩
  · exact .inl hn
  · exact .inr ⟨g, cap, cur, rfl, by omega, hg, rest⟩
/-- What holds between the rounds: the list of all in block K, the row that grows in block K + 1. -/
def MidB (K : Nat) (W2 : World) (all : List Vr) (pre : List EP) (W : World) : Prop :=
  Below (K + 1) W2 W ∧ K + 4 ≤ W.heap.size ∧ ∃ A c n, Bn (K + 1) 22 [.slice A n c] W ∧ (lagF pre all).length = n ∧ W.ownsRow (K + 4) 3 1 (.slice A n c) n (nums .i64 (lagF pre all))
theorem midB_put {K : Nat} {W2 : World} {all : List Vr} (pre : List EP) (W : World) (o : Obj) (h : MidB K W2 all pre W) : MidB K W2 all pre (W.putObj (K + 1 + 1 + 1) o) := by
  obtain ⟨h1, h2, A, c, n, h3, h4, h5⟩ := h
  exact ⟨below_put h1 (by omega), by simpa using h2, A, c, n, h3.same (World.putObj_heap_other (by omega)), h4, own_keep h5 fun k hk _ => World.putObj_heap_other (by omega)⟩
set_option maxRecDepth 100000 in
set_option maxHeartbeats 2000000 in
theorem behind_any {T : TypeId} {F : Nat → Prop} {w : World} {rb n lb cl cb ab : Nat} {need : Int} {l : List En} {x : List Value} {ps : List Plc} (h : Core T F w rb need l n lb cl cb ab x) (ha : Ans F w l ps cb ab) :
    Calls Try.prog 26 #[hd rb] w (NewI (behindF l (versF l)) w) := by
  obtain ⟨i0, hi0, hz0, hz1, hz2⟩ := info_parts info_int
  have HI := Lib.hid (And.intro hi0 (And.intro hz0 (And.intro hz1 hz2)))
  refine (callsIn_wide (n := 3)).1 ?_
  refine callsIn_of_wp_marks Try.func26 rfl trivial ?_ rfl
  simp only [Try.ntmps26, List.size_toArray, List.length_cons, List.length_nil, Nat.reduceAdd, Nat.reduceSub, Array.replicate_succ, Array.replicate_zero, List.push_toArray, List.append_toArray, List.nil_append, List.cons_append]
  have hv := vers_any h ha
  have hlow := vers_small l
  obtain ⟨V, hV⟩ : ∃ V, versF l = V := ⟨_, rfl⟩
  obtain ⟨N, hN⟩ : ∃ N, V.length = N := ⟨_, rfl⟩
  obtain ⟨m, hm⟩ : ∃ m, w.heap.size = m := ⟨_, rfl⟩
  rw [hV] at hv hlow ⊢
  unfold GotVs at hv
  rw [hN] at hv hlow
  have HV := Lib.hid hv
  have hF : ∀ k, F k → k < m := fun k hk => by rw [← hm]; exact h.lt k hk
  have HH := Lib.hid (And.intro h (And.intro ha (And.intro hF (And.intro hN (And.intro hm hlow)))))
  clear h ha hF hN hV hv hlow hi0 hz0 hz1 hz2 hm
  gi_wp2_with (refine ⟨trivial, ?_⟩; gi_at_call 24; refine (callsIn_wide.2 HV.out).mono ?_; rintro e1 w1 ⟨A, c, rfl, g1, g3⟩)
  obtain ⟨W2, hW2⟩ : ∃ W, (w1.alloc (.cells #[.slice A N c] 47)).alloc (.cells #[.slice none 0 0] 22) = W := ⟨_, rfl⟩
  obtain ⟨K, hK⟩ : ∃ K, w1.heap.size = K := ⟨_, rfl⟩
  have s2 : W2.heap.size = K + 1 + 1 := by rw [← hW2]; simp [hK]
  have b2 : Below K w1 W2 := by rw [← hW2]; exact ((Below.refl _ w1).alloc (by omega) _).alloc (by simp; omega) _
  have B0 : Bn K 47 [.slice A N c] W2 := by
    have h1 : Bn w1.heap.size 47 [.slice A N c] (w1.alloc (.cells #[.slice A N c] 47)) := heap_alloc_new w1 _
    rw [hK] at h1
    rw [← hW2]
    exact h1.same (Below.heap_alloc _ _ _ (by simp; omega))
  have B1 : Bn (K + 1) 22 [.slice none 0 0] W2 := by
    have h1 := heap_alloc_new (w1.alloc (.cells #[.slice A N c] 47)) (.cells #[.slice none 0 0] 22)
    rw [World.size_alloc, hK, hW2] at h1
    exact h1
  have HW := Lib.hid (And.intro b2 (And.intro B0 (And.intro B1 (And.intro hK (And.intro g1 g3)))))
  rw [hW2, hK]
  clear b2 B0 B1 hW2 g1 g3 hK
  refine range_bound (F := Fence.wide) (n := 3) (α := EP) (D := K + 1 + 1) s2 rfl (by omega) (gf := 44) (lb := #[hd rb]) rfl trivial (enters_of Try.func44 (by kernel_rfl) rfl)
    argsE (fun x => rfl)
    (fun pre W0 x W1 => W0 = W1 ∧ pre.length < 8 ∧ Told m x W0)
    (fun pre W0 x W1 h => by rw [h.1]; exact Below.refl _ _)
    (fun W1 W' => Below m W1 W')
    (MidB K W2 V) (fun _ _ _ => False) midB_put (fun _ _ _ _ h => h)
    (fun xs => xs = toldF (l.zip ps))
    (fun _ => True)
    ?seq ?start ?round ?done ?stop
  case seq =>
    intro J Jx W hb hs h0 hY
    obtain ⟨hC, hA, hF, hN, hm, hlow⟩ := HH.out
    obtain ⟨b2, B0, B1, hK, g1, g3⟩ := HW.out
    have hmK : m ≤ K := by have := g3.size; omega
    have b3 : Below m w W := by rw [hm] at g3; exact (g3.trans (b2.mono hmK)).trans (hb.mono (by omega))
    refine (each_in 2 (by omega) (K + 1 + 1 + 1) m J Jx (T := T) (F := F) (x := x) (fun pre y W0 hp h1 h2 => hY pre y W0 W0 ⟨rfl, hp, h2⟩ h1) W (by omega) (hC.keep b3.size fun k hk => b3.block k (hF k hk)) (hA.keep b3.size (b3.block ab (hF ab hC.2.2.2.1.2.2.2.1)) fun k hk _ _ => b3.block k (hF k hk)) hF h0).mono ?_
    rintro e W' ⟨hv, h | ⟨_, _, h⟩⟩
    · exact ⟨hv, .inl ⟨_, rfl, h⟩⟩
    · exact ⟨hv, .inr ⟨_, trivial, h⟩⟩
  case start =>
    intro W hb hs
    obtain ⟨b2, B0, B1, hK, g1, g3⟩ := HW.out
    exact ⟨hb.mono (by omega), by omega, none, 0, 0, B1.same (hb.block (K + 1) (by omega)), rfl, World.ownsRow_nil _ _ _ _⟩
  case round =>
    rintro pre x W0 W1 hs0 ⟨i1, i2, A1, c1, n1, i3, i4, i5⟩ ⟨rfl, t0, t1, t2, t3⟩
    obtain ⟨⟨nd, bo, an⟩, Ap, cp⟩ := x
    simp only at t1 t2 t3
    have HS := Lib.hid (lag_snoc pre ((nd, bo, an), Ap, cp) V)
    have hll := lag_len pre V
    obtain ⟨P, hP⟩ : ∃ P, lagF pre V = P := ⟨_, rfl⟩
    obtain ⟨M, hM⟩ : ∃ M, an.length = M := ⟨_, rfl⟩
    rw [hP] at i4 i5 hll HS
    rw [hM] at t1 t2
    have HT := Lib.hid (And.intro i1 (And.intro i2 (And.intro i3 (And.intro i4 (And.intro i5 (And.intro t0 (And.intro t1 (And.intro t2 (And.intro t3 (And.intro hM hll))))))))))
    simp only [argsE, hM]
    clear hP hM i1 i2 i3 i4 i5 t0 t1 t2 t3 hll
    gi_wp2
    refine ⟨Held.refl _ _, fun o => ?_⟩
    obtain ⟨i1, i2, i3, i4, i5, t0, t1, t2, t3, hM, hll⟩ := HT.out
    obtain ⟨hC, hA, hF, hN, hm, hlow⟩ := HH.out
    obtain ⟨b2, B0, B1, hK, g1, g3⟩ := HW.out
    have hmK : m ≤ K := by have := g3.size; omega
    have HmK := Lib.hid hmK
    have hn8 : n1 < 8 := by omega
    obtain ⟨Wb, hWb⟩ : ∃ Wb, W0.putObj (K + 1 + 1 + 1) o = Wb := ⟨_, rfl⟩
    have sb : Wb.heap.size = W0.heap.size := by rw [← hWb]; simp
    have fb : ∀ k, k ≠ K + 1 + 1 + 1 → Wb.heap[k]? = W0.heap[k]? := fun k hne => by rw [← hWb, World.putObj_heap_other hne]
    have pb : Below (K + 1) W0 Wb := by rw [← hWb]; exact below_put (Below.refl _ _) (by omega)
    have B3 : Bn K 47 [.slice A N c] Wb := (B0.same (i1.block K (by omega))).same (fb K (by omega))
    have B4 : Bn (K + 1) 22 [.slice A1 n1 c1] Wb := i3.same (fb (K + 1) (by omega))
    have o5 : Wb.ownsRow (K + 4) 3 1 (.slice A1 n1 c1) n1 (nums .i64 P) := own_keep i5 fun k hk _ => fb k (by omega)
    have v6 : Vs Wb 0 Wb.heap.size A V := (((g1.out.2.less (Nat.zero_le _)).more (by omega) |>.below b2).below (i1.mono (by omega)) |>.below (pb.mono (by omega))).more (by omega)
    have v3 : Vs Wb 0 Wb.heap.size Ap an := (t3.below (pb.mono (by omega))).more (by omega)
    obtain ⟨D, hD⟩ : ∃ D, lacksF an V = D := ⟨_, rfl⟩
    have hl := lacks_any Ap A cp c M N an V hM hN t1 g1.out.1 Wb v3 v6 (by omega) (by omega)
    rw [hD] at hl
    have HM := Lib.hid hl
    have hle := i2
    have c0 := B3.cell 0
    have HB := Lib.hid (And.intro pb (And.intro sb (And.intro B4 (And.intro o5 (And.intro i1 i2)))))
    have HD := Lib.hid hD
    have HO := Lib.hid i4
    rw [hWb]
    clear hWb fb pb B3 B4 o5 v6 v3 i1 i2 i3 i4 i5 t0 t1 t2 t3 hM hll hC hA hF hN hm hlow b2 B0 B1 hK g1 g3 hD hl hmK
    cases D
    · gi_wp2_with (refine ⟨trivial, ?_⟩; gi_at_call 46; refine (callsIn_wide.2 HM.out).mono ?_; rintro e1 w3 ⟨rfl, g4⟩)
      obtain ⟨pb, sb, B4, o4, i1, i2⟩ := HB.out
      have hmK := HmK.out
      have b5 : Below (K + 1) W0 w3 := pb.trans (g4.mono (by omega))
      have hs5 := g4.size
      refine ⟨Held.below g4 (by omega), ⟨i1.trans b5, by omega, A1, c1, n1, B4.same (g4.block (K + 1) (by omega)), ?_, ?_⟩, fun o => below_put (b5.mono (by omega)) (by omega)⟩
      all_goals rw [HS.out, if_neg (by rw [HD.out]; simp)]
      · exact HO.out
      · exact own_keep o4 fun k _ hk => g4.block k hk
    · gi_wp2_with (first
        | (refine ⟨trivial, ?_⟩; gi_at_call 46; refine (callsIn_wide.2 HM.out).mono ?_; rintro e1 w3 ⟨rfl, g4⟩
           have B5 : Bn (K + 1) 22 [.slice A1 n1 c1] w3 := HB.out.2.2.1.same (g4.block (K + 1) (by omega))
           have c5 := B5.cell 0
           have z5 := B5.frozen 0
           have o6 : w3.ownsRow (K + 4) 3 1 (.slice A1 n1 c1) n1 (nums .i64 P) := own_keep HB.out.2.2.2.1 fun k _ hk => g4.block k hk
           have hs3 : K + 4 ≤ w3.heap.size := by have := g4.size; omega
           have O6 := Lib.hid (And.intro o6 (And.intro g4 B5))
           clear o6 g4 B5)
        | (gi_at_builtin; refine wpListIn_append_int _ rfl _ _ 22 rfl (K + 4) 3 i0 _ 8 Try.underlying22 HI.out.1 HI.out.2.1 HI.out.2.2.1 HI.out.2.2.2 rfl _ n1 (nums .i64 P) rfl O6.out.1 (.int .i64 nd) 1 rfl rfl (by omega) (by omega) hs3 ?_; intro v5 w5 o5 g5 _; obtain ⟨A5, c5, rfl⟩ := own_form o5
           have g5' : w3.grownBy w5 (Value.slice A1 n1 c1).ownBlock := g5
           have B6 : Bn (K + 1) 22 [.slice A1 n1 c1] w5 := O6.out.2.2.kept g5' (fun e => by have := (O6.out.1.lt _ e.symm).1; omega)
           have c6 := B6.cell 0
           have z6 := B6.frozen 0
           have G6 := Lib.hid (And.intro o5 (And.intro g5' B6))
           clear o5 g5 g5' B6))
      obtain ⟨o6, g4, B5⟩ := O6.out
      obtain ⟨o5, g5, B6⟩ := G6.out
      obtain ⟨pb, sb, B4, o4, i1, i2⟩ := HB.out
      have hmK := HmK.out
      have hrow : ∀ k, (Value.slice A1 n1 c1).ownBlock = some k → K + 4 ≤ k := fun k hk => (o6.lt k hk).1
      have B7 := B6.set 0 (.slice A5 (n1 + 1) c5)
      have hs5 := g5.size
      have b5 : Below (K + 1) W0 (w5.setCell ⟨K + 1, 0, none⟩ (.slice A5 (n1 + 1) c5)) := ((pb.trans (g4.mono (by omega))).grown g5 (by omega) (fun k hk => by have := hrow k hk; omega)).setCell (by simp only; omega) _
      have hL := HO.out
      refine ⟨((Held.below g4 (by omega)).trans (Held.grown g5 (by omega) (fun k hk => by have := hrow k hk; omega))).trans (Held.setCell _ _ _ (by simp only; omega) (by simp only; omega)), ⟨i1.trans b5, by simp [World.setCell]; omega, A5, c5, n1 + 1, B7, ?_, ?_⟩, fun o => below_put (b5.mono (by omega)) (by omega)⟩
      all_goals rw [HS.out, if_pos HD.out]
      · simp [hL]
      · have h8 := own_keep (w' := w5.setCell ⟨K + 1, 0, none⟩ (.slice A5 (n1 + 1) c5)) o5 fun k hk _ => Below.heap_setCell _ _ _ _ (by simp only; omega)
        simpa [nums] using h8
  case done =>
    rintro xs W rfl ⟨j1, j2, A1, c1, n1, j3, j4, j5⟩ hd
    obtain ⟨hC, hA, hF, hN, hm, hlow⟩ := HH.out
    obtain ⟨b2, B0, B1, hK, g1, g3⟩ := HW.out
    rw [lag_told, zip_fst hA.1] at j4 j5
    have hmK : m ≤ K := by have := g3.size; omega
    have b3 : Below m w W := by rw [hm] at g3; exact (g3.trans (b2.mono hmK)).trans (j1.mono (by omega))
    have c0 := j3.cell 0
    have J := Lib.hid (And.intro b3 (And.intro j2 (And.intro j4 (And.intro j5 (And.intro hm hmK)))))
    clear hC hA hF hN hm hlow b2 B0 B1 hK g1 g3 j1 j2 j3 j4 j5 b3 hmK
    gi_wp2
    refine ⟨by simp, .inl ⟨_, _, rfl, run_takeDeferred (w := W) hd, ?_⟩⟩
    refine ⟨_, results_tmp rfl _ _ _, ?_⟩
    obtain ⟨b3, j2, j4, j5, hm, hmK⟩ := J.out
    have h7 := own_keep (w' := W.putObj (K + 1 + 1) (.deferred none)) j5 fun k hk _ => World.putObj_heap_other (by omega)
    refine ⟨A1, c1, by rw [j4]; rfl, Lib.hid ⟨own_ns (by rw [j4]; exact h7), fun hp a ha => ?_⟩, ?_⟩
    · rw [j4] at hp
      have := (own_low h7).2 hp a ha
      omega
    · rw [hm]
      exact below_put b3 (by omega)
  case stop =>
    rintro c0 xs W _ h
    exact h.elim
end Quorum
end Go.Proofs.Ytbhidndgnldheaa
