/-
  Several texts of this family in one: Blk, Stp, QuorumPlain, QuorumOwn, QuorumWaits, QuorumCount.
-/
import Derived.Test.YtbhidndgnldheaaBase
import Derived.Test.YtbhidndgnldheaaVersLacks
import Derived.Test.YtbhidndgnldheaaVersFresh
import Derived.Deep.RegionHeld3
import Derived.Deep.DrawnRows
import Derived.Deep.RegionLaw
import Derived.Deep.AppendLies
/-
  Blocks of cells; what a call may turn: a set of blocks, and new ones.
-/
namespace Go.Proofs.Ytbhidndgnldheaa
namespace Blk
open Go.RowKit

section
variable {w w' w'' : World}
theorem gset (w : World) (g k : Nat) (v : Value) : w.grownBy (w.setCell ⟨g, k, none⟩ v) (some g) :=
  ⟨rfl, rfl, rfl, by simp [World.setCell], fun j hj hne => by
    have : j ≠ g := fun e => hne (by rw [e])
    simp [World.setCell, Array.getElem?_modify, this.symm]⟩
theorem gdrew {row : Option Nat} (h : w.grownBy w' row) : w.grownBy w'.drew row := ⟨h.os, h.tape, h.output, h.size, h.block⟩
theorem gdrewN {row : Option Nat} (h : w.grownBy w' row) (k : Nat) : w.grownBy (w'.drewN k) row := ⟨h.os, h.tape, h.output, h.size, h.block⟩
/-- Block B holds the cells cs. -/
def Bn (B : Nat) (t : TypeId) (cs : List Value) (w : World) : Prop := w.heap[B]? = some (.cells cs.toArray t (0, 0))
variable {B : Nat} {t : TypeId} {cs : List Value}
theorem Bn.lt (h : Bn B t cs w) : B < w.heap.size := (Array.getElem?_eq_some_iff.1 h).1
theorem Bn.cell (h : Bn B t cs w) (k : Nat) : w.cell? ⟨B, k, none⟩ = cs[k]? := by
  have h' : w.heap[B]? = _ := h
  simp [World.cell?, h']
theorem Bn.frozen (h : Bn B t cs w) (j : Nat) : w.frozen? ⟨B, j, none⟩ = false := by simp [World.frozen?, show w.heap[B]? = _ from h]
theorem Bn.same (h : Bn B t cs w) (hk : w'.heap[B]? = w.heap[B]?) : Bn B t cs w' := hk.trans h
theorem Bn.kept {row : Option Nat} (h : Bn B t cs w) (hg : w.grownBy w' row) (hne : some B ≠ row) : Bn B t cs w' := (hg.block B h.lt hne).trans h
theorem Bn.set (h : Bn B t cs w) (k : Nat) (v : Value) : Bn B t (cs.set k v) (w.setCell ⟨B, k, none⟩ v) := by
  have h' : w.heap[B]? = some (.cells cs.toArray t (0, 0)) := h
  show (w.setCell ⟨B, k, none⟩ v).heap[B]? = _
  simp [World.setCell, Array.getElem?_modify, h']
theorem Bn.type {t' : TypeId} {cs' : List Value} (h : Bn B t cs w) (h' : Bn B t' cs' w) : t = t' := by
  have e : some (Obj.cells cs.toArray t (0, 0)) = some (.cells cs'.toArray t' (0, 0)) := (show w.heap[B]? = _ from h).symm.trans (show w.heap[B]? = _ from h')
  injection e with e
  injection e with e1 e2
end
/-- The block of a row of the call's own: its type. -/
theorem own_block {w : World} {base : Nat} {t : TypeId} {s : Nat} {v : Value} {n : Nat} {xs : List Value} (h : w.ownsRow base t s v n xs) {g : Nat} (hg : v.ownBlock = some g) : ∃ cur, w.heap[g]? = some (.cells cur t (0, 0)) := by
  rcases h.2 with ⟨hv, _⟩ | ⟨g', cap, cur, hv, _, hc, _⟩
  · rw [hv] at hg; cases hg
  · rw [hv] at hg
    injection hg with hg
    subst hg
    exact ⟨cur, hc⟩
theorem own_ne {w : World} {base : Nat} {t t' : TypeId} {s : Nat} {v : Value} {n : Nat} {xs cs : List Value} {B : Nat} (h : w.ownsRow base t s v n xs) (hB : Bn B t' cs w) (ht : t ≠ t') : v.ownBlock ≠ some B := fun e => by
  obtain ⟨cur, hc⟩ := own_block h e
  rw [show w.heap[B]? = _ from hB] at hc
  injection hc with hc
  injection hc with h1 h2
  exact ht h2.symm
theorem own_ne2 {w : World} {base base' : Nat} {t t' : TypeId} {s s' : Nat} {v v' : Value} {n n' : Nat} {xs xs' : List Value} (h : w.ownsRow base t s v n xs) (h' : w.ownsRow base' t' s' v' n' xs') (ht : t ≠ t') {g : Nat} (hg : v.ownBlock = some g) : v'.ownBlock ≠ some g := fun e => by
  obtain ⟨cur, hc⟩ := own_block h hg
  obtain ⟨cur', hc'⟩ := own_block h' e
  rw [hc] at hc'
  injection hc' with hc'
  injection hc' with h1 h2
  exact ht h2
theorem own_keep {w w' : World} {base : Nat} {e : TypeId} {size : Nat} {v : Value} {n : Nat} {xs : List Value} (h : w.ownsRow base e size v n xs) (hk : ∀ g, v.ownBlock = some g → w'.heap[g]? = w.heap[g]?) : w'.ownsRow base e size v n xs := by
  refine ⟨h.1, ?_⟩
  rcases h.2 with ⟨hv, h0⟩ | ⟨g, cap, cur, hv, hb, hc, h1⟩
  · exact .inl ⟨hv, h0⟩
  · exact .inr ⟨g, cap, cur, hv, hb, (hk g (by rw [hv]; rfl)).trans hc, h1⟩

/-- All that was turned is among the blocks F, or new. -/
structure Chg (F : Nat → Prop) (w w' : World) : Prop where
  os : w'.os = w.os
  tape : w'.tape = w.tape
  output : w'.output = w.output
  size : w.heap.size ≤ w'.heap.size
  block : ∀ k, k < w.heap.size → ¬ F k → w'.heap[k]? = w.heap[k]?
section
variable {F F' : Nat → Prop} {w w' w'' : World}
theorem Chg.refl (F : Nat → Prop) (w : World) : Chg F w w := ⟨rfl, rfl, rfl, Nat.le_refl _, fun _ _ _ => rfl⟩
theorem Chg.trans (h : Chg F w w') (h' : Chg F' w' w'') (hF : ∀ k, F' k → F k ∨ w.heap.size ≤ k) : Chg F w w'' :=
  ⟨h'.os.trans h.os, h'.tape.trans h.tape, h'.output.trans h.output, Nat.le_trans h.size h'.size, fun k hk hn => (h'.block k (Nat.lt_of_lt_of_le hk h.size) fun e => (hF k e).elim hn (fun e => by omega)).trans (h.block k hk hn)⟩
theorem Chg.mono (h : Chg F w w') (hF : ∀ k, F k → F' k) : Chg F' w w' := ⟨h.os, h.tape, h.output, h.size, fun k hk hn => h.block k hk fun e => hn (hF k e)⟩
theorem Chg.of_below (h : Below w.heap.size w w') : Chg F w w' := ⟨h.os, h.tape, h.output, h.size, fun k hk _ => h.block k hk⟩
theorem Chg.of_grown {row : Option Nat} (h : w.grownBy w' row) (hr : ∀ g, row = some g → F g) : Chg F w w' := ⟨h.os, h.tape, h.output, h.size, fun k hk hn => h.block k hk fun e => hn (hr k e.symm)⟩
theorem Chg.below {base : Nat} (h : Chg F w w') (hF : ∀ k, F k → base ≤ k) (hb : base ≤ w.heap.size) : Below base w w' := ⟨h.os, h.tape, h.output, h.size, fun k hk => h.block k (by omega) fun e => by have := hF k e; omega⟩
end
/-- Five cells written. -/
def five (V : World) (m : Nat) (u0 u1 u2 u3 u4 : Value) : World := ((((V.setCell ⟨m, 0, none⟩ u0).setCell ⟨m, 1, none⟩ u1).setCell ⟨m, 2, none⟩ u2).setCell ⟨m, 3, none⟩ u3).setCell ⟨m, 4, none⟩ u4
theorem five_bn {V : World} {m : Nat} {t : TypeId} {z0 z1 z2 z3 z4 : Value} (h : Bn m t [z0, z1, z2, z3, z4] V) (u0 u1 u2 u3 u4 : Value) : Bn m t [u0, u1, u2, u3, u4] (five V m u0 u1 u2 u3 u4) := ((((h.set 0 u0).set 1 u1).set 2 u2).set 3 u3).set 4 u4
theorem grown_trans_one {w w' w'' : World} {row : Option Nat} (h : w.grownBy w' row) (h' : w'.grownBy w'' row) : w.grownBy w'' row := ⟨h'.os.trans h.os, h'.tape.trans h.tape, h'.output.trans h.output, Nat.le_trans h.size h'.size, fun k hk hne => (h'.block k (Nat.lt_of_lt_of_le hk h.size) hne).trans (h.block k hk hne)⟩
theorem five_grown (V : World) (m : Nat) (u0 u1 u2 u3 u4 : Value) : V.grownBy (five V m u0 u1 u2 u3 u4) (some m) := grown_trans_one (grown_trans_one (grown_trans_one (grown_trans_one (gset V m 0 u0) (gset _ m 1 u1)) (gset _ m 2 u2)) (gset _ m 3 u3)) (gset _ m 4 u4)
theorem five_size (V : World) (m : Nat) (u0 u1 u2 u3 u4 : Value) : (five V m u0 u1 u2 u3 u4).heap.size = V.heap.size := by simp [five, World.setCell]
theorem five_below {B : Nat} (V : World) (m : Nat) (hm : B ≤ m) (hV : B ≤ V.heap.size) (u0 u1 u2 u3 u4 : Value) : Below B V (five V m u0 u1 u2 u3 u4) := (Below.refl B V).grown (five_grown V m u0 u1 u2 u3 u4) hV fun j hj => by injection hj with hj; omega
theorem results_cell1 {fn : Func} {p : Tmp} {ty : TypeId} (h : fn.results = #[.cell p ty]) (tmps : Array Value) (P : Program) (w : World) :
    (results fn tmps).run P w = ((asAddr (tmps.getD p undef)).run P w).andThen fun a w₁ => (loadVar ty a).run P w₁ := by
  simp only [results, h]
  simp [Sem.run_bind, Result.andThen]
section
variable {P : Program} {w : World}
/-- A call as one step of a region that draws. -/
theorem step_call {ops : Array Oper} {o : Oper} {a : Act} {K : Act → World → Prop} {Q : Exit → Act → World → Prop} {E : Prop} (hgd : o.guard = none) (f : FuncId) (args : Array Operand) (ats : Array TypeId)
    (ho : o.op = .call { callee := .value (.func f), args := args, argTypes := ats }) (hcf : (callFunc f (args.map a.eval)).run P w = .ok (.enter f (args.map a.eval)) w) (vals : Array Value) (hv : args.map a.eval = vals) {R : Ending → World → Prop} (hc : Calls P f vals w R)
    (hR : ∀ e w', R e w' → ∃ v, e = .returned v) (hK : ∀ v w', R (.returned v) w' → K (a.put o.dst v) w') :
    if Region.wanted o (yielded ops a.tmps) = true then Oper.wp P o a w K Q else E := by
  have hw : Region.wanted o (yielded ops a.tmps) = true := by simp [Region.wanted, hgd]
  rw [if_pos hw]
  have hrun : (execOp a.eval o).run P w = .ok (.enter f vals) w := by
    subst hv
    unfold execOp
    simp [ho, go_sem, hcf]
  unfold Oper.wp
  rw [hrun, Oper.upon_enter]
  refine hc.mono fun e w' h => ?_
  obtain ⟨v, rfl⟩ := hR e w' h
  exact hK v w' h
end
end Blk
end Go.Proofs.Ytbhidndgnldheaa

/-
  A step: what it turns is among the blocks F, or new; what it owns then is of F, or new.
-/
namespace Go.Proofs.Ytbhidndgnldheaa
namespace Blk
open Go.RowKit
def Stp (F : Nat → Prop) (w : World) (F' : Nat → Prop) (w' : World) : Prop := Chg F w w' ∧ ∀ k, F' k → F k ∨ w.heap.size ≤ k
section
variable {F F' F'' : Nat → Prop} {w w' w'' : World}
theorem Stp.refl (F : Nat → Prop) (w : World) : Stp F w F w := ⟨Chg.refl _ _, fun _ h => .inl h⟩
theorem Stp.of_below (h : Below w.heap.size w w') : Stp F w F w' := ⟨Chg.of_below h, fun _ h => .inl h⟩
theorem Stp.trans (h : Stp F w F' w') (h' : Stp F' w' F'' w'') : Stp F w F'' w'' := ⟨h.1.trans h'.1 h.2, fun k hk => (h'.2 k hk).elim (h.2 k) fun e => .inr (Nat.le_trans h.1.size e)⟩
theorem Stp.old {W : World} (h : Stp F w F' w') (hb : Below W.heap.size W w) (hF : ∀ k, F k → W.heap.size ≤ k) : Below W.heap.size W w' ∧ ∀ k, F' k → W.heap.size ≤ k :=
  ⟨hb.trans (h.1.below hF hb.size), fun k hk => (h.2 k hk).elim (hF k) fun e => Nat.le_trans hb.size e⟩
end
end Blk
end Go.Proofs.Ytbhidndgnldheaa

/-
  Asking several nodes: plain words.
-/
namespace Go.Proofs.Ytbhidndgnldheaa
namespace Quorum
open Vers Span

/-- A node of the list: whether it is counted, and what it has answered. -/
abbrev En := Int × Bool × List Vr
abbrev Plc := Option Addr × Nat
abbrev EP := En × Plc
def okL (ls : List Int) (need : Int) : Prop := (ls.length ≤ 8 ∧ 1 ≤ need ∧ need ≤ ls.length) ∧ (∀ x ∈ ls, 1 ≤ x ∧ x ≤ 8) ∧ ls.Nodup
instance (ls : List Int) (need : Int) : Decidable (okL ls need) := by unfold okL; infer_instance
def startF (ls : List Int) : List En := ls.map fun x => (x, false, [])
def waitsF (l : List En) : List Int := (l.filter fun e => !e.2.1).map Prod.fst
def doneF (need : Int) (l : List En) : Bool := decide (need ≤ (l.length : Int) - ((waitsF l).length : Int))
/-- Where a node stands that isn't counted. -/
def isAt (node : Int) (e : En) : Bool := e.1 == node && !e.2.1
def countF (l : List En) (node : Int) (a : List Vr) : Bool × List En :=
  if (l.any (isAt node)) = true then (true, l.set (l.findIdx (isAt node)) (node, true, a)) else (false, l)
def mrg (all a : List Vr) : List Vr := if (mergeF all a).2 = 0 then (mergeF all a).1 else all
def versF (l : List En) : List Vr := l.foldl (fun all e => if e.2.1 = true then mrg all e.2.2 else all) []
def behindF (l : List En) (all : List Vr) : List Int := (l.filter fun e => e.2.1 && lacksF e.2.2 all).map Prod.fst
theorem waits_snoc (l : List En) (e : En) : waitsF (l ++ [e]) = if e.2.1 = true then waitsF l else waitsF l ++ [e.1] := by
  unfold waitsF
  rw [List.filter_append, List.map_append]
  cases h : e.2.1 <;> simp [h]
theorem vers_snoc (l : List En) (e : En) : versF (l ++ [e]) = if e.2.1 = true then mrg (versF l) e.2.2 else versF l := by
  unfold versF
  rw [List.foldl_append]
  rfl
theorem behind_snoc (l : List En) (e : En) (all : List Vr) : behindF (l ++ [e]) all = if (e.2.1 && lacksF e.2.2 all) = true then behindF l all ++ [e.1] else behindF l all := by
  unfold behindF
  rw [List.filter_append, List.map_append]
  cases h : (e.2.1 && lacksF e.2.2 all) <;> simp [h]
theorem waits_len (l : List En) : (waitsF l).length ≤ l.length := by
  unfold waitsF
  rw [List.length_map]
  exact List.length_filter_le _ _
theorem behind_len (l : List En) (all : List Vr) : (behindF l all).length ≤ l.length := by
  unfold behindF
  rw [List.length_map]
  exact List.length_filter_le _ _
theorem take_one {α : Type} {l : List α} {k : Nat} {x : α} (h : l[k]? = some x) : l.take (k + 1) = l.take k ++ [x] := by
  obtain ⟨hk, e⟩ := List.getElem?_eq_some_iff.1 h
  rw [List.take_succ_eq_append_getElem hk, e]
theorem count_len (l : List En) (node : Int) (a : List Vr) : (countF l node a).2.length = l.length := by
  unfold countF
  split
  · simp
  · rfl
end Quorum
end Go.Proofs.Ytbhidndgnldheaa

/-
  An asking in memory: its list, who is counted, and what was answered.
-/
namespace Go.Proofs.Ytbhidndgnldheaa
namespace Quorum
open Go.RowKit Vers Span Blk

abbrev hd (nb : Nat) : Value := .pointer (some ⟨nb, 0, none⟩)
theorem info_int : (Try.prog.info? 3).map (fun i => (i.zero, i.size, i.bytes)) = some (some (.int .i64 0), 1, 8) := by kernel_rfl
/-- The list, what is needed, who is counted. -/
def Core (T : TypeId) (F : Nat → Prop) (w : World) (rb : Nat) (need : Int) (l : List En) (n lb cl cb ab : Nat) (x : List Value) : Prop :=
  (Bn rb T ([.slice (some ⟨lb, 0, none⟩) n cl, .int .i64 need, .slice (some ⟨cb, 0, none⟩) n n, .slice (some ⟨ab, 0, none⟩) n n] ++ x) w ∧ l.length = n ∧ 1 ≤ n ∧ n ≤ 8) ∧
  (lb < w.heap.size ∧ ∀ (j : Nat) (e : En), l[j]? = some e → w.cell? ⟨lb, j, none⟩ = some (.int .i64 e.1)) ∧
  Bn cb 4 (l.map fun e => .bool e.2.1) w ∧
  (F rb ∧ F lb ∧ F cb ∧ F ab ∧ ∀ k, F k → k < w.heap.size) ∧ (lb ≠ cb ∧ lb ≠ ab ∧ rb ≠ cb ∧ rb ≠ ab ∧ cb ≠ ab ∧ lb ≠ rb)
/-- What was answered: rows of versions, apart from what is written. -/
def Ans (F : Nat → Prop) (w : World) (l : List En) (ps : List Plc) (cb ab : Nat) : Prop :=
  ps.length = l.length ∧ Bn ab 47 ((l.zip ps).map fun e => .slice e.2.1 e.1.2.2.length e.2.2) w ∧
  ∀ (j : Nat) (e : En) (p : Plc), l[j]? = some e → ps[j]? = some p → e.2.2.length ≤ p.2 ∧ e.2.2.length ≤ 1024 ∧ ∃ L B, Vs w L B p.1 e.2.2 ∧ B ≤ w.heap.size ∧ ∀ k, L ≤ k → k < B → F k ∧ k ≠ cb ∧ k ≠ ab
section
variable {T : TypeId} {F F' : Nat → Prop} {w w' : World} {rb n lb cl cb ab : Nat} {need : Int} {l : List En} {x : List Value} {ps : List Plc}
theorem Core.lt (h : Core T F w rb need l n lb cl cb ab x) : ∀ k, F k → k < w.heap.size := h.2.2.2.1.2.2.2.2
theorem Core.len (h : Core T F w rb need l n lb cl cb ab x) : l.length = n := h.1.2.1
theorem Core.keep (h : Core T F w rb need l n lb cl cb ab x) (hs : w.heap.size ≤ w'.heap.size) (hk : ∀ k, F k → w'.heap[k]? = w.heap[k]?) : Core T F w' rb need l n lb cl cb ab x := by
  obtain ⟨⟨h1, h2⟩, ⟨h3, h4⟩, h5, ⟨f1, f2, f3, f4, f5⟩, h7⟩ := h
  exact ⟨⟨h1.same (hk _ f1), h2⟩, ⟨Nat.lt_of_lt_of_le h3 hs, fun j e he => (World.cell?_of_block (hk lb f2)).trans (h4 j e he)⟩, h5.same (hk _ f3), ⟨f1, f2, f3, f4, fun k hk => Nat.lt_of_lt_of_le (f5 k hk) hs⟩, h7⟩
theorem Core.below (h : Core T F w rb need l n lb cl cb ab x) (hb : Below w.heap.size w w') : Core T F w' rb need l n lb cl cb ab x := h.keep hb.size fun k hk => hb.block k (h.lt k hk)
theorem Ans.keep (h : Ans F w l ps cb ab) (hs : w.heap.size ≤ w'.heap.size) (hab : w'.heap[ab]? = w.heap[ab]?) (hk : ∀ k, F k → k ≠ cb → k ≠ ab → w'.heap[k]? = w.heap[k]?) : Ans F w' l ps cb ab := by
  obtain ⟨h0, h1, h2⟩ := h
  refine ⟨h0, h1.same hab, fun j e p he hp => ?_⟩
  obtain ⟨a, b, L, B, c, d, f⟩ := h2 j e p he hp
  exact ⟨a, b, L, B, c.keep fun q q1 q2 => World.cell?_of_block (hk q.block (f _ q1 q2).1 (f _ q1 q2).2.1 (f _ q1 q2).2.2), Nat.le_trans d hs, f⟩
theorem Ans.below (h : Ans F w l ps cb ab) (hb : Below w.heap.size w w') : Ans F w' l ps cb ab := by
  obtain ⟨h0, h1, h2⟩ := h
  refine ⟨h0, h1.same (hb.block _ h1.lt), fun j e p he hp => ?_⟩
  obtain ⟨a, b, L, B, c, d, f⟩ := h2 j e p he hp
  exact ⟨a, b, L, B, c.keep fun q _ q2 => World.cell?_of_block (hb.block q.block (Nat.lt_of_lt_of_le q2 d)), Nat.le_trans d hb.size, f⟩
theorem Core.head (h : Core T F w rb need l n lb cl cb ab x) : w.cell? ⟨rb, 0, none⟩ = some (.slice (some ⟨lb, 0, none⟩) n cl) ∧ w.cell? ⟨rb, 1, none⟩ = some (.int .i64 need) ∧ w.cell? ⟨rb, 2, none⟩ = some (.slice (some ⟨cb, 0, none⟩) n n) ∧ w.cell? ⟨rb, 3, none⟩ = some (.slice (some ⟨ab, 0, none⟩) n n) :=
  ⟨(h.1.1.cell 0).trans rfl, (h.1.1.cell 1).trans rfl, (h.1.1.cell 2).trans rfl, (h.1.1.cell 3).trans rfl⟩
theorem Core.at (h : Core T F w rb need l n lb cl cb ab x) {j : Nat} {e : En} (he : l[j]? = some e) : w.cell? ⟨lb, j, none⟩ = some (.int .i64 e.1) ∧ w.cell? ⟨cb, j, none⟩ = some (.bool e.2.1) := by
  refine ⟨h.2.1.2 j e he, ?_⟩
  rw [h.2.2.1.cell j, List.getElem?_map, he]
  rfl
theorem Ans.at (h : Ans F w l ps cb ab) {j : Nat} {e : En} (he : l[j]? = some e) : ∃ p, ps[j]? = some p ∧ w.cell? ⟨ab, j, none⟩ = some (.slice p.1 e.2.2.length p.2) ∧ e.2.2.length ≤ p.2 ∧ e.2.2.length ≤ 1024 ∧ Vs w 0 w.heap.size p.1 e.2.2 := by
  obtain ⟨h0, h1, h2⟩ := h
  have hj := (List.getElem?_eq_some_iff.1 he).1
  obtain ⟨p, hp⟩ : ∃ p, ps[j]? = some p := ⟨ps[j]'(by omega), by simp⟩
  obtain ⟨a, b, L, B, c, d, f⟩ := h2 j e p he hp
  refine ⟨p, hp, ?_, a, b, (c.less (Nat.zero_le _)).more d⟩
  rw [h1.cell j, List.getElem?_map, show (l.zip ps)[j]? = some (e, p) from List.getElem?_zip_eq_some.2 ⟨he, hp⟩]
  rfl
end
end Quorum
end Go.Proofs.Ytbhidndgnldheaa

/-
  Who is waited for, and whether enough have answered. Written by gen16/waits.py.
-/
namespace Go.Proofs.Ytbhidndgnldheaa
namespace Quorum
open Go.RowKit Vers Span Blk
attribute [local go_sem ↓] Go.wp_at_zero Go.wp_at_succ

/-- Numbers of the call's own. -/
def NewI (l : List Int) (w : World) (e : Ending) (w' : World) : Prop := ∃ A c, e = .returned (.slice A l.length c) ∧ Hid (Ns .i64 w' w'.heap.size A l ∧ (0 < l.length → ∀ a, A = some a → w.heap.size ≤ a.block)) ∧ Below w.heap.size w w'
set_option maxRecDepth 100000 in
set_option maxHeartbeats 1000000 in
theorem waitsW_any {T : TypeId} {F : Nat → Prop} {w : World} {rb : Nat} {need : Int} {l : List En} {n lb cl cb ab : Nat} {x : List Value} (h : Core T F w rb need l n lb cl cb ab x) : Calls Try.prog 16 #[hd rb] w (NewI (waitsF l) w) := by
  obtain ⟨i0, hi0, hz0, hz1, hz2⟩ := info_parts info_int
  have HI := Lib.hid (And.intro hi0 (And.intro hz0 (And.intro hz1 hz2)))
  have hn8 : n ≤ 8 := h.1.2.2.2
  have HC : Hid (∀ V, Below w.heap.size w V → Core T F V rb need l n lb cl cb ab x) := Lib.hid fun V hV => h.below hV
  have HL := Lib.hid h.len
  obtain ⟨x0, x1, x2, x3⟩ := h.head
  clear h hi0 hz0 hz1 hz2
  go_enter Try.func16, Try.ntmps16
  go_wp2_with fail
  go_loopw [3, 4, 5, 11] (fun u _ _ q wr => ∃ (k m co : Nat) (Ao : Option Addr), q = .int .i64 k ∧ k ≤ n ∧ u = .slice Ao m co ∧ m ≤ k ∧ (waitsF (l.take k)).length = m ∧ Hid (wr.ownsRow w.heap.size 3 1 (.slice Ao m co) m (nums .i64 (waitsF (l.take k)))) ∧ Hid (Below w.heap.size w wr)) (fun _ _ _ q _ => n - (intOf q).toNat)
  case atStart => exact ⟨0, 0, 0, none, rfl, by omega, rfl, by omega, by simp [waitsF], Lib.hid (World.ownsRow_nil _ _ _ _), Lib.hid (Below.refl _ _)⟩
  case round =>
    clear x0 x1 x2 x3
    obtain ⟨k, m, co, Ao, rfl, hk, rfl, hmk, hm, ho, hb⟩ := hrel
    obtain ⟨x0, x1, x2, x3⟩ := (HC.out wr hb.out).head
    by_cases hlt : k < n
    · obtain ⟨⟨nd, bo, an⟩, he⟩ : ∃ e, l[k]? = some e := ⟨l[k]'(by have := HL.out; omega), by simp⟩
      obtain ⟨y0, y1⟩ := (HC.out wr hb.out).at he
      simp only at y0 y1
      have HT := Lib.hid (waits_snoc (l.take k) (nd, bo, an))
      have HT2 := Lib.hid (take_one he)
      have hsz := hb.out.size
      have d1 : (0 : Int) ≤ (k : Int) := by omega
      have d2 : (k : Int) < (n : Int) := by omega
      have z0 := (World.cell?_alloc_lt wr (.cells #[.int .i64 nd] 3) ⟨rb, 0, none⟩ (World.block_lt_of_cell? _ _ x0)).trans x0
      clear he
      cases bo
      · have HMM := Lib.hid hm
        clear hm
        go_wp2_with (at_builtin; refine wpList_append_one _ rfl _ _ _ rfl w.heap.size 3 i0 _ 8 Try.underlying22 HI.out.1 HI.out.2.1 HI.out.2.2.1 HI.out.2.2.2 rfl _ m (nums .i64 (waitsF (l.take k))) rfl ho.out (.int .i64 nd) 1 rfl rfl (by omega) (by omega) hsz ?_; intro v5 w5 o5 g5 _; obtain ⟨A5, c5, rfl⟩ := own_form o5)
        have hb5 := hb.out.grown g5 hsz (fun g hg => (ho.out.lt g hg).1)
        have HN : Hid (w5.ownsRow w.heap.size 3 1 (.slice A5 (m + 1) c5) (m + 1) (nums .i64 (waitsF (l.take (k + 1))))) := Lib.hid (by
          rw [HT2.out, HT.out]
          simpa [nums] using o5)
        have HM : (waitsF (l.take (k + 1))).length = m + 1 := by
          rw [HT2.out, HT.out]
          simp [HMM.out]
        have HB := Lib.hid hb5
        clear o5 g5 hb5 ho hb
        go_roundw
        case rel => exact ⟨k + 1, m + 1, c5, A5, rfl, by omega, rfl, by omega, HM, HN, HB⟩
        case measure => simp only [intOf]; omega
      · have HN : Hid (wr.ownsRow w.heap.size 3 1 (.slice Ao m co) m (nums .i64 (waitsF (l.take (k + 1))))) := Lib.hid (by
          rw [HT2.out, HT.out]
          simpa using ho.out)
        have HM : (waitsF (l.take (k + 1))).length = m := by
          rw [HT2.out, HT.out]
          simpa using hm
        clear ho hm
        go_wp2_with fail
        go_roundw
        case rel => exact ⟨k + 1, m, co, Ao, rfl, by omega, rfl, by omega, HM, HN, hb⟩
        case measure => simp only [intOf]; omega
    · obtain rfl : k = n := by omega
      have hlk : l.take k = l := List.take_of_length_le (by have := HL.out; omega)
      rw [hlk] at ho hm
      have HO := Lib.hid (And.intro ho.out hm)
      clear ho hm hlk
      go_wp2_with fail
      go_ret
      refine ⟨Ao, co, by rw [HO.out.2]; rfl, Lib.hid ⟨own_ns (by rw [HO.out.2]; exact HO.out.1), fun hp a ha => ?_⟩, hb.out⟩
      rw [HO.out.2] at hp
      exact (own_low HO.out.1).2 hp a ha
set_option maxRecDepth 100000 in
set_option maxHeartbeats 1000000 in
theorem doneW_any {T : TypeId} {F : Nat → Prop} {w : World} {rb : Nat} {need : Int} {l : List En} {n lb cl cb ab : Nat} {x : List Value} (h : Core T F w rb need l n lb cl cb ab x) : Calls Try.prog 13 #[hd rb] w (fun e w' => e = .returned (.bool (doneF need l)) ∧ Below w.heap.size w w') := by
  have hn8 : n ≤ 8 := h.1.2.2.2
  obtain ⟨D, hD⟩ : ∃ D, doneF need l = D := ⟨_, rfl⟩
  obtain ⟨m, hm⟩ : ∃ m, (waitsF l).length = m := ⟨_, rfl⟩
  have hmn : m ≤ n := by
    have := waits_len l
    rw [h.len] at this
    omega
  have hDD : decide (need ≤ (n : Int) - (m : Int)) = D := by
    rw [← hD, doneF, h.len, hm]
  have HW : Hid (∀ V, Below w.heap.size w V → Calls Try.prog 16 #[hd rb] V (fun e w' => ∃ A c, e = .returned (.slice A m c) ∧ Below V.heap.size V w')) := Lib.hid fun V hV => (waitsW_any (h.below hV)).mono fun e w' ⟨A, c, h1, _, h3⟩ => ⟨A, c, by rw [h1, hm], h3⟩
  have HW0 := Lib.hid (HW.out w.drew (show Below w.heap.size w w.drew from (Below.refl _ w).drew))
  have HC : Hid (∀ V, Below w.heap.size w V → V.cell? ⟨rb, 0, none⟩ = some (.slice (some ⟨lb, 0, none⟩) n cl) ∧ V.cell? ⟨rb, 1, none⟩ = some (.int .i64 need)) := Lib.hid fun V hV => ⟨(h.below hV).head.1, (h.below hV).head.2.1⟩
  have e1 : IntKind.i64.wrap ((n : Int) - (m : Int)) = (n : Int) - (m : Int) := IntWalk.i64_in _ (by omega)
  rw [hD]
  clear h HW hD hm
  go_enter Try.func13, Try.ntmps13
  go_wp2_with fail
  go_region_held3 (fun V => V.cell? ⟨rb, 0, none⟩ = some (.slice (some ⟨lb, 0, none⟩) n cl) ∧ V.cell? ⟨rb, 1, none⟩ = some (.int .i64 need)) (first
      | exact HC.out _ (show Below w.heap.size w w.drew from (Below.refl _ w).drew)
      | exact HC.out _ b2)
    (first
      | (go_at_call 16; refine HW0.out.mono ?_; rintro e w2 ⟨A2, c2, rfl, b2'⟩; have b2 : Below w.heap.size w w2 := (show Below w.heap.size w w.drew from (Below.refl _ w).drew).trans b2'))
  all_goals
    have HB := Lib.hid b2
    clear b2 b2'
    go_wp2_with fail
    go_ret
    exact ⟨rfl, HB.out⟩
set_option maxRecDepth 100000 in
set_option maxHeartbeats 1000000 in
theorem waitsR_any {T : TypeId} {F : Nat → Prop} {w : World} {rb : Nat} {need : Int} {l : List En} {n lb cl cb ab : Nat} {x : List Value} (h : Core T F w rb need l n lb cl cb ab x) : Calls Try.prog 22 #[hd rb] w (NewI (waitsF l) w) := by
  obtain ⟨i0, hi0, hz0, hz1, hz2⟩ := info_parts info_int
  have HI := Lib.hid (And.intro hi0 (And.intro hz0 (And.intro hz1 hz2)))
  have hn8 : n ≤ 8 := h.1.2.2.2
  have HC : Hid (∀ V, Below w.heap.size w V → Core T F V rb need l n lb cl cb ab x) := Lib.hid fun V hV => h.below hV
  have HL := Lib.hid h.len
  obtain ⟨x0, x1, x2, x3⟩ := h.head
  clear h hi0 hz0 hz1 hz2
  go_enter Try.func22, Try.ntmps22
  go_wp2_with fail
  go_loopw [3, 4, 5, 11] (fun u _ _ q wr => ∃ (k m co : Nat) (Ao : Option Addr), q = .int .i64 k ∧ k ≤ n ∧ u = .slice Ao m co ∧ m ≤ k ∧ (waitsF (l.take k)).length = m ∧ Hid (wr.ownsRow w.heap.size 3 1 (.slice Ao m co) m (nums .i64 (waitsF (l.take k)))) ∧ Hid (Below w.heap.size w wr)) (fun _ _ _ q _ => n - (intOf q).toNat)
  case atStart => exact ⟨0, 0, 0, none, rfl, by omega, rfl, by omega, by simp [waitsF], Lib.hid (World.ownsRow_nil _ _ _ _), Lib.hid (Below.refl _ _)⟩
  case round =>
    clear x0 x1 x2 x3
    obtain ⟨k, m, co, Ao, rfl, hk, rfl, hmk, hm, ho, hb⟩ := hrel
    obtain ⟨x0, x1, x2, x3⟩ := (HC.out wr hb.out).head
    by_cases hlt : k < n
    · obtain ⟨⟨nd, bo, an⟩, he⟩ : ∃ e, l[k]? = some e := ⟨l[k]'(by have := HL.out; omega), by simp⟩
      obtain ⟨y0, y1⟩ := (HC.out wr hb.out).at he
      simp only at y0 y1
      have HT := Lib.hid (waits_snoc (l.take k) (nd, bo, an))
      have HT2 := Lib.hid (take_one he)
      have hsz := hb.out.size
      have d1 : (0 : Int) ≤ (k : Int) := by omega
      have d2 : (k : Int) < (n : Int) := by omega
      have z0 := (World.cell?_alloc_lt wr (.cells #[.int .i64 nd] 3) ⟨rb, 0, none⟩ (World.block_lt_of_cell? _ _ x0)).trans x0
      clear he
      cases bo
      · have HMM := Lib.hid hm
        clear hm
        go_wp2_with (at_builtin; refine wpList_append_one _ rfl _ _ _ rfl w.heap.size 3 i0 _ 8 Try.underlying22 HI.out.1 HI.out.2.1 HI.out.2.2.1 HI.out.2.2.2 rfl _ m (nums .i64 (waitsF (l.take k))) rfl ho.out (.int .i64 nd) 1 rfl rfl (by omega) (by omega) hsz ?_; intro v5 w5 o5 g5 _; obtain ⟨A5, c5, rfl⟩ := own_form o5)
        have hb5 := hb.out.grown g5 hsz (fun g hg => (ho.out.lt g hg).1)
        have HN : Hid (w5.ownsRow w.heap.size 3 1 (.slice A5 (m + 1) c5) (m + 1) (nums .i64 (waitsF (l.take (k + 1))))) := Lib.hid (by
          rw [HT2.out, HT.out]
          simpa [nums] using o5)
        have HM : (waitsF (l.take (k + 1))).length = m + 1 := by
          rw [HT2.out, HT.out]
          simp [HMM.out]
        have HB := Lib.hid hb5
        clear o5 g5 hb5 ho hb
        go_roundw
        case rel => exact ⟨k + 1, m + 1, c5, A5, rfl, by omega, rfl, by omega, HM, HN, HB⟩
        case measure => simp only [intOf]; omega
      · have HN : Hid (wr.ownsRow w.heap.size 3 1 (.slice Ao m co) m (nums .i64 (waitsF (l.take (k + 1))))) := Lib.hid (by
          rw [HT2.out, HT.out]
          simpa using ho.out)
        have HM : (waitsF (l.take (k + 1))).length = m := by
          rw [HT2.out, HT.out]
          simpa using hm
        clear ho hm
        go_wp2_with fail
        go_roundw
        case rel => exact ⟨k + 1, m, co, Ao, rfl, by omega, rfl, by omega, HM, HN, hb⟩
        case measure => simp only [intOf]; omega
    · obtain rfl : k = n := by omega
      have hlk : l.take k = l := List.take_of_length_le (by have := HL.out; omega)
      rw [hlk] at ho hm
      have HO := Lib.hid (And.intro ho.out hm)
      clear ho hm hlk
      go_wp2_with fail
      go_ret
      refine ⟨Ao, co, by rw [HO.out.2]; rfl, Lib.hid ⟨own_ns (by rw [HO.out.2]; exact HO.out.1), fun hp a ha => ?_⟩, hb.out⟩
      rw [HO.out.2] at hp
      exact (own_low HO.out.1).2 hp a ha
set_option maxRecDepth 100000 in
set_option maxHeartbeats 1000000 in
theorem doneR_any {T : TypeId} {F : Nat → Prop} {w : World} {rb : Nat} {need : Int} {l : List En} {n lb cl cb ab : Nat} {x : List Value} (h : Core T F w rb need l n lb cl cb ab x) : Calls Try.prog 21 #[hd rb] w (fun e w' => e = .returned (.bool (doneF need l)) ∧ Below w.heap.size w w') := by
  have hn8 : n ≤ 8 := h.1.2.2.2
  obtain ⟨D, hD⟩ : ∃ D, doneF need l = D := ⟨_, rfl⟩
  obtain ⟨m, hm⟩ : ∃ m, (waitsF l).length = m := ⟨_, rfl⟩
  have hmn : m ≤ n := by
    have := waits_len l
    rw [h.len] at this
    omega
  have hDD : decide (need ≤ (n : Int) - (m : Int)) = D := by
    rw [← hD, doneF, h.len, hm]
  have HW : Hid (∀ V, Below w.heap.size w V → Calls Try.prog 22 #[hd rb] V (fun e w' => ∃ A c, e = .returned (.slice A m c) ∧ Below V.heap.size V w')) := Lib.hid fun V hV => (waitsR_any (h.below hV)).mono fun e w' ⟨A, c, h1, _, h3⟩ => ⟨A, c, by rw [h1, hm], h3⟩
  have HW0 := Lib.hid (HW.out w.drew (show Below w.heap.size w w.drew from (Below.refl _ w).drew))
  have HC : Hid (∀ V, Below w.heap.size w V → V.cell? ⟨rb, 0, none⟩ = some (.slice (some ⟨lb, 0, none⟩) n cl) ∧ V.cell? ⟨rb, 1, none⟩ = some (.int .i64 need)) := Lib.hid fun V hV => ⟨(h.below hV).head.1, (h.below hV).head.2.1⟩
  have e1 : IntKind.i64.wrap ((n : Int) - (m : Int)) = (n : Int) - (m : Int) := IntWalk.i64_in _ (by omega)
  rw [hD]
  clear h HW hD hm
  go_enter Try.func21, Try.ntmps21
  go_wp2_with fail
  go_region_held3 (fun V => V.cell? ⟨rb, 0, none⟩ = some (.slice (some ⟨lb, 0, none⟩) n cl) ∧ V.cell? ⟨rb, 1, none⟩ = some (.int .i64 need)) (first
      | exact HC.out _ (show Below w.heap.size w w.drew from (Below.refl _ w).drew)
      | exact HC.out _ b2)
    (first
      | (go_at_call 22; refine HW0.out.mono ?_; rintro e w2 ⟨A2, c2, rfl, b2'⟩; have b2 : Below w.heap.size w w2 := (show Below w.heap.size w w.drew from (Below.refl _ w).drew).trans b2'))
  all_goals
    have HB := Lib.hid b2
    clear b2 b2'
    go_wp2_with fail
    go_ret
    exact ⟨rfl, HB.out⟩
set_option maxRecDepth 100000 in
set_option maxHeartbeats 1000000 in
theorem waitsA_any {T : TypeId} {F : Nat → Prop} {w : World} {rb : Nat} {need : Int} {l : List En} {n lb cl cb ab : Nat} {x : List Value} (h : Core T F w rb need l n lb cl cb ab x) : Calls Try.prog 17 #[hd rb] w (NewI (waitsF l) w) := by
  obtain ⟨i0, hi0, hz0, hz1, hz2⟩ := info_parts info_int
  have HI := Lib.hid (And.intro hi0 (And.intro hz0 (And.intro hz1 hz2)))
  have hn8 : n ≤ 8 := h.1.2.2.2
  have HC : Hid (∀ V, Below w.heap.size w V → Core T F V rb need l n lb cl cb ab x) := Lib.hid fun V hV => h.below hV
  have HL := Lib.hid h.len
  obtain ⟨x0, x1, x2, x3⟩ := h.head
  clear h hi0 hz0 hz1 hz2
  go_enter Try.func17, Try.ntmps17
  go_wp2_with fail
  go_loopw [3, 4] (fun u q wr => ∃ (k m co : Nat) (Ao : Option Addr), q = .int .i64 k ∧ k ≤ n ∧ u = .slice Ao m co ∧ m ≤ k ∧ (waitsF (l.take k)).length = m ∧ Hid (wr.ownsRow w.heap.size 3 1 (.slice Ao m co) m (nums .i64 (waitsF (l.take k)))) ∧ Hid (Below w.heap.size w wr)) (fun _ q _ => n - (intOf q).toNat)
  case atStart => exact ⟨0, 0, 0, none, rfl, by omega, rfl, by omega, by simp [waitsF], Lib.hid (World.ownsRow_nil _ _ _ _), Lib.hid (Below.refl _ _)⟩
  case round =>
    clear x0 x1 x2 x3
    obtain ⟨k, m, co, Ao, rfl, hk, rfl, hmk, hm, ho, hb⟩ := hrel
    obtain ⟨x0, x1, x2, x3⟩ := (HC.out wr hb.out).head
    by_cases hlt : k < n
    · obtain ⟨⟨nd, bo, an⟩, he⟩ : ∃ e, l[k]? = some e := ⟨l[k]'(by have := HL.out; omega), by simp⟩
      obtain ⟨y0, y1⟩ := (HC.out wr hb.out).at he
      simp only at y0 y1
      have HT := Lib.hid (waits_snoc (l.take k) (nd, bo, an))
      have HT2 := Lib.hid (take_one he)
      have hsz := hb.out.size
      have d1 : (0 : Int) ≤ (k : Int) := by omega
      have d2 : (k : Int) < (n : Int) := by omega
      have z0 := (World.cell?_alloc_lt wr (.cells #[.int .i64 nd] 3) ⟨rb, 0, none⟩ (World.block_lt_of_cell? _ _ x0)).trans x0
      clear he
      cases bo
      · have HMM := Lib.hid hm
        clear hm
        go_wp2_with (at_builtin; refine wpList_append_one _ rfl _ _ _ rfl w.heap.size 3 i0 _ 8 Try.underlying22 HI.out.1 HI.out.2.1 HI.out.2.2.1 HI.out.2.2.2 rfl _ m (nums .i64 (waitsF (l.take k))) rfl ho.out (.int .i64 nd) 1 rfl rfl (by omega) (by omega) hsz ?_; intro v5 w5 o5 g5 _; obtain ⟨A5, c5, rfl⟩ := own_form o5)
        have hb5 := hb.out.grown g5 hsz (fun g hg => (ho.out.lt g hg).1)
        have HN : Hid (w5.ownsRow w.heap.size 3 1 (.slice A5 (m + 1) c5) (m + 1) (nums .i64 (waitsF (l.take (k + 1))))) := Lib.hid (by
          rw [HT2.out, HT.out]
          simpa [nums] using o5)
        have HM : (waitsF (l.take (k + 1))).length = m + 1 := by
          rw [HT2.out, HT.out]
          simp [HMM.out]
        have HB := Lib.hid hb5
        clear o5 g5 hb5 ho hb
        go_roundw
        case rel => exact ⟨k + 1, m + 1, c5, A5, rfl, by omega, rfl, by omega, HM, HN, HB⟩
        case measure => simp only [intOf]; omega
      · have HN : Hid (wr.ownsRow w.heap.size 3 1 (.slice Ao m co) m (nums .i64 (waitsF (l.take (k + 1))))) := Lib.hid (by
          rw [HT2.out, HT.out]
          simpa using ho.out)
        have HM : (waitsF (l.take (k + 1))).length = m := by
          rw [HT2.out, HT.out]
          simpa using hm
        clear ho hm
        go_wp2_with fail
        go_roundw
        case rel => exact ⟨k + 1, m, co, Ao, rfl, by omega, rfl, by omega, HM, HN, hb⟩
        case measure => simp only [intOf]; omega
    · obtain rfl : k = n := by omega
      have hlk : l.take k = l := List.take_of_length_le (by have := HL.out; omega)
      rw [hlk] at ho hm
      have HO := Lib.hid (And.intro ho.out hm)
      clear ho hm hlk
      go_wp2_with fail
      go_ret
      refine ⟨Ao, co, by rw [HO.out.2]; rfl, Lib.hid ⟨own_ns (by rw [HO.out.2]; exact HO.out.1), fun hp a ha => ?_⟩, hb.out⟩
      rw [HO.out.2] at hp
      exact (own_low HO.out.1).2 hp a ha
set_option maxRecDepth 100000 in
set_option maxHeartbeats 1000000 in
theorem doneA_any {T : TypeId} {F : Nat → Prop} {w : World} {rb : Nat} {need : Int} {l : List En} {n lb cl cb ab : Nat} {x : List Value} (h : Core T F w rb need l n lb cl cb ab x) : Calls Try.prog 14 #[hd rb] w (fun e w' => e = .returned (.bool (doneF need l)) ∧ Below w.heap.size w w') := by
  have hn8 : n ≤ 8 := h.1.2.2.2
  obtain ⟨D, hD⟩ : ∃ D, doneF need l = D := ⟨_, rfl⟩
  obtain ⟨m, hm⟩ : ∃ m, (waitsF l).length = m := ⟨_, rfl⟩
  have hmn : m ≤ n := by
    have := waits_len l
    rw [h.len] at this
    omega
  have hDD : decide (need ≤ (n : Int) - (m : Int)) = D := by
    rw [← hD, doneF, h.len, hm]
  have HW : Hid (∀ V, Below w.heap.size w V → Calls Try.prog 17 #[hd rb] V (fun e w' => ∃ A c, e = .returned (.slice A m c) ∧ Below V.heap.size V w')) := Lib.hid fun V hV => (waitsA_any (h.below hV)).mono fun e w' ⟨A, c, h1, _, h3⟩ => ⟨A, c, by rw [h1, hm], h3⟩
  have HW0 := Lib.hid (HW.out w.drew (show Below w.heap.size w w.drew from (Below.refl _ w).drew))
  have HC : Hid (∀ V, Below w.heap.size w V → V.cell? ⟨rb, 0, none⟩ = some (.slice (some ⟨lb, 0, none⟩) n cl) ∧ V.cell? ⟨rb, 1, none⟩ = some (.int .i64 need)) := Lib.hid fun V hV => ⟨(h.below hV).head.1, (h.below hV).head.2.1⟩
  have e1 : IntKind.i64.wrap ((n : Int) - (m : Int)) = (n : Int) - (m : Int) := IntWalk.i64_in _ (by omega)
  rw [hD]
  clear h HW hD hm
  go_enter Try.func14, Try.ntmps14
  go_wp2_with fail
  go_region_held3 (fun V => V.cell? ⟨rb, 0, none⟩ = some (.slice (some ⟨lb, 0, none⟩) n cl) ∧ V.cell? ⟨rb, 1, none⟩ = some (.int .i64 need)) (first
      | exact HC.out _ (show Below w.heap.size w w.drew from (Below.refl _ w).drew)
      | exact HC.out _ b2)
    (first
      | (go_at_call 17; refine HW0.out.mono ?_; rintro e w2 ⟨A2, c2, rfl, b2'⟩; have b2 : Below w.heap.size w w2 := (show Below w.heap.size w w.drew from (Below.refl _ w).drew).trans b2'))
  all_goals
    have HB := Lib.hid b2
    clear b2 b2'
    go_wp2_with fail
    go_ret
    exact ⟨rfl, HB.out⟩
end Quorum
end Go.Proofs.Ytbhidndgnldheaa

/-
  A node is counted. Written by gen16/count.py.
-/
namespace Go.Proofs.Ytbhidndgnldheaa
namespace Quorum
open Go.RowKit Vers Span Blk
attribute [local go_sem ↓] Go.wp_at_zero Go.wp_at_succ

theorem any_at {l : List En} {node : Int} (hn : (l.map Prod.fst).Nodup) {i : Nat} {b : Bool} {an : List Vr} (he : l[i]? = some (node, b, an)) {j : Nat} {e : En} (hj : l[j]? = some e) (h : isAt node e = true) : j = i ∧ b = false := by
  unfold isAt at h
  rw [Bool.and_eq_true, beq_iff_eq, Bool.not_eq_true'] at h
  have h1 : (l.map Prod.fst)[j]? = some node := by rw [List.getElem?_map, hj]; simp [h.1]
  have h2 : (l.map Prod.fst)[i]? = some node := by rw [List.getElem?_map, he]; rfl
  have hjl := (List.getElem?_eq_some_iff.1 h1).1
  have e1 : j = i := (List.getElem?_inj hjl hn).1 (h1.trans h2.symm)
  subst e1
  rw [he] at hj
  injection hj with hj
  subst hj
  exact ⟨rfl, h.2⟩
theorem count_yes {l : List En} {node : Int} (hn : (l.map Prod.fst).Nodup) {i : Nat} {an a : List Vr} (he : l[i]? = some (node, false, an)) : countF l node a = (true, l.set i (node, true, a)) := by
  have hat : isAt node (node, false, an) = true := by simp [isAt]
  have hany : (l.any (isAt node)) = true := List.any_eq_true.2 ⟨_, List.mem_of_getElem? he, hat⟩
  unfold countF
  rw [if_pos hany]
  have hlt : l.findIdx (isAt node) < l.length := List.findIdx_lt_length_of_exists (by obtain ⟨x, h1, h2⟩ := List.any_eq_true.1 hany; exact ⟨x, h1, h2⟩)
  have hf : isAt node l[l.findIdx (isAt node)] = true := List.findIdx_getElem
  rw [(any_at hn he (List.getElem?_eq_getElem hlt) hf).1]
theorem count_was {l : List En} {node : Int} (hn : (l.map Prod.fst).Nodup) {i : Nat} {an a : List Vr} (he : l[i]? = some (node, true, an)) : countF l node a = (false, l) := by
  unfold countF
  rw [if_neg]
  intro h
  obtain ⟨x, h1, h2⟩ := List.any_eq_true.1 h
  obtain ⟨j, hj⟩ := List.getElem?_of_mem h1
  have := (any_at hn he hj h2).2
  cases this
theorem count_no {l : List En} {node : Int} {a : List Vr} (h : ∀ e ∈ l, e.1 ≠ node) : countF l node a = (false, l) := by
  unfold countF
  rw [if_neg]
  intro h1
  obtain ⟨x, h2, h3⟩ := List.any_eq_true.1 h1
  unfold isAt at h3
  rw [Bool.and_eq_true, beq_iff_eq] at h3
  exact h x h2 h3.1

set_option maxRecDepth 100000 in
theorem index_any (A : Option Addr) (c n : Nat) (l : List Int) (hn : l.length = n) (x : Int) (w : World) (hr : Ns .i64 w w.heap.size A l) (hbig : n ≤ 140737488355328) :
    Calls Try.prog 57 #[.slice A n c, .int .i64 x] w fun e w' => ((e = .returned (.int .i64 (-1)) ∧ x ∉ l) ∨ ∃ i : Nat, e = .returned (.int .i64 i) ∧ l[i]? = some x) ∧ w = w' := by
  have HV := Lib.hid (And.intro hr hn)
  clear hr hn
  go_enter Try.func57, Try.ntmps57
  go_wp2_with fail
  go_loopw [5, 8] (fun _ q wr => ∃ k : Nat, q = .int .i64 k ∧ k ≤ n ∧ wr = w ∧ Hid (x ∉ l.take k)) (fun _ q _ => n - (intOf q).toNat)
  case atStart => exact ⟨0, rfl, by omega, rfl, Lib.hid (by simp)⟩
  case round =>
    obtain ⟨k, rfl, hk, rfl, hno⟩ := hrel
    by_cases hlt : k < n
    · obtain ⟨b, off, rfl, hbl, hat⟩ := HV.out.1 (by have := HV.out.2; omega)
      have z0 := hat k (by have := HV.out.2; omega)
      obtain ⟨y, hy⟩ : ∃ y, l[k]? = some y := ⟨l[k]'(by have := HV.out.2; omega), by simp⟩
      rw [List.getD_eq_getElem?_getD, hy] at z0
      simp only [Option.getD_some] at z0
      have d1 : (0 : Int) ≤ (k : Int) := by omega
      have d2 : (k : Int) < (n : Int) := by omega
      have HY := Lib.hid hy
      clear hat hy
      by_cases hxy : x = y
      · subst hxy
        have g1 : (x == x) = true := by simp
        go_wp2_with fail
        go_ret
        exact ⟨.inr ⟨k, by trivial, HY.out⟩, rfl⟩
      · have g1 : (x == y) = false := by simp [hxy]
        have HN : Hid (x ∉ l.take (k + 1)) := Lib.hid (by
          obtain ⟨hkl, he⟩ := List.getElem?_eq_some_iff.1 HY.out
          rw [List.take_succ_eq_append_getElem hkl, List.mem_append, he]
          rintro (h | h)
          · exact hno.out h
          · exact hxy (List.mem_singleton.1 h))
        clear hno
        go_wp2_with fail
        go_roundw
        case rel => exact ⟨k + 1, rfl, by omega, by trivial, HN⟩
        case measure => simp only [intOf]; omega
    · obtain rfl : k = n := by omega
      have HF := hno.out
      rw [List.take_of_length_le (by have := HV.out.2; omega)] at HF
      have HFF := Lib.hid HF
      clear hno HF
      go_wp2_with fail
      go_ret
      exact ⟨.inl ⟨by trivial, HFF.out⟩, rfl⟩
/-- The list as numbers. -/
theorem Core.ns {T : TypeId} {F : Nat → Prop} {w : World} {rb n lb cl cb ab : Nat} {need : Int} {l : List En} {x : List Value} (h : Core T F w rb need l n lb cl cb ab x) : Ns .i64 w w.heap.size (some ⟨lb, 0, none⟩) (l.map Prod.fst) := fun _ => ⟨lb, 0, rfl, h.2.1.1, fun j hj => by
  rw [List.length_map] at hj
  rw [Nat.zero_add, h.2.1.2 j l[j] (List.getElem?_eq_getElem hj), List.getD_eq_getElem?_getD, List.getElem?_map, List.getElem?_eq_getElem hj]
  rfl⟩
theorem zip_set {α β : Type} (l : List α) (m : List β) (i : Nat) (a : α) (b : β) : (l.set i a).zip (m.set i b) = (l.zip m).set i (a, b) := by
  induction l generalizing m i with
  | nil => simp
  | cons x l ih =>
    cases m with
    | nil => simp
    | cons y m =>
      cases i with
      | zero => simp
      | succ i => simp [ih]
section
variable {T : TypeId} {F : Nat → Prop} {w w' : World} {rb n lb cl cb ab : Nat} {need : Int} {l : List En} {x : List Value} {ps : List Plc}
/-- A mark is set. -/
theorem Core.mark (h : Core T F w rb need l n lb cl cb ab x) {i : Nat} {node : Int} {b : Bool} {an : List Vr} (he : l[i]? = some (node, b, an)) (a : List Vr) : Core T F (w.setCell ⟨cb, i, none⟩ (.bool true)) rb need (l.set i (node, true, a)) n lb cl cb ab x := by
  obtain ⟨⟨h1, h2, h2'⟩, ⟨h3, h4⟩, h5, ⟨f1, f2, f3, f4, f5⟩, h7⟩ := h
  have hg := gset w cb i (.bool true)
  have hi := (List.getElem?_eq_some_iff.1 he).1
  refine ⟨⟨h1.same (hg.block rb h1.lt (by intro e; injection e with e; exact h7.2.2.1 e)), by rw [List.length_set]; exact h2, h2'⟩, ⟨Nat.lt_of_lt_of_le h3 hg.size, fun j e hj => ?_⟩, ?_, ⟨f1, f2, f3, f4, fun k hk => Nat.lt_of_lt_of_le (f5 k hk) hg.size⟩, h7⟩
  · rw [World.cell?_of_block (hg.block lb h3 (by intro e; injection e with e; exact h7.1 e))]
    by_cases hij : i = j
    · subst hij
      rw [List.getElem?_set_self hi] at hj
      injection hj with hj
      subst hj
      exact h4 i (node, b, an) he
    · rw [List.getElem?_set_ne hij] at hj
      exact h4 j e hj
  · have := h5.set i (.bool true)
    rwa [show (l.map fun e => Value.bool e.2.1).set i (.bool true) = (l.set i (node, true, a)).map fun e => Value.bool e.2.1 by rw [List.map_set]] at this
/-- An answer is laid. -/
theorem Ans.lay (h : Ans F w l ps cb ab) {i : Nat} {node : Int} {b : Bool} {an a : List Vr} (he : l[i]? = some (node, b, an)) {A : Option Addr} {c L B : Nat} (hv : Vs w L B A a) (hB : B ≤ w.heap.size) (hac : a.length ≤ c) (ha4 : a.length ≤ 1024) (hF : ∀ k, L ≤ k → k < B → F k ∧ k ≠ cb ∧ k ≠ ab) : Ans F (w.setCell ⟨ab, i, none⟩ (.slice A a.length c)) (l.set i (node, true, a)) (ps.set i (A, c)) cb ab := by
  obtain ⟨h0, h1, h2⟩ := h
  have hg := gset w ab i (.slice A a.length c)
  have hi := (List.getElem?_eq_some_iff.1 he).1
  have hkeep : ∀ k, k < w.heap.size → k ≠ ab → (w.setCell ⟨ab, i, none⟩ (.slice A a.length c)).heap[k]? = w.heap[k]? := fun k hk hne => hg.block k hk (by intro e; injection e with e; exact hne e)
  refine ⟨by rw [List.length_set, List.length_set]; exact h0, ?_, fun j e p hj hp => ?_⟩
  · have := h1.set i (.slice A a.length c)
    rwa [show ((l.zip ps).map fun e => Value.slice e.2.1 e.1.2.2.length e.2.2).set i (.slice A a.length c) = ((l.set i (node, true, a)).zip (ps.set i (A, c))).map fun e => Value.slice e.2.1 e.1.2.2.length e.2.2 by rw [zip_set, List.map_set]] at this
  · by_cases hij : i = j
    · subst hij
      rw [List.getElem?_set_self hi] at hj
      rw [List.getElem?_set_self (by omega)] at hp
      injection hj with hj
      injection hp with hp
      subst hj hp
      exact ⟨hac, ha4, L, B, hv.keep fun q q1 q2 => World.cell?_of_block (hkeep q.block (by omega) (hF _ q1 q2).2.2), Nat.le_trans hB hg.size, hF⟩
    · rw [List.getElem?_set_ne hij] at hj hp
      obtain ⟨a', b', L', B', c', d', f'⟩ := h2 j e p hj hp
      exact ⟨a', b', L', B', c'.keep fun q q1 q2 => World.cell?_of_block (hkeep q.block (by omega) (f' _ q1 q2).2.2), Nat.le_trans d' hg.size, f'⟩
end
set_option maxRecDepth 100000 in
set_option maxHeartbeats 1000000 in
theorem countR_any {T : TypeId} {F : Nat → Prop} {w : World} {rb n lb cl cb ab : Nat} {need : Int} {l : List En} {x : List Value} {ps : List Plc} (h : Core T F w rb need l n lb cl cb ab x) (ha : Ans F w l ps cb ab) (hnd : (l.map Prod.fst).Nodup) (node : Int) (Aa : Option Addr) (ca m : Nat) (an : List Vr) (hm : an.length = m) (hmc : m ≤ ca) (hm4 : m ≤ 1024) {L B : Nat} (hv : Vs w L B Aa an) (hB : B ≤ w.heap.size) (hF : ∀ k, L ≤ k → k < B → F k ∧ k ≠ cb ∧ k ≠ ab) {b : Bool} {l' : List En} (hc : countF l node an = (b, l')) :
    Calls Try.prog 40 #[hd rb, .int .i64 node, .slice Aa m ca] w (fun e w' => e = .returned (.bool b) ∧ Hid (Core T F w' rb need l' n lb cl cb ab x ∧ (∃ ps', Ans F w' l' ps' cb ab) ∧ Chg F w w')) := by
  have hn8 : n ≤ 8 := h.1.2.2.2
  have HX := Lib.hid (index_any (some ⟨lb, 0, none⟩) cl n (l.map Prod.fst) (by rw [List.length_map]; exact h.len) node w h.ns (by omega))
  obtain ⟨x0, x1, x2, x3⟩ := h.head
  subst hm
  go_enter Try.func40, Try.ntmps40
  skip
  go_wp2_with fail
  refine HX.out.mono ?_
  rintro e w1 ⟨⟨rfl, hno⟩ | ⟨i, rfl, hi⟩, rfl⟩
  · have hq := count_no (l := l) (node := node) (a := an) (fun e he e1 => hno (by rw [← e1]; exact List.mem_map_of_mem he))
    rw [hc] at hq
    injection hq.symm with q1 q2
    subst q1 q2
    have HK : Hid (Core T F w rb need l n lb cl cb ab x ∧ (∃ ps', Ans F w l ps' cb ab) ∧ Chg F w w) := Lib.hid ⟨h, ⟨ps, ha⟩, Chg.refl _ _⟩
    go_wp2_with fail
    go_ret
    exact ⟨rfl, HK.out⟩
  · rw [List.getElem?_map] at hi
    obtain ⟨⟨nd, bo, an0⟩, he, rfl⟩ := Option.map_eq_some_iff.1 hi
    simp only at hc hnd ⊢
    obtain ⟨y0, y1⟩ := h.at he
    simp only at y0 y1
    have hin : i < n := by rw [← h.len]; exact (List.getElem?_eq_some_iff.1 he).1
    have d1 : (0 : Int) ≤ (i : Int) := by omega
    have d2 : (i : Int) < (n : Int) := by omega
    have d3 : ¬ (i : Int) < 0 := by omega
    cases bo
    · have hq := count_yes (a := an) hnd he
      rw [hc] at hq
      injection hq.symm with q1 q2
      subst q1 q2
      have hcore := h.mark he an
      have g1 := gset w cb i (.bool true)
      have hne := h.2.2.2.2
      have hans : Ans F (w.setCell ⟨cb, i, none⟩ (.bool true)) l ps cb ab := ha.keep g1.size (g1.block ab ha.2.1.lt (by intro e; injection e with e; exact hne.2.2.2.2.1 e.symm)) fun k hk h1 _ => g1.block k (h.lt k hk) (by intro e; injection e with e; exact h1 e)
      have hv1 : Vs (w.setCell ⟨cb, i, none⟩ (.bool true)) L B Aa an := hv.keep fun p p1 p2 => World.cell?_of_block (g1.block p.block (by omega) (by intro e; injection e with e; exact (hF _ p1 p2).2.1 e))
      have z0 := h.2.2.1.frozen i
      obtain ⟨zz, hzz⟩ : ∃ z, w.cell? ⟨cb, i, none⟩ = some z := ⟨_, y1⟩
      obtain ⟨p, hp, u0, _⟩ := hans.at he
      have u1 := hans.2.1.frozen i
      obtain ⟨v0', v1', v2', v3'⟩ := hcore.head
      obtain ⟨W1, hW1⟩ : ∃ W, w.setCell ⟨cb, i, none⟩ (.bool true) = W := ⟨_, rfl⟩
      rw [hW1] at hcore g1 hans hv1 u0 u1 v0' v1' v2' v3'
      have g2 := gset W1 ab i (.slice Aa an.length ca)
      have hlay := hans.lay he hv1 (Nat.le_trans hB g1.size) hmc hm4 hF
      have hcore2 : Core T F (W1.setCell ⟨ab, i, none⟩ (.slice Aa an.length ca)) rb need (l.set i (nd, true, an)) n lb cl cb ab x := by
        obtain ⟨⟨c1, c2, c2'⟩, ⟨c3, c4⟩, c5, ⟨f1, f2, f3, f4, f5⟩, c7⟩ := hcore
        have nb : ∀ k, k ≠ ab → k < W1.heap.size → (W1.setCell ⟨ab, i, none⟩ (.slice Aa an.length ca)).heap[k]? = W1.heap[k]? := fun k h1 h2 => g2.block k h2 (by intro e; injection e with e; exact h1 e)
        exact ⟨⟨c1.same (nb rb c7.2.2.2.1 c1.lt), c2, c2'⟩, ⟨Nat.lt_of_lt_of_le c3 g2.size, fun j e hj => (World.cell?_of_block (nb lb c7.2.1 c3)).trans (c4 j e hj)⟩, c5.same (nb cb c7.2.2.2.2.1 c5.lt), ⟨f1, f2, f3, f4, fun k hk => Nat.lt_of_lt_of_le (f5 k hk) g2.size⟩, c7⟩
      have hchg : Chg F w (W1.setCell ⟨ab, i, none⟩ (.slice Aa an.length ca)) := (Chg.of_grown g1 (F := F) fun g e => by injection e with e; rw [← e]; exact h.2.2.2.1.2.2.1).trans (Chg.of_grown g2 (F := F) fun g e => by injection e with e; rw [← e]; exact h.2.2.2.1.2.2.2.1) fun k hk => .inl hk
      have HK := Lib.hid (And.intro hcore2 (And.intro (show ∃ ps', Ans F _ (l.set i (nd, true, an)) ps' cb ab from ⟨_, hlay⟩) hchg))
      have HW1 := Lib.hid hW1
      clear hcore g1 hans hv1 g2 hlay hcore2 hchg hW1
      go_upto_region 5 with fail
      rw [HW1.out]
      clear x0 x1 x2 x3 y0 y1 hzz z0
      go_wp2_with fail
      go_ret
      exact ⟨rfl, HK.out⟩
    · have hq := count_was (a := an) hnd he
      rw [hc] at hq
      injection hq.symm with q1 q2
      subst q1 q2
      have HK : Hid (Core T F w rb need l n lb cl cb ab x ∧ (∃ ps', Ans F w l ps' cb ab) ∧ Chg F w w) := Lib.hid ⟨h, ⟨ps, ha⟩, Chg.refl _ _⟩
      go_wp2_with fail
      go_ret
      exact ⟨rfl, HK.out⟩
set_option maxRecDepth 100000 in
set_option maxHeartbeats 1000000 in
theorem countW_any {T : TypeId} {F : Nat → Prop} {w : World} {rb n lb cl cb ab : Nat} {need : Int} {l : List En} {x : List Value} (h : Core T F w rb need l n lb cl cb ab x) (hnd : (l.map Prod.fst).Nodup) (node : Int) {b : Bool} {l' : List En} (hc : countF l node [] = (b, l')) :
    Calls Try.prog 36 #[hd rb, .int .i64 node, .agg #[]] w (fun e w' => e = .returned (.bool b) ∧ Hid (Core T F w' rb need l' n lb cl cb ab x ∧ Chg F w w')) := by
  have hn8 : n ≤ 8 := h.1.2.2.2
  have HX := Lib.hid (index_any (some ⟨lb, 0, none⟩) cl n (l.map Prod.fst) (by rw [List.length_map]; exact h.len) node (w.alloc (.cells #[] 38)) (h.below ((Below.refl _ w).alloc (Nat.le_refl _) _)).ns (by omega))
  obtain ⟨x0, x1, x2, x3⟩ := h.head
  have hB := h.below (w' := w.alloc (.cells #[] 38)) ((Below.refl _ w).alloc (Nat.le_refl _) _)
  obtain ⟨x0, x1, x2, x3⟩ := hB.head
  have hchg0 : Chg F w (w.alloc (.cells #[] 38)) := Chg.of_below ((Below.refl _ w).alloc (Nat.le_refl _) _)
  go_enter Try.func36, Try.ntmps36
  skip
  go_wp2_with fail
  refine HX.out.mono ?_
  rintro e w1 ⟨⟨rfl, hno⟩ | ⟨i, rfl, hi⟩, rfl⟩
  · have hq := count_no (l := l) (node := node) (a := []) (fun e he e1 => hno (by rw [← e1]; exact List.mem_map_of_mem he))
    rw [hc] at hq
    injection hq.symm with q1 q2
    subst q1 q2
    have HK : Hid (Core T F (w.alloc (.cells #[] 38)) rb need l n lb cl cb ab x ∧ Chg F w (w.alloc (.cells #[] 38))) := Lib.hid ⟨hB, hchg0⟩
    go_wp2_with fail
    go_ret
    exact ⟨rfl, HK.out⟩
  · rw [List.getElem?_map] at hi
    obtain ⟨⟨nd, bo, an0⟩, he, rfl⟩ := Option.map_eq_some_iff.1 hi
    simp only at hc hnd ⊢
    obtain ⟨y0, y1⟩ := hB.at he
    simp only at y0 y1
    have hin : i < n := by rw [← h.len]; exact (List.getElem?_eq_some_iff.1 he).1
    have d1 : (0 : Int) ≤ (i : Int) := by omega
    have d2 : (i : Int) < (n : Int) := by omega
    have d3 : ¬ (i : Int) < 0 := by omega
    cases bo
    · have hq := count_yes (a := []) hnd he
      rw [hc] at hq
      injection hq.symm with q1 q2
      subst q1 q2
      have hcore := hB.mark he []
      have g1 := gset (w.alloc (.cells #[] 38)) cb i (.bool true)
      have z0 := hB.2.2.1.frozen i
      have hchg : Chg F w ((w.alloc (.cells #[] 38)).setCell ⟨cb, i, none⟩ (.bool true)) := hchg0.trans (Chg.of_grown g1 (F := F) fun g e => by injection e with e; rw [← e]; exact h.2.2.2.1.2.2.1) fun k hk => .inl hk
      obtain ⟨v0', v1', v2', v3'⟩ := hcore.head
      have HK := Lib.hid (And.intro hcore hchg)
      obtain ⟨W1, hW1⟩ : ∃ W, (w.alloc (.cells #[] 38)).setCell ⟨cb, i, none⟩ (.bool true) = W := ⟨_, rfl⟩
      rw [hW1] at HK v0' v1' v2' v3'
      have HW1 := Lib.hid hW1
      clear hcore g1 hchg hW1
      go_upto_region 5 with fail
      rw [HW1.out]
      clear x0 x1 x2 x3 y0 y1 z0
      have HKD : Hid (Core T F W1.drew rb need (l.set i (nd, true, [])) n lb cl cb ab x ∧ Chg F w W1.drew) := Lib.hid (by
        have hd : Below W1.heap.size W1 W1.drew := (Below.refl _ W1).drew
        exact ⟨HK.out.1.below hd, HK.out.2.trans (Chg.of_below (F := F) hd) fun k hk => .inl hk⟩)
      clear HK
      go_region_law (fail)
      all_goals
        go_wp2_with fail
        go_ret
        exact ⟨rfl, HKD.out⟩
    · have hq := count_was (a := []) hnd he
      rw [hc] at hq
      injection hq.symm with q1 q2
      subst q1 q2
      have HK : Hid (Core T F (w.alloc (.cells #[] 38)) rb need l n lb cl cb ab x ∧ Chg F w (w.alloc (.cells #[] 38))) := Lib.hid ⟨hB, hchg0⟩
      go_wp2_with fail
      go_ret
      exact ⟨rfl, HK.out⟩
end Quorum
end Go.Proofs.Ytbhidndgnldheaa
