/-
  Blocks of cells; what a call may turn: a set of blocks, and new ones.
-/
import Derived.Test.YtdcppjpjlhbanaaBase
namespace Go.Proofs.Ytdcppjpjlhbanaa
namespace Blk
open Go.RowKit

section
variable {w w' w'' : World}
theorem gset (w : World) (g k : Nat) (v : Value) : w.grownBy (w.setCell ⟨g, k, none⟩ v) (some g) :=
  ⟨rfl, rfl, rfl, by simp [World.setCell], fun j hj hne => by
    have : j ≠ g := fun e => hne (by rw [e])
    simp [World.setCell, Array.getElem?_modify, this.symm]⟩
theorem gdrew {row : Option Nat} (h : w.grownBy w' row) : w.grownBy w'.drew row := ⟨h.os, h.tape, h.output, h.size, h.block⟩
theorem gdrewN {row : Option Nat} (h : w.grownBy w' row) (k : Nat) : w.grownBy (w'.drewN k) row := ⟨h.os, h.tape, h.output, h.size, h.block⟩
/-- Block B holds the cells cs. -/
def Bn (B : Nat) (t : TypeId) (cs : List Value) (w : World) : Prop := w.heap[B]? = some (.cells cs.toArray t (0, 0))
variable {B : Nat} {t : TypeId} {cs : List Value}
theorem Bn.lt (h : Bn B t cs w) : B < w.heap.size := (Array.getElem?_eq_some_iff.1 h).1
theorem Bn.cell (h : Bn B t cs w) (k : Nat) : w.cell? ⟨B, k, none⟩ = cs[k]? := by
  have h' : w.heap[B]? = _ := h
  simp [World.cell?, h']
theorem Bn.frozen (h : Bn B t cs w) (j : Nat) : w.frozen? ⟨B, j, none⟩ = false := by simp [World.frozen?, show w.heap[B]? = _ from h]
theorem Bn.same (h : Bn B t cs w) (hk : w'.heap[B]? = w.heap[B]?) : Bn B t cs w' := hk.trans h
theorem Bn.kept {row : Option Nat} (h : Bn B t cs w) (hg : w.grownBy w' row) (hne : some B ≠ row) : Bn B t cs w' := (hg.block B h.lt hne).trans h
theorem Bn.set (h : Bn B t cs w) (k : Nat) (v : Value) : Bn B t (cs.set k v) (w.setCell ⟨B, k, none⟩ v) := by
  have h' : w.heap[B]? = some (.cells cs.toArray t (0, 0)) := h
  show (w.setCell ⟨B, k, none⟩ v).heap[B]? = _
  simp [World.setCell, Array.getElem?_modify, h']
theorem Bn.type {t' : TypeId} {cs' : List Value} (h : Bn B t cs w) (h' : Bn B t' cs' w) : t = t' := by
  have e : some (Obj.cells cs.toArray t (0, 0)) = some (.cells cs'.toArray t' (0, 0)) := (show w.heap[B]? = _ from h).symm.trans (show w.heap[B]? = _ from h')
  injection e with e
  injection e with e1 e2
end
/-- The block of a row of the call's own: its type. -/
theorem own_block {w : World} {base : Nat} {t : TypeId} {s : Nat} {v : Value} {n : Nat} {xs : List Value} (h : w.ownsRow base t s v n xs) {g : Nat} (hg : v.ownBlock = some g) : ∃ cur, w.heap[g]? = some (.cells cur t (0, 0)) := by
  rcases h.2 with ⟨hv, _⟩ | ⟨g', cap, cur, hv, _, hc, _⟩
  · rw [hv] at hg; cases hg
  · rw [hv] at hg
    injection hg with hg
    subst hg
    exact ⟨cur, hc⟩
theorem own_ne {w : World} {base : Nat} {t t' : TypeId} {s : Nat} {v : Value} {n : Nat} {xs cs : List Value} {B : Nat} (h : w.ownsRow base t s v n xs) (hB : Bn B t' cs w) (ht : t ≠ t') : v.ownBlock ≠ some B := fun e => by
  obtain ⟨cur, hc⟩ := own_block h e
  rw [show w.heap[B]? = _ from hB] at hc
  injection hc with hc
  injection hc with h1 h2
  exact ht h2.symm
theorem own_ne2 {w : World} {base base' : Nat} {t t' : TypeId} {s s' : Nat} {v v' : Value} {n n' : Nat} {xs xs' : List Value} (h : w.ownsRow base t s v n xs) (h' : w.ownsRow base' t' s' v' n' xs') (ht : t ≠ t') {g : Nat} (hg : v.ownBlock = some g) : v'.ownBlock ≠ some g := fun e => by
  obtain ⟨cur, hc⟩ := own_block h hg
  obtain ⟨cur', hc'⟩ := own_block h' e
  rw [hc] at hc'
  injection hc' with hc'
  injection hc' with h1 h2
  exact ht h2
theorem own_keep {w w' : World} {base : Nat} {e : TypeId} {size : Nat} {v : Value} {n : Nat} {xs : List Value} (h : w.ownsRow base e size v n xs) (hk : ∀ g, v.ownBlock = some g → w'.heap[g]? = w.heap[g]?) : w'.ownsRow base e size v n xs := by
  refine ⟨h.1, ?_⟩
  rcases h.2 with ⟨hv, h0⟩ | ⟨g, cap, cur, hv, hb, hc, h1⟩
  · exact .inl ⟨hv, h0⟩
  · exact .inr ⟨g, cap, cur, hv, hb, (hk g (by rw [hv]; rfl)).trans hc, h1⟩

/-- All that was turned is among the blocks F, or new. -/
structure Chg (F : Nat → Prop) (w w' : World) : Prop where
  os : w'.os = w.os
  tape : w'.tape = w.tape
  output : w'.output = w.output
  size : w.heap.size ≤ w'.heap.size
  block : ∀ k, k < w.heap.size → ¬ F k → w'.heap[k]? = w.heap[k]?
section
variable {F F' : Nat → Prop} {w w' w'' : World}
theorem Chg.refl (F : Nat → Prop) (w : World) : Chg F w w := ⟨rfl, rfl, rfl, Nat.le_refl _, fun _ _ _ => rfl⟩
theorem Chg.trans (h : Chg F w w') (h' : Chg F' w' w'') (hF : ∀ k, F' k → F k ∨ w.heap.size ≤ k) : Chg F w w'' :=
  ⟨h'.os.trans h.os, h'.tape.trans h.tape, h'.output.trans h.output, Nat.le_trans h.size h'.size, fun k hk hn => (h'.block k (Nat.lt_of_lt_of_le hk h.size) fun e => (hF k e).elim hn (fun e => by omega)).trans (h.block k hk hn)⟩
theorem Chg.mono (h : Chg F w w') (hF : ∀ k, F k → F' k) : Chg F' w w' := ⟨h.os, h.tape, h.output, h.size, fun k hk hn => h.block k hk fun e => hn (hF k e)⟩
theorem Chg.of_below (h : Below w.heap.size w w') : Chg F w w' := ⟨h.os, h.tape, h.output, h.size, fun k hk _ => h.block k hk⟩
theorem Chg.of_grown {row : Option Nat} (h : w.grownBy w' row) (hr : ∀ g, row = some g → F g) : Chg F w w' := ⟨h.os, h.tape, h.output, h.size, fun k hk hn => h.block k hk fun e => hn (hr k e.symm)⟩
theorem Chg.below {base : Nat} (h : Chg F w w') (hF : ∀ k, F k → base ≤ k) (hb : base ≤ w.heap.size) : Below base w w' := ⟨h.os, h.tape, h.output, h.size, fun k hk => h.block k (by omega) fun e => by have := hF k e; omega⟩
end
/-- Five cells written. -/
def five (V : World) (m : Nat) (u0 u1 u2 u3 u4 : Value) : World := ((((V.setCell ⟨m, 0, none⟩ u0).setCell ⟨m, 1, none⟩ u1).setCell ⟨m, 2, none⟩ u2).setCell ⟨m, 3, none⟩ u3).setCell ⟨m, 4, none⟩ u4
theorem five_bn {V : World} {m : Nat} {t : TypeId} {z0 z1 z2 z3 z4 : Value} (h : Bn m t [z0, z1, z2, z3, z4] V) (u0 u1 u2 u3 u4 : Value) : Bn m t [u0, u1, u2, u3, u4] (five V m u0 u1 u2 u3 u4) := ((((h.set 0 u0).set 1 u1).set 2 u2).set 3 u3).set 4 u4
theorem grown_trans_one {w w' w'' : World} {row : Option Nat} (h : w.grownBy w' row) (h' : w'.grownBy w'' row) : w.grownBy w'' row := ⟨h'.os.trans h.os, h'.tape.trans h.tape, h'.output.trans h.output, Nat.le_trans h.size h'.size, fun k hk hne => (h'.block k (Nat.lt_of_lt_of_le hk h.size) hne).trans (h.block k hk hne)⟩
theorem five_grown (V : World) (m : Nat) (u0 u1 u2 u3 u4 : Value) : V.grownBy (five V m u0 u1 u2 u3 u4) (some m) := grown_trans_one (grown_trans_one (grown_trans_one (grown_trans_one (gset V m 0 u0) (gset _ m 1 u1)) (gset _ m 2 u2)) (gset _ m 3 u3)) (gset _ m 4 u4)
theorem five_size (V : World) (m : Nat) (u0 u1 u2 u3 u4 : Value) : (five V m u0 u1 u2 u3 u4).heap.size = V.heap.size := by simp [five, World.setCell]
theorem five_below {B : Nat} (V : World) (m : Nat) (hm : B ≤ m) (hV : B ≤ V.heap.size) (u0 u1 u2 u3 u4 : Value) : Below B V (five V m u0 u1 u2 u3 u4) := (Below.refl B V).grown (five_grown V m u0 u1 u2 u3 u4) hV fun j hj => by injection hj with hj; omega
theorem results_cell1 {fn : Func} {p : Tmp} {ty : TypeId} (h : fn.results = #[.cell p ty]) (tmps : Array Value) (P : Program) (w : World) :
    (results fn tmps).run P w = ((asAddr (tmps.getD p undef)).run P w).andThen fun a w₁ => (loadVar ty a).run P w₁ := by
  simp only [results, h]
  simp [Sem.run_bind, Result.andThen]
section
variable {P : Program} {w : World}
/-- A call as one step of a region that draws. -/
theorem step_call {ops : Array Oper} {o : Oper} {a : Act} {K : Act → World → Prop} {Q : Exit → Act → World → Prop} {E : Prop} (hgd : o.guard = none) (f : FuncId) (args : Array Operand) (ats : Array TypeId)
    (ho : o.op = .call { callee := .value (.func f), args := args, argTypes := ats }) (hcf : (callFunc f (args.map a.eval)).run P w = .ok (.enter f (args.map a.eval)) w) (vals : Array Value) (hv : args.map a.eval = vals) {R : Ending → World → Prop} (hc : Calls P f vals w R)
    (hR : ∀ e w', R e w' → ∃ v, e = .returned v) (hK : ∀ v w', R (.returned v) w' → K (a.put o.dst v) w') :
    if Region.wanted o (yielded ops a.tmps) = true then Oper.wp P o a w K Q else E := by
  have hw : Region.wanted o (yielded ops a.tmps) = true := by simp [Region.wanted, hgd]
  rw [if_pos hw]
  have hrun : (execOp a.eval o).run P w = .ok (.enter f vals) w := by
    subst hv
    unfold execOp
    simp [ho, go_sem, hcf]
  unfold Oper.wp
  rw [hrun, Oper.upon_enter]
  refine hc.mono fun e w' h => ?_
  obtain ⟨v, rfl⟩ := hR e w' h
  exact hK v w' h
end
end Blk
end Go.Proofs.Ytdcppjpjlhbanaa
