/-
  What stands beside a network: variables that hold packets, a row of bytes that is written at will.
-/
import Derived.Test.YtinbaiblbbfnnaaNetSame
import Derived.Test.YtinbaiblbbfnnaaRow
namespace Go.Proofs.Ytinbaiblbbfnnaa
namespace Net
open Go.RowKit Blk Go.Maps
/-- Variables' blocks, each with its five cells. -/
def Vars (w : World) (F : Nat → Prop) (l : List (Nat × List Value)) (V : World) : Prop := ∀ e ∈ l, Bn e.1 36 e.2 V ∧ w.heap.size ≤ e.1 ∧ ¬ F e.1
/-- A row of bytes that is none of the network's. -/
def Bes (w : World) (F : Nat → Prop) (A : Option Addr) (n : Nat) (V : World) : Prop := 0 < n → ∃ g, A = some ⟨g, 0, none⟩ ∧ w.heap.size ≤ g ∧ ¬ F g ∧ (∃ cur, V.heap[g]? = some (.cells cur 5 (0, 0))) ∧ Rw .u8 V g n
section
variable {w V V' : World} {nb m : Nat} {P : List Pk} {s t u : Int} {C : Ad → Ad → Bool} {F F' : Nat → Prop} {l : List (Nat × List Value)} {A : Option Addr} {n : Nat}
theorem Vars.nil : Vars w F [] V := fun e he => by cases he
theorem Vars.step (h : Vars w F l V) (h2 : Stp F V F' V') : Vars w F' l V' := fun e he => by
  obtain ⟨a, b, c⟩ := h e he
  refine ⟨a.same (h2.1.block _ a.lt c), b, fun hf => ?_⟩
  rcases h2.2 _ hf with q | q
  · exact c q
  · have := a.lt; omega
theorem Vars.below (h : Vars w F l V) (hb : Below V.heap.size V V') : Vars w F l V' := h.step (Stp.of_below hb)
theorem Vars.new (h : Vars w F l V) (hw : w.heap.size ≤ V.heap.size) (hF : ∀ k, F k → k < V.heap.size) (cs : List Value) (U : World) (hU : V.alloc (.cells cs.toArray 36) = U) : Vars w F ((V.heap.size, cs) :: l) U := fun e he => by
  subst hU
  rcases List.mem_cons.1 he with rfl | he
  · exact ⟨heap_alloc_new V _, hw, fun hf => by have := hF _ hf; simp only at this; omega⟩
  · exact h.below ((Below.refl _ V).alloc (Nat.le_refl _) _) e he
theorem Vars.at (h : Vars w F l V) {b : Nat} {cs : List Value} (he : (b, cs) ∈ l) : Bn b 36 cs V := (h _ he).1
theorem Vars.at0 {b : Nat} {cs : List Value} (h : Vars w F ((b, cs) :: l) V) : Bn b 36 cs V := h.at List.mem_cons_self
theorem Vars.tail {e : Nat × List Value} (h : Vars w F (e :: l) V) : Vars w F l V := fun x hx => h x (List.mem_cons_of_mem _ hx)
theorem Bes.step (h : Bes w F A n V) (h2 : Stp F V F' V') : Bes w F' A n V' := fun hp => by
  obtain ⟨g, e1, e2, e3, ⟨cur, e4⟩, e5⟩ := h hp
  have hlt := (Array.getElem?_eq_some_iff.1 e4).1
  have hk := h2.1.block g hlt e3
  refine ⟨g, e1, e2, fun hf => ?_, ⟨cur, hk.trans e4⟩, e5.keep hk⟩
  rcases h2.2 _ hf with q | q
  · exact e3 q
  · omega
theorem Bes.below (h : Bes w F A n V) (hb : Below V.heap.size V V') : Bes w F A n V' := h.step (Stp.of_below hb)
theorem bes_of {B c : Nat} {zs : List Int} (o : V.ownsRow B 5 1 (.slice A n c) n (nums .u8 zs)) (hz : zs.length = n) (hg : ∀ g, (Value.slice A n c).ownBlock = some g → w.heap.size ≤ g ∧ ¬ F g) : Bes w F A n V := fun hp => by
  subst hz
  obtain ⟨g, e1, e2, e3, e4⟩ := own_rw o hp
  have := hg g (by rw [e1]; rfl)
  exact ⟨g, e1, this.1, this.2, own_block o (by rw [e1]; rfl), e4⟩
/-- A network, variables, a row of bytes beside it. -/
def All (w : World) (nb : Nat) (P : List Pk) (s t u : Int) (C : Ad → Ad → Bool) (m : Nat) (F : Nat → Prop) (l : List (Nat × List Value)) (A : Option Addr) (n : Nat) (V : World) : Prop := Sit w nb P s t u C m F V ∧ Vars w F l V ∧ Bes w F A n V
theorem All.step {P' : List Pk} {s' t' u' : Int} {C' : Ad → Ad → Bool} {m' : Nat} (h : All w nb P s t u C m F l A n V) (h1 : NI F' V' nb P' s' t' u' C' m') (h2 : Stp F V F' V') : All w nb P' s' t' u' C' m' F' l A n V' := ⟨h.1.step h1 h2, h.2.1.step h2, h.2.2.step h2⟩
/-- A new variable. -/
theorem Vars.var (h : Vars w F l V) (hs : Sit w nb P s t u C m F V) (cs : List Value) {U : World} (hU : V.alloc (.cells cs.toArray 36) = U) : Vars w F ((V.heap.size, cs) :: l) U ∧ Sit w nb P s t u C m F U :=
  ⟨h.new hs.2.1.size hs.1.lt cs U hU, hs.below (by rw [← hU]; exact (Below.refl _ V).alloc (Nat.le_refl _) _)⟩
theorem All.spoil (h : All w nb P s t u C m F l A n V) (hp : 0 < n) : ∃ g, A = some ⟨g, 0, none⟩ ∧ ∀ k, k < n → (∃ z, V.cell? ⟨g, k, none⟩ = some (.int .u8 z)) ∧ V.frozen? ⟨g, k, none⟩ = false ∧ ∀ x, All w nb P s t u C m F l A n (V.setCell ⟨g, k, none⟩ (.int .u8 x)) := by
  obtain ⟨hs, hv, hb⟩ := h
  obtain ⟨g, e1, e2, e3, ⟨cur, e4⟩, e5⟩ := hb hp
  refine ⟨g, e1, fun k hk => ⟨e5.cell k hk, e5.frozen k, fun x => ?_⟩⟩
  have hg := gset V g k (.int .u8 x)
  have hc : Chg (fun j => j = g) V (V.setCell ⟨g, k, none⟩ (.int .u8 x)) := Chg.of_grown hg fun j hj => by injection hj with hj; exact hj.symm
  refine ⟨⟨hs.1.chg hc (fun j hj q => e3 (q ▸ hj)), hs.2.1.trans (hc.below (fun j hj => by omega) hs.2.1.size), hs.2.2⟩, fun e he => ?_, fun _ => ⟨g, e1, e2, e3, ⟨_, by simp [World.setCell, Array.getElem?_modify, e4]; rfl⟩, e5.set k x⟩⟩
  obtain ⟨a, b, c⟩ := hv e he
  refine ⟨a.kept hg fun q => ?_, b, c⟩
  injection q with q
  rw [← q, show V.heap[e.1]? = _ from a] at e4
  injection e4 with e4
  injection e4 with _ e4 _
  exact absurd e4 (by decide)
end
end Net
end Go.Proofs.Ytinbaiblbbfnnaa
