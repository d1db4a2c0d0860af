/-
  Several texts of this family in one: CodeRows, OwnRec, CodeRdVer, CodeRdList, CodeRdRec, CodeRdMsg, CodeRecs, QuorumScanBeg, CodeRight, CodeRightMsg, CodeWrVer, CodeWrRec, CodeRefRight, CodeSame.
-/
import Derived.Test.YtbhidndgnldheaaGreatK12
import Derived.Test.YtbhidndgnldheaaGreatK8
import Derived.Test.YtbhidndgnldheaaGreatK6
import Derived.Test.YtbhidndgnldheaaGreatK5
import Derived.Test.YtbhidndgnldheaaGreatK11
import Derived.Test.YtbhidndgnldheaaGreatK10
/-
 Rows of versions and of records that a reader makes: what an element points to lies in blocks apart from the row's.
-/
namespace Go.Proofs.YtbhidndgnldheaaGreat
namespace Code
open Go.RowKit Num Span Vers

theorem own_same {w w' : World} {base : Nat} {e : TypeId} {size : Nat} {v : Value} {n : Nat} {xs : List Value} (h : w.ownsRow base e size v n xs) (hk : ∀ g, v.ownBlock = some g → w'.heap[g]? = w.heap[g]?) : w'.ownsRow base e size v n xs := by
 refine ⟨h.1, ?_⟩
 rcases h.2 with hn | ⟨g, cap, cur, rfl, hbg, hg, rest⟩
 ·exact .inl hn
 ·exact .inr ⟨g, cap, cur, rfl, hbg, by rw [hk g rfl]; exact hg, rest⟩

def VerO (w : World) (L B : Nat) (p : Pv) : Prop :=
 Pa w L B p.2.1 p.2.2 p.1 ∧ w.ownsRow L 43 3 (.slice p.2.1 p.1.past.length p.2.2) p.1.past.length (sps p.1.past) ∧ ∀ g, (Value.slice p.2.1 p.1.past.length p.2.2).ownBlock = some g → g < B
theorem VerO.keep {w w' : World} {L B : Nat} {p : Pv} (h : VerO w L B p) (hk : ∀ k, L ≤ k → k < B → w'.heap[k]? = w.heap[k]?) : VerO w' L B p :=
 ⟨h.1.keep fun a h1 h2 => World.cell?_of_block (hk a.block h1 h2), own_same h.2.1 fun g hg => hk g (h.2.1.lt g hg).1 (h.2.2 g hg), h.2.2⟩

def RowV (base B : Nat) (w : World) (v : Value) (ps : List Pv) : Prop :=
 w.ownsRow base 40 5 v ps.length (vcs ps) ∧ (∀ g, v.ownBlock = some g → g < B) ∧ ∀ p ∈ ps, ∃ L B', base ≤ L ∧ B' ≤ B ∧ (∀ g, v.ownBlock = some g → g < L ∨ B' ≤ g) ∧ VerO w L B' p
theorem RowV.keep {base B : Nat} {w w' : World} {v : Value} {ps : List Pv} (h : RowV base B w v ps) (hk : ∀ k, base ≤ k → k < B → w'.heap[k]? = w.heap[k]?) : RowV base B w' v ps := by
 refine ⟨own_same h.1 fun g hg => hk g (h.1.lt g hg).1 (h.2.1 g hg), h.2.1, fun p hp => ?_⟩
 obtain ⟨L, B', h1, h2, h3, h4⟩ := h.2.2 p hp
 exact ⟨L, B', h1, h2, h3, h4.keep fun k a b => hk k (by omega) (by omega)⟩
theorem RowV.more {base B B' : Nat} {w : World} {v : Value} {ps : List Pv} (h : RowV base B w v ps) (hB : B ≤ B') : RowV base B' w v ps := by
 refine ⟨h.1, fun g hg => by have := h.2.1 g hg; omega, fun p hp => ?_⟩
 obtain ⟨L, C, h1, h2, h3, h4⟩ := h.2.2 p hp
 exact ⟨L, C, h1, by omega, h3, h4⟩
theorem RowV.less {base base' B : Nat} {w : World} {v : Value} {ps : List Pv} (h : RowV base B w v ps) (hb : base' ≤ base) : RowV base' B w v ps := by
 refine ⟨own_base h.1 hb, h.2.1, fun p hp => ?_⟩
 obtain ⟨L, C, h1, h2, h3, h4⟩ := h.2.2 p hp
 exact ⟨L, C, by omega, h2, h3, h4⟩
theorem RowV.add {base : Nat} {w w1 w2 : World} {v v' : Value} {ps : List Pv} {p : Pv} (h : RowV base w.heap.size w v ps) (hg : ∀ k, base ≤ k → k < w.heap.size → w1.heap[k]? = w.heap[k]?) (hs : w.heap.size ≤ w1.heap.size)
  (hp : VerO w1 w.heap.size w1.heap.size p) (hb : base ≤ w.heap.size) (ho : w2.ownsRow base 40 5 v' (ps.length + 1) (vcs (ps ++ [p]))) (h2 : w1.grownBy w2 v.ownBlock) (hat : v'.ownBlock = v.ownBlock ∨ ∃ g, v'.ownBlock = some g ∧ w1.heap.size ≤ g) : RowV base w2.heap.size w2 v' (ps ++ [p]) := by
 have hs2 := h2.size
 refine ⟨by simpa using ho, fun g hg => (ho.lt g hg).2, fun q hq => ?_⟩
 rcases List.mem_append.1 hq with hq | hq
 ·obtain ⟨L, B', h1, h3, h4, h5⟩ := h.2.2 q hq
  refine ⟨L, B', h1, by omega, fun g hg' => ?_, (h5.keep fun k a b => hg k (by omega) (by omega)).keep fun k a b => h2.block k (by omega) (fun e => ?_)⟩
  ·rcases hat with e | ⟨g', e, hge⟩
   ·exact h4 g (e ▸ hg')
   ·rw [hg'] at e
    injection e with e
    subst e
    exact .inr (by omega)
  ·have := h4 k e.symm
   omega
 ·obtain rfl := List.mem_singleton.1 hq
  refine ⟨w.heap.size, w1.heap.size, hb, hs2, fun g hg' => ?_, hp.keep fun k a b => h2.block k b (fun e => by have := h.2.1 k e.symm; omega)⟩
  rcases hat with e | ⟨g', e, hge⟩
  ·exact .inl (h.2.1 g (e ▸ hg'))
  ·rw [hg'] at e
   injection e with e
   subst e
   exact .inr hge
theorem RowV.vs {base B n c : Nat} {w : World} {A : Option Addr} {ps : List Pv} (h : RowV base B w (.slice A n c) ps) (_hB : B ≤ w.heap.size) : Vs w base B A (ps.map Prod.fst) := by
 intro hp
 rw [List.length_map] at hp
 obtain ⟨ho, hrow, hpa⟩ := h
 rcases ho.2 with ⟨_, h0⟩ | ⟨g, cap, cur, hv, hbg, hg, rest⟩
 ·omega
 ·injection hv with h1 h2 h3
  subst h1
  refine ⟨g, 0, rfl, by omega, hrow g rfl, fun j hj => ?_⟩
  rw [List.length_map] at hj
  have e : (ps.map Prod.fst).getD j v0 = (ps.getD j z0).1 := by simp [List.getD_eq_getElem?_getD, hj]
  have hm : ps.getD j z0 ∈ ps := by
   rw [List.getD_eq_getElem?_getD, List.getElem?_eq_getElem hj]
   exact List.getElem_mem _
  rw [e]
  have hat : ∀ r, r < 5 → ∀ u, (vcc (ps.getD j z0))[r]? = some u → w.cell? ⟨g, 0 + j * 5 + r, none⟩ = some u := fun r hr u hu => by
   have hc := ho.cells (g := g) rfl (j * 5 + r) u (by rw [vcs_at ps j hj r hr]; exact hu)
   rw [Vers.add_plain] at hc
   rw [show 0 + j * 5 + r = 0 + (j * 5 + r) by omega]
   exact hc
  obtain ⟨L, B', k1, k2, _, k4⟩ := hpa _ hm
  exact ⟨_, _, hat 0 (by omega) _ (by simp [vcc]), hat 1 (by omega) _ (by simp [vcc]), hat 2 (by omega) _ (by simp [vcc]), hat 3 (by omega) _ (by simp [vcc]), hat 4 (by omega) _ (by simp [vcc]), (k4.1.more k2).less k1⟩

/-! ### Records -/
abbrev Pr := Rc × Option Addr × Nat
def rcc (p : Pr) : List Value := [.string p.1.1, .slice p.2.1 p.1.2.length p.2.2]
def rcs (ps : List Pr) : List Value := ps.flatMap rcc
theorem rcs_append (ps qs : List Pr) : rcs (ps ++ qs) = rcs ps ++ rcs qs := by simp [rcs]
theorem rcs_one (p : Pr) : rcs [p] = rcc p := by simp [rcs]
theorem rcs_cell (ps : List Pr) : ∀ u ∈ rcs ps, u.oneCell' = true := by
 intro u hu
 obtain ⟨p, _, hp⟩ := List.mem_flatMap.1 hu
 simp [rcc] at hp
 rcases hp with rfl | rfl <;> rfl
def RecO (w : World) (L B : Nat) (p : Pr) : Prop := p.1.2.length ≤ p.2.2 ∧ ∃ ps, ps.map Prod.fst = p.1.2 ∧ RowV L B w (.slice p.2.1 p.1.2.length p.2.2) ps
theorem RecO.keep {w w' : World} {L B : Nat} {p : Pr} (h : RecO w L B p) (hk : ∀ k, L ≤ k → k < B → w'.heap[k]? = w.heap[k]?) : RecO w' L B p := by
 obtain ⟨h0, ps, h1, h2⟩ := h
 exact ⟨h0, ps, h1, h2.keep hk⟩
def RowR (base B : Nat) (w : World) (v : Value) (ps : List Pr) : Prop :=
 w.ownsRow base 46 2 v ps.length (rcs ps) ∧ (∀ g, v.ownBlock = some g → g < B) ∧ ∀ p ∈ ps, ∃ L B', base ≤ L ∧ B' ≤ B ∧ (∀ g, v.ownBlock = some g → g < L ∨ B' ≤ g) ∧ RecO w L B' p
theorem RowR.keep {base B : Nat} {w w' : World} {v : Value} {ps : List Pr} (h : RowR base B w v ps) (hk : ∀ k, base ≤ k → k < B → w'.heap[k]? = w.heap[k]?) : RowR base B w' v ps := by
 refine ⟨own_same h.1 fun g hg => hk g (h.1.lt g hg).1 (h.2.1 g hg), h.2.1, fun p hp => ?_⟩
 obtain ⟨L, B', h1, h2, h3, h4⟩ := h.2.2 p hp
 exact ⟨L, B', h1, h2, h3, h4.keep fun k a b => hk k (by omega) (by omega)⟩
theorem RowR.more {base B B' : Nat} {w : World} {v : Value} {ps : List Pr} (h : RowR base B w v ps) (hB : B ≤ B') : RowR base B' w v ps := by
 refine ⟨h.1, fun g hg => by have := h.2.1 g hg; omega, fun p hp => ?_⟩
 obtain ⟨L, C, h1, h2, h3, h4⟩ := h.2.2 p hp
 exact ⟨L, C, h1, by omega, h3, h4⟩
theorem RowR.add {base : Nat} {w w1 w2 : World} {v v' : Value} {ps : List Pr} {p : Pr} (h : RowR base w.heap.size w v ps) (hg : ∀ k, base ≤ k → k < w.heap.size → w1.heap[k]? = w.heap[k]?) (hs : w.heap.size ≤ w1.heap.size)
  (hp : RecO w1 w.heap.size w1.heap.size p) (hb : base ≤ w.heap.size) (ho : w2.ownsRow base 46 2 v' (ps.length + 1) (rcs (ps ++ [p]))) (h2 : w1.grownBy w2 v.ownBlock) (hat : v'.ownBlock = v.ownBlock ∨ ∃ g, v'.ownBlock = some g ∧ w1.heap.size ≤ g) : RowR base w2.heap.size w2 v' (ps ++ [p]) := by
 have hs2 := h2.size
 refine ⟨by simpa using ho, fun g hg => (ho.lt g hg).2, fun q hq => ?_⟩
 rcases List.mem_append.1 hq with hq | hq
 ·obtain ⟨L, B', h1, h3, h4, h5⟩ := h.2.2 q hq
  refine ⟨L, B', h1, by omega, fun g hg' => ?_, (h5.keep fun k a b => hg k (by omega) (by omega)).keep fun k a b => h2.block k (by omega) (fun e => ?_)⟩
  ·rcases hat with e | ⟨g', e, hge⟩
   ·exact h4 g (e ▸ hg')
   ·rw [hg'] at e
    injection e with e
    subst e
    exact .inr (by omega)
  ·have := h4 k e.symm
   omega
 ·obtain rfl := List.mem_singleton.1 hq
  refine ⟨w.heap.size, w1.heap.size, hb, hs2, fun g hg' => ?_, hp.keep fun k a b => h2.block k b (fun e => by have := h.2.1 k e.symm; omega)⟩
  rcases hat with e | ⟨g', e, hge⟩
  ·exact .inl (h.2.1 g (e ▸ hg'))
  ·rw [hg'] at e
   injection e with e
   subst e
   exact .inr hge

theorem info_rec : (Tryz.prog.info? 46).map (fun i => (i.zero, i.size, i.bytes)) = some (some (.agg #[.string ⟨#[]⟩, .slice none 0 0]), 2, 40) := by kernel_rfl
section
variable {P : Program} (w : World)
theorem wpList_append_r {ops : Array Oper} {rest : List Oper} {o : Oper} {a : Act} {Q : Exit → Act → World → Prop} (hgd : o.guard = none) (s x : Operand) (t : TypeId)
  (ho : o.op = .call { callee := .builtin .append, args := #[s, x], argTypes := #[t, t] })
  (base : Nat) (e : TypeId) (i : TypeInfo) (z : Value) (bytes : Nat) (ht : P.underlying t = some (.slice e)) (hi : P.info? e = some i) (hz : i.zero = some z)
  (hsize : i.size = 2) (hby : i.bytes = bytes) (hzs : z.cells.size = 2)
  (v : Value) (n : Nat) (ps : List Pr) (hs : a.eval s = v) (hown : w.ownsRow base e 2 v n (rcs ps)) (p : Pr) (k : Nat) (hk : p.1.2.length = k) (c : Nat)
  (hx : a.eval x = .slice (some ⟨w.heap.size, 0, none⟩) 1 c)
  (hbytes : (n + 1) * bytes ≤ 140737488355328) (hn : n + 1 ≤ 140737488355328) (hbase : base ≤ w.heap.size)
  (h : ∀ v' w', w'.ownsRow base e 2 v' (n + 1) (rcs (ps ++ [p])) → w.grownBy w' v.ownBlock → (v'.ownBlock = v.ownBlock ∨ ∃ g, v'.ownBlock = some g ∧ w.heap.size ≤ g) → wpList P ops Q rest (a.put o.dst v') w') :
  wpList P ops Q (o :: rest) a (w.alloc (.cells #[.string p.1.1, .slice p.2.1 k p.2.2] e)) := by
 subst hk
 refine wpList_append_own_at _ hgd s x t ho base e i z 2 bytes ht hi hz hsize hby hzs (by omega) v n (rcs ps) hs (hown.alloc _) ⟨w.heap.size, 0, none⟩ 1 c (rcc p) hx rfl ?_ ?_ (by unfold maxLen; omega) hbytes (by simp; omega) ?_
 ·intro j u' hj
  match j, hj with
  | 0, hj => simp [rcc] at hj; subst hj; simp [Addr.add]
  | 1, hj => simp [rcc] at hj; subst hj; simp [Addr.add]
 ·intro u' hu
  exact rcs_cell [p] u' (by rw [rcs_one]; exact hu)
 ·intro v' w' hown' hg _ hat
  refine h v' w' ?_ ?_ ?_
  ·rw [rcs_append, rcs_one]; exact hown'
  ·exact ⟨hg.os, hg.tape, hg.output, Nat.le_trans (by simp) hg.size, fun k hk hne => (hg.block k (by simp; omega) hne).trans (Below.heap_alloc w _ k hk)⟩
  ·rcases hat with h1 | h1
   ·exact .inl h1
   ·exact .inr ⟨_, h1, by simp⟩
end

/-! ### Blocks of cells -/
def Bn (B : Nat) (t : TypeId) (cs : List Value) (w : World) : Prop := w.heap[B]? = some (.cells cs.toArray t (0, 0))
section
variable {B : Nat} {t : TypeId} {cs : List Value} {w w' : World}
theorem Bn.lt (h : Bn B t cs w) : B < w.heap.size := (Array.getElem?_eq_some_iff.1 h).1
theorem Bn.cell (h : Bn B t cs w) (k : Nat) : w.cell? ⟨B, k, none⟩ = cs[k]? := by
 have h' : w.heap[B]? = _ := h
 simp [World.cell?, h']
theorem Bn.frozen (h : Bn B t cs w) (j : Nat) : w.frozen? ⟨B, j, none⟩ = false := by simp [World.frozen?, show w.heap[B]? = _ from h]
theorem Bn.kept {row : Option Nat} (h : Bn B t cs w) (hg : w.grownBy w' row) (hne : some B ≠ row) : Bn B t cs w' := (hg.block B h.lt hne).trans h
theorem Bn.set (h : Bn B t cs w) (k : Nat) (v : Value) : Bn B t (cs.set k v) (w.setCell ⟨B, k, none⟩ v) := by
 have h' : w.heap[B]? = some (.cells cs.toArray t (0, 0)) := h
 show (w.setCell ⟨B, k, none⟩ v).heap[B]? = _
 simp [World.setCell, Array.getElem?_modify, h']
end
end Code
end Go.Proofs.YtbhidndgnldheaaGreat

/-
 firthref10.Own: a record in memory of its own.
-/
namespace Go.Proofs.YtbhidndgnldheaaGreat
namespace Own
open Go.RowKit Vers Span Blk
attribute [local go_sem ↓] Go.wp_at_zero Go.wp_at_succ

end Own
end Go.Proofs.YtbhidndgnldheaaGreat

/-
 The reader of layer 6: addresses, hashes, versions and records.
-/
namespace Go.Proofs.YtbhidndgnldheaaGreat
namespace Code
open Go.RowKit Num Span Vers
attribute [local go_sem ↓] Go.wp_at_zero Go.wp_at_succ

section
variable {g c n B p q : Nat} {A : Option Addr} {zs : List Int} {T : TypeId} {z vs : List Value} {w x x' : World}
end

end Code
end Go.Proofs.YtbhidndgnldheaaGreat

/-
 The reader of layer 6: lists of versions, of records, of numbers.
-/
namespace Go.Proofs.YtbhidndgnldheaaGreat
namespace Code
open Go.RowKit Num Span Vers
attribute [local go_sem ↓] Go.wp_at_zero Go.wp_at_succ

end Code
end Go.Proofs.YtbhidndgnldheaaGreat

/-
 The reader of layer 6: records and lists of them.
-/
namespace Go.Proofs.YtbhidndgnldheaaGreat
namespace Code
open Go.RowKit Num Span Vers
attribute [local go_sem ↓] Go.wp_at_zero Go.wp_at_succ

end Code
end Go.Proofs.YtbhidndgnldheaaGreat

/-
 The reader of layer 6: messages.
-/
namespace Go.Proofs.YtbhidndgnldheaaGreat
namespace Code
open Go.RowKit Num Span Vers
attribute [local go_sem ↓] Go.wp_at_zero Go.wp_at_succ

section
variable {g c n B p q : Nat} {A : Option Addr} {zs : List Int} {T : TypeId} {z vs : List Value} {w x x' : World} {O O' : World → Prop}
end

abbrev Pl := (Option Addr × Nat) × (Option Addr × Nat) × (Option Addr × Nat) × (Option Addr × Nat) × (Option Addr × Nat)
theorem RowR.less {base base' B : Nat} {w : World} {v : Value} {ps : List Pr} (h : RowR base B w v ps) (hb : base' ≤ base) : RowR base' B w v ps := by
 refine ⟨own_base h.1 hb, h.2.1, fun p hp => ?_⟩
 obtain ⟨L, C, h1, h2, h3, h4⟩ := h.2.2 p hp
 exact ⟨L, C, by omega, h2, h3, h4⟩

end Code
end Go.Proofs.YtbhidndgnldheaaGreat

/-
 Records in memory.
-/
namespace Go.Proofs.YtbhidndgnldheaaGreat
namespace Code
open Go.RowKit Num Span Vers

def r0 : Rc := (⟨#[]⟩, [])
def Rat (w : World) (L B b off : Nat) (r : Rc) (A : Option Addr) (c : Nat) : Prop :=
 w.cell? ⟨b, off, none⟩ = some (.string r.1) ∧ w.cell? ⟨b, off + 1, none⟩ = some (.slice A r.2.length c) ∧ Vs w L B A r.2 ∧ (r.2.length ≤ c ∧ r.2.length ≤ 140737488355328 ∧ r.1.size ≤ 140737488355328)
def Rs (w : World) (L B : Nat) (A : Option Addr) (l : List Rc) : Prop :=
 0 < l.length → ∃ b off, A = some ⟨b, off, none⟩ ∧ L ≤ b ∧ b < B ∧ ∀ j, j < l.length → ∃ A' c', Rat w L B b (off + j * 2) (l.getD j r0) A' c'
section
variable {w w' : World} {L L' B B' b off c : Nat} {A : Option Addr} {l : List Rc} {r : Rc}
theorem Rat.keep (h : Rat w L B b off r A c) (hL : L ≤ b) (hb : b < B) (hk : ∀ p : Addr, L ≤ p.block → p.block < B → w'.cell? p = w.cell? p) : Rat w' L B b off r A c := by
 obtain ⟨h0, h1, h2, h3⟩ := h
 exact ⟨(hk ⟨b, _, none⟩ hL hb).trans h0, (hk ⟨b, _, none⟩ hL hb).trans h1, h2.keep hk, h3⟩
theorem Rs.nil (A : Option Addr) : Rs w L B A [] := fun h => absurd h (by simp)
theorem Rs.keep (h : Rs w L B A l) (hk : ∀ p : Addr, L ≤ p.block → p.block < B → w'.cell? p = w.cell? p) : Rs w' L B A l := fun hp => by
 obtain ⟨b, off, e, hL, hb, hc⟩ := h hp
 refine ⟨b, off, e, hL, hb, fun j hj => ?_⟩
 obtain ⟨A', c', h1⟩ := hc j hj
 exact ⟨A', c', h1.keep hL hb hk⟩
theorem Rs.more (h : Rs w L B A l) (hB : B ≤ B') : Rs w L B' A l := fun hp => by
 obtain ⟨b, off, e, hL, hb, hc⟩ := h hp
 refine ⟨b, off, e, hL, by omega, fun j hj => ?_⟩
 obtain ⟨A', c', h0, h1, h2, h3⟩ := hc j hj
 exact ⟨A', c', h0, h1, h2.more hB, h3⟩
theorem Rs.less (h : Rs w L B A l) (hL : L' ≤ L) : Rs w L' B A l := fun hp => by
 obtain ⟨b, off, e, hLb, hb, hc⟩ := h hp
 refine ⟨b, off, e, by omega, hb, fun j hj => ?_⟩
 obtain ⟨A', c', h0, h1, h2, h3⟩ := hc j hj
 exact ⟨A', c', h0, h1, h2.less hL, h3⟩
theorem Rs.below (h : Rs w L B A l) (hb : Below B w w') : Rs w' L B A l := h.keep fun _ _ hp => hb.cell hp
theorem Rs.alloc (h : Rs w L B A l) (hB : B ≤ w.heap.size) (o : Obj) : Rs (w.alloc o) L B A l := h.keep fun p _ hp => World.cell?_alloc_lt w o p (by omega)
theorem Rs.at {n k : Nat} (h : Rs w L B A l) (hn : l.length = n) (hb : Below B w w') (hk : k < n) (hv : l.getD k r0 = r) : ∃ b off A' c', A = some ⟨b, off, none⟩ ∧ L ≤ b ∧ b < B ∧ Rat w' L B b (off + k * 2) r A' c' := by
 obtain ⟨b, off, e, hL, hbB, hc⟩ := (h.below hb) (by omega)
 obtain ⟨A', c', h1⟩ := hc k (by omega)
 rw [hv] at h1
 exact ⟨b, off, A', c', e, hL, hbB, h1⟩
end
theorem rcs_at (ps : List Pr) : ∀ j, j < ps.length → ∀ r, r < 2 → (rcs ps)[j * 2 + r]? = (rcc (ps.getD j (r0, none, 0)))[r]? := by
 induction ps with
 | nil => intro j h; simp at h
 | cons x l ih =>
  intro j hj r hr
  have h0 : rcs (x :: l) = rcc x ++ rcs l := by simp [rcs]
  rw [h0]
  rcases j with _ | j
  ·rw [List.getElem?_append_left (by simp [rcc]; omega)]
   simp
  ·have hh := ih j (by simpa using hj) r hr
   rw [List.getElem?_append_right (by simp [rcc]; omega)]
   rw [show (j + 1) * 2 + r - (rcc x).length = j * 2 + r by simp [rcc]; omega, hh]
   simp
theorem RowR.rs {base B n c : Nat} {w : World} {A : Option Addr} {ps : List Pr} (h : RowR base B w (.slice A n c) ps) (hB : B ≤ w.heap.size) (hz : ∀ p ∈ ps, p.1.1.size ≤ 140737488355328 ∧ p.1.2.length ≤ 140737488355328) : Rs w base B A (ps.map Prod.fst) := by
 intro hp
 rw [List.length_map] at hp
 obtain ⟨ho, hrow, hpa⟩ := h
 rcases ho.2 with ⟨_, h0⟩ | ⟨g, cap, cur, hv, hbg, hg, rest⟩
 ·omega
 ·injection hv with h1 h2 h3
  subst h1
  refine ⟨g, 0, rfl, by omega, hrow g rfl, fun j hj => ?_⟩
  rw [List.length_map] at hj
  have e : (ps.map Prod.fst).getD j r0 = (ps.getD j (r0, none, 0)).1 := by simp [List.getD_eq_getElem?_getD, hj]
  have hm : ps.getD j (r0, none, 0) ∈ ps := by
   rw [List.getD_eq_getElem?_getD, List.getElem?_eq_getElem hj]
   exact List.getElem_mem _
  rw [e]
  have hat : ∀ r, r < 2 → ∀ u, (rcc (ps.getD j (r0, none, 0)))[r]? = some u → w.cell? ⟨g, 0 + j * 2 + r, none⟩ = some u := fun r hr u hu => by
   have hc := ho.cells (g := g) rfl (j * 2 + r) u (by rw [rcs_at ps j hj r hr]; exact hu)
   rw [Vers.add_plain] at hc
   rw [show 0 + j * 2 + r = 0 + (j * 2 + r) by omega]
   exact hc
  obtain ⟨L, B', k1, k2, _, k4, qs, hq, hrow⟩ := hpa _ hm
  obtain ⟨z1, z2⟩ := hz _ hm
  have hvs := hrow.vs (by omega)
  rw [hq] at hvs
  exact ⟨_, _, hat 0 (by omega) _ (by simp [rcc]), hat 1 (by omega) _ (by simp [rcc]), (hvs.more k2).less k1, k4, z2, z1⟩
end Code
end Go.Proofs.YtbhidndgnldheaaGreat

/-
 An asking is begun (scans). Written by gen16/scan.py.
-/
namespace Go.Proofs.YtbhidndgnldheaaGreat
namespace Quorum
open Go.RowKit Vers Span Blk
attribute [local go_sem ↓] Go.wp_at_zero Go.wp_at_succ

abbrev zeroS : List Value := [.slice none 0 0, .int .i64 0, .slice none 0 0, .slice none 0 0]
def BegunS (ls : List Int) (need : Int) (n : Nat) (w : World) (e : Ending) (w' : World) : Prop :=
 (¬ okL ls need ∧ e = .returned (.tuple #[.agg #[.slice none 0 0, .int .i64 0, .slice none 0 0, .slice none 0 0], .bool false]) ∧ Below w.heap.size w w') ∨
 (okL ls need ∧ ∃ lb cl cb ab, e = .returned (.tuple #[.agg #[.slice (some ⟨lb, 0, none⟩) n cl, .int .i64 need, .slice (some ⟨cb, 0, none⟩) n n, .slice (some ⟨ab, 0, none⟩) n n], .bool true]) ∧ Hid (Beg 23 (List.replicate n (.slice none 0 0)) w w' ls n lb cb ab))
set_option maxRecDepth 100000 in
set_option maxHeartbeats 4000000 in
theorem beginS_any (A : Option Addr) (c n : Nat) (ls : List Int) (hn : ls.length = n) (need : Int) (w : World) (hr : Ns .i64 w w.heap.size A ls) (hbig : n ≤ 140737488355328) (hnc : n ≤ c) :
  Calls Tryz.prog 25 #[.slice A n c, .int .i64 need] w (BegunS ls need n w) := by
 obtain ⟨U, hU⟩ : ∃ U, w.alloc (.cells #[.slice none 0 0, .int .i64 0, .slice none 0 0, .slice none 0 0] 76) = U := ⟨_, rfl⟩
 have bU : Below w.heap.size w U := by rw [← hU]; exact (Below.refl _ w).alloc (Nat.le_refl _) _
 have sU : U.heap.size = w.heap.size + 1 := by rw [← hU]; simp
 have BU : Bn w.heap.size 76 zeroS U := by rw [← hU]; exact heap_alloc_new w _
 obtain ⟨rk, hrk⟩ : ∃ k, w.heap.size = k := ⟨_, rfl⟩
 have HV := Lib.hid (And.intro hr hn)
 rw [hrk] at BU sU
 have HU := Lib.hid (And.intro hU (And.intro hrk (And.intro bU (And.intro BU sU))))
 clear hr hn hU bU BU sU
 have hbad : ∀ V : World, Below U.heap.size U V → ¬ okL ls need → Hid (BegunS ls need n w (.returned (.tuple #[.agg #[.slice none 0 0, .int .i64 0, .slice none 0 0, .slice none 0 0], .bool false])) ((((V.setCell ⟨rk, 0, none⟩ (.slice none 0 0)).setCell ⟨rk, 1, none⟩ (.int .i64 0)).setCell ⟨rk, 2, none⟩ (.slice none 0 0)).setCell ⟨rk, 3, none⟩ (.slice none 0 0))) := fun V hV ho => Lib.hid (.inl ⟨ho, rfl, by
  have h := HU.out.2.2.1.trans (hV.mono HU.out.2.2.1.size)
  rw [HU.out.2.1] at h ⊢
  exact (((h.setCell (Nat.le_refl _) _).setCell (Nat.le_refl _) _).setCell (Nat.le_refl _) _).setCell (Nat.le_refl _) _⟩)
 have HBAD := Lib.hid hbad
 clear hbad
 by_cases hb : (n : Int) ≤ 8 ∧ 1 ≤ need ∧ need ≤ (n : Int)
 ·obtain ⟨hb1, hb2, hb3⟩ := hb
  have g1 : ¬ (8 : Int) < (n : Int) := by omega
  have g2 : ¬ need < 1 := by omega
  have g3 : ¬ (n : Int) < need := by omega
  obtain ⟨ob, oo, rfl, hbl, _⟩ := HV.out.1 (by have := HV.out.2; omega)
  have hc0 : ¬ 0 = c := by omega
  have hc1 : ¬ c = 0 := by omega
  go_enter Tryz.func25, Tryz.ntmps25
  go_wp2_with fail
  rw [HU.out.1]
  go_loopw [6, 7, 24] (fun _ _ q wr => ∃ k : Nat, q = .int .i64 k ∧ k ≤ n ∧ Hid (Below U.heap.size U wr ∧ Good ls k)) (fun _ _ q _ => n - (intOf q).toNat)
  case atStart => exact ⟨0, rfl, by omega, Lib.hid ⟨Below.refl _ _, good_zero ls⟩⟩
  case round =>
   obtain ⟨k, rfl, hk, hst⟩ := hrel
   by_cases hlt : k < n
   ·obtain ⟨x, hx⟩ : ∃ x, ls[k]? = some x := ⟨ls[k]'(by have := HV.out.2; omega), by simp⟩
    have hbw := HU.out.2.2.1.trans (hst.out.1.mono HU.out.2.2.1.size)
    have hnw := HV.out.1.below hbw
    obtain ⟨b', o', e', _, hat⟩ := hnw (by have := HV.out.2; omega)
    injection e' with e'
    injection e' with e1 e2 _
    subst e1 e2
    have z0 := hat k (by have := HV.out.2; omega)
    rw [List.getD_eq_getElem?_getD, hx] at z0
    simp only [Option.getD_some] at z0
    have d1 : (0 : Int) ≤ (k : Int) := by omega
    have d2 : (k : Int) < (n : Int) := by omega
    have hkc : k ≤ c := by omega
    have d3 : (k : Int) ≤ (c : Int) := by omega
    have B1 := HU.out.2.2.2.1.same (hst.out.1.block rk HU.out.2.2.2.1.lt)
    have r0 := (B1.cell 0).trans rfl
    have r1 := (B1.cell 1).trans rfl
    have r2 := (B1.cell 2).trans rfl
    have r3 := (B1.cell 3).trans rfl
    have f0 := B1.frozen 0
    have f1 := B1.frozen 1
    have f2 := B1.frozen 2
    have f3 := B1.frozen 3
    by_cases hx1 : 1 ≤ x ∧ x ≤ 8
    ·have g4 : ¬ x < 1 := by omega
     have g5 : ¬ (8 : Int) < x := by omega
     have HCO := Lib.hid (Ring.contains_any (some ⟨ob, oo, none⟩) c k (ls.take k) (by rw [List.length_take]; have := HV.out.2; omega) x wr ((hnw.take k).more (Nat.le_trans HU.out.2.2.1.size hst.out.1.size)) (by omega))
     have HX := Lib.hid hx
     clear hx hnw hat
     go_wp2_with fail
     refine HCO.out.mono ?_
     rintro e w2 ⟨rfl, b2⟩
     have hb2' := hst.out.1.trans (b2.mono hst.out.1.size)
     by_cases hin : x ∈ ls.take k
     ·rw [decide_eq_true hin]
      have HBB := Lib.hid (HBAD.out w2 hb2' (good_not HX.out (.inr hin)))
      have B2 := B1.same (b2.block rk B1.lt)
      have r0 := (B2.cell 0).trans rfl
      have r1 := (B2.cell 1).trans rfl
      have r2 := (B2.cell 2).trans rfl
      have r3 := (B2.cell 3).trans rfl
      have f0 := B2.frozen 0
      have f1 := B2.frozen 1
      have f2 := B2.frozen 2
      have f3 := B2.frozen 3
      have BY := (((B2.set 0 (.slice none 0 0)).set 1 (.int .i64 0)).set 2 (.slice none 0 0)).set 3 (.slice none 0 0)
      simp only [List.set_cons_zero, List.set_cons_succ] at BY
      obtain ⟨Y, hY⟩ : ∃ Y, (((w2.setCell ⟨rk, 0, none⟩ (.slice none 0 0)).setCell ⟨rk, 1, none⟩ (.int .i64 0)).setCell ⟨rk, 2, none⟩ (.slice none 0 0)).setCell ⟨rk, 3, none⟩ (.slice none 0 0) = Y := ⟨_, rfl⟩
      rw [hY] at BY HBB
      have u0 := (BY.cell 0).trans rfl
      have u1 := (BY.cell 1).trans rfl
      have u2 := (BY.cell 2).trans rfl
      have u3 := (BY.cell 3).trans rfl
      clear BY B2 B1 b2 hb2' hst HCO
      go_wp2_with fail
      refine bodyPost_ret (v := .tuple #[.agg #[.slice none 0 0, .int .i64 0, .slice none 0 0, .slice none 0 0], .bool false]) ?_ rfl HBB.out.out
      rw [results_cell_tmp rfl]
      go_simp
     ·rw [decide_eq_false hin]
      have HN : Hid (Below U.heap.size U w2 ∧ Good ls (k + 1)) := Lib.hid ⟨hb2', good_step hst.out.2 HX.out hx1 hin⟩
      clear b2 hb2' hst HCO B1
      go_wp2_with fail
      go_roundw
      case rel => exact ⟨k + 1, rfl, by omega, HN⟩
      case measure => simp only [intOf]; omega
    ·have HBB := Lib.hid (HBAD.out wr hst.out.1 (good_not hx (.inl hx1)))
     have BY := (((B1.set 0 (.slice none 0 0)).set 1 (.int .i64 0)).set 2 (.slice none 0 0)).set 3 (.slice none 0 0)
     simp only [List.set_cons_zero, List.set_cons_succ] at BY
     obtain ⟨Y, hY⟩ : ∃ Y, (((wr.setCell ⟨rk, 0, none⟩ (.slice none 0 0)).setCell ⟨rk, 1, none⟩ (.int .i64 0)).setCell ⟨rk, 2, none⟩ (.slice none 0 0)).setCell ⟨rk, 3, none⟩ (.slice none 0 0) = Y := ⟨_, rfl⟩
     rw [hY] at BY HBB
     have u0 := (BY.cell 0).trans rfl
     have u1 := (BY.cell 1).trans rfl
     have u2 := (BY.cell 2).trans rfl
     have u3 := (BY.cell 3).trans rfl
     clear BY B1 hst hnw hat hx
     by_cases hx0 : x < 1
     ·go_wp2_with fail
      refine bodyPost_ret (v := .tuple #[.agg #[.slice none 0 0, .int .i64 0, .slice none 0 0, .slice none 0 0], .bool false]) ?_ rfl HBB.out.out
      rw [results_cell_tmp rfl]
      go_simp
     ·have hx8 : (8 : Int) < x := by omega
      go_wp2_with fail
      refine bodyPost_ret (v := .tuple #[.agg #[.slice none 0 0, .int .i64 0, .slice none 0 0, .slice none 0 0], .bool false]) ?_ rfl HBB.out.out
      rw [results_cell_tmp rfl]
      go_simp
   ·obtain rfl : k = n := by omega
    have hokl : okL ls need := good_all (by have := HV.out.2; omega) (by rw [HV.out.2]; exact hst.out.2)
    have HOK := Lib.hid hokl
    clear hokl
    have hbU := hst.out.1
    have hw0 : Below w.heap.size w wr.drew := (HU.out.2.2.1.trans (hbU.mono HU.out.2.2.1.size)).drew
    have B0 : Bn rk 76 zeroS wr.drew := HU.out.2.2.2.1.same (hbU.block rk HU.out.2.2.2.1.lt)
    have hd : Below wr.drew.heap.size wr.drew wr.drew := Below.refl _ _
    have hm1 : ∀ W : World, (Instr.makeSlice 56 (.int .i64 (k : Int)) (.int .i64 (k : Int))).run Tryz.prog W = .ok (.slice (some ⟨W.heap.size, 0, none⟩) k k) (W.alloc (.cells (List.replicate k (.bool false)).toArray 4)) := fun W => by
     rw [← made_is]
     exact run_make_row' 56 4 (.bool false) 1 Tryz.underlying56 (by kernel_rfl) rfl .i64 .i64 k (by omega) (by omega) W
    have hm2 : ∀ W : World, (Instr.makeSlice 74 (.int .i64 (k : Int)) (.int .i64 (k : Int))).run Tryz.prog W = .ok (.slice (some ⟨W.heap.size, 0, none⟩) k k) (W.alloc (.cells (List.replicate k (.slice none 0 0) : List Value).toArray 23)) := fun W => by
     rw [← made_is]
     exact run_make_row' 74 23 (.slice none 0 0) 24 Tryz.underlying74 (by kernel_rfl) rfl .i64 .i64 k (by omega) (by omega) W
    have HCL : Hid (∀ V, Below w.heap.size w V → Calls Tryz.prog 50 #[.slice (some ⟨ob, oo, none⟩) k c] V (Ints.NewI ls k V)) := Lib.hid fun V hV => Ints.clonei_any (some ⟨ob, oo, none⟩) c k ls HV.out.2 V ((HV.out.1.below hV).more hV.size) (by omega)
    have HM1 := Lib.hid hm1
    have HM2 := Lib.hid hm2
    have hcf : ∀ (a : Array Value) (w : World), (callFunc 50 a).run Tryz.prog w = .ok (.enter 50 a) w := fun a w => by simp [go_sem]
    have hk0 : 0 < k := by omega
    have hlen := HV.out.2
    clear hst hm1 hm2
    obtain ⟨M1, hM1⟩ : ∃ o, Obj.cells (List.replicate k (.bool false)).toArray 4 = o := ⟨_, rfl⟩
    obtain ⟨M2, hM2⟩ : ∃ o, Obj.cells (List.replicate k (.slice none 0 0) : List Value).toArray 23 = o := ⟨_, rfl⟩
    have hm1 := HM1.out
    have hm2 := HM2.out
    rw [hM1] at hm1
    rw [hM2] at hm2
    have HM := Lib.hid (And.intro hM1 hM2)
    have hs2 := Lib.hid (show rk + 1 ≤ wr.heap.size from B0.lt)
    have ba : ∀ (V : World) (o : Obj), Below V.heap.size V (V.alloc o) := fun V o => (Below.refl _ V).alloc (Nat.le_refl _) _
    have n1 : Bn wr.heap.size 4 (List.replicate k (.bool false)) (wr.drew.alloc M1) := by rw [← hM1]; exact heap_alloc_new wr.drew _
    have n2 : Bn wr.heap.size 23 (List.replicate k (.slice none 0 0) : List Value) (wr.drew.alloc M2) := by rw [← hM2]; exact heap_alloc_new wr.drew _
    have n12 : Bn (wr.heap.size + 1) 23 (List.replicate k (.slice none 0 0) : List Value) ((wr.drew.alloc M1).alloc M2) := by
     have h : Bn (wr.drew.alloc M1).heap.size 23 (List.replicate k (.slice none 0 0) : List Value) ((wr.drew.alloc M1).alloc M2) := by rw [← hM2]; exact heap_alloc_new _ _
     rwa [World.size_alloc] at h
    have n21 : Bn (wr.heap.size + 1) 4 (List.replicate k (.bool false)) ((wr.drew.alloc M2).alloc M1) := by
     have h : Bn (wr.drew.alloc M2).heap.size 4 (List.replicate k (.bool false)) ((wr.drew.alloc M2).alloc M1) := by rw [← hM1]; exact heap_alloc_new _ _
     rwa [World.size_alloc] at h
    have HB0 := Lib.hid (And.intro hw0 (And.intro (show rk + 1 ≤ wr.drew.heap.size from B0.lt) B0))
    have HB1 : Hid (Below w.heap.size w (wr.drew.alloc M1) ∧ rk + 1 ≤ (wr.drew.alloc M1).heap.size ∧ Bn rk 76 zeroS (wr.drew.alloc M1)) := Lib.hid ⟨hw0.trans ((ba _ _).mono hw0.size), Nat.le_trans B0.lt (ba wr.drew M1).size, bn_below B0 (ba _ _)⟩
    have HB2 : Hid (Below w.heap.size w (wr.drew.alloc M2) ∧ rk + 1 ≤ (wr.drew.alloc M2).heap.size ∧ Bn rk 76 zeroS (wr.drew.alloc M2)) := Lib.hid ⟨hw0.trans ((ba _ _).mono hw0.size), Nat.le_trans B0.lt (ba wr.drew M2).size, bn_below B0 (ba _ _)⟩
    have HB12 : Hid (Below w.heap.size w ((wr.drew.alloc M1).alloc M2) ∧ rk + 1 ≤ ((wr.drew.alloc M1).alloc M2).heap.size ∧ Bn rk 76 zeroS ((wr.drew.alloc M1).alloc M2)) := Lib.hid ⟨HB1.out.1.trans ((ba _ _).mono HB1.out.1.size), Nat.le_trans HB1.out.2.1 (ba _ M2).size, bn_below HB1.out.2.2 (ba _ _)⟩
    have HB21 : Hid (Below w.heap.size w ((wr.drew.alloc M2).alloc M1) ∧ rk + 1 ≤ ((wr.drew.alloc M2).alloc M1).heap.size ∧ Bn rk 76 zeroS ((wr.drew.alloc M2).alloc M1)) := Lib.hid ⟨HB2.out.1.trans ((ba _ _).mono HB2.out.1.size), Nat.le_trans HB2.out.2.1 (ba _ M1).size, bn_below HB2.out.2.2 (ba _ _)⟩
    have HB1M := Lib.hid n1
    have HB2M := Lib.hid n2
    have HB12M := Lib.hid (And.intro (bn_below n1 (ba (wr.drew.alloc M1) M2)) n12)
    have HB21M := Lib.hid (And.intro (bn_below n2 (ba (wr.drew.alloc M2) M1)) n21)
    clear hM1 hM2 HM1 HM2 ba n1 n2 n12 n21 B0 hw0 hbU hd
    go_wp2_with fail
    go_region_law (first
     | (refine step_call (by rfl) 50 _ _ (by rfl) (hcf _ _) #[.slice (some ⟨ob, oo, none⟩) k c] (by simp [Act.eval, Act.put]) (HCL.out _ HB0.out.1) (fun e w' h => by obtain ⟨_, _, rfl, _⟩ := h; exact ⟨_, rfl⟩) ?_; rintro v2 w2 ⟨A2, c2, hv2, h2, b2⟩; injection hv2 with hv2; subst hv2; obtain ⟨lb, hlb, hlst0⟩ := new_lst (c := c2) hlen hk0 h2.out; rw [hlb]; have hlst := hlst0.base (base' := rk + 1) HB0.out.2.1; clear hlst0 hlb; have hbel := HB0.out.1.trans (b2.mono HB0.out.1.size); have hrkB := bn_below HB0.out.2.2 b2; have Fa := fin_of (n := k) (cl := c2) (need := need) HU.out.2.1 hbel hrkB hlst (((Below.refl _ w2).alloc (Nat.le_refl _) _).alloc (by simp) _) (up_bn (nw_bn w2 4 _ HM.out.1) M2) (Nat.le_trans HB0.out.2.1 b2.size) (nw_bn1 w2 23 _ HM.out.2) (Nat.le_succ_of_le (Nat.le_trans HB0.out.2.1 b2.size)) (by decide) (by decide); obtain ⟨⟨ra0, ra1, ra2, ra3⟩, ⟨fa0, fa1, fa2, fa3⟩, HEa⟩ := Fa; have Fb := fin_of (n := k) (cl := c2) (need := need) HU.out.2.1 hbel hrkB hlst (((Below.refl _ w2).alloc (Nat.le_refl _) _).alloc (by simp) _) (nw_bn1 w2 4 _ HM.out.1) (Nat.le_succ_of_le (Nat.le_trans HB0.out.2.1 b2.size)) (up_bn (nw_bn w2 23 _ HM.out.2) M1) (Nat.le_trans HB0.out.2.1 b2.size) (by decide) (by decide); obtain ⟨⟨rb0, rb1, rb2, rb3⟩, ⟨fb0, fb1, fb2, fb3⟩, HEb⟩ := Fb; clear hrkB hlst hbel b2 h2)
     | (refine step_call (by rfl) 50 _ _ (by rfl) (hcf _ _) #[.slice (some ⟨ob, oo, none⟩) k c] (by simp [Act.eval]) (HCL.out _ HB1.out.1) (fun e w' h => by obtain ⟨_, _, rfl, _⟩ := h; exact ⟨_, rfl⟩) ?_; rintro v2 w2 ⟨A2, c2, hv2, h2, b2⟩; injection hv2 with hv2; subst hv2; obtain ⟨lb, hlb, hlst0⟩ := new_lst (c := c2) hlen hk0 h2.out; rw [hlb]; have hlst := hlst0.base (base' := rk + 1) HB1.out.2.1; clear hlst0 hlb; have hbel := HB1.out.1.trans (b2.mono HB1.out.1.size); have hrkB := bn_below HB1.out.2.2 b2; have Fa := fin_of (n := k) (cl := c2) (need := need) HU.out.2.1 hbel hrkB hlst ((Below.refl _ w2).alloc (Nat.le_refl _) _) (up_bn (bn_below HB1M.out b2) M2) hs2.out (nw_bn w2 23 _ HM.out.2) (Nat.le_trans HB1.out.2.1 b2.size) (by decide) (by decide); obtain ⟨⟨ra0, ra1, ra2, ra3⟩, ⟨fa0, fa1, fa2, fa3⟩, HEa⟩ := Fa; clear hrkB hlst hbel b2 h2)
     | (refine step_call (by rfl) 50 _ _ (by rfl) (hcf _ _) #[.slice (some ⟨ob, oo, none⟩) k c] (by simp [Act.eval]) (HCL.out _ HB2.out.1) (fun e w' h => by obtain ⟨_, _, rfl, _⟩ := h; exact ⟨_, rfl⟩) ?_; rintro v2 w2 ⟨A2, c2, hv2, h2, b2⟩; injection hv2 with hv2; subst hv2; obtain ⟨lb, hlb, hlst0⟩ := new_lst (c := c2) hlen hk0 h2.out; rw [hlb]; have hlst := hlst0.base (base' := rk + 1) HB2.out.2.1; clear hlst0 hlb; have hbel := HB2.out.1.trans (b2.mono HB2.out.1.size); have hrkB := bn_below HB2.out.2.2 b2; have Fa := fin_of (n := k) (cl := c2) (need := need) HU.out.2.1 hbel hrkB hlst ((Below.refl _ w2).alloc (Nat.le_refl _) _) (nw_bn w2 4 _ HM.out.1) (Nat.le_trans HB2.out.2.1 b2.size) (up_bn (bn_below HB2M.out b2) M1) hs2.out (by decide) (by decide); obtain ⟨⟨ra0, ra1, ra2, ra3⟩, ⟨fa0, fa1, fa2, fa3⟩, HEa⟩ := Fa; clear hrkB hlst hbel b2 h2)
     | (refine step_call (by rfl) 50 _ _ (by rfl) (hcf _ _) #[.slice (some ⟨ob, oo, none⟩) k c] (by simp [Act.eval]) (HCL.out _ HB12.out.1) (fun e w' h => by obtain ⟨_, _, rfl, _⟩ := h; exact ⟨_, rfl⟩) ?_; rintro v2 w2 ⟨A2, c2, hv2, h2, b2⟩; injection hv2 with hv2; subst hv2; obtain ⟨lb, hlb, hlst0⟩ := new_lst (c := c2) hlen hk0 h2.out; rw [hlb]; have hlst := hlst0.base (base' := rk + 1) HB12.out.2.1; clear hlst0 hlb; have hbel := HB12.out.1.trans (b2.mono HB12.out.1.size); have hrkB := bn_below HB12.out.2.2 b2; have Fa := fin_of (n := k) (cl := c2) (need := need) HU.out.2.1 hbel hrkB hlst (Below.refl _ w2) (bn_below HB12M.out.1 b2) hs2.out (bn_below HB12M.out.2 b2) (Nat.le_succ_of_le hs2.out) (by decide) (by decide); obtain ⟨⟨ra0, ra1, ra2, ra3⟩, ⟨fa0, fa1, fa2, fa3⟩, HEa⟩ := Fa; clear hrkB hlst hbel b2 h2)
     | (refine step_call (by rfl) 50 _ _ (by rfl) (hcf _ _) #[.slice (some ⟨ob, oo, none⟩) k c] (by simp [Act.eval]) (HCL.out _ HB21.out.1) (fun e w' h => by obtain ⟨_, _, rfl, _⟩ := h; exact ⟨_, rfl⟩) ?_; rintro v2 w2 ⟨A2, c2, hv2, h2, b2⟩; injection hv2 with hv2; subst hv2; obtain ⟨lb, hlb, hlst0⟩ := new_lst (c := c2) hlen hk0 h2.out; rw [hlb]; have hlst := hlst0.base (base' := rk + 1) HB21.out.2.1; clear hlst0 hlb; have hbel := HB21.out.1.trans (b2.mono HB21.out.1.size); have hrkB := bn_below HB21.out.2.2 b2; have Fa := fin_of (n := k) (cl := c2) (need := need) HU.out.2.1 hbel hrkB hlst (Below.refl _ w2) (bn_below HB21M.out.2 b2) (Nat.le_succ_of_le hs2.out) (bn_below HB21M.out.1 b2) hs2.out (by decide) (by decide); obtain ⟨⟨ra0, ra1, ra2, ra3⟩, ⟨fa0, fa1, fa2, fa3⟩, HEa⟩ := Fa; clear hrkB hlst hbel b2 h2))
    all_goals
     clear HB0 HB1 HB2 HB12 HB21 HB1M HB2M HB12M HB21M HCL HM
     first
      | (have u0 := (HEa.out.2.cell 0).trans rfl; have u1 := (HEa.out.2.cell 1).trans rfl; have u2 := (HEa.out.2.cell 2).trans rfl; have u3 := (HEa.out.2.cell 3).trans rfl; unfold four at u0 u1 u2 u3; go_wp2_with fail; refine bodyPost_ret (v := .tuple #[.agg #[.slice (some ⟨lb, 0, none⟩) k c2, .int .i64 need, .slice (some ⟨_, 0, none⟩) k k, .slice (some ⟨_, 0, none⟩) k k], .bool true]) ?_ rfl (.inr ⟨HOK.out, lb, c2, _, _, rfl, Lib.hid HEa.out.1⟩); rw [results_cell_tmp rfl]; go_simp)
      | (have u0 := (HEb.out.2.cell 0).trans rfl; have u1 := (HEb.out.2.cell 1).trans rfl; have u2 := (HEb.out.2.cell 2).trans rfl; have u3 := (HEb.out.2.cell 3).trans rfl; unfold four at u0 u1 u2 u3; go_wp2_with fail; refine bodyPost_ret (v := .tuple #[.agg #[.slice (some ⟨lb, 0, none⟩) k c2, .int .i64 need, .slice (some ⟨_, 0, none⟩) k k, .slice (some ⟨_, 0, none⟩) k k], .bool true]) ?_ rfl (.inr ⟨HOK.out, lb, c2, _, _, rfl, Lib.hid HEb.out.1⟩); rw [results_cell_tmp rfl]; go_simp)
 ·have hno : ¬ okL ls need := fun ho => hb (by have := ho.1; have := HV.out.2; omega)
  have B1 := HU.out.2.2.2.1
  have r0 := (B1.cell 0).trans rfl
  have r1 := (B1.cell 1).trans rfl
  have r2 := (B1.cell 2).trans rfl
  have r3 := (B1.cell 3).trans rfl
  have f0 := B1.frozen 0
  have f1 := B1.frozen 1
  have f2 := B1.frozen 2
  have f3 := B1.frozen 3
  have HBB := Lib.hid (HBAD.out U (Below.refl _ _) hno)
  have BY := (((B1.set 0 (.slice none 0 0)).set 1 (.int .i64 0)).set 2 (.slice none 0 0)).set 3 (.slice none 0 0)
  simp only [List.set_cons_zero, List.set_cons_succ] at BY
  obtain ⟨Y, hY⟩ : ∃ Y, (((U.setCell ⟨rk, 0, none⟩ (.slice none 0 0)).setCell ⟨rk, 1, none⟩ (.int .i64 0)).setCell ⟨rk, 2, none⟩ (.slice none 0 0)).setCell ⟨rk, 3, none⟩ (.slice none 0 0) = Y := ⟨_, rfl⟩
  rw [hY] at BY HBB
  have u0 := (BY.cell 0).trans rfl
  have u1 := (BY.cell 1).trans rfl
  have u2 := (BY.cell 2).trans rfl
  have u3 := (BY.cell 3).trans rfl
  clear BY B1 hno
  by_cases h1 : (8 : Int) < (n : Int)
  ·have g1 : decide ((8 : Int) < (n : Int)) = true := decide_eq_true h1
   go_enter Tryz.func25, Tryz.ntmps25
   go_upto_region 1 with fail
   rw [HU.out.1]
   go_wp2_with fail
   refine bodyPost_ret (v := .tuple #[.agg #[.slice none 0 0, .int .i64 0, .slice none 0 0, .slice none 0 0], .bool false]) ?_ rfl HBB.out.out
   rw [results_cell_tmp rfl]
   go_simp
  ·by_cases h2 : need < 1
   ·go_enter Tryz.func25, Tryz.ntmps25
    go_upto_region 1 with fail
    rw [HU.out.1]
    go_wp2_with fail
    refine bodyPost_ret (v := .tuple #[.agg #[.slice none 0 0, .int .i64 0, .slice none 0 0, .slice none 0 0], .bool false]) ?_ rfl HBB.out.out
    rw [results_cell_tmp rfl]
    go_simp
   ·have h3 : (n : Int) < need := by omega
    go_enter Tryz.func25, Tryz.ntmps25
    go_upto_region 1 with fail
    rw [HU.out.1]
    go_wp2_with fail
    refine bodyPost_ret (v := .tuple #[.agg #[.slice none 0 0, .int .i64 0, .slice none 0 0, .slice none 0 0], .bool false]) ?_ rfl HBB.out.out
    rw [results_cell_tmp rfl]
    go_simp
end Quorum
end Go.Proofs.YtbhidndgnldheaaGreat

/-
 What is right in layer 6: numbers, addresses, records, lists of them.
-/
namespace Go.Proofs.YtbhidndgnldheaaGreat
namespace Code
open Go.RowKit Num Span Vers
attribute [local go_sem ↓] Go.wp_at_zero Go.wp_at_succ

instance (a : Int × Int) : Decidable (okA a) := by unfold okA; infer_instance
set_option maxRecDepth 100000 in
theorem rrecord_any (A : Option Addr) (c m : Nat) (key : ByteArray) (l : List Vr) (hm : l.length = m) (hm2 : m ≤ 140737488355328) (hk2 : key.size ≤ 140737488355328) (w : World) (hv : Vs w 0 w.heap.size A l) :
  Calls Tryz.prog 29 #[.agg #[.string key, .slice A m c]] w (fun e w' => e = .returned (.bool (decide (okR (key, l)))) ∧ Below w.heap.size w w') := by
 obtain ⟨W, hW⟩ : ∃ W, w.alloc (.cells #[.string key, .slice A m c] 46) = W := ⟨_, rfl⟩
 have hB : Bn w.heap.size 46 [.string key, .slice A m c] W := by rw [← hW]; exact heap_alloc_new _ _
 have k0 := hB.cell 0
 have k1 := hB.cell 1
 simp only [List.getElem?_cons_zero, List.getElem?_cons_succ] at k0 k1
 have hbW : Below w.heap.size w W := by rw [← hW]; exact (Below.refl _ w).alloc (Nat.le_refl _) _
 have h1 := rightV_any A c m l hm W ((hv.below hbW).more hbW.size) hm2
 have hsz := hbW.size
 have HB := Lib.hid hbW
 clear hB hbW hv
 obtain ⟨R, hR⟩ : ∃ R, decide (okR (key, l)) = R := ⟨_, rfl⟩
 rw [hR]
 by_cases c0 : 1 ≤ key.size
 ·have d0 : (1 : Int) ≤ (key.size : Int) := by omega
  by_cases c1 : key.size ≤ 32
  ·have d1 : (key.size : Int) ≤ 32 := by omega
   have HR := Lib.hid (show R = decide (RightV l) by rw [← hR]; exact decide_eq_decide.2 ⟨fun h => h.2.2, fun h => ⟨c0, c1, h⟩⟩)
   have H1 := Lib.hid h1
   clear h1 hR
   go_enter Tryz.func29, Tryz.ntmps29
   go_wp2_with fail
   refine H1.out.mono ?_
   rintro e w1 ⟨rfl, hb1⟩
   have HE := Lib.hid (HB.out.trans (hb1.mono hsz))
   obtain ⟨D, hD⟩ : ∃ D, decide (RightV l) = D := ⟨_, rfl⟩
   have hRD : R = D := by rw [HR.out, hD]
   rw [hD]
   clear hb1 H1 HR hD
   go_wp2_with fail
   go_ret
   exact ⟨by rw [hRD]; rfl, HE.out⟩
  ·have d1 : ¬ (key.size : Int) ≤ 32 := by omega
   have HR := Lib.hid (show R = false by rw [← hR]; exact decide_eq_false fun h => c1 h.2.1)
   clear h1 hR
   go_enter Tryz.func29, Tryz.ntmps29
   go_wp2_with fail
   go_ret
   exact ⟨by rw [HR.out]; rfl, HB.out⟩
 ·have d0 : ¬ (1 : Int) ≤ (key.size : Int) := by omega
  have HR := Lib.hid (show R = false by rw [← hR]; exact decide_eq_false fun h => c0 h.1)
  clear h1 hR
  go_enter Tryz.func29, Tryz.ntmps29
  go_wp2_with fail
  go_ret
  exact ⟨by rw [HR.out]; rfl, HB.out⟩

end Code
end Go.Proofs.YtbhidndgnldheaaGreat

/-
 What is right in layer 6: messages.
-/
namespace Go.Proofs.YtbhidndgnldheaaGreat
namespace Code
open Go.RowKit Num Span Vers
attribute [local go_sem ↓] Go.wp_at_zero Go.wp_at_succ

theorem Bn.below {B M : Nat} {t : TypeId} {cs : List Value} {w w' : World} (h : Bn B t cs w) (hb : Below M w w') (hM : B < M) : Bn B t cs w' := (hb.block B hM).trans h
instance : DecidablePred okM := by
 rintro ⟨kind, fr, to_, id, n, for_, code, key, recs, vec, path, hashes, route⟩
 unfold okM
 infer_instance

end Code
end Go.Proofs.YtbhidndgnldheaaGreat

/-
 The writer of layer 6: texts, addresses, hashes, versions, records and lists of them.
-/
namespace Go.Proofs.YtbhidndgnldheaaGreat
namespace Code
open Go.RowKit Num Span Vers
attribute [local go_sem ↓] Go.wp_at_zero Go.wp_at_succ

theorem Bn.kp {g B : Nat} {v v' : Value} {w w' : World} {t : TypeId} {cs : List Value} (h : Bn B t cs w) (hk : Kp g v w v' w') (hg : B ≠ g) (hv : some B ≠ v.ownBlock) : Bn B t cs w' ∧ some B ≠ v'.ownBlock := hk.block h hg hv
end Code
end Go.Proofs.YtbhidndgnldheaaGreat

/-
 The writer of layer 6: lists of versions, records and lists of them, lists of numbers.
-/
namespace Go.Proofs.YtbhidndgnldheaaGreat
namespace Code
open Go.RowKit Num Span Vers
attribute [local go_sem ↓] Go.wp_at_zero Go.wp_at_succ

end Code
end Go.Proofs.YtbhidndgnldheaaGreat

/-
 What is right in layer 6, in the document's own words: addresses, records, messages.
-/
namespace Go.Proofs.YtbhidndgnldheaaGreat
namespace Code
open Go.RowKit Num Span Vers
attribute [local go_sem ↓] Go.wp_at_zero Go.wp_at_succ

set_option maxRecDepth 100000 in
theorem refrecord_any (A : Option Addr) (c m : Nat) (key : ByteArray) (l : List Vr) (hm : l.length = m) (hm2 : m ≤ 140737488355328) (hk2 : key.size ≤ 140737488355328) (w : World) (hv : Vs w 0 w.heap.size A l) :
  Calls Tryz.prog 66 #[.agg #[.string key, .slice A m c]] w (fun e w' => e = .returned (.bool (decide (okR (key, l)))) ∧ Below w.heap.size w w') := by
 obtain ⟨W, hW⟩ : ∃ W, w.alloc (.cells #[.string key, .slice A m c] 46) = W := ⟨_, rfl⟩
 have hB : Bn w.heap.size 46 [.string key, .slice A m c] W := by rw [← hW]; exact heap_alloc_new _ _
 have k0 := hB.cell 0
 have k1 := hB.cell 1
 simp only [List.getElem?_cons_zero, List.getElem?_cons_succ] at k0 k1
 have hbW : Below w.heap.size w W := by rw [← hW]; exact (Below.refl _ w).alloc (Nat.le_refl _) _
 have h1 := ref_rightV_any A c m l hm W ((hv.below hbW).more hbW.size) hm2
 have hsz := hbW.size
 have HB := Lib.hid hbW
 clear hB hbW hv
 obtain ⟨R, hR⟩ : ∃ R, decide (okR (key, l)) = R := ⟨_, rfl⟩
 rw [hR]
 have hkl : key.toList.length = key.size := by rw [Lib.toList_data, Array.length_toList]; rfl
 by_cases c0 : 1 ≤ key.size
 case neg =>
  have hem : key.toList.isEmpty = true := by rw [List.isEmpty_iff_length_eq_zero]; omega
  have HR := Lib.hid (show R = false by rw [← hR]; exact decide_eq_false fun h => c0 h.1)
  clear h1 hR hkl
  go_enter Tryz.func66, Tryz.ntmps66
  go_wp2_with fail
  go_ret
  exact ⟨by rw [HR.out]; rfl, HB.out⟩
 have hem : key.toList.isEmpty = false := by rw [← Bool.not_eq_true, List.isEmpty_iff_length_eq_zero]; omega
 clear hkl
 by_cases c1 : key.size ≤ 32
 case neg =>
  have d1 : decide ((key.size : Int) ≤ 32) = false := decide_eq_false (by omega)
  have HR := Lib.hid (show R = false by rw [← hR]; exact decide_eq_false fun h => c1 h.2.1)
  clear h1 hR
  go_enter Tryz.func66, Tryz.ntmps66
  go_wp2_with fail
  go_ret
  exact ⟨by rw [HR.out]; rfl, HB.out⟩
 have d1 : decide ((key.size : Int) ≤ 32) = true := decide_eq_true (by omega)
 have HR := Lib.hid (show R = decide (RightV l) by rw [← hR]; exact decide_eq_decide.2 ⟨fun h => h.2.2, fun h => ⟨c0, c1, h⟩⟩)
 have H1 := Lib.hid h1
 clear h1 hR
 go_enter Tryz.func66, Tryz.ntmps66
 go_wp2_with fail
 refine H1.out.mono ?_
 rintro e w1 ⟨rfl, hb1⟩
 have HE := Lib.hid (HB.out.trans (hb1.mono hsz))
 obtain ⟨D, hD⟩ : ∃ D, decide (RightV l) = D := ⟨_, rfl⟩
 have hRD : R = D := by rw [HR.out, hD]
 rw [hD]
 clear hb1 H1 HR hD
 go_wp2_with fail
 go_ret
 exact ⟨by rw [hRD]; rfl, HE.out⟩

end Code
end Go.Proofs.YtbhidndgnldheaaGreat

/-
 firthref06.Same and its parts: whether numbers, records, messages are the same.
-/
namespace Go.Proofs.YtbhidndgnldheaaGreat
namespace Code
open Go.RowKit Num Span Vers
attribute [local go_sem ↓] Go.wp_at_zero Go.wp_at_succ

theorem taken_eq {α : Type} (d : α) {l m : List α} {k : Nat} (hl : k < l.length) (hm : k < m.length) (h : l.take k = m.take k) (he : l.getD k d = m.getD k d) : l.take (k + 1) = m.take (k + 1) := by
 rw [List.take_succ_eq_append_getElem hl, List.take_succ_eq_append_getElem hm, h]
 have e1 : l.getD k d = l[k] := by simp [List.getD_eq_getElem?_getD, hl]
 have e2 : m.getD k d = m[k] := by simp [List.getD_eq_getElem?_getD, hm]
 rw [← e1, ← e2, he]

set_option maxRecDepth 100000 in
set_option maxHeartbeats 4000000 in
theorem srecs_any (A A' : Option Addr) (c c' n n' : Nat) (l l' : List Rc) (hn : l.length = n) (hn' : l'.length = n') (w : World) (hv : Rs w 0 w.heap.size A l) (hv' : Rs w 0 w.heap.size A' l') (hb : n ≤ 140737488355328) (hb' : n' ≤ 140737488355328) :
  Calls Tryz.prog 14 #[.slice A n c, .slice A' n' c'] w fun e w' => e = .returned (.bool (decide (l = l'))) ∧ Below w.heap.size w w' := by
 obtain ⟨R, hR⟩ : ∃ R, decide (l = l') = R := ⟨_, rfl⟩
 rw [hR]
 by_cases hlen : n = n'
 ·subst hlen
  have HV := Lib.hid (And.intro hv (And.intro hv' (And.intro hn (And.intro hn' hR))))
  clear hv hv' hn hn' hR
  go_enter Tryz.func14, Tryz.ntmps14
  go_wp2
  go_loopw [5] (fun q wr => ∃ k : Nat, q = .int .i64 k ∧ k ≤ n ∧ Below w.heap.size w wr ∧ Hid (l.take k = l'.take k)) (fun q _ => n - (intOf q).toNat)
  case atStart => exact ⟨0, rfl, by omega, Below.refl _ _, Lib.hid rfl⟩
  case round =>
   obtain ⟨k, rfl, hk, hb1, hst⟩ := hrel
   have hsz := hb1.size
   by_cases hlt : k < n
   ·obtain ⟨b, off, A1, c1, rfl, _, hbB, a0, a1, hps, hz1⟩ := HV.out.1.at HV.out.2.2.1 hb1 hlt rfl
    obtain ⟨b', off', A1', c1', rfl, _, hbB', a0', a1', hps', hz1'⟩ := HV.out.2.1.at HV.out.2.2.2.1 hb1 hlt rfl
    have hy := taken_eq r0 (l := l) (m := l') (by have := HV.out.2.2.1; omega) (by have := HV.out.2.2.2.1; omega) hst.out
    have hz : l.getD k r0 ≠ l'.getD k r0 → ¬ l = l' := fun h e => h (by rw [e])
    obtain ⟨v, hvv⟩ : ∃ v, l.getD k r0 = v := ⟨_, rfl⟩
    obtain ⟨v', hvv'⟩ : ∃ v, l'.getD k r0 = v := ⟨_, rfl⟩
    rw [hvv] at a0 a1 hps hz1
    rw [hvv'] at a0' a1' hps' hz1'
    rw [hvv, hvv'] at hy hz
    clear hvv hvv'
    obtain ⟨x, vl⟩ := v
    obtain ⟨x', vl'⟩ := v'
    simp only at a0 a1 hps hz1 a0' a1' hps' hz1'
    obtain ⟨kp, hkp⟩ : ∃ kp, vl.length = kp := ⟨_, rfl⟩
    obtain ⟨kp', hkp'⟩ : ∃ kp, vl'.length = kp := ⟨_, rfl⟩
    rw [hkp] at a1 hz1
    rw [hkp'] at a1' hz1'
    have lb : b < wr.heap.size := by omega
    have lb' : b' < wr.heap.size := by omega
    have d1 : (0 : Int) ≤ (k : Int) := by omega
    have d2 : (k : Int) < (n : Int) := by omega
    by_cases hx : x = x'
    ·subst hx
     have h1 := ref_sameV_any A1 A1' c1 c1' kp kp' vl vl' hkp hkp' wr.drew (hps.more (B' := wr.drew.heap.size) (by exact hsz)) (hps'.more (B' := wr.drew.heap.size) (by exact hsz)) hz1.2.1 hz1'.2.1
     obtain ⟨q, hq⟩ : ∃ q, decide (vl = vl') = q := ⟨_, rfl⟩
     rw [hq] at h1
     have HN := Lib.hid (show (q = true → l.take (k + 1) = l'.take (k + 1)) ∧ (q = false → R = false) from ⟨fun h => hy (by rw [of_decide_eq_true (hq.trans h)]), fun h => by
      rw [← HV.out.2.2.2.2]
      exact decide_eq_false (hz (fun e => of_decide_eq_false (hq.trans h) (by injection e)))⟩)
     have H1 := Lib.hid h1
     clear h1 hy hz hq hkp hkp' hps hps' hst hz1 hz1'
     go_wp2
     go_region_held3 (fun V => V.cell? ⟨b, off + k * 2, none⟩ = some (.string x) ∧ V.cell? ⟨b, off + k * 2 + 1, none⟩ = some (.slice A1 kp c1) ∧ V.cell? ⟨b', off' + k * 2, none⟩ = some (.string x) ∧ V.cell? ⟨b', off' + k * 2 + 1, none⟩ = some (.slice A1' kp' c1'))
      (first | exact ⟨a0, a1, a0', a1'⟩ | exact ⟨cell_below b1 lb a0, cell_below b1 lb a1, cell_below b1 lb' a0', cell_below b1 lb' a1'⟩)
      (first | (go_at_call 13; refine H1.out.mono ?_; rintro e w1 ⟨rfl, b1⟩))
     have BE : Below w.heap.size w w1 := hb1.drew.trans (Below.mono b1 (by exact hsz))
     clear b1 H1 hb1
     cases q
     ·have HF := Lib.hid (HN.out.2 rfl)
      clear HN
      go_wp2
      go_ret
      exact ⟨by rw [HF.out]; rfl, BE⟩
     ·have HF := Lib.hid (HN.out.1 rfl)
      clear HN
      go_wp2
      exact ⟨⟨k + 1, rfl, by omega, BE, HF⟩, by simp only [intOf]; omega⟩
    ·have HZ := Lib.hid (show R = false by rw [← HV.out.2.2.2.2]; exact decide_eq_false (hz (fun e => hx (by injection e))))
     have g0 : (x.toList == x'.toList) = false := by rw [str_eq]; exact decide_eq_false hx
     clear hy hz hkp hkp' hps hps' hst hz1 hz1' hx
     go_wp2
     go_quiet (fail)
     go_wp2
     go_ret
     exact ⟨by rw [HZ.out]; rfl, hb1.trans (Span.below_drewN _ _ _)⟩
   ·have hkn : k = n := by omega
    subst hkn
    have HF := Lib.hid (show R = true by
     rw [← HV.out.2.2.2.2]
     refine decide_eq_true ?_
     have := hst.out
     rwa [List.take_of_length_le (by have := HV.out.2.2.1; omega), List.take_of_length_le (by have := HV.out.2.2.2.1; omega)] at this)
    clear hst
    go_wp2
    go_ret
    exact ⟨by rw [HF.out]; rfl, hb1⟩
 ·have HF := Lib.hid (show R = false by rw [← hR]; exact decide_eq_false fun h => hlen (by rw [← hn, ← hn', h]))
  clear hv hv' hn hn' hR
  go_enter Tryz.func14, Tryz.ntmps14
  go_wp2
  go_ret
  exact ⟨by rw [HF.out]; rfl, Below.refl _ _⟩
end Code
end Go.Proofs.YtbhidndgnldheaaGreat
