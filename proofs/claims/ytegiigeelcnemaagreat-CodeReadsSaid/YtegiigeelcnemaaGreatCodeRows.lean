/-
  Rows of versions and of records that a reader makes: what an element points to lies in blocks apart from the row's.
-/
import Derived.Test.YtegiigeelcnemaaGreatCodeVerPlain
import Derived.Test.YtegiigeelcnemaaGreatGCodeA
import Derived.Test.YtegiigeelcnemaaGreatGVersB
namespace Go.Proofs.YtegiigeelcnemaaGreat
namespace Code
open Go.RowKit Num Span Vers

theorem own_same {w w' : World} {base : Nat} {e : TypeId} {size : Nat} {v : Value} {n : Nat} {xs : List Value} (h : w.ownsRow base e size v n xs) (hk : ∀ g, v.ownBlock = some g → w'.heap[g]? = w.heap[g]?) : w'.ownsRow base e size v n xs := by
  refine ⟨h.1, ?_⟩
  rcases h.2 with hn | ⟨g, cap, cur, rfl, hbg, hg, rest⟩
  · exact .inl hn
  · exact .inr ⟨g, cap, cur, rfl, hbg, by rw [hk g rfl]; exact hg, rest⟩

/-- A version whose past is a row of the call's own, between L and B. -/
def VerO (w : World) (L B : Nat) (p : Pv) : Prop :=
  Pa w L B p.2.1 p.2.2 p.1 ∧ w.ownsRow L 70 3 (.slice p.2.1 p.1.past.length p.2.2) p.1.past.length (sps p.1.past) ∧ ∀ g, (Value.slice p.2.1 p.1.past.length p.2.2).ownBlock = some g → g < B
theorem VerO.keep {w w' : World} {L B : Nat} {p : Pv} (h : VerO w L B p) (hk : ∀ k, L ≤ k → k < B → w'.heap[k]? = w.heap[k]?) : VerO w' L B p :=
  ⟨h.1.keep fun a h1 h2 => World.cell?_of_block (hk a.block h1 h2), own_same h.2.1 fun g hg => hk g (h.2.1.lt g hg).1 (h.2.2 g hg), h.2.2⟩

/-- A row of versions of the call's own, all between base and B. -/
def RowV (base B : Nat) (w : World) (v : Value) (ps : List Pv) : Prop :=
  w.ownsRow base 105 5 v ps.length (vcs ps) ∧ (∀ g, v.ownBlock = some g → g < B) ∧ ∀ p ∈ ps, ∃ L B', base ≤ L ∧ B' ≤ B ∧ (∀ g, v.ownBlock = some g → g < L ∨ B' ≤ g) ∧ VerO w L B' p
theorem rowV_nil (base B : Nat) (w : World) : RowV base B w (.slice none 0 0) [] := by
  refine ⟨World.ownsRow_nil _ _ _ _, fun g h => ?_, fun p hp => ?_⟩
  · cases h
  · cases hp
theorem RowV.keep {base B : Nat} {w w' : World} {v : Value} {ps : List Pv} (h : RowV base B w v ps) (hk : ∀ k, base ≤ k → k < B → w'.heap[k]? = w.heap[k]?) : RowV base B w' v ps := by
  refine ⟨own_same h.1 fun g hg => hk g (h.1.lt g hg).1 (h.2.1 g hg), h.2.1, fun p hp => ?_⟩
  obtain ⟨L, B', h1, h2, h3, h4⟩ := h.2.2 p hp
  exact ⟨L, B', h1, h2, h3, h4.keep fun k a b => hk k (by omega) (by omega)⟩
theorem RowV.more {base B B' : Nat} {w : World} {v : Value} {ps : List Pv} (h : RowV base B w v ps) (hB : B ≤ B') : RowV base B' w v ps := by
  refine ⟨h.1, fun g hg => by have := h.2.1 g hg; omega, fun p hp => ?_⟩
  obtain ⟨L, C, h1, h2, h3, h4⟩ := h.2.2 p hp
  exact ⟨L, C, h1, by omega, h3, h4⟩
theorem RowV.less {base base' B : Nat} {w : World} {v : Value} {ps : List Pv} (h : RowV base B w v ps) (hb : base' ≤ base) : RowV base' B w v ps := by
  refine ⟨own_base h.1 hb, h.2.1, fun p hp => ?_⟩
  obtain ⟨L, C, h1, h2, h3, h4⟩ := h.2.2 p hp
  exact ⟨L, C, by omega, h2, h3, h4⟩
/-- One version more: made behind the row, then appended. -/
theorem RowV.add {base : Nat} {w w1 w2 : World} {v v' : Value} {ps : List Pv} {p : Pv} (h : RowV base w.heap.size w v ps) (hg : ∀ k, base ≤ k → k < w.heap.size → w1.heap[k]? = w.heap[k]?) (hs : w.heap.size ≤ w1.heap.size)
    (hp : VerO w1 w.heap.size w1.heap.size p) (hb : base ≤ w.heap.size) (ho : w2.ownsRow base 105 5 v' (ps.length + 1) (vcs (ps ++ [p]))) (h2 : w1.grownBy w2 v.ownBlock) (hat : v'.ownBlock = v.ownBlock ∨ ∃ g, v'.ownBlock = some g ∧ w1.heap.size ≤ g) : RowV base w2.heap.size w2 v' (ps ++ [p]) := by
  have hs2 := h2.size
  refine ⟨by simpa using ho, fun g hg => (ho.lt g hg).2, fun q hq => ?_⟩
  rcases List.mem_append.1 hq with hq | hq
  · obtain ⟨L, B', h1, h3, h4, h5⟩ := h.2.2 q hq
    refine ⟨L, B', h1, by omega, fun g hg' => ?_, (h5.keep fun k a b => hg k (by omega) (by omega)).keep fun k a b => h2.block k (by omega) (fun e => ?_)⟩
    · rcases hat with e | ⟨g', e, hge⟩
      · exact h4 g (e ▸ hg')
      · rw [hg'] at e
        injection e with e
        subst e
        exact .inr (by omega)
    · have := h4 k e.symm
      omega
  · obtain rfl := List.mem_singleton.1 hq
    refine ⟨w.heap.size, w1.heap.size, hb, hs2, fun g hg' => ?_, hp.keep fun k a b => h2.block k b (fun e => by have := h.2.1 k e.symm; omega)⟩
    rcases hat with e | ⟨g', e, hge⟩
    · exact .inl (h.2.1 g (e ▸ hg'))
    · rw [hg'] at e
      injection e with e
      subst e
      exact .inr hge
theorem RowV.vs {base B n c : Nat} {w : World} {A : Option Addr} {ps : List Pv} (h : RowV base B w (.slice A n c) ps) (_hB : B ≤ w.heap.size) : Vs w base B A (ps.map Prod.fst) := by
  intro hp
  rw [List.length_map] at hp
  obtain ⟨ho, hrow, hpa⟩ := h
  rcases ho.2 with ⟨_, h0⟩ | ⟨g, cap, cur, hv, hbg, hg, rest⟩
  · omega
  · injection hv with h1 h2 h3
    subst h1
    refine ⟨g, 0, rfl, by omega, hrow g rfl, fun j hj => ?_⟩
    rw [List.length_map] at hj
    have e : (ps.map Prod.fst).getD j v0 = (ps.getD j z0).1 := by simp [List.getD_eq_getElem?_getD, hj]
    have hm : ps.getD j z0 ∈ ps := by
      rw [List.getD_eq_getElem?_getD, List.getElem?_eq_getElem hj]
      exact List.getElem_mem _
    rw [e]
    have hat : ∀ r, r < 5 → ∀ u, (vcc (ps.getD j z0))[r]? = some u → w.cell? ⟨g, 0 + j * 5 + r, none⟩ = some u := fun r hr u hu => by
      have hc := ho.cells (g := g) rfl (j * 5 + r) u (by rw [vcs_at ps j hj r hr]; exact hu)
      rw [Vers.add_plain] at hc
      rw [show 0 + j * 5 + r = 0 + (j * 5 + r) by omega]
      exact hc
    obtain ⟨L, B', k1, k2, _, k4⟩ := hpa _ hm
    exact ⟨_, _, hat 0 (by omega) _ (by simp [vcc]), hat 1 (by omega) _ (by simp [vcc]), hat 2 (by omega) _ (by simp [vcc]), hat 3 (by omega) _ (by simp [vcc]), hat 4 (by omega) _ (by simp [vcc]), (k4.1.more k2).less k1⟩

/-! ### Records -/
/-- A record with the place of its versions. -/
abbrev Pr := Rc × Option Addr × Nat
def rcc (p : Pr) : List Value := [.string p.1.1, .slice p.2.1 p.1.2.length p.2.2]
def rcs (ps : List Pr) : List Value := ps.flatMap rcc
theorem rcs_append (ps qs : List Pr) : rcs (ps ++ qs) = rcs ps ++ rcs qs := by simp [rcs]
theorem rcs_one (p : Pr) : rcs [p] = rcc p := by simp [rcs]
theorem rcs_cell (ps : List Pr) : ∀ u ∈ rcs ps, u.oneCell' = true := by
  intro u hu
  obtain ⟨p, _, hp⟩ := List.mem_flatMap.1 hu
  simp [rcc] at hp
  rcases hp with rfl | rfl <;> rfl
def RecO (w : World) (L B : Nat) (p : Pr) : Prop := p.1.2.length ≤ p.2.2 ∧ ∃ ps, ps.map Prod.fst = p.1.2 ∧ RowV L B w (.slice p.2.1 p.1.2.length p.2.2) ps
theorem RecO.keep {w w' : World} {L B : Nat} {p : Pr} (h : RecO w L B p) (hk : ∀ k, L ≤ k → k < B → w'.heap[k]? = w.heap[k]?) : RecO w' L B p := by
  obtain ⟨h0, ps, h1, h2⟩ := h
  exact ⟨h0, ps, h1, h2.keep hk⟩
def RowR (base B : Nat) (w : World) (v : Value) (ps : List Pr) : Prop :=
  w.ownsRow base 24 2 v ps.length (rcs ps) ∧ (∀ g, v.ownBlock = some g → g < B) ∧ ∀ p ∈ ps, ∃ L B', base ≤ L ∧ B' ≤ B ∧ (∀ g, v.ownBlock = some g → g < L ∨ B' ≤ g) ∧ RecO w L B' p
theorem rowR_nil (base B : Nat) (w : World) : RowR base B w (.slice none 0 0) [] := by
  refine ⟨World.ownsRow_nil _ _ _ _, fun g h => ?_, fun p hp => ?_⟩
  · cases h
  · cases hp
theorem RowR.keep {base B : Nat} {w w' : World} {v : Value} {ps : List Pr} (h : RowR base B w v ps) (hk : ∀ k, base ≤ k → k < B → w'.heap[k]? = w.heap[k]?) : RowR base B w' v ps := by
  refine ⟨own_same h.1 fun g hg => hk g (h.1.lt g hg).1 (h.2.1 g hg), h.2.1, fun p hp => ?_⟩
  obtain ⟨L, B', h1, h2, h3, h4⟩ := h.2.2 p hp
  exact ⟨L, B', h1, h2, h3, h4.keep fun k a b => hk k (by omega) (by omega)⟩
theorem RowR.more {base B B' : Nat} {w : World} {v : Value} {ps : List Pr} (h : RowR base B w v ps) (hB : B ≤ B') : RowR base B' w v ps := by
  refine ⟨h.1, fun g hg => by have := h.2.1 g hg; omega, fun p hp => ?_⟩
  obtain ⟨L, C, h1, h2, h3, h4⟩ := h.2.2 p hp
  exact ⟨L, C, h1, by omega, h3, h4⟩
theorem RowR.add {base : Nat} {w w1 w2 : World} {v v' : Value} {ps : List Pr} {p : Pr} (h : RowR base w.heap.size w v ps) (hg : ∀ k, base ≤ k → k < w.heap.size → w1.heap[k]? = w.heap[k]?) (hs : w.heap.size ≤ w1.heap.size)
    (hp : RecO w1 w.heap.size w1.heap.size p) (hb : base ≤ w.heap.size) (ho : w2.ownsRow base 24 2 v' (ps.length + 1) (rcs (ps ++ [p]))) (h2 : w1.grownBy w2 v.ownBlock) (hat : v'.ownBlock = v.ownBlock ∨ ∃ g, v'.ownBlock = some g ∧ w1.heap.size ≤ g) : RowR base w2.heap.size w2 v' (ps ++ [p]) := by
  have hs2 := h2.size
  refine ⟨by simpa using ho, fun g hg => (ho.lt g hg).2, fun q hq => ?_⟩
  rcases List.mem_append.1 hq with hq | hq
  · obtain ⟨L, B', h1, h3, h4, h5⟩ := h.2.2 q hq
    refine ⟨L, B', h1, by omega, fun g hg' => ?_, (h5.keep fun k a b => hg k (by omega) (by omega)).keep fun k a b => h2.block k (by omega) (fun e => ?_)⟩
    · rcases hat with e | ⟨g', e, hge⟩
      · exact h4 g (e ▸ hg')
      · rw [hg'] at e
        injection e with e
        subst e
        exact .inr (by omega)
    · have := h4 k e.symm
      omega
  · obtain rfl := List.mem_singleton.1 hq
    refine ⟨w.heap.size, w1.heap.size, hb, hs2, fun g hg' => ?_, hp.keep fun k a b => h2.block k b (fun e => by have := h.2.1 k e.symm; omega)⟩
    rcases hat with e | ⟨g', e, hge⟩
    · exact .inl (h.2.1 g (e ▸ hg'))
    · rw [hg'] at e
      injection e with e
      subst e
      exact .inr hge

theorem info_rec : (Tryz.prog.info? 24).map (fun i => (i.zero, i.size, i.bytes)) = some (some (.agg #[.string ⟨#[]⟩, .slice none 0 0]), 2, 40) := by kernel_rfl
section
variable {P : Program} (w : World)
/-- append of one record that was just laid in a block of its own, onto a row of the call's own. -/
theorem wpList_append_r {ops : Array Oper} {rest : List Oper} {o : Oper} {a : Act} {Q : Exit → Act → World → Prop} (hgd : o.guard = none) (s x : Operand) (t : TypeId)
    (ho : o.op = .call { callee := .builtin .append, args := #[s, x], argTypes := #[t, t] })
    (base : Nat) (e : TypeId) (i : TypeInfo) (z : Value) (bytes : Nat) (ht : P.underlying t = some (.slice e)) (hi : P.info? e = some i) (hz : i.zero = some z)
    (hsize : i.size = 2) (hby : i.bytes = bytes) (hzs : z.cells.size = 2)
    (v : Value) (n : Nat) (ps : List Pr) (hs : a.eval s = v) (hown : w.ownsRow base e 2 v n (rcs ps)) (p : Pr) (k : Nat) (hk : p.1.2.length = k) (c : Nat)
    (hx : a.eval x = .slice (some ⟨w.heap.size, 0, none⟩) 1 c)
    (hbytes : (n + 1) * bytes ≤ 140737488355328) (hn : n + 1 ≤ 140737488355328) (hbase : base ≤ w.heap.size)
    (h : ∀ v' w', w'.ownsRow base e 2 v' (n + 1) (rcs (ps ++ [p])) → w.grownBy w' v.ownBlock → (v'.ownBlock = v.ownBlock ∨ ∃ g, v'.ownBlock = some g ∧ w.heap.size ≤ g) → wpList P ops Q rest (a.put o.dst v') w') :
    wpList P ops Q (o :: rest) a (w.alloc (.cells #[.string p.1.1, .slice p.2.1 k p.2.2] e)) := by
  subst hk
  refine wpList_append_own_at _ hgd s x t ho base e i z 2 bytes ht hi hz hsize hby hzs (by omega) v n (rcs ps) hs (hown.alloc _) ⟨w.heap.size, 0, none⟩ 1 c (rcc p) hx rfl ?_ ?_ (by unfold maxLen; omega) hbytes (by simp; omega) ?_
  · intro j u' hj
    match j, hj with
    | 0, hj => simp [rcc] at hj; subst hj; simp [Addr.add]
    | 1, hj => simp [rcc] at hj; subst hj; simp [Addr.add]
  · intro u' hu
    exact rcs_cell [p] u' (by rw [rcs_one]; exact hu)
  · intro v' w' hown' hg _ hat
    refine h v' w' ?_ ?_ ?_
    · rw [rcs_append, rcs_one]; exact hown'
    · exact ⟨hg.os, hg.tape, hg.output, Nat.le_trans (by simp) hg.size, fun k hk hne => (hg.block k (by simp; omega) hne).trans (Below.heap_alloc w _ k hk)⟩
    · rcases hat with h1 | h1
      · exact .inl h1
      · exact .inr ⟨_, h1, by simp⟩
end

/-! ### Blocks of cells -/
/-- Block B holds the cells cs. -/
def Bn (B : Nat) (t : TypeId) (cs : List Value) (w : World) : Prop := w.heap[B]? = some (.cells cs.toArray t (0, 0))
section
variable {B : Nat} {t : TypeId} {cs : List Value} {w w' : World}
theorem Bn.lt (h : Bn B t cs w) : B < w.heap.size := (Array.getElem?_eq_some_iff.1 h).1
theorem Bn.cell (h : Bn B t cs w) (k : Nat) : w.cell? ⟨B, k, none⟩ = cs[k]? := by
  have h' : w.heap[B]? = _ := h
  simp [World.cell?, h']
theorem Bn.frozen (h : Bn B t cs w) (j : Nat) : w.frozen? ⟨B, j, none⟩ = false := by simp [World.frozen?, show w.heap[B]? = _ from h]
theorem Bn.kept {row : Option Nat} (h : Bn B t cs w) (hg : w.grownBy w' row) (hne : some B ≠ row) : Bn B t cs w' := (hg.block B h.lt hne).trans h
theorem Bn.set (h : Bn B t cs w) (k : Nat) (v : Value) : Bn B t (cs.set k v) (w.setCell ⟨B, k, none⟩ v) := by
  have h' : w.heap[B]? = some (.cells cs.toArray t (0, 0)) := h
  show (w.setCell ⟨B, k, none⟩ v).heap[B]? = _
  simp [World.setCell, Array.getElem?_modify, h']
end
/-- All cells of a block, written one by one. -/
theorem setCells_grown (B : Nat) : ∀ (vs : List Value) (o : Nat) (w : World), w.grownBy (w.setCells B o vs) (some B)
  | [], _, w => World.grownBy.refl _ _
  | v :: r, o, w => by
    rw [World.setCells]
    exact grown_trans (grown_set1 w B o v) (setCells_grown B r (o + 1) _)
theorem setCells_block {B : Nat} {t : TypeId} : ∀ (vs pre old : List Value) (w : World), old.length = vs.length → Bn B t (pre ++ old) w → Bn B t (pre ++ vs) (w.setCells B pre.length vs)
  | [], pre, old, w, hl, h => by
    obtain rfl : old = [] := List.eq_nil_of_length_eq_zero (by simpa using hl)
    exact h
  | v :: r, pre, [], w, hl, h => by simp at hl
  | v :: r, pre, o :: old, w, hl, h => by
    have h1 := h.set pre.length v
    rw [List.set_append_right _ _ (Nat.le_refl _), Nat.sub_self, List.set_cons_zero] at h1
    rw [World.setCells]
    have h2 := setCells_block r (pre ++ [v]) old _ (by simpa using hl) (by simpa using h1)
    rw [List.length_append] at h2
    simpa using h2
theorem setCells_all {B : Nat} {t : TypeId} {vs old : List Value} {w : World} (hl : old.length = vs.length) (h : Bn B t old w) : Bn B t vs (w.setCells B 0 vs) := by
  have := setCells_block vs [] old w hl (by simpa using h)
  simpa using this
end Code
end Go.Proofs.YtegiigeelcnemaaGreat
