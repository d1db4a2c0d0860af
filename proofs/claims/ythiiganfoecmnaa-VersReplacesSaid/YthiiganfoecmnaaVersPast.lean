/-
  vers.Past, told.
-/
import Derived.Test.YthiiganfoecmnaaGather
import Derived.Test.YthiiganfoecmnaaVersReplPlain
import Derived.Test.YthiiganfoecmnaaVersRight
namespace Go.Proofs.Ythiiganfoecmnaa
namespace Vers
open Go.RowKit Span
attribute [local go_sem ↓] Go.wp_at_zero Go.wp_at_succ

/-- A list in a row of lists. -/
structure Le where
  A : Option Addr
  l : List Sp
  c : Nat
def lec (e : Le) : Value := .slice e.A e.l.length e.c
def lcs (es : List Le) : List Value := es.map lec
def LeOK (V : World) (r : Option Nat) (e : Le) : Prop := e.l.length ≤ e.c ∧ (0 < e.l.length → ∃ b off, e.A = some ⟨b, off, none⟩ ∧ b < V.heap.size ∧ some b ≠ r ∧ ∀ j, j < e.l.length →
    V.cell? ⟨b, off + j * 3, none⟩ = some (.int .i64 (e.l.getD j (0, 0, 0)).1) ∧ V.cell? ⟨b, off + j * 3 + 1, none⟩ = some (.int .i64 (e.l.getD j (0, 0, 0)).2.1) ∧ V.cell? ⟨b, off + j * 3 + 2, none⟩ = some (.int .i64 (e.l.getD j (0, 0, 0)).2.2))
theorem LeOK.below {V V' : World} {r : Option Nat} {e : Le} (h : LeOK V r e) (hb : Below V.heap.size V V') : LeOK V' r e := ⟨h.1, fun hp => by
  obtain ⟨b, off, e, h1, h2, h3⟩ := h.2 hp
  exact ⟨b, off, e, Nat.lt_of_lt_of_le h1 hb.size, h2, fun j hj => ⟨(hb.cell (p := ⟨b, _, none⟩) h1).trans (h3 j hj).1, (hb.cell (p := ⟨b, _, none⟩) h1).trans (h3 j hj).2.1, (hb.cell (p := ⟨b, _, none⟩) h1).trans (h3 j hj).2.2⟩⟩⟩
theorem LeOK.grown {V V' : World} {r r' : Option Nat} {e : Le} (h : LeOK V r e) (hg : V.grownBy V' r) (hat : r' = r ∨ ∃ g, r' = some g ∧ V.heap.size ≤ g) : LeOK V' r' e := ⟨h.1, fun hp => by
  obtain ⟨b, off, e, h1, h2, h3⟩ := h.2 hp
  refine ⟨b, off, e, Nat.lt_of_lt_of_le h1 hg.size, ?_, fun j hj => ⟨hg.cell (h3 j hj).1 h2, hg.cell (h3 j hj).2.1 h2, hg.cell (h3 j hj).2.2 h2⟩⟩
  rcases hat with rfl | ⟨g, rfl, hg2⟩
  · exact h2
  · intro he
    injection he with he
    omega⟩
theorem LeOK.of {V : World} {r : Option Nat} {A : Option Addr} {l : List Sp} {c B : Nat} (h : Ss V B A l) (hB : B ≤ V.heap.size) (hc : l.length ≤ c) (ha : 0 < l.length → ∀ b off, A = some ⟨b, off, none⟩ → some b ≠ r) : LeOK V r ⟨A, l, c⟩ := ⟨hc, fun hp => by
  obtain ⟨b, off, e, h1, h2⟩ := h hp
  exact ⟨b, off, e, by omega, ha hp b off e, h2⟩⟩
def OwnL (base : Nat) (V : World) (v : Value) (m : Nat) (es : List Le) : Prop := es.length = m ∧ V.ownsRow base 26 1 v m (lcs es) ∧ ∀ e ∈ es, LeOK V v.ownBlock e
theorem OwnL.below {base : Nat} {V V' : World} {v : Value} {m : Nat} {es : List Le} (h : OwnL base V v m es) (hb : Below V.heap.size V V') : OwnL base V' v m es :=
  ⟨h.1, own_below h.2.1 hb (Nat.le_refl _), fun e he => (h.2.2 e he).below hb⟩
theorem OwnL.lss {base c m : Nat} {V : World} {A : Option Addr} {es : List Le} (h : OwnL base V (.slice A m c) m es) : Lss V V.heap.size A (es.map Le.l) := fun hp => by
  rw [List.length_map] at hp
  obtain ⟨h1, ho, h3⟩ := h
  obtain ⟨g, cap, hA2⟩ : ∃ g cap, A = some ⟨g, 0, none⟩ ∧ c = cap := by
    rcases ho.2 with ⟨_, h0⟩ | ⟨g, cap, cur, hv, _⟩
    · omega
    · injection hv with h1 _ h3
      exact ⟨g, cap, h1, h3⟩
  obtain ⟨rfl, rfl⟩ := hA2
  refine ⟨g, 0, rfl, (ho.lt g rfl).2, fun j hj => ?_⟩
  rw [List.length_map] at hj
  have hc := ho.cellAt j (by omega)
  have e1 : (lcs es)[j]? = some (lec es[j]) := by
    unfold lcs
    rw [List.getElem?_map, List.getElem?_eq_getElem hj]
    rfl
  have e2 : (es.map Le.l).getD j [] = es[j].l := by simp [List.getD_eq_getElem?_getD, hj]
  rw [e2, Nat.zero_add]
  have hok := h3 es[j] (List.getElem_mem hj)
  refine ⟨es[j].A, es[j].c, hc.trans e1, hok.1, fun hp => ?_⟩
  obtain ⟨b, off, e, h1, _, h3⟩ := hok.2 hp
  exact ⟨b, off, e, h1, h3⟩

section
variable {P : Program} (w : World)
/-- append of two lists that were just laid in a block of their own, onto a row of the call's own. -/
theorem wpList_append_l2 {ops : Array Oper} {rest : List Oper} {o : Oper} {a : Act} {Q : Exit → Act → World → Prop} (hgd : o.guard = none) (s x : Operand) (t : TypeId)
    (ho : o.op = .call { callee := .builtin .append, args := #[s, x], argTypes := #[t, t] })
    (base : Nat) (e : TypeId) (i : TypeInfo) (z : Value) (bytes : Nat) (ht : P.underlying t = some (.slice e)) (hi : P.info? e = some i) (hz : i.zero = some z)
    (hsize : i.size = 1) (hby : i.bytes = bytes) (hzs : z.cells.size = 1)
    (v : Value) (n : Nat) (l : List Le) (hs : a.eval s = v) (hown : w.ownsRow base e 1 v n (lcs l)) (y y' : Le) (k k' : Nat) (hk : y.l.length = k) (hk' : y'.l.length = k') (c : Nat)
    (hx : a.eval x = .slice (some ⟨w.heap.size, 0, none⟩) 2 c)
    (hbytes : (n + 2) * bytes ≤ 140737488355328) (hn : n + 2 ≤ 140737488355328) (hbase : base ≤ w.heap.size)
    (h : ∀ v' w', w'.ownsRow base e 1 v' (n + 2) (lcs (l ++ [y, y'])) → w.grownBy w' v.ownBlock → (v'.ownBlock = v.ownBlock ∨ ∃ g, v'.ownBlock = some g ∧ w.heap.size ≤ g) → wpList P ops Q rest (a.put o.dst v') w') :
    wpList P ops Q (o :: rest) a (w.alloc (.cells #[.slice y.A k y.c, .slice y'.A k' y'.c] e)) := by
  subst hk hk'
  refine wpList_append_own_at _ hgd s x t ho base e i z 1 bytes ht hi hz hsize hby hzs (by omega) v n (lcs l) hs (hown.alloc _) ⟨w.heap.size, 0, none⟩ 2 c [lec y, lec y'] hx rfl ?_ ?_ (by unfold maxLen; omega) hbytes (by simp; omega) ?_
  · intro j u' hj
    match j, hj with
    | 0, hj => simp [lec] at hj; subst hj; simp [Addr.add]
    | 1, hj => simp [lec] at hj; subst hj; simp [Addr.add]
  · intro u' hu
    simp [lec] at hu
    rcases hu with rfl | rfl <;> rfl
  · intro v' w' hown' hg _ hat
    refine h v' w' ?_ ?_ ?_
    · have e1 : lcs (l ++ [y, y']) = lcs l ++ [lec y, lec y'] := by simp [lcs]
      rw [e1]; exact hown'
    · exact ⟨hg.os, hg.tape, hg.output, Nat.le_trans (by simp) hg.size, fun k hk hne => (hg.block k (by simp; omega) hne).trans (Below.heap_alloc w _ k hk)⟩
    · rcases hat with h1 | h1
      · exact .inl h1
      · exact .inr ⟨_, h1, by simp⟩
end
/-- The list of one dot, in new memory. -/
theorem dotlist_own (s n : Int) (w : World) : Calls Try.prog 28 #[.agg #[.int .i64 s, .int .i64 n]] w fun e w' => ∃ b, e = .returned (.slice (some ⟨b, 0, none⟩) 1 1) ∧ w.heap.size ≤ b ∧ Ss w' w'.heap.size (some ⟨b, 0, none⟩) [(s, n, n)] ∧ Below w.heap.size w w' := by
  go_enter Try.func28, Try.ntmps28
  go_wp2
  go_ret
  refine ⟨_, rfl, by simp, fun _ => ⟨_, _, rfl, by simp, fun j hj => ?_⟩, ((Below.refl _ w).alloc (Nat.le_refl _) _).alloc (by simp) _⟩
  match j, hj with
  | 0, _ => simp
end Vers
end Go.Proofs.Ythiiganfoecmnaa
