/-
  What a reader has made, written over: whatever else there is stays.
-/
import Derived.Test.YtlmjknadaegkoaaCodeAt
namespace Go.Proofs.Ytlmjknadaegkoaa
namespace Code
open Go.RowKit Num Span Vers

/-- Which cells may be written over, and by what. -/
def Soft (t : TypeId) (j : Nat) (v : Value) : Prop := (t = 5 ∧ ∃ z, v = .int .u8 z) ∨ t = 2 ∨ (t = 56 ∧ j % 5 = 4) ∨ (t = 58 ∧ j % 3 = 2)
/-- Some soft cells between lo and hi have been written over. -/
def Spo (lo hi : Nat) (W wr : World) : Prop :=
  Below lo W wr ∧ wr.heap.size = W.heap.size ∧ (∀ q, hi ≤ q → wr.heap[q]? = W.heap[q]?) ∧
  ∀ (q : Nat) (cs : Array Value) (t : TypeId), W.heap[q]? = some (Obj.cells cs t (0, 0)) → ∃ cs' : Array Value, wr.heap[q]? = some (Obj.cells cs' t (0, 0)) ∧ cs'.size = cs.size ∧ ∀ j, j < cs.size → cs'[j]? = cs[j]? ∨ ∃ v, cs'[j]? = some v ∧ Soft t j v
theorem spo_refl (lo hi : Nat) (W : World) : Spo lo hi W W := ⟨Below.refl _ _, rfl, fun _ _ => rfl, fun _ cs _ h => ⟨cs, h, rfl, fun _ _ => .inl rfl⟩⟩
/-- A cell that stays as it is. -/
def HardAt (hi : Nat) (W : World) (g j : Nat) (u : Value) : Prop := g < hi ∧ ∃ (cs : Array Value) (t : TypeId), W.heap[g]? = some (Obj.cells cs t (0, 0)) ∧ cs[j]? = some u ∧ ∀ v, ¬ Soft t j v
/-- A cell that may be written over. -/
def SoftAt (lo hi : Nat) (W : World) (g j : Nat) (v : Value) : Prop := lo ≤ g ∧ g < hi ∧ ∃ (cs : Array Value) (t : TypeId), W.heap[g]? = some (Obj.cells cs t (0, 0)) ∧ j < cs.size ∧ Soft t j v
/-- A byte that may be written over. -/
def ByteAt (lo hi : Nat) (W : World) (g j : Nat) : Prop := lo ≤ g ∧ g < hi ∧ ∃ (cs : Array Value) (z : Int), W.heap[g]? = some (Obj.cells cs 5 (0, 0)) ∧ cs[j]? = some (.int .u8 z)
section
variable {lo hi : Nat} {W W' wr : World} {g j : Nat} {u v : Value}
theorem HardAt.keep (h : HardAt hi W g j u) (hk : ∀ k, k < hi → W'.heap[k]? = W.heap[k]?) : HardAt hi W' g j u := by
  obtain ⟨h1, cs, t, h2, h3⟩ := h
  exact ⟨h1, cs, t, (hk g h1).trans h2, h3⟩
theorem SoftAt.keep (h : SoftAt lo hi W g j u) (hk : ∀ k, k < hi → W'.heap[k]? = W.heap[k]?) : SoftAt lo hi W' g j u := by
  obtain ⟨h0, h1, cs, t, h2, h3⟩ := h
  exact ⟨h0, h1, cs, t, (hk g h1).trans h2, h3⟩
theorem ByteAt.keep (h : ByteAt lo hi W g j) (hk : ∀ k, k < hi → W'.heap[k]? = W.heap[k]?) : ByteAt lo hi W' g j := by
  obtain ⟨h0, h1, cs, t, h2, h3⟩ := h
  exact ⟨h0, h1, cs, t, (hk g h1).trans h2, h3⟩
theorem Spo.get (h : Spo lo hi W wr) (hc : HardAt hi W g j u) : wr.cell? ⟨g, j, none⟩ = some u := by
  obtain ⟨_, cs, t, h1, h2, h3⟩ := hc
  obtain ⟨cs', k1, k2, k3⟩ := h.2.2.2 g cs t h1
  have hj := (Array.getElem?_eq_some_iff.1 h2).1
  rw [cell_of_row wr g j cs' t (0, 0) k1]
  rcases k3 j hj with e | ⟨v, _, hv⟩
  · rw [e, h2]
  · exact absurd hv (h3 v)
theorem Spo.put (h : Spo lo hi W wr) (hc : SoftAt lo hi W g j v) : (∃ z, wr.cell? ⟨g, j, none⟩ = some z) ∧ wr.frozen? ⟨g, j, none⟩ = false ∧ Spo lo hi W (wr.setCell ⟨g, j, none⟩ v) := by
  obtain ⟨hlo, hhi, cs, t, h1, hj, hs⟩ := hc
  obtain ⟨b, s, f, k⟩ := h
  obtain ⟨cs', k1, k2, k3⟩ := k g cs t h1
  refine ⟨⟨cs'[j]'(by omega), by rw [cell_of_row wr g j cs' t (0, 0) k1]; exact Array.getElem?_eq_getElem (by omega)⟩, by simp [World.frozen?, k1], b.setCell hlo v, (show (wr.setCell ⟨g, j, none⟩ v).heap.size = wr.heap.size by simp [World.setCell]).trans s, fun q hq => (Below.heap_setCell wr ⟨g, j, none⟩ v q (fun e => by simp only at e; omega)).trans (f q hq), fun q cs2 t2 h2 => ?_⟩
  by_cases hq : q = g
  · subst hq
    rw [h1] at h2
    injection h2 with h2
    injection h2 with e1 e2
    subst e1 e2
    refine ⟨cs'.setIfInBounds j v, heap_setCell_same wr q j cs' t v k1, by rw [Array.size_setIfInBounds]; exact k2, fun i hi => ?_⟩
    by_cases hij : i = j
    · subst hij
      exact .inr ⟨v, by rw [Array.getElem?_setIfInBounds_self_of_lt (by omega)], hs⟩
    · rw [Array.getElem?_setIfInBounds_ne (by omega)]
      exact k3 i hi
  · obtain ⟨cs3, m1, m2, m3⟩ := k q cs2 t2 h2
    exact ⟨cs3, (Below.heap_setCell wr ⟨g, j, none⟩ v q hq).trans m1, m2, m3⟩
theorem Spo.byte (h : Spo lo hi W wr) (hc : ByteAt lo hi W g j) : ∃ z, wr.cell? ⟨g, j, none⟩ = some (.int .u8 z) ∧ wr.frozen? ⟨g, j, none⟩ = false ∧ ∀ y, Spo lo hi W (wr.setCell ⟨g, j, none⟩ (.int .u8 y)) := by
  obtain ⟨hlo, hhi, cs, z, h1, h2⟩ := hc
  have hj := (Array.getElem?_eq_some_iff.1 h2).1
  have hp := fun y => (h.put (v := .int .u8 y) ⟨hlo, hhi, cs, 5, h1, hj, .inl ⟨rfl, y, rfl⟩⟩)
  obtain ⟨cs', k1, k2, k3⟩ := h.2.2.2 g cs _ h1
  have hf := (hp 0).2.1
  have hset := fun y => (hp y).2.2
  rcases k3 j hj with e | ⟨v, e, hv⟩
  · exact ⟨z, by rw [cell_of_row wr g j cs' _ (0, 0) k1, e, h2], hf, hset⟩
  · rcases hv with ⟨_, y, rfl⟩ | hv | ⟨hv, _⟩ | ⟨hv, _⟩
    · exact ⟨y, by rw [cell_of_row wr g j cs' _ (0, 0) k1, e], hf, hset⟩
    · exact absurd hv (by decide)
    · exact absurd hv (by decide)
    · exact absurd hv (by decide)
theorem Spo.high (h : Spo lo hi W wr) {q : Nat} (hq : hi ≤ q) : wr.heap[q]? = W.heap[q]? := h.2.2.1 q hq

theorem own_le {w : World} {base : Nat} {e : TypeId} {size : Nat} {v : Value} {n : Nat} {xs : List Value} (h : w.ownsRow base e size v n xs) : n ≤ 9223372036854775807 := by
  rcases h.2 with ⟨_, h0⟩ | ⟨g, cap, cur, hv, hbg, hg, hnc, hcm, hcs, htake⟩
  · omega
  · unfold maxLen at hcm
    omega
/-- A row of the call's own, in its block. -/
theorem row_block {w : World} {base : Nat} {e : TypeId} {size : Nat} {A : Option Addr} {n m c : Nat} {xs : List Value} (h : w.ownsRow base e size (.slice A m c) n xs) (hn : 0 < n) :
    ∃ g cs, A = some ⟨g, 0, none⟩ ∧ (Value.slice A m c).ownBlock = some g ∧ base ≤ g ∧ w.heap[g]? = some (Obj.cells cs e (0, 0)) ∧ n * size ≤ cs.size ∧ ∀ j, j < n * size → cs[j]? = xs[j]? := by
  rcases h.2 with ⟨_, h0⟩ | ⟨g, cap, cur, hv, hbg, hg, hnc, hcm, hcs, htake⟩
  · omega
  · injection hv with h1 h2 h3
    subst h1
    refine ⟨g, cur, rfl, rfl, hbg, hg, by rw [hcs]; exact Nat.mul_le_mul_right size hnc, fun j hj => ?_⟩
    rw [← htake, List.getElem?_take_of_lt hj, Array.getElem?_toList]
/-- The records of a message that was read: which cells stay, and which may be written over. -/
def Deep (lo hi : Nat) (W : World) (A : Option Addr) (n : Nat) : Prop :=
  ∀ i, i < n → ∃ g Av nv cv, A = some ⟨g, 0, none⟩ ∧ HardAt hi W g (i * 2 + 1) (.slice Av nv cv) ∧ nv ≤ 9223372036854775807 ∧ ∀ k, k < nv → ∃ gv Ap np cp, Av = some ⟨gv, 0, none⟩ ∧ HardAt hi W gv (k * 5 + 2) (.slice Ap np cp) ∧ (∀ v, SoftAt lo hi W gv (k * 5 + 4) v) ∧ np ≤ 9223372036854775807 ∧
    ∀ j, j < np → ∃ gp, Ap = some ⟨gp, 0, none⟩ ∧ ∀ v, SoftAt lo hi W gp (j * 3 + 2) v
theorem Deep.keep {A : Option Addr} {n : Nat} (h : Deep lo hi W A n) (hk : ∀ k, k < hi → W'.heap[k]? = W.heap[k]?) : Deep lo hi W' A n := fun i hi' => by
  obtain ⟨g, Av, nv, cv, e, h1, hnv, h2⟩ := h i hi'
  refine ⟨g, Av, nv, cv, e, h1.keep hk, hnv, fun k hk' => ?_⟩
  obtain ⟨gv, Ap, np, cp, e2, h3, h4, hnp, h5⟩ := h2 k hk'
  refine ⟨gv, Ap, np, cp, e2, h3.keep hk, fun v => (h4 v).keep hk, hnp, fun j hj => ?_⟩
  obtain ⟨gp, e3, h6⟩ := h5 j hj
  exact ⟨gp, e3, fun v => (h6 v).keep hk⟩
theorem hard_rec (j : Nat) (v : Value) : ¬ Soft 52 j v := by
  rintro (⟨h, _⟩ | h | ⟨h, _⟩ | ⟨h, _⟩)
  · exact absurd h (by decide)
  · exact absurd h (by decide)
  · exact absurd h (by decide)
  · exact absurd h (by decide)
theorem hard_ver {j : Nat} (hj : j % 5 ≠ 4) (v : Value) : ¬ Soft 56 j v := by
  rintro (⟨h, _⟩ | h | ⟨_, h⟩ | ⟨h, _⟩)
  · exact absurd h (by decide)
  · exact absurd h (by decide)
  · exact hj h
  · exact absurd h (by decide)
theorem deep_is {A : Option Addr} {n c : Nat} {ps : List Pr} (h : RowR lo hi W (.slice A n c) ps) (hn : ps.length = n) : Deep lo hi W A n := fun i hin => by
  subst hn
  obtain ⟨h1, h2, h3⟩ := h
  obtain ⟨g, cs, e, eb, hbg, hg, hsz, hat⟩ := row_block h1 (by omega)
  have hp : ps.getD i (r0, none, 0) ∈ ps := by
    rw [List.getD_eq_getElem?_getD, List.getElem?_eq_getElem hin]
    exact List.getElem_mem _
  have hc1 := (hat (i * 2 + 1) (by omega)).trans (rcs_at ps i hin 1 (by omega))
  obtain ⟨⟨r, Av, cv⟩, hq⟩ : ∃ p, ps.getD i (r0, none, 0) = p := ⟨_, rfl⟩
  rw [hq] at hp hc1
  obtain ⟨L, B', hL, hB', _, hrc, qs, hqs, ho, hob, hv⟩ := h3 _ hp
  simp only at hrc hqs ho hob hv
  have hrl : r.2.length ≤ 9223372036854775807 := by
    have h1 := own_le ho
    have h2 : qs.length = r.2.length := by rw [← hqs, List.length_map]
    omega
  refine ⟨g, Av, r.2.length, cv, e, ⟨h2 g eb, cs, _, hg, hc1, hard_rec _⟩, hrl, fun k hk => ?_⟩
  have hql : qs.length = r.2.length := by rw [← hqs, List.length_map]
  obtain ⟨gv, cv', e2, eb2, hbv, hgv, hszv, hatv⟩ := row_block ho (by omega)
  have hqm : qs.getD k z0 ∈ qs := by
    rw [List.getD_eq_getElem?_getD, List.getElem?_eq_getElem (by omega)]
    exact List.getElem_mem _
  have hc2 := (hatv (k * 5 + 2) (by omega)).trans (vcs_at qs k (by omega) 2 (by omega))
  obtain ⟨⟨x, Ap, cp⟩, hx⟩ : ∃ p, qs.getD k z0 = p := ⟨_, rfl⟩
  rw [hx] at hqm hc2
  obtain ⟨L2, B2, hL2, hB2, _, hpa, hpo, hpb⟩ := hv _ hqm
  simp only at hpa hpo hpb
  have hgv1 := hob gv eb2
  refine ⟨gv, Ap, x.past.length, cp, e2, ⟨by omega, cv', _, hgv, hc2, hard_ver (by omega)⟩, fun v => ⟨by omega, by omega, cv', _, hgv, by omega, .inr (.inr (.inl ⟨rfl, by omega⟩))⟩, own_le hpo, fun j hj => ?_⟩
  obtain ⟨gp, cp', e3, eb3, hbp, hgp, hszp, _⟩ := row_block hpo (by omega)
  have hgp1 := hpb gp eb3
  exact ⟨gp, e3, fun v => ⟨by omega, by omega, cp', _, hgp, by omega, .inr (.inr (.inr ⟨rfl, by omega⟩))⟩⟩
/-- A row of numbers of the call's own may be written over. -/
theorem vec_soft {A : Option Addr} {n c : Nat} {l : List Int} (h : W.ownsRow lo 2 1 (.slice A n c) n (nums .i64 l)) (hh : W.heap.size ≤ hi) : ∀ i, i < n → ∃ g, A = some ⟨g, 0, none⟩ ∧ ∀ v, SoftAt lo hi W g i v := fun i hi' => by
  obtain ⟨g, cs, e, eb, hbg, hg, hsz, _⟩ := row_block h (by omega)
  have := (Array.getElem?_eq_some_iff.1 hg).1
  exact ⟨g, e, fun v => ⟨hbg, by omega, cs, _, hg, by omega, .inr (.inl rfl)⟩⟩
theorem byte_soft {A : Option Addr} {n c : Nat} {l : List Int} (h : W.ownsRow lo 5 1 (.slice A n c) n (nums .u8 l)) (hh : W.heap.size ≤ hi) : ∀ i, i < n → ∃ g, A = some ⟨g, 0, none⟩ ∧ ByteAt lo hi W g i := fun i hi' => by
  obtain ⟨g, cs, e, eb, hbg, hg, hsz, hat⟩ := row_block h (by omega)
  have := (Array.getElem?_eq_some_iff.1 hg).1
  have hl : l.length = n := by have := h.1; simpa [nums] using this
  have hc := hat i (by omega)
  have hx : (nums .u8 l)[i]? = some (.int .u8 (l[i]'(by omega))) := by simp [nums, hl, hi']
  exact ⟨g, e, hbg, by omega, cs, _, hg, hc.trans hx⟩
end
theorem Deep.low {lo lo' hi : Nat} {W : World} {A : Option Addr} {n : Nat} (h : Deep lo hi W A n) (hl : lo' ≤ lo) : Deep lo' hi W A n := fun i hi' => by
  obtain ⟨g, Av, nv, cv, e, h1, hnv, h2⟩ := h i hi'
  refine ⟨g, Av, nv, cv, e, h1, hnv, fun k hk' => ?_⟩
  obtain ⟨gv, Ap, np, cp, e2, h3, h4, hnp, h5⟩ := h2 k hk'
  refine ⟨gv, Ap, np, cp, e2, h3, fun v => ⟨Nat.le_trans hl (h4 v).1, (h4 v).2⟩, hnp, fun j hj => ?_⟩
  obtain ⟨gp, e3, h6⟩ := h5 j hj
  exact ⟨gp, e3, fun v => ⟨Nat.le_trans hl (h6 v).1, (h6 v).2⟩⟩
theorem ByteAt.high {lo hi hi' : Nat} {W : World} {g j : Nat} (h : ByteAt lo hi W g j) (hh : hi ≤ hi') : ByteAt lo hi' W g j := ⟨h.1, Nat.lt_of_lt_of_le h.2.1 hh, h.2.2⟩
end Code
end Go.Proofs.Ytlmjknadaegkoaa
