/-
  Slices of spans and of dots, and dots, among a law's arguments.
-/
import Derived.Test.YtbhidndgnldheaaFacts
import Derived.Test.YtbhidndgnldheaaSpanPlain
import Derived.Deep.Slices
import Derived.Deep.Fields
import Derived.Lib.SmallJoins
namespace Go.Proofs.Ytbhidndgnldheaa
namespace Span
open Go.ChangeShapes Go.WideShapes Go.ChangeAt Go.RowKit Go.Joins Go.Deep

theorem cells_span : Try.prog.cellsOf 111 = 3 := by kernel_rfl
theorem bytes_span : Try.prog.bytesOf 111 = 24 := by kernel_rfl
theorem cells_dot : Try.prog.cellsOf 66 = 2 := by kernel_rfl
theorem bytes_dot : Try.prog.bytesOf 66 = 16 := by kernel_rfl

section
variable {H : Type} {enc : TypeId × Value → H} {P : Program} {W : World}

theorem one_at {cs : List Value} {k : Nat} {v : Value} (h : (cs.drop k).take 1 = [v]) : cs[k]? = some v := by
  rcases Nat.lt_or_ge k cs.length with hk | hk
  · rw [List.drop_eq_getElem_cons hk] at h
    simp only [List.take_succ_cons, List.take_zero, List.cons.injEq, and_true] at h
    rw [List.getElem?_eq_getElem hk, h]
  · rw [List.drop_eq_nil_of_le hk] at h
    simp at h

/-- The cells of one span, as they are read. -/
theorem span_at {e : TypeId} {f0 f1 f2 : Field} {base : Nat} {spare : Nat → Bool} {held : Bool} {n : Nat} {cs : List Value} {x : DataW H × List MemPlace} (he : P.underlying e = some (.struct #[f0, f1, f2])) (hone : oneCellFields P #[f0, f1, f2] = true)
    (i0 : P.underlying f0.type = some (.int .i64)) (i1 : P.underlying f1.type = some (.int .i64)) (i2 : P.underlying f2.type = some (.int .i64)) (h : DataW.trod enc P W base spare held n e cs = some x) :
    ∃ z : Sp, cs[0]? = some (.int .i64 z.1) ∧ cs[1]? = some (.int .i64 z.2.1) ∧ cs[2]? = some (.int .i64 z.2.2) := by
  obtain ⟨y0, y1, y2, m, _, _, h0, h1, h2⟩ := trod_struct3 he h
  obtain ⟨o0, k0⟩ := hone_of hone 0 f0 rfl
  obtain ⟨o1, k1⟩ := hone_of hone 1 f1 rfl
  obtain ⟨o2, k2⟩ := hone_of hone 2 f2 rfl
  rw [o0, k0] at h0
  rw [o1, k1] at h1
  rw [o2, k2] at h2
  obtain ⟨z0, e0, _, _⟩ := DataW.trod_int i0 h0
  obtain ⟨z1, e1, _, _⟩ := DataW.trod_int i1 h1
  obtain ⟨z2, e2, _, _⟩ := DataW.trod_int i2 h2
  exact ⟨(z0, z1, z2), one_at e0, one_at e1, one_at e2⟩
theorem dot_at {e : TypeId} {f0 f1 : Field} {base : Nat} {spare : Nat → Bool} {held : Bool} {n : Nat} {cs : List Value} {x : DataW H × List MemPlace} (he : P.underlying e = some (.struct #[f0, f1])) (hone : oneCellFields P #[f0, f1] = true)
    (i0 : P.underlying f0.type = some (.int .i64)) (i1 : P.underlying f1.type = some (.int .i64)) (h : DataW.trod enc P W base spare held n e cs = some x) :
    ∃ z : Int × Int, cs[0]? = some (.int .i64 z.1) ∧ cs[1]? = some (.int .i64 z.2) := by
  obtain ⟨y0, y1, m, _, _, h0, h1⟩ := trod_struct2 he h
  obtain ⟨o0, k0⟩ := hone_of hone 0 f0 rfl
  obtain ⟨o1, k1⟩ := hone_of hone 1 f1 rfl
  rw [o0, k0] at h0
  rw [o1, k1] at h1
  obtain ⟨z0, e0, _, _⟩ := DataW.trod_int i0 h0
  obtain ⟨z1, e1, _, _⟩ := DataW.trod_int i1 h1
  exact ⟨(z0, z1), one_at e0, one_at e1⟩

/-- A slice of spans among the arguments, nil and empty ones too. -/
theorem open_ss {t e : TypeId} {f0 f1 f2 : Field} {v : Value} {d : DataW H} {p : List MemPlace} {r : Reach} {b0 : Nat} (ht : P.underlying t = some (.slice e)) (he : P.underlying e = some (.struct #[f0, f1, f2])) (hone : oneCellFields P #[f0, f1, f2] = true) (hC : P.cellsOf e = 3)
    (i0 : P.underlying f0.type = some (.int .i64)) (i1 : P.underlying f1.type = some (.int .i64)) (i2 : P.underlying f2.type = some (.int .i64))
    (hv : Value.okWide P W r b0 t v) (h : DataW.Trod enc P W 0 (fun _ => true) true t v d p) :
    ∃ (A : Option Addr) (c : Nat) (l : List Sp), v = .slice A l.length c ∧ Ss W W.heap.size A l ∧ l.length ≤ c ∧ ((d = .nil ∧ l = [] ∧ c = 0) ∨ ∃ el sp, d = .slice el sp ∧ c = el.length + sp.length) := by
  obtain ⟨A, len, c, rfl⟩ := okWide_slice ht hv
  obtain ⟨fuel, hf⟩ := h
  rcases open_slice ht hf with ⟨hcs, hx⟩ | ⟨a, len', cap', m, n, D, Pl, hcs, _, hl, hm, hmm, hx, hi⟩
  · simp [Value.cells] at hcs
    obtain ⟨rfl, rfl, rfl⟩ := hcs
    simp only [Prod.mk.injEq] at hx
    exact ⟨none, 0, [], rfl, Ss.nil _, by simp, .inl ⟨hx.1, rfl, rfl⟩⟩
  · simp [Value.cells] at hcs
    obtain ⟨rfl, rfl, rfl⟩ := hcs
    simp only [Prod.mk.injEq] at hx
    simp only [if_true] at hmm
    subst hmm
    have hz : ∀ i, i < len → ∃ z : Sp, W.cell? (a.add (i * 3)) = some (.int .i64 z.1) ∧ W.cell? (a.add (i * 3 + 1)) = some (.int .i64 z.2.1) ∧ W.cell? (a.add (i * 3 + 2)) = some (.int .i64 z.2.2) := by
      intro i hil
      obtain ⟨cs', hc, ht'⟩ := hi i (by omega)
      rw [hC] at hc
      obtain ⟨_, hcl, hat⟩ := World.cells?_some hc
      obtain ⟨z, z0, z1, z2⟩ := span_at he hone i0 i1 i2 ht'
      have q0 := (hat 0 (by omega)).trans z0
      have q1 := (hat 1 (by omega)).trans z1
      have q2 := (hat 2 (by omega)).trans z2
      rw [Go.Deep.add_add] at q0 q1 q2
      exact ⟨z, q0, q1, q2⟩
    obtain ⟨f, hfz⟩ : ∃ f : Nat → Sp, ∀ i, i < len → W.cell? (a.add (i * 3)) = some (.int .i64 (f i).1) ∧ W.cell? (a.add (i * 3 + 1)) = some (.int .i64 (f i).2.1) ∧ W.cell? (a.add (i * 3 + 2)) = some (.int .i64 (f i).2.2) :=
      ⟨fun i => if h : i < len then (hz i h).choose else (0, 0, 0), fun i h => by simp only [dif_pos h]; exact (hz i h).choose_spec⟩
    have hlen : ((List.range len).map f).length = len := by simp
    refine ⟨some a, _, (List.range len).map f, by rw [hlen], fun hp => ?_, by rw [hlen]; exact hl, .inr ⟨_, _, hx.1, by simp; omega⟩⟩
    rw [hlen] at hp
    obtain ⟨b, off, spot⟩ := a
    have hspot : spot = none := by simpa [Addr.add] using World.cell?_spot (hfz 0 hp).1
    subst hspot
    have hadd : ∀ k, (⟨b, off, none⟩ : Addr).add k = ⟨b, off + k, none⟩ := Go.WideShapes.add_plain b off
    have h0 := (hfz 0 hp).1
    refine ⟨b, off, rfl, by have := World.block_lt_of_cell? W _ h0; rwa [hadd] at this, fun j hj => ?_⟩
    rw [hlen] at hj
    have hg : ((List.range len).map f).getD j (0, 0, 0) = f j := by simp [List.getD_eq_getElem?_getD, hj]
    rw [hg]
    obtain ⟨c0, c1, c2⟩ := hfz j hj
    rw [hadd] at c0 c1 c2
    exact ⟨c0, by rw [Nat.add_assoc]; exact c1, by rw [Nat.add_assoc]; exact c2⟩

/-- How long it may be, by the form's own reach. -/
theorem reach_ss {ts : List TypeId} {ds : List (DataW H)} {j : Nat} {t e : TypeId} {d : DataW H} {l : List Sp} {c nb : Nat} (h : (DataW.weightsEach P ts ds).all (· ≤ reachBytes) = true)
    (ht : ts[j]? = some t) (hd : ds[j]? = some d) (hu : P.underlying t = some (.slice e)) (hb : P.bytesOf e = nb) (hlc : l.length ≤ c)
    (ho : (d = .nil ∧ l = [] ∧ c = 0) ∨ ∃ el sp, d = .slice el sp ∧ c = el.length + sp.length) : l.length * nb ≤ 140737488351232 := by
  rcases ho with ⟨_, rfl, _⟩ | ⟨el, sp, rfl, hc⟩
  · simp
  · have := sized_slice h ht hd hu
    rw [hb] at this
    have h2 : l.length * nb ≤ (el.length + sp.length) * nb := Nat.mul_le_mul_right _ (by omega)
    have h3 : reachBytes = 140737488351232 := by decide
    omega

/-- A dot among the arguments. -/
theorem open_dot {t : TypeId} {f0 f1 : Field} {v : Value} {d : DataW H} {p : List MemPlace} {r : Reach} {b0 : Nat} (hs : P.underlying t = some (.struct #[f0, f1])) (hone : oneCellFields P #[f0, f1] = true) (hC : P.cellsOf t = 2)
    (i0 : P.underlying f0.type = some (.int .i64)) (i1 : P.underlying f1.type = some (.int .i64))
    (hv : Value.okWide P W r b0 t v) (h : DataW.Trod enc P W 0 (fun _ => true) true t v d p) :
    ∃ s n : Int, v = .agg #[.int .i64 s, .int .i64 n] ∧ (Lit.int .i64 s).wf = true ∧ (Lit.int .i64 n).wf = true := by
  obtain ⟨v0, v1, y0, y1, n, rfl, rfl, rfl, h0, h1⟩ := open_agg2 hs hone hC hv h
  obtain ⟨z0, e0, _, w0⟩ := DataW.trod_int i0 h0
  obtain ⟨z1, e1, _, w1⟩ := DataW.trod_int i1 h1
  simp at e0 e1
  subst e0 e1
  exact ⟨z0, z1, rfl, w0, w1⟩
end
end Span
end Go.Proofs.Ytbhidndgnldheaa
