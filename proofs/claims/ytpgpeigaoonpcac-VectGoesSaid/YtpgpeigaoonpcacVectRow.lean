/-
  Slices of spans whose sites are numbers of Go, and closed facts on int64, for the rows of layer 4.
-/
import Derived.Test.YtpgpeigaoonpcacSpanRow
namespace Go.Proofs.Ytpgpeigaoonpcac
namespace Facts
theorem cells2 : Try.prog.cellsOf 2 = 1 := by kernel_rfl
theorem bytes2 : Try.prog.bytesOf 2 = 8 := by kernel_rfl
end Facts
namespace Span
open Go.ChangeShapes Go.WideShapes Go.ChangeAt Go.RowKit Go.Joins Go.Deep
section
variable {H : Type} {enc : TypeId × Value → H} {P : Program} {W : World}
/-- The cells of one span, as they are read. -/
theorem span_atw {e : TypeId} {f0 f1 f2 : Field} {base : Nat} {spare : Nat → Bool} {held : Bool} {n : Nat} {cs : List Value} {x : DataW H × List MemPlace} (he : P.underlying e = some (.struct #[f0, f1, f2])) (hone : oneCellFields P #[f0, f1, f2] = true)
    (i0 : P.underlying f0.type = some (.int .i64)) (i1 : P.underlying f1.type = some (.int .i64)) (i2 : P.underlying f2.type = some (.int .i64)) (h : DataW.trod enc P W base spare held n e cs = some x) :
    ∃ z : Sp, cs[0]? = some (.int .i64 z.1) ∧ cs[1]? = some (.int .i64 z.2.1) ∧ cs[2]? = some (.int .i64 z.2.2) ∧ (Lit.int .i64 z.1).wf = true := by
  obtain ⟨y0, y1, y2, m, _, _, h0, h1, h2⟩ := trod_struct3 he h
  obtain ⟨o0, k0⟩ := hone_of hone 0 f0 rfl
  obtain ⟨o1, k1⟩ := hone_of hone 1 f1 rfl
  obtain ⟨o2, k2⟩ := hone_of hone 2 f2 rfl
  rw [o0, k0] at h0
  rw [o1, k1] at h1
  rw [o2, k2] at h2
  obtain ⟨z0, e0, _, hw⟩ := DataW.trod_int i0 h0
  obtain ⟨z1, e1, _, _⟩ := DataW.trod_int i1 h1
  obtain ⟨z2, e2, _, _⟩ := DataW.trod_int i2 h2
  exact ⟨(z0, z1, z2), one_at e0, one_at e1, one_at e2, hw⟩
/-- A slice of spans among the arguments; its sites are numbers of Go. -/
theorem open_sw {t e : TypeId} {f0 f1 f2 : Field} {v : Value} {d : DataW H} {p : List MemPlace} {r : Reach} {b0 : Nat} (ht : P.underlying t = some (.slice e)) (he : P.underlying e = some (.struct #[f0, f1, f2])) (hone : oneCellFields P #[f0, f1, f2] = true) (hC : P.cellsOf e = 3)
    (i0 : P.underlying f0.type = some (.int .i64)) (i1 : P.underlying f1.type = some (.int .i64)) (i2 : P.underlying f2.type = some (.int .i64))
    (hv : Value.okWide P W r b0 t v) (h : DataW.Trod enc P W 0 (fun _ => true) true t v d p) :
    ∃ (A : Option Addr) (c : Nat) (l : List Sp), v = .slice A l.length c ∧ Ss W W.heap.size A l ∧ (∀ x ∈ l, (Lit.int .i64 x.1).wf = true) ∧ l.length ≤ c ∧ ((d = .nil ∧ l = [] ∧ c = 0) ∨ ∃ el sp, d = .slice el sp ∧ c = el.length + sp.length) := by
  obtain ⟨A, len, c, rfl⟩ := okWide_slice ht hv
  obtain ⟨fuel, hf⟩ := h
  rcases open_slice ht hf with ⟨hcs, hx⟩ | ⟨a, len', cap', m, n, D, Pl, hcs, _, hl, hm, hmm, hx, hi⟩
  · simp [Value.cells] at hcs
    obtain ⟨rfl, rfl, rfl⟩ := hcs
    simp only [Prod.mk.injEq] at hx
    exact ⟨none, 0, [], rfl, Ss.nil _, by simp, by simp, .inl ⟨hx.1, rfl, rfl⟩⟩
  · simp [Value.cells] at hcs
    obtain ⟨rfl, rfl, rfl⟩ := hcs
    simp only [Prod.mk.injEq] at hx
    simp only [if_true] at hmm
    subst hmm
    have hz : ∀ i, i < len → ∃ z : Sp, W.cell? (a.add (i * 3)) = some (.int .i64 z.1) ∧ W.cell? (a.add (i * 3 + 1)) = some (.int .i64 z.2.1) ∧ W.cell? (a.add (i * 3 + 2)) = some (.int .i64 z.2.2) ∧ (Lit.int .i64 z.1).wf = true := by
      intro i hil
      obtain ⟨cs', hc, ht'⟩ := hi i (by omega)
      rw [hC] at hc
      obtain ⟨_, hcl, hat⟩ := World.cells?_some hc
      obtain ⟨z, z0, z1, z2, zw⟩ := span_atw he hone i0 i1 i2 ht'
      have q0 := (hat 0 (by omega)).trans z0
      have q1 := (hat 1 (by omega)).trans z1
      have q2 := (hat 2 (by omega)).trans z2
      rw [Go.Deep.add_add] at q0 q1 q2
      exact ⟨z, q0, q1, q2, zw⟩
    obtain ⟨f, hfz⟩ : ∃ f : Nat → Sp, ∀ i, i < len → W.cell? (a.add (i * 3)) = some (.int .i64 (f i).1) ∧ W.cell? (a.add (i * 3 + 1)) = some (.int .i64 (f i).2.1) ∧ W.cell? (a.add (i * 3 + 2)) = some (.int .i64 (f i).2.2) ∧ (Lit.int .i64 (f i).1).wf = true :=
      ⟨fun i => if h : i < len then (hz i h).choose else (0, 0, 0), fun i h => by simp only [dif_pos h]; exact (hz i h).choose_spec⟩
    have hlen : ((List.range len).map f).length = len := by simp
    refine ⟨some a, _, (List.range len).map f, by rw [hlen], fun hp => ?_, (fun x hx => by obtain ⟨i, hi, rfl⟩ := List.mem_map.1 hx; exact (hfz i (List.mem_range.1 hi)).2.2.2), by rw [hlen]; exact hl, .inr ⟨_, _, hx.1, by simp; omega⟩⟩
    rw [hlen] at hp
    obtain ⟨b, off, spot⟩ := a
    have hspot : spot = none := by simpa [Addr.add] using World.cell?_spot (hfz 0 hp).1
    subst hspot
    have hadd : ∀ k, (⟨b, off, none⟩ : Addr).add k = ⟨b, off + k, none⟩ := Go.WideShapes.add_plain b off
    have h0 := (hfz 0 hp).1
    refine ⟨b, off, rfl, by have := World.block_lt_of_cell? W _ h0; rwa [hadd] at this, fun j hj => ?_⟩
    rw [hlen] at hj
    have hg : ((List.range len).map f).getD j (0, 0, 0) = f j := by simp [List.getD_eq_getElem?_getD, hj]
    rw [hg]
    obtain ⟨c0, c1, c2, _⟩ := hfz j hj
    rw [hadd] at c0 c1 c2
    exact ⟨c0, by rw [Nat.add_assoc]; exact c1, by rw [Nat.add_assoc]; exact c2⟩

end
end Span
end Go.Proofs.Ytpgpeigaoonpcac
