/-
  Lists of bytes among a law's arguments.
-/
import Derived.Test.YtgiojcjnljmaiaaSumPlain
import Derived.Test.YtgiojcjnljmaiaaBulk
import Derived.Deep.Slices
namespace Go.Proofs.Ytgiojcjnljmaiaa
open Go.ChangeShapes Go.WideShapes Go.ChangeAt Go.RowKit Go.Deep
namespace Frm

theorem cells_bytes : Try.prog.cellsOf 22 = 1 := by kernel_rfl

section
variable {H : Type} {enc : TypeId × Value → H} {P : Program} {W : World}

/-- How one of the lists is read. -/
def ReadsAs (d : DataW H) (p : List Int) : Prop := (d = .nil ∧ p = []) ∨ ∃ sp, d = .slice (lits .u8 p) sp

/-- The cell of one of the lists, as it is read. -/
theorem bytes_at {t e : TypeId} {fuel : Nat} {cs : List Value} {x : DataW H × List MemPlace} (ht : P.underlying t = some (.slice e)) (he : P.underlying e = some (.int .u8)) (hc : P.cellsOf e = 1)
    (h : DataW.trod enc P W 0 (fun _ => true) true fuel t cs = some x) : ∃ (A : Option Addr) (c : Nat) (p : List Int), cs = [.slice A p.length c] ∧ Ns .u8 W W.heap.size A p ∧ (∀ z ∈ p, 0 ≤ z ∧ z ≤ 255) ∧ p.length ≤ c ∧ ReadsAs x.1 p := by
  rcases open_ints ht he hc h with ⟨hcs, hx⟩ | ⟨a, len', cap', zs, hcs, _, hl, hm, hz, hx, hcell, hwz⟩
  · subst hcs
    exact ⟨none, 0, [], rfl, Ns.nil _, by simp, by simp, .inl ⟨by rw [hx], rfl⟩⟩
  · subst hcs
    simp only [if_true] at hz
    have hlen : (zs.take len').length = len' := by simp; omega
    refine ⟨some a, cap', zs.take len', by rw [hlen], fun hp => ?_, fun n hn => wf_byte (hwz n (List.mem_of_mem_take hn)), by omega, .inr ⟨_, by rw [hx]⟩⟩
    rw [hlen] at hp
    obtain ⟨b, off, rfl, hat⟩ := ints_at hcell (by omega)
    have h0 := hat 0 (by omega)
    refine ⟨b, off, rfl, World.block_lt_of_cell? W _ h0, fun j hj => ?_⟩
    rw [hlen] at hj
    rw [hat j (by omega)]
    simp [List.getD_eq_getElem?_getD, hj]

/-- A slice of slices of bytes among the arguments, nil and empty ones too. -/
theorem open_ls {t e b : TypeId} {v : Value} {d : DataW H} {p : List MemPlace} {r : Reach} {b0 : Nat} (ht : P.underlying t = some (.slice e)) (he : P.underlying e = some (.slice b)) (hb : P.underlying b = some (.int .u8)) (hC : P.cellsOf e = 1) (hc : P.cellsOf b = 1)
    (hv : Value.okWide P W r b0 t v) (h : DataW.Trod enc P W 0 (fun _ => true) true t v d p) :
    ∃ (A : Option Addr) (c : Nat) (ps : List (List Int)), v = .slice A ps.length c ∧ Parts W W.heap.size A ps ∧ (∀ q ∈ ps, ∀ z ∈ q, 0 ≤ z ∧ z ≤ 255) ∧ ps.length ≤ c ∧ (A = none → c = 0) ∧
      ((d = .nil ∧ ps = [] ∧ c = 0) ∨ ∃ el sp, d = .slice el sp ∧ c = el.length + sp.length ∧ el.length = ps.length ∧ ∀ j, j < ps.length → ∃ dj, el[j]? = some dj ∧ ReadsAs dj (ps.getD j [])) := by
  obtain ⟨A, len, c, rfl⟩ := okWide_slice ht hv
  obtain ⟨fuel, hf⟩ := h
  rcases open_slice ht hf with ⟨hcs, hx⟩ | ⟨a, len', cap', m, n, D, Pl, hcs, _, hl, hm, hmm, hx, hi⟩
  · simp [Value.cells] at hcs
    obtain ⟨rfl, rfl, rfl⟩ := hcs
    simp only [Prod.mk.injEq] at hx
    exact ⟨none, 0, [], rfl, Parts.nil _, by simp, by simp, fun _ => rfl, .inl ⟨hx.1, rfl, rfl⟩⟩
  · simp [Value.cells] at hcs
    obtain ⟨rfl, rfl, rfl⟩ := hcs
    simp only [Prod.mk.injEq] at hx
    simp only [if_true] at hmm
    subst hmm
    have hz : ∀ i, i < len → ∃ q : List Int, ∃ A' c', W.cell? (a.add i) = some (.slice A' q.length c') ∧ Ns .u8 W W.heap.size A' q ∧ (∀ z ∈ q, 0 ≤ z ∧ z ≤ 255) ∧ q.length ≤ c' ∧ ReadsAs (D i) q := by
      intro i hil
      obtain ⟨cs', hc', ht'⟩ := hi i (by omega)
      rw [hC, Nat.mul_one] at hc'
      obtain ⟨A', c', q, rfl, h1, h2, h3, h4⟩ := bytes_at he hb hc ht'
      obtain ⟨_, _, hat⟩ := World.cells?_some hc'
      exact ⟨q, A', c', by simpa [Addr.add] using (hat 0 (by omega)), h1, h2, h3, h4⟩
    obtain ⟨f, hfz⟩ : ∃ f : Nat → List Int, ∀ i, i < len → ∃ A' c', W.cell? (a.add i) = some (.slice A' (f i).length c') ∧ Ns .u8 W W.heap.size A' (f i) ∧ (∀ z ∈ f i, 0 ≤ z ∧ z ≤ 255) ∧ (f i).length ≤ c' ∧ ReadsAs (D i) (f i) :=
      ⟨fun i => if h : i < len then (hz i h).choose else [], fun i h => by simp only [dif_pos h]; exact (hz i h).choose_spec⟩
    have hlen : ((List.range len).map f).length = len := by simp
    have hg : ∀ j, j < len → ((List.range len).map f).getD j [] = f j := fun j hj => by simp [List.getD_eq_getElem?_getD, hj]
    refine ⟨some a, _, (List.range len).map f, by rw [hlen], fun hp => ?_, ?_, by rw [hlen]; exact hl, (fun h => by cases h), .inr ⟨_, _, hx.1, by simp; omega, by simp, fun j hj => ?_⟩⟩
    · rw [hlen] at hp
      obtain ⟨b', off, spot⟩ := a
      obtain ⟨A0, c0, hc0, _⟩ := hfz 0 hp
      have hspot : spot = none := by simpa [Addr.add] using World.cell?_spot hc0
      subst hspot
      have hadd : ∀ k, (⟨b', off, none⟩ : Addr).add k = ⟨b', off + k, none⟩ := Go.WideShapes.add_plain b' off
      refine ⟨b', off, rfl, by have := World.block_lt_of_cell? W _ hc0; rwa [hadd] at this, fun j hj => ?_⟩
      rw [hlen] at hj
      obtain ⟨A', c', h1, h2, h3, h4, h5⟩ := hfz j hj
      rw [hg j hj, ← hadd]
      exact ⟨A', c', h1, h2, h4⟩
    · intro q hq
      obtain ⟨i, hi', rfl⟩ := List.mem_map.1 hq
      obtain ⟨_, _, _, _, h3, _⟩ := hfz i (List.mem_range.1 hi')
      exact h3
    · rw [hlen] at hj
      obtain ⟨_, _, _, _, _, _, h5⟩ := hfz j hj
      exact ⟨D j, by simp [hj], by rw [hg j hj]; exact h5⟩
end

theorem reads_bulk {H : Type} {d : DataW H} {p : List Int} (h : ReadsAs d p) : p.length + 1 ≤ Rows.uptoBulk d := by
  rcases h with ⟨rfl, rfl⟩ | ⟨sp, rfl⟩
  · simp [Rows.uptoBulk]
  · simp only [Rows.uptoBulk, Bulk.lits_bulk]; omega

/-- How many bytes and lists there are. -/
def weight (ps : List (List Int)) : Nat := (ps.map (fun p => p.length + 1)).sum

theorem weight_bulk {H : Type} : ∀ (el : List (DataW H)) (ps : List (List Int)), el.length = ps.length → (∀ j, j < ps.length → ∃ dj, el[j]? = some dj ∧ ReadsAs dj (ps.getD j [])) → weight ps ≤ Rows.uptoBulkAll el
  | [], [], _, _ => by simp [weight]
  | [], p :: ps, h, _ => by simp at h
  | d :: el, [], h, _ => by simp at h
  | d :: el, p :: ps, h, hj => by
    obtain ⟨d0, h0, h1⟩ := hj 0 (by simp)
    simp at h0 h1
    subst h0
    have ih := weight_bulk el ps (by simpa using h) (fun j hlt => by
      obtain ⟨dj, e1, e2⟩ := hj (j + 1) (by simp; omega)
      exact ⟨dj, by simpa using e1, by simpa using e2⟩)
    have := reads_bulk h1
    simp only [Rows.uptoBulkAll, weight, List.map_cons, List.sum_cons] at ih ⊢
    omega

theorem ls_le {H : Type} {d : DataW H} {ps : List (List Int)} {c : Nat} (ho : (d = .nil ∧ ps = [] ∧ c = 0) ∨ ∃ el sp, d = .slice el sp ∧ c = el.length + sp.length ∧ el.length = ps.length ∧ ∀ j, j < ps.length → ∃ dj, el[j]? = some dj ∧ ReadsAs dj (ps.getD j [])) : weight ps ≤ Rows.uptoBulk d := by
  rcases ho with ⟨_, rfl, _⟩ | ⟨el, sp, rfl, _, h1, h2⟩
  · simp [weight]
  · have := weight_bulk el ps h1 h2
    simp only [Rows.uptoBulk]
    omega

theorem weight_mem {ps : List (List Int)} : ∀ q ∈ ps, q.length + 1 ≤ weight ps := by
  induction ps with
  | nil => simp
  | cons p ps ih =>
    intro q hq
    simp only [weight, List.map_cons, List.sum_cons] at ih ⊢
    rcases List.mem_cons.1 hq with rfl | hq
    · omega
    · have := ih q hq; omega
theorem weight_len : ∀ (ps : List (List Int)), ps.length ≤ weight ps
  | [] => by simp
  | p :: ps => by
    have := weight_len ps
    simp only [weight, List.map_cons, List.sum_cons, List.length_cons] at this ⊢
    omega
end Frm
end Go.Proofs.Ytgiojcjnljmaiaa
