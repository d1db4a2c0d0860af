/-
  Slices of dots: as they are read, and among a law's arguments.
-/
import Derived.Test.YtpgpeigaoonpcabSpanRow
import Derived.Test.YtpgpeigaoonpcabSpanJoinRef
namespace Go.Proofs.Ytpgpeigaoonpcab
namespace Span
open Go.ChangeShapes Go.WideShapes Go.ChangeAt Go.RowKit Go.Joins Go.Deep

/-- From the address A on stand the dots l, in a block below B. -/
def Ds (w : World) (B : Nat) (A : Option Addr) (l : List (Int × Int)) : Prop :=
  0 < l.length → ∃ b off, A = some ⟨b, off, none⟩ ∧ b < B ∧ ∀ j, j < l.length →
    w.cell? ⟨b, off + j * 2, none⟩ = some (.int .i64 (l.getD j (0, 0)).1) ∧ w.cell? ⟨b, off + j * 2 + 1, none⟩ = some (.int .i64 (l.getD j (0, 0)).2)
theorem Ds.nil {w : World} {B : Nat} (A : Option Addr) : Ds w B A [] := fun h => absurd h (by simp)
theorem ds_at {w w' : World} {B : Nat} {A : Option Addr} {l : List (Int × Int)} {n : Nat} (h : Ds w B A l) (hn : l.length = n) (hb : Below B w w') {k : Nat} (hk : k < n) {x : Int × Int} (hx : l.getD k (0, 0) = x) :
    ∃ b off, A = some ⟨b, off, none⟩ ∧ b < B ∧ w'.cell? ⟨b, off + k * 2, none⟩ = some (.int .i64 x.1) ∧ w'.cell? ⟨b, off + k * 2 + 1, none⟩ = some (.int .i64 x.2) := by
  subst hn
  subst hx
  obtain ⟨b, off, e, hbB, hc⟩ := h (by omega)
  obtain ⟨c0, c1⟩ := hc k hk
  exact ⟨b, off, e, hbB, (hb.cell (by exact hbB)).trans c0, (hb.cell (by exact hbB)).trans c1⟩

section
variable {H : Type} {enc : TypeId × Value → H} {P : Program} {W : World}
/-- A slice of dots among the arguments, nil and empty ones too. -/
theorem open_ds {t e : TypeId} {f0 f1 : Field} {v : Value} {d : DataW H} {p : List MemPlace} {r : Reach} {b0 : Nat} (ht : P.underlying t = some (.slice e)) (he : P.underlying e = some (.struct #[f0, f1])) (hone : oneCellFields P #[f0, f1] = true) (hC : P.cellsOf e = 2)
    (i0 : P.underlying f0.type = some (.int .i64)) (i1 : P.underlying f1.type = some (.int .i64))
    (hv : Value.okWide P W r b0 t v) (h : DataW.Trod enc P W 0 (fun _ => true) true t v d p) :
    ∃ (A : Option Addr) (c : Nat) (l : List (Int × Int)), v = .slice A l.length c ∧ Ds W W.heap.size A l ∧ l.length ≤ c ∧ ((d = .nil ∧ l = [] ∧ c = 0) ∨ ∃ el sp, d = .slice el sp ∧ c = el.length + sp.length) := by
  obtain ⟨A, len, c, rfl⟩ := okWide_slice ht hv
  obtain ⟨fuel, hf⟩ := h
  rcases open_slice ht hf with ⟨hcs, hx⟩ | ⟨a, len', cap', m, n, D, Pl, hcs, _, hl, hm, hmm, hx, hi⟩
  · simp [Value.cells] at hcs
    obtain ⟨rfl, rfl, rfl⟩ := hcs
    simp only [Prod.mk.injEq] at hx
    exact ⟨none, 0, [], rfl, Ds.nil _, by simp, .inl ⟨hx.1, rfl, rfl⟩⟩
  · simp [Value.cells] at hcs
    obtain ⟨rfl, rfl, rfl⟩ := hcs
    simp only [Prod.mk.injEq] at hx
    simp only [if_true] at hmm
    subst hmm
    have hz : ∀ i, i < len → ∃ z : Int × Int, W.cell? (a.add (i * 2)) = some (.int .i64 z.1) ∧ W.cell? (a.add (i * 2 + 1)) = some (.int .i64 z.2) := by
      intro i hil
      obtain ⟨cs', hc, ht'⟩ := hi i (by omega)
      rw [hC] at hc
      obtain ⟨_, hcl, hat⟩ := World.cells?_some hc
      obtain ⟨z, z0, z1⟩ := dot_at he hone i0 i1 ht'
      have q0 := (hat 0 (by omega)).trans z0
      have q1 := (hat 1 (by omega)).trans z1
      rw [Go.Deep.add_add] at q0 q1
      exact ⟨z, q0, q1⟩
    obtain ⟨f, hfz⟩ : ∃ f : Nat → Int × Int, ∀ i, i < len → W.cell? (a.add (i * 2)) = some (.int .i64 (f i).1) ∧ W.cell? (a.add (i * 2 + 1)) = some (.int .i64 (f i).2) :=
      ⟨fun i => if h : i < len then (hz i h).choose else (0, 0), fun i h => by simp only [dif_pos h]; exact (hz i h).choose_spec⟩
    have hlen : ((List.range len).map f).length = len := by simp
    refine ⟨some a, _, (List.range len).map f, by rw [hlen], fun hp => ?_, by rw [hlen]; exact hl, .inr ⟨_, _, hx.1, by simp; omega⟩⟩
    rw [hlen] at hp
    obtain ⟨b, off, spot⟩ := a
    have hspot : spot = none := by simpa [Addr.add] using World.cell?_spot (hfz 0 hp).1
    subst hspot
    have hadd : ∀ k, (⟨b, off, none⟩ : Addr).add k = ⟨b, off + k, none⟩ := Go.WideShapes.add_plain b off
    have h0 := (hfz 0 hp).1
    refine ⟨b, off, rfl, by have := World.block_lt_of_cell? W _ h0; rwa [hadd] at this, fun j hj => ?_⟩
    rw [hlen] at hj
    have hg : ((List.range len).map f).getD j (0, 0) = f j := by simp [List.getD_eq_getElem?_getD, hj]
    rw [hg]
    obtain ⟨c0, c1⟩ := hfz j hj
    rw [hadd] at c0 c1
    exact ⟨c0, by rw [Nat.add_assoc]; exact c1⟩

/-- How long it may be, by the form's own reach. -/
theorem reach_ds {ts : List TypeId} {ds : List (DataW H)} {j : Nat} {t e : TypeId} {d : DataW H} {l : List (Int × Int)} {c nb : Nat} (h : (DataW.weightsEach P ts ds).all (· ≤ reachBytes) = true)
    (ht : ts[j]? = some t) (hd : ds[j]? = some d) (hu : P.underlying t = some (.slice e)) (hb : P.bytesOf e = nb) (hlc : l.length ≤ c)
    (ho : (d = .nil ∧ l = [] ∧ c = 0) ∨ ∃ el sp, d = .slice el sp ∧ c = el.length + sp.length) : l.length * nb ≤ 140737488351232 := by
  rcases ho with ⟨_, rfl, _⟩ | ⟨el, sp, rfl, hc⟩
  · simp
  · have := sized_slice h ht hd hu
    rw [hb] at this
    have h2 : l.length * nb ≤ (el.length + sp.length) * nb := Nat.mul_le_mul_right _ (by omega)
    have h3 : reachBytes = 140737488351232 := by decide
    omega

end

/-! ### Dots laid one by one into a set -/
/-- The right dots among these. -/
def dm (l : List (Int × Int)) (d : Int × Int) : Prop := d ∈ l ∧ okDot d
instance (l : List (Int × Int)) (d : Int × Int) : Decidable (dm l d) := by unfold dm; infer_instance
theorem dtake_one {l : List (Int × Int)} {i : Nat} {y : Int × Int} (hi : i < l.length) (hy : l.getD i (0, 0) = y) : l.take (i + 1) = l.take i ++ [y] := by
  rw [List.take_succ_eq_append_getElem hi]
  rw [List.getD_eq_getElem?_getD, List.getElem?_eq_getElem hi, Option.getD_some] at hy
  rw [hy]
theorem dm_step {l : List (Int × Int)} {i : Nat} {y : Int × Int} (hi : i < l.length) (hy : l.getD i (0, 0) = y) (d : Int × Int) : dm (l.take (i + 1)) d ↔ dm (l.take i) d ∨ (d = y ∧ okDot y) := by
  rw [dtake_one hi hy]
  unfold dm
  rw [List.mem_append, List.mem_singleton]
  constructor
  · rintro ⟨h | rfl, h2⟩
    · exact .inl ⟨h, h2⟩
    · exact .inr ⟨rfl, h2⟩
  · rintro (⟨h, h2⟩ | ⟨rfl, h2⟩)
    · exact ⟨.inl h, h2⟩
    · exact ⟨.inr rfl, h2⟩
/-- X has just the right dots of l, and no more spans than k. -/
def Laid (X : List Sp) (l : List (Int × Int)) (k : Nat) : Prop := Fine X ∧ (∀ s n, mem X s n ↔ dm l (s, n)) ∧ X.length ≤ k
theorem laid_nil (l : List (Int × Int)) : Laid [] (l.take 0) 0 := ⟨fine_nil, fun s n => by simp [mem_nil, dm], by simp⟩
theorem laid_skip {X : List Sp} {l : List (Int × Int)} {i k : Nat} {y : Int × Int} (hi : i < l.length) (hy : l.getD i (0, 0) = y) (hn : ¬ okDot y) (h : Laid X (l.take i) k) : Laid X (l.take (i + 1)) (k + 1) :=
  ⟨h.1, fun s n => by rw [h.2.1, dm_step hi hy]; exact ⟨.inl, fun h => h.elim id fun h => absurd h.2 hn⟩, Nat.le_succ_of_le h.2.2⟩
theorem laid_more {X : List Sp} {l : List (Int × Int)} {i k : Nat} {s n : Int} (hi : i < l.length) (hy : l.getD i (0, 0) = (s, n)) (ho : okDot (s, n)) (hk : k < 1024) (h : Laid X (l.take i) k) :
    ∃ r, addE X (s, n) = 0 ∧ addL X (s, n) = r ∧ Laid r (l.take (i + 1)) (k + 1) := by
  have hx : okSp (s, n, n) := by unfold okDot at ho; unfold okSp; simp only at ho ⊢; omega
  obtain ⟨hj, hl⟩ := joinOf_is (b := [(s, n, n)]) h.1 (by simpa using hx)
  obtain ⟨r, hr⟩ : ∃ r, joinOf X [(s, n, n)] = r := ⟨_, rfl⟩
  rw [hr] at hj hl
  have hl2 : r.length ≤ k + 1 := by have := h.2.2; simp only [List.length_cons, List.length_nil] at hl; omega
  have hg := join_good (a := X) (b := [(s, n, n)]) ⟨by have := h.2.2; omega, h.1⟩ ⟨by simp, fine_one hx⟩ hj (by omega)
  refine ⟨r, by rw [addE_good ho]; exact hg.1, by rw [add_good ho]; exact hg.2, hj.1, fun t m => ?_, hl2⟩
  rw [hj.2, h.2.1, dm_step hi hy, mem_one]
  refine or_congr Iff.rfl ⟨fun ⟨e1, e2, e3⟩ => ?_, fun ⟨e, _⟩ => ?_⟩
  · simp only at e1 e2 e3
    exact ⟨by rw [← e1]; exact Prod.ext rfl (by simp only; omega), ho⟩
  · injection e with e1 e2
    exact ⟨e1.symm, by simp only; omega, by simp only; omega⟩
/-- Two such sets joined, in either order. -/
theorem laid_join {X Y : List Sp} {l m : List (Int × Int)} {d : Int × Int} (hX : Laid X l 500) (hY : Laid Y m 500) :
    ∃ U, joinE X Y = 0 ∧ joinL X Y = U ∧ joinE Y X = 0 ∧ joinL Y X = U ∧ Right U ∧ hasL U d.1 d.2 = decide (dm l d ∨ dm m d) ∧ Right X ∧ Right Y ∧ (∀ s n, mem U s n ↔ mem X s n ∨ mem Y s n) := by
  have rX : Right X := ⟨by have := hX.2.2; omega, hX.1⟩
  have rY : Right Y := ⟨by have := hY.2.2; omega, hY.1⟩
  obtain ⟨hj, hl⟩ := joinOf_is hX.1 hY.1.1
  obtain ⟨U, hU⟩ : ∃ U, joinOf X Y = U := ⟨_, rfl⟩
  rw [hU] at hj hl
  have hl2 : U.length ≤ 1024 := by have := hX.2.2; have := hY.2.2; omega
  have g1 := join_good rX rY hj hl2
  have g2 := join_good rY rX (r := U) ⟨hj.1, fun s n => by rw [hj.2, or_comm]⟩ hl2
  refine ⟨U, g1.1, g1.2, g2.1, g2.2, ⟨hl2, hj.1⟩, ?_, rX, rY, hj.2⟩
  rw [hasL_mem]
  exact decide_eq_decide.2 (by rw [hj.2, hX.2.1, hY.2.1])
end Span
end Go.Proofs.Ytpgpeigaoonpcab
