/-
  Several texts of this family in one: SpanRow, VersArgs, SliceAt.
-/
import Derived.Test.YtkfdplfgaddkmaaGreatK2
import Derived.Deep.Slices
import Derived.Deep.Fields
import Derived.Lib.SmallJoins
import Derived.Test.YtkfdplfgaddkmaaGreatK3
/-
 Slices of spans and of dots, and dots, among a law's arguments.
-/
namespace Go.Proofs.YtkfdplfgaddkmaaGreat
namespace Span
open Go.ChangeShapes Go.WideShapes Go.ChangeAt Go.RowKit Go.Joins Go.Deep

theorem cells_span : Tryz.prog.cellsOf 121 = 3 := by kernel_rfl
theorem bytes_span : Tryz.prog.bytesOf 121 = 24 := by kernel_rfl
theorem cells_dot : Tryz.prog.cellsOf 116 = 2 := by kernel_rfl
section
variable {H : Type} {enc : TypeId × Value → H} {P : Program} {W : World}

theorem one_at {cs : List Value} {k : Nat} {v : Value} (h : (cs.drop k).take 1 = [v]) : cs[k]? = some v := by
 rcases Nat.lt_or_ge k cs.length with hk | hk
 ·rw [List.drop_eq_getElem_cons hk] at h
  simp only [List.take_succ_cons, List.take_zero, List.cons.injEq, and_true] at h
  rw [List.getElem?_eq_getElem hk, h]
 ·rw [List.drop_eq_nil_of_le hk] at h
  simp at h

theorem span_at {e : TypeId} {f0 f1 f2 : Field} {base : Nat} {spare : Nat → Bool} {held : Bool} {n : Nat} {cs : List Value} {x : DataW H × List MemPlace} (he : P.underlying e = some (.struct #[f0, f1, f2])) (hone : oneCellFields P #[f0, f1, f2] = true)
  (i0 : P.underlying f0.type = some (.int .i64)) (i1 : P.underlying f1.type = some (.int .i64)) (i2 : P.underlying f2.type = some (.int .i64)) (h : DataW.trod enc P W base spare held n e cs = some x) :
  ∃ z : Sp, cs[0]? = some (.int .i64 z.1) ∧ cs[1]? = some (.int .i64 z.2.1) ∧ cs[2]? = some (.int .i64 z.2.2) := by
 obtain ⟨y0, y1, y2, m, _, _, h0, h1, h2⟩ := trod_struct3 he h
 obtain ⟨o0, k0⟩ := hone_of hone 0 f0 rfl
 obtain ⟨o1, k1⟩ := hone_of hone 1 f1 rfl
 obtain ⟨o2, k2⟩ := hone_of hone 2 f2 rfl
 rw [o0, k0] at h0
 rw [o1, k1] at h1
 rw [o2, k2] at h2
 obtain ⟨z0, e0, _, _⟩ := DataW.trod_int i0 h0
 obtain ⟨z1, e1, _, _⟩ := DataW.trod_int i1 h1
 obtain ⟨z2, e2, _, _⟩ := DataW.trod_int i2 h2
 exact ⟨(z0, z1, z2), one_at e0, one_at e1, one_at e2⟩
end
end Span
end Go.Proofs.YtkfdplfgaddkmaaGreat

/-
 Versions and slices of versions among a law's arguments.
-/
namespace Go.Proofs.YtkfdplfgaddkmaaGreat
namespace Vers
open Go.ChangeShapes Go.WideShapes Go.ChangeAt Go.RowKit Go.Joins Go.Deep Span

theorem cells_ver : Tryz.prog.cellsOf 119 = 5 := by kernel_rfl
theorem bytes_ver : Tryz.prog.bytesOf 119 = 64 := by kernel_rfl
theorem cells_spans : Tryz.prog.cellsOf 117 = 1 := by kernel_rfl
theorem cells_bool : Tryz.prog.cellsOf 4 = 1 := by kernel_rfl
theorem cells_string : Tryz.prog.cellsOf 9 = 1 := by kernel_rfl
theorem cells_int : Tryz.prog.cellsOf 3 = 1 := by kernel_rfl
theorem cells_int64 : Tryz.prog.cellsOf 2 = 1 := by kernel_rfl

section
variable {H : Type} {enc : TypeId × Value → H} {P : Program} {W : World}

def Wt (P : Program) (t : TypeId) (d : DataW H) : Prop := ∀ x ∈ d.weights P t, x ≤ 140737488351232
theorem wt_arg {ts : List TypeId} {ds : List (DataW H)} {j : Nat} {t : TypeId} {d : DataW H} (h : (DataW.weightsEach P ts ds).all (· ≤ reachBytes) = true) (ht : ts[j]? = some t) (hd : ds[j]? = some d) : Wt P t d := fun x hx => by
 have h1 := List.all_eq_true.1 h x (DataW.weights_mem_each ht hd x hx)
 have h3 : reachBytes = 140737488351232 := by decide
 simpa [h3] using h1
theorem wt_all {e : TypeId} : ∀ {l : List (DataW H)}, (∀ x ∈ DataW.weightsAll P e l, x ≤ 140737488351232) → ∀ d ∈ l, Wt P e d
 | [], _, d, hd => by simp at hd
 | y :: l, h, d, hd => by
  simp only [DataW.weightsAll, List.mem_append] at h
  rcases List.mem_cons.1 hd with rfl | hd
  ·exact fun x hx => h x (.inl hx)
  ·exact wt_all (fun x hx => h x (.inr hx)) d hd
theorem wt_slice {t e : TypeId} {el sp : List (DataW H)} (ht : P.underlying t = some (.slice e)) (h : Wt P t (.slice el sp)) : (el.length + sp.length) * P.bytesOf e ≤ 140737488351232 ∧ ∀ d ∈ el, Wt P e d := by
 unfold Wt at h
 simp only [DataW.weights, ht, List.mem_cons, List.mem_append] at h
 exact ⟨h _ (.inl rfl), wt_all fun x hx => h x (.inr (.inl hx))⟩
theorem wt_string {t : TypeId} {b : List UInt8} (h : Wt P t (.lit (.string b) : DataW H)) : b.length ≤ 140737488351232 := by
 unfold Wt at h
 simp only [DataW.weights, List.mem_cons, List.not_mem_nil, or_false, forall_eq] at h
 exact h
theorem wt_each : ∀ {ts : List TypeId} {ds : List (DataW H)}, (∀ x ∈ DataW.weightsEach P ts ds, x ≤ 140737488351232) → ∀ (j : Nat) t d, ts[j]? = some t → ds[j]? = some d → Wt P t d
 | [], _, _, _, _, _, ht, _ => by simp at ht
 | _ :: _, [], _, _, _, _, _, hd => by simp at hd
 | t0 :: ts, d0 :: ds, h, j, t, d, ht, hd => by
  simp only [DataW.weightsEach, List.mem_append] at h
  rcases j with _ | j
  ·simp only [List.getElem?_cons_zero, Option.some.injEq] at ht hd
   subst ht hd
   exact fun x hx => h x (.inl hx)
  ·simp only [List.getElem?_cons_succ] at ht hd
   exact wt_each (fun x hx => h x (.inr hx)) j t d ht hd
theorem wt_struct {t : TypeId} {fs : Array Field} {parts : List (DataW H)} (ht : P.underlying t = some (.struct fs)) (h : Wt P t (.agg parts)) : ∀ (j : Nat) u d, (fs.toList.map (·.type))[j]? = some u → parts[j]? = some d → Wt P u d := by
 unfold Wt at h
 simp only [DataW.weights, ht] at h
 exact wt_each h

end

section
variable {H : Type} {enc : TypeId × Value → H} {W : World}
set_option maxRecDepth 100000 in
theorem past_at {n : Nat} {cs : List Value} {D : DataW H} {Pl : List MemPlace} (h : DataW.trod enc Tryz.prog W 0 (fun _ => true) true n 117 cs = some (D, Pl)) (hw : Wt Tryz.prog 117 D) :
  ∃ (A : Option Addr) (c : Nat) (l : List Sp), cs = [.slice A l.length c] ∧ Ss W W.heap.size A l ∧ l.length ≤ c ∧ l.length * 24 ≤ 140737488351232 := by
 have hf : DataW.Trod enc Tryz.prog W 0 (fun _ => true) true 117 (cs.headD (.slice none 0 0)) D Pl := by
  rcases open_slice Tryz.underlying117 h with ⟨rfl, hx⟩ | ⟨a, len, cap, m, n', D', Pl', rfl, _⟩
  ·exact ⟨n, h⟩
  ·exact ⟨n, h⟩
 have hcs : ∃ A len c, cs = [.slice A len c] := by
  rcases open_slice Tryz.underlying117 h with ⟨rfl, hx⟩ | ⟨a, len, cap, m, n', D', Pl', rfl, _⟩
  ·exact ⟨_, _, _, rfl⟩
  ·exact ⟨_, _, _, rfl⟩
 obtain ⟨A, len, c, rfl⟩ := hcs
 obtain ⟨fuel, hf⟩ := hf
 simp only [List.headD_cons, Value.cells] at hf
 rcases open_slice Tryz.underlying117 hf with ⟨he, hx⟩ | ⟨a, len', cap', m, n', D', Pl', he, _, hl, hm, hmm, hx, hi⟩
 ·simp at he
  obtain ⟨rfl, rfl, rfl⟩ := he
  exact ⟨none, 0, [], rfl, Ss.nil _, by simp, by simp⟩
 ·simp at he
  obtain ⟨rfl, rfl, rfl⟩ := he
  simp only [Prod.mk.injEq] at hx
  simp only [if_true] at hmm
  subst hmm
  have hwt := wt_slice Tryz.underlying117 (hx.1 ▸ hw)
  rw [bytes_span] at hwt
  have hz : ∀ i, i < len → ∃ z : Sp, W.cell? (a.add (i * 3)) = some (.int .i64 z.1) ∧ W.cell? (a.add (i * 3 + 1)) = some (.int .i64 z.2.1) ∧ W.cell? (a.add (i * 3 + 2)) = some (.int .i64 z.2.2) := by
   intro i hil
   obtain ⟨cs', hc, ht'⟩ := hi i (by omega)
   rw [cells_span] at hc
   obtain ⟨_, hcl, hat⟩ := World.cells?_some hc
   obtain ⟨z, z0, z1, z2⟩ := span_at Tryz.underlying121 (by kernel_rfl) Tryz.underlying3 Tryz.underlying2 Tryz.underlying2 ht'
   have q0 := (hat 0 (by omega)).trans z0
   have q1 := (hat 1 (by omega)).trans z1
   have q2 := (hat 2 (by omega)).trans z2
   rw [Go.Deep.add_add] at q0 q1 q2
   exact ⟨z, q0, q1, q2⟩
  obtain ⟨f, hfz⟩ : ∃ f : Nat → Sp, ∀ i, i < len → W.cell? (a.add (i * 3)) = some (.int .i64 (f i).1) ∧ W.cell? (a.add (i * 3 + 1)) = some (.int .i64 (f i).2.1) ∧ W.cell? (a.add (i * 3 + 2)) = some (.int .i64 (f i).2.2) :=
   ⟨fun i => if h : i < len then (hz i h).choose else (0, 0, 0), fun i h => by simp only [dif_pos h]; exact (hz i h).choose_spec⟩
  have hlen : ((List.range len).map f).length = len := by simp
  refine ⟨some a, _, (List.range len).map f, by rw [hlen], fun hp => ?_, by rw [hlen]; exact hl, by rw [hlen]; have := hwt.1; simp at this; omega⟩
  rw [hlen] at hp
  obtain ⟨b, off, spot⟩ := a
  have hspot : spot = none := by simpa [Addr.add] using World.cell?_spot (hfz 0 hp).1
  subst hspot
  have hadd : ∀ k, (⟨b, off, none⟩ : Addr).add k = ⟨b, off + k, none⟩ := Go.WideShapes.add_plain b off
  have h0 := (hfz 0 hp).1
  refine ⟨b, off, rfl, by have := World.block_lt_of_cell? W _ h0; rwa [hadd] at this, fun j hj => ?_⟩
  rw [hlen] at hj
  have hg : ((List.range len).map f).getD j (0, 0, 0) = f j := by simp [List.getD_eq_getElem?_getD, hj]
  rw [hg]
  obtain ⟨c0, c1, c2⟩ := hfz j hj
  rw [hadd] at c0 c1 c2
  exact ⟨c0, by rw [Nat.add_assoc]; exact c1, by rw [Nat.add_assoc]; exact c2⟩

set_option maxRecDepth 100000 in
theorem ver_at {n : Nat} {cs : List Value} {D : DataW H} {Pl : List MemPlace} (h : DataW.trod enc Tryz.prog W 0 (fun _ => true) true n 119 cs = some (D, Pl)) (hw : Wt Tryz.prog 119 D) :
  ∃ (v : Vr) (A : Option Addr) (c : Nat), cs = [.int .i64 v.s, .int .i64 v.n, .slice A v.past.length c, .bool v.gone, .string v.val] ∧ Pa W 0 W.heap.size A c v ∧ v.past.length * 24 ≤ 140737488351232 ∧ v.val.size ≤ 140737488351232 ∧
   (Lit.int .i64 v.s).wf = true ∧ (Lit.int .i64 v.n).wf = true := by
 obtain ⟨y0, y1, y2, y3, m, hx, hl, h0, h1, h2, h3⟩ := trod_struct4 Tryz.underlying119 h
 obtain ⟨z0, z1, m', hx', _, g0, g1⟩ := trod_struct2 Tryz.underlying116 h0
 rw [cells_ver] at hl
 match cs, hl with
 | [q0, q1, q2, q3, q4], _ =>
  simp only [cells_dot, cells_spans, cells_bool, cells_string, cells_int, cells_int64, List.drop_zero, List.take_succ_cons, List.take_zero, List.drop_succ_cons] at h1 h2 h3 g0 g1
  obtain ⟨s, e0, _, w0⟩ := DataW.trod_int Tryz.underlying3 g0
  obtain ⟨vn, e1, _, w1⟩ := DataW.trod_int Tryz.underlying2 g1
  obtain ⟨g, e3, _⟩ := DataW.trod_bool Tryz.underlying4 h2
  obtain ⟨x, e4, x4, hxl⟩ := DataW.trod_string Tryz.underlying9 h3
  simp only [Prod.mk.injEq] at hx
  have hww := wt_struct Tryz.underlying119 (hx.1 ▸ hw)
  obtain ⟨A, c, l, e2, hs, hlc, hlw⟩ := past_at (D := y1.1) (Pl := y1.2) h1 (hww 1 117 y1.1 rfl rfl)
  have hv := hww 3 9 y3.1 rfl rfl
  rw [show y3 = (.lit (.string x.data.toList), []) from x4] at hv
  have hvl := wt_string hv
  have hsz : x.data.toList.length = x.size := by rw [Array.length_toList]; rfl
  rw [hsz] at hvl
  simp only [List.cons.injEq, and_true] at e0 e1 e2 e3 e4
  subst e0 e1 e2 e3 e4
  exact ⟨⟨s, vn, l, g, x⟩, A, c, rfl, ⟨hs, hlc, by simp only; omega, by simp only; omega, fun _ _ _ => Nat.zero_le _⟩, hlw, hvl, w0, w1⟩

end
end Vers
end Go.Proofs.YtkfdplfgaddkmaaGreat

/-
 A slice by its cell, among the data of a law's arguments: its elements by a reading of one element's cells.
-/
namespace Go.Proofs.YtkfdplfgaddkmaaGreat
namespace Vers
open Go.ChangeShapes Go.WideShapes Go.ChangeAt Go.RowKit Go.Joins Go.Deep Span

section
variable {H : Type} {enc : TypeId × Value → H} {P : Program} {W : World}
set_option maxRecDepth 100000 in
theorem slice_at {t e : TypeId} (ht : P.underlying t = some (.slice e)) {n : Nat} {cs : List Value} {D : DataW H} {Pl : List MemPlace} (h : DataW.trod enc P W 0 (fun _ => true) true n t cs = some (D, Pl)) (hw : Wt P t D)
  {size bytes : Nat} (hs : P.cellsOf e = size) (hb : P.bytesOf e = bytes) (h1 : 0 < size) {α : Type} (val : α → List Value) (Q : α → Prop) (d : α) (hlen : ∀ x, (val x).length = size)
  (hel : ∀ n cs (D : DataW H) Pl, DataW.trod enc P W 0 (fun _ => true) true n e cs = some (D, Pl) → Wt P e D → ∃ x, cs = val x ∧ Q x) :
  ∃ (A : Option Addr) (c : Nat) (l : List α), cs = [.slice A l.length c] ∧ l.length ≤ c ∧ l.length * bytes ≤ 140737488351232 ∧ (∀ x ∈ l, Q x) ∧
   (0 < l.length → ∃ b off, A = some ⟨b, off, none⟩ ∧ b < W.heap.size ∧ ∀ j, j < l.length → ∀ r u, (val (l.getD j d))[r]? = some u → W.cell? ⟨b, off + j * size + r, none⟩ = some u) := by
 rcases open_slice ht h with ⟨rfl, hx⟩ | ⟨a, len, cap, m, n', D', Pl', rfl, _, hl, hm, hmm, hx, hi⟩
 ·exact ⟨none, 0, [], rfl, by simp, by simp, by simp, fun h => absurd h (by simp)⟩
 ·simp only [Prod.mk.injEq] at hx
  simp only [if_true] at hmm
  subst hmm
  have hwt := wt_slice ht (hx.1 ▸ hw)
  rw [hb] at hwt
  have hz : ∀ i, i < len → ∃ x : α, (∀ j u, (val x)[j]? = some u → W.cell? (a.add (i * size + j)) = some u) ∧ Q x := by
   intro i hil
   obtain ⟨cs', hc, ht'⟩ := hi i (by omega)
   rw [hs] at hc
   obtain ⟨_, hcl, hat⟩ := World.cells?_some hc
   obtain ⟨x, hcs', hq⟩ := hel _ _ _ _ ht' (hwt.2 (D' i) (List.mem_map.2 ⟨i, List.mem_range.2 hil, rfl⟩))
   subst hcs'
   refine ⟨x, fun j u hj => ?_, hq⟩
   have hj5 : j < size := by
    rcases Nat.lt_or_ge j size with h | h
    ·exact h
    ·rw [List.getElem?_eq_none (by rw [hlen]; exact h)] at hj; cases hj
   have q := (hat j hj5).trans hj
   rwa [Go.Deep.add_add] at q
  obtain ⟨f, hfz⟩ : ∃ f : Nat → α, ∀ i, i < len → (∀ j u, (val (f i))[j]? = some u → W.cell? (a.add (i * size + j)) = some u) ∧ Q (f i) :=
   ⟨fun i => if h : i < len then (hz i h).choose else d, fun i h => by simp only [dif_pos h]; exact (hz i h).choose_spec⟩
  have hll : ((List.range len).map f).length = len := by simp
  refine ⟨some a, _, (List.range len).map f, by rw [hll], by rw [hll]; exact hl, by rw [hll]; have := hwt.1; simp only [List.length_map, List.length_range] at this; exact Nat.le_trans (Nat.mul_le_mul_right _ (by omega)) this, fun x hx => ?_, fun hp => ?_⟩
  ·obtain ⟨i, hi', rfl⟩ := List.mem_map.1 hx
   exact (hfz i (List.mem_range.1 hi')).2
  ·rw [hll] at hp
   obtain ⟨b, off, spot⟩ := a
   obtain ⟨u0, hu0⟩ : ∃ u, (val (f 0))[0]? = some u := ⟨_, List.getElem?_eq_getElem (by rw [hlen]; exact h1)⟩
   have h0 := (hfz 0 hp).1 0 u0 hu0
   have hspot : spot = none := by simpa [Addr.add] using World.cell?_spot h0
   subst hspot
   have hadd : ∀ k, (⟨b, off, none⟩ : Addr).add k = ⟨b, off + k, none⟩ := Go.WideShapes.add_plain b off
   refine ⟨b, off, rfl, by have := World.block_lt_of_cell? W _ h0; rwa [hadd] at this, fun j hj r u hu => ?_⟩
   rw [hll] at hj
   have hg : ((List.range len).map f).getD j d = f j := by simp [List.getD_eq_getElem?_getD, hj]
   rw [hg] at hu
   have h := (hfz j hj).1 r u hu
   rw [hadd] at h
   rw [Nat.add_assoc]
   exact h
end
end Vers
end Go.Proofs.YtkfdplfgaddkmaaGreat
