/-
  Versions and slices of versions among a law's arguments.
-/
import Derived.Test.YtbhidndgnldheaaSpanRow
import Derived.Test.YtbhidndgnldheaaVersBase
namespace Go.Proofs.Ytbhidndgnldheaa
namespace Vers
open Go.ChangeShapes Go.WideShapes Go.ChangeAt Go.RowKit Go.Joins Go.Deep Span

theorem cells_ver : Try.prog.cellsOf 69 = 5 := by kernel_rfl
theorem bytes_ver : Try.prog.bytesOf 69 = 64 := by kernel_rfl
theorem cells_spans : Try.prog.cellsOf 67 = 1 := by kernel_rfl
theorem cells_bool : Try.prog.cellsOf 4 = 1 := by kernel_rfl
theorem cells_string : Try.prog.cellsOf 9 = 1 := by kernel_rfl
theorem cells_int : Try.prog.cellsOf 3 = 1 := by kernel_rfl
theorem cells_int64 : Try.prog.cellsOf 2 = 1 := by kernel_rfl

section
variable {H : Type} {enc : TypeId × Value → H} {P : Program} {W : World}

/-- What a datum weighs is within the reach. -/
def Wt (P : Program) (t : TypeId) (d : DataW H) : Prop := ∀ x ∈ d.weights P t, x ≤ 140737488351232
theorem wt_arg {ts : List TypeId} {ds : List (DataW H)} {j : Nat} {t : TypeId} {d : DataW H} (h : (DataW.weightsEach P ts ds).all (· ≤ reachBytes) = true) (ht : ts[j]? = some t) (hd : ds[j]? = some d) : Wt P t d := fun x hx => by
  have h1 := List.all_eq_true.1 h x (DataW.weights_mem_each ht hd x hx)
  have h3 : reachBytes = 140737488351232 := by decide
  simpa [h3] using h1
theorem wt_all {e : TypeId} : ∀ {l : List (DataW H)}, (∀ x ∈ DataW.weightsAll P e l, x ≤ 140737488351232) → ∀ d ∈ l, Wt P e d
  | [], _, d, hd => by simp at hd
  | y :: l, h, d, hd => by
    simp only [DataW.weightsAll, List.mem_append] at h
    rcases List.mem_cons.1 hd with rfl | hd
    · exact fun x hx => h x (.inl hx)
    · exact wt_all (fun x hx => h x (.inr hx)) d hd
theorem wt_slice {t e : TypeId} {el sp : List (DataW H)} (ht : P.underlying t = some (.slice e)) (h : Wt P t (.slice el sp)) : (el.length + sp.length) * P.bytesOf e ≤ 140737488351232 ∧ ∀ d ∈ el, Wt P e d := by
  unfold Wt at h
  simp only [DataW.weights, ht, List.mem_cons, List.mem_append] at h
  exact ⟨h _ (.inl rfl), wt_all fun x hx => h x (.inr (.inl hx))⟩
theorem wt_string {t : TypeId} {b : List UInt8} (h : Wt P t (.lit (.string b) : DataW H)) : b.length ≤ 140737488351232 := by
  unfold Wt at h
  simp only [DataW.weights, List.mem_cons, List.not_mem_nil, or_false, forall_eq] at h
  exact h
theorem wt_each : ∀ {ts : List TypeId} {ds : List (DataW H)}, (∀ x ∈ DataW.weightsEach P ts ds, x ≤ 140737488351232) → ∀ (j : Nat) t d, ts[j]? = some t → ds[j]? = some d → Wt P t d
  | [], _, _, _, _, _, ht, _ => by simp at ht
  | _ :: _, [], _, _, _, _, _, hd => by simp at hd
  | t0 :: ts, d0 :: ds, h, j, t, d, ht, hd => by
    simp only [DataW.weightsEach, List.mem_append] at h
    rcases j with _ | j
    · simp only [List.getElem?_cons_zero, Option.some.injEq] at ht hd
      subst ht hd
      exact fun x hx => h x (.inl hx)
    · simp only [List.getElem?_cons_succ] at ht hd
      exact wt_each (fun x hx => h x (.inr hx)) j t d ht hd
theorem wt_struct {t : TypeId} {fs : Array Field} {parts : List (DataW H)} (ht : P.underlying t = some (.struct fs)) (h : Wt P t (.agg parts)) : ∀ (j : Nat) u d, (fs.toList.map (·.type))[j]? = some u → parts[j]? = some d → Wt P u d := by
  unfold Wt at h
  simp only [DataW.weights, ht] at h
  exact wt_each h

end

section
variable {H : Type} {enc : TypeId × Value → H} {W : World}
set_option maxRecDepth 100000 in
/-- The spans of a past, by their cell: a datum that is read there. -/
theorem past_at {n : Nat} {cs : List Value} {D : DataW H} {Pl : List MemPlace} (h : DataW.trod enc Try.prog W 0 (fun _ => true) true n 67 cs = some (D, Pl)) (hw : Wt Try.prog 67 D) :
    ∃ (A : Option Addr) (c : Nat) (l : List Sp), cs = [.slice A l.length c] ∧ Ss W W.heap.size A l ∧ l.length ≤ c ∧ l.length * 24 ≤ 140737488351232 := by
  have hf : DataW.Trod enc Try.prog W 0 (fun _ => true) true 67 (cs.headD (.slice none 0 0)) D Pl := by
    rcases open_slice Try.underlying67 h with ⟨rfl, hx⟩ | ⟨a, len, cap, m, n', D', Pl', rfl, _⟩
    · exact ⟨n, h⟩
    · exact ⟨n, h⟩
  have hcs : ∃ A len c, cs = [.slice A len c] := by
    rcases open_slice Try.underlying67 h with ⟨rfl, hx⟩ | ⟨a, len, cap, m, n', D', Pl', rfl, _⟩
    · exact ⟨_, _, _, rfl⟩
    · exact ⟨_, _, _, rfl⟩
  obtain ⟨A, len, c, rfl⟩ := hcs
  obtain ⟨fuel, hf⟩ := hf
  simp only [List.headD_cons, Value.cells] at hf
  rcases open_slice Try.underlying67 hf with ⟨he, hx⟩ | ⟨a, len', cap', m, n', D', Pl', he, _, hl, hm, hmm, hx, hi⟩
  · simp at he
    obtain ⟨rfl, rfl, rfl⟩ := he
    exact ⟨none, 0, [], rfl, Ss.nil _, by simp, by simp⟩
  · simp at he
    obtain ⟨rfl, rfl, rfl⟩ := he
    simp only [Prod.mk.injEq] at hx
    simp only [if_true] at hmm
    subst hmm
    have hwt := wt_slice Try.underlying67 (hx.1 ▸ hw)
    rw [bytes_span] at hwt
    have hz : ∀ i, i < len → ∃ z : Sp, W.cell? (a.add (i * 3)) = some (.int .i64 z.1) ∧ W.cell? (a.add (i * 3 + 1)) = some (.int .i64 z.2.1) ∧ W.cell? (a.add (i * 3 + 2)) = some (.int .i64 z.2.2) := by
      intro i hil
      obtain ⟨cs', hc, ht'⟩ := hi i (by omega)
      rw [cells_span] at hc
      obtain ⟨_, hcl, hat⟩ := World.cells?_some hc
      obtain ⟨z, z0, z1, z2⟩ := span_at Try.underlying111 (by kernel_rfl) Try.underlying3 Try.underlying2 Try.underlying2 ht'
      have q0 := (hat 0 (by omega)).trans z0
      have q1 := (hat 1 (by omega)).trans z1
      have q2 := (hat 2 (by omega)).trans z2
      rw [Go.Deep.add_add] at q0 q1 q2
      exact ⟨z, q0, q1, q2⟩
    obtain ⟨f, hfz⟩ : ∃ f : Nat → Sp, ∀ i, i < len → W.cell? (a.add (i * 3)) = some (.int .i64 (f i).1) ∧ W.cell? (a.add (i * 3 + 1)) = some (.int .i64 (f i).2.1) ∧ W.cell? (a.add (i * 3 + 2)) = some (.int .i64 (f i).2.2) :=
      ⟨fun i => if h : i < len then (hz i h).choose else (0, 0, 0), fun i h => by simp only [dif_pos h]; exact (hz i h).choose_spec⟩
    have hlen : ((List.range len).map f).length = len := by simp
    refine ⟨some a, _, (List.range len).map f, by rw [hlen], fun hp => ?_, by rw [hlen]; exact hl, by rw [hlen]; have := hwt.1; simp at this; omega⟩
    rw [hlen] at hp
    obtain ⟨b, off, spot⟩ := a
    have hspot : spot = none := by simpa [Addr.add] using World.cell?_spot (hfz 0 hp).1
    subst hspot
    have hadd : ∀ k, (⟨b, off, none⟩ : Addr).add k = ⟨b, off + k, none⟩ := Go.WideShapes.add_plain b off
    have h0 := (hfz 0 hp).1
    refine ⟨b, off, rfl, by have := World.block_lt_of_cell? W _ h0; rwa [hadd] at this, fun j hj => ?_⟩
    rw [hlen] at hj
    have hg : ((List.range len).map f).getD j (0, 0, 0) = f j := by simp [List.getD_eq_getElem?_getD, hj]
    rw [hg]
    obtain ⟨c0, c1, c2⟩ := hfz j hj
    rw [hadd] at c0 c1 c2
    exact ⟨c0, by rw [Nat.add_assoc]; exact c1, by rw [Nat.add_assoc]; exact c2⟩

set_option maxRecDepth 100000 in
/-- The cells of one version, as they are read. -/
theorem ver_at {n : Nat} {cs : List Value} {D : DataW H} {Pl : List MemPlace} (h : DataW.trod enc Try.prog W 0 (fun _ => true) true n 69 cs = some (D, Pl)) (hw : Wt Try.prog 69 D) :
    ∃ (v : Vr) (A : Option Addr) (c : Nat), cs = [.int .i64 v.s, .int .i64 v.n, .slice A v.past.length c, .bool v.gone, .string v.val] ∧ Pa W 0 W.heap.size A c v ∧ v.past.length * 24 ≤ 140737488351232 ∧ v.val.size ≤ 140737488351232 ∧
      (Lit.int .i64 v.s).wf = true ∧ (Lit.int .i64 v.n).wf = true := by
  obtain ⟨y0, y1, y2, y3, m, hx, hl, h0, h1, h2, h3⟩ := trod_struct4 Try.underlying69 h
  obtain ⟨z0, z1, m', hx', _, g0, g1⟩ := trod_struct2 Try.underlying66 h0
  rw [cells_ver] at hl
  match cs, hl with
  | [q0, q1, q2, q3, q4], _ =>
    simp only [cells_dot, cells_spans, cells_bool, cells_string, cells_int, cells_int64, List.drop_zero, List.take_succ_cons, List.take_zero, List.drop_succ_cons] at h1 h2 h3 g0 g1
    obtain ⟨s, e0, _, w0⟩ := DataW.trod_int Try.underlying3 g0
    obtain ⟨vn, e1, _, w1⟩ := DataW.trod_int Try.underlying2 g1
    obtain ⟨g, e3, _⟩ := DataW.trod_bool Try.underlying4 h2
    obtain ⟨x, e4, x4, hxl⟩ := DataW.trod_string Try.underlying9 h3
    simp only [Prod.mk.injEq] at hx
    have hww := wt_struct Try.underlying69 (hx.1 ▸ hw)
    obtain ⟨A, c, l, e2, hs, hlc, hlw⟩ := past_at (D := y1.1) (Pl := y1.2) h1 (hww 1 67 y1.1 rfl rfl)
    have hv := hww 3 9 y3.1 rfl rfl
    rw [show y3 = (.lit (.string x.data.toList), []) from x4] at hv
    have hvl := wt_string hv
    have hsz : x.data.toList.length = x.size := by rw [Array.length_toList]; rfl
    rw [hsz] at hvl
    simp only [List.cons.injEq, and_true] at e0 e1 e2 e3 e4
    subst e0 e1 e2 e3 e4
    exact ⟨⟨s, vn, l, g, x⟩, A, c, rfl, ⟨hs, hlc, by simp only; omega, by simp only; omega, fun _ _ _ => Nat.zero_le _⟩, hlw, hvl, w0, w1⟩

set_option maxRecDepth 100000 in
/-- A slice of versions among the arguments, nil and empty ones too. -/
theorem open_vs {v : Value} {d : DataW H} {p : List MemPlace} {r : Reach} {b0 : Nat} (hv : Value.okWide Try.prog W r b0 47 v) (h : DataW.Trod enc Try.prog W 0 (fun _ => true) true 47 v d p) (hw : Wt Try.prog 47 d) :
    ∃ (A : Option Addr) (c : Nat) (l : List Vr), v = .slice A l.length c ∧ Vs W 0 W.heap.size A l ∧ l.length ≤ c ∧ l.length * 64 ≤ 140737488351232 := by
  obtain ⟨A, len, c, rfl⟩ := okWide_slice Try.underlying47 hv
  obtain ⟨fuel, hf⟩ := h
  rcases open_slice Try.underlying47 hf with ⟨hcs, hx⟩ | ⟨a, len', cap', m, n, D, Pl, hcs, _, hl, hm, hmm, hx, hi⟩
  · simp [Value.cells] at hcs
    obtain ⟨rfl, rfl, rfl⟩ := hcs
    exact ⟨none, 0, [], rfl, Vs.nil _, by simp, by simp⟩
  · simp [Value.cells] at hcs
    obtain ⟨rfl, rfl, rfl⟩ := hcs
    simp only [Prod.mk.injEq] at hx
    simp only [if_true] at hmm
    subst hmm
    have hwt := wt_slice Try.underlying47 (hx.1 ▸ hw)
    rw [bytes_ver] at hwt
    have hz : ∀ i, i < len → ∃ (v : Vr) (A : Option Addr) (c : Nat), (∀ j u, [Value.int .i64 v.s, .int .i64 v.n, .slice A v.past.length c, .bool v.gone, .string v.val][j]? = some u → W.cell? (a.add (i * 5 + j)) = some u) ∧ Pa W 0 W.heap.size A c v := by
      intro i hil
      obtain ⟨cs', hc, ht'⟩ := hi i (by omega)
      rw [cells_ver] at hc
      obtain ⟨_, hcl, hat⟩ := World.cells?_some hc
      obtain ⟨v, A', c', hcs', hpa, _⟩ := ver_at ht' (hwt.2 (D i) (List.mem_map.2 ⟨i, List.mem_range.2 hil, rfl⟩))
      subst hcs'
      refine ⟨v, A', c', fun j u hj => ?_, hpa⟩
      have hj5 : j < 5 := by
        rcases Nat.lt_or_ge j 5 with h | h
        · exact h
        · rw [List.getElem?_eq_none (by simpa using h)] at hj; cases hj
      have q := (hat j (by omega)).trans hj
      rwa [Go.Deep.add_add] at q
    obtain ⟨f, hfz⟩ : ∃ f : Nat → Vr × Option Addr × Nat, ∀ i, i < len → (∀ j u, [Value.int .i64 (f i).1.s, .int .i64 (f i).1.n, .slice (f i).2.1 (f i).1.past.length (f i).2.2, .bool (f i).1.gone, .string (f i).1.val][j]? = some u → W.cell? (a.add (i * 5 + j)) = some u) ∧ Pa W 0 W.heap.size (f i).2.1 (f i).2.2 (f i).1 :=
      ⟨fun i => if h : i < len then ((hz i h).choose, (hz i h).choose_spec.choose, (hz i h).choose_spec.choose_spec.choose) else (v0, none, 0), fun i h => by simp only [dif_pos h]; exact (hz i h).choose_spec.choose_spec.choose_spec⟩
    have hlen : ((List.range len).map fun i => (f i).1).length = len := by simp
    refine ⟨some a, _, (List.range len).map fun i => (f i).1, by rw [hlen], fun hp => ?_, by rw [hlen]; exact hl, by rw [hlen]; have := hwt.1; simp at this; omega⟩
    rw [hlen] at hp
    obtain ⟨b, off, spot⟩ := a
    have h0 := (hfz 0 hp).1 0 _ rfl
    have hspot : spot = none := by simpa [Addr.add] using World.cell?_spot h0
    subst hspot
    have hadd : ∀ k, (⟨b, off, none⟩ : Addr).add k = ⟨b, off + k, none⟩ := Go.WideShapes.add_plain b off
    refine ⟨b, off, rfl, Nat.zero_le _, by have := World.block_lt_of_cell? W _ h0; rwa [hadd] at this, fun j hj => ?_⟩
    rw [hlen] at hj
    have hg : ((List.range len).map fun i => (f i).1).getD j v0 = (f j).1 := by simp [List.getD_eq_getElem?_getD, hj]
    rw [hg]
    obtain ⟨hc, hpa⟩ := hfz j hj
    have hcc : ∀ r u, [Value.int .i64 (f j).1.s, .int .i64 (f j).1.n, .slice (f j).2.1 (f j).1.past.length (f j).2.2, .bool (f j).1.gone, .string (f j).1.val][r]? = some u → W.cell? ⟨b, off + j * 5 + r, none⟩ = some u := fun r u hu => by
      have h := hc r u hu
      rw [hadd] at h
      rw [Nat.add_assoc]
      exact h
    exact ⟨_, _, hcc 0 _ rfl, hcc 1 _ rfl, hcc 2 _ rfl, hcc 3 _ rfl, hcc 4 _ rfl, hpa⟩

set_option maxRecDepth 100000 in
/-- A version among the arguments. -/
theorem open_ver {v : Value} {d : DataW H} {p : List MemPlace} {r : Reach} {b0 : Nat} (hv : Value.okWide Try.prog W r b0 69 v) (h : DataW.Trod enc Try.prog W 0 (fun _ => true) true 69 v d p) (hw : Wt Try.prog 69 d) :
    ∃ (x : Vr) (A : Option Addr) (c : Nat), v = vv A c x ∧ Pa W 0 W.heap.size A c x ∧ x.past.length * 24 ≤ 140737488351232 ∧ x.val.size ≤ 140737488351232 ∧ (Lit.int .i64 x.s).wf = true ∧ (Lit.int .i64 x.n).wf = true := by
  obtain ⟨cs, rfl, hsz⟩ := okWide_struct Try.underlying69 hv
  obtain ⟨fuel, hf⟩ := h
  obtain ⟨x, A, c, hcs, rest⟩ := ver_at hf hw
  refine ⟨x, A, c, ?_, rest⟩
  unfold vv
  congr 1
  rw [← Array.toList_inj]
  simpa [Value.cells] using hcs
end
end Vers
end Go.Proofs.Ytbhidndgnldheaa
