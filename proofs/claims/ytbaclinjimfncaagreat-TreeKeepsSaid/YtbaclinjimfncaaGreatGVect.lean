/-
  Several texts of this family in one: VersBase, VersArgs, VectReads, SpanReads, SpanLay, SpanJoin.
-/
import Derived.Test.YtbaclinjimfncaaGreatGSpanA
import Derived.Test.YtbaclinjimfncaaGreatGBase
/-
  A slice of versions read as a list: five cells each, of which one is the slice of the spans of its past.
-/
namespace Go.Proofs.YtbaclinjimfncaaGreat
namespace Vers
open Go.RowKit Span

/-- A version's value: the past stands at A. -/
def vv (A : Option Addr) (c : Nat) (v : Vr) : Value := .agg #[.int .i64 v.s, .int .i64 v.n, .slice A v.past.length c, .bool v.gone, .string v.val]
/-- The past of a version stands at A, between the blocks L and B. -/
def Pa (w : World) (L B : Nat) (A : Option Addr) (c : Nat) (v : Vr) : Prop :=
  Ss w B A v.past ∧ v.past.length ≤ c ∧ v.past.length ≤ 140737488355328 ∧ v.val.size ≤ 140737488355328 ∧ (0 < v.past.length → ∀ a, A = some a → L ≤ a.block)
/-- A version stands at a place. -/
def Vat (w : World) (L B b off : Nat) (v : Vr) (A : Option Addr) (c : Nat) : Prop :=
  w.cell? ⟨b, off, none⟩ = some (.int .i64 v.s) ∧ w.cell? ⟨b, off + 1, none⟩ = some (.int .i64 v.n) ∧ w.cell? ⟨b, off + 2, none⟩ = some (.slice A v.past.length c) ∧
  w.cell? ⟨b, off + 3, none⟩ = some (.bool v.gone) ∧ w.cell? ⟨b, off + 4, none⟩ = some (.string v.val) ∧ Pa w L B A c v
/-- From the address A on stand the versions l, they and their pasts in blocks from L on and below B. -/
def Vs (w : World) (L B : Nat) (A : Option Addr) (l : List Vr) : Prop :=
  0 < l.length → ∃ b off, A = some ⟨b, off, none⟩ ∧ L ≤ b ∧ b < B ∧ ∀ j, j < l.length → ∃ A' c', Vat w L B b (off + j * 5) (l.getD j v0) A' c'

section
variable {w w' : World} {L L' B B' b off c : Nat} {A : Option Addr} {l : List Vr} {l' : List Sp} {v : Vr}
theorem Ss.high (h : Ss w B A l') (hl : 0 < l'.length → ∀ a, A = some a → L ≤ a.block) (hk : ∀ p : Addr, L ≤ p.block → p.block < B → w'.cell? p = w.cell? p) : Ss w' B A l' := fun hp => by
  obtain ⟨b, off, e, hb, hc⟩ := h hp
  have hL : L ≤ b := hl hp _ e
  exact ⟨b, off, e, hb, fun j hj => ⟨(hk ⟨b, _, none⟩ hL hb).trans (hc j hj).1, (hk ⟨b, _, none⟩ hL hb).trans (hc j hj).2.1, (hk ⟨b, _, none⟩ hL hb).trans (hc j hj).2.2⟩⟩
theorem Pa.keep (h : Pa w L B A c v) (hk : ∀ p : Addr, L ≤ p.block → p.block < B → w'.cell? p = w.cell? p) : Pa w' L B A c v := ⟨Ss.high h.1 h.2.2.2.2 hk, h.2⟩
theorem Pa.more (h : Pa w L B A c v) (hB : B ≤ B') : Pa w L B' A c v := ⟨h.1.more hB, h.2⟩
theorem Pa.less (h : Pa w L B A c v) (hL : L' ≤ L) : Pa w L' B A c v := ⟨h.1, h.2.1, h.2.2.1, h.2.2.2.1, fun hp a ha => Nat.le_trans hL (h.2.2.2.2 hp a ha)⟩
theorem Pa.below (h : Pa w L B A c v) (hb : Below B w w') : Pa w' L B A c v := h.keep fun _ _ hp => hb.cell hp
theorem Pa.alloc (h : Pa w L B A c v) (hB : B ≤ w.heap.size) (o : Obj) : Pa (w.alloc o) L B A c v := h.keep fun p _ hp => World.cell?_alloc_lt w o p (by omega)
theorem Vat.keep (h : Vat w L B b off v A c) (hL : L ≤ b) (hb : b < B) (hk : ∀ p : Addr, L ≤ p.block → p.block < B → w'.cell? p = w.cell? p) : Vat w' L B b off v A c := by
  obtain ⟨h0, h1, h2, h3, h4, h5⟩ := h
  exact ⟨(hk ⟨b, _, none⟩ hL hb).trans h0, (hk ⟨b, _, none⟩ hL hb).trans h1, (hk ⟨b, _, none⟩ hL hb).trans h2, (hk ⟨b, _, none⟩ hL hb).trans h3, (hk ⟨b, _, none⟩ hL hb).trans h4, h5.keep hk⟩
theorem Vs.nil (A : Option Addr) : Vs w L B A [] := fun h => absurd h (by simp)
theorem Vs.keep (h : Vs w L B A l) (hk : ∀ p : Addr, L ≤ p.block → p.block < B → w'.cell? p = w.cell? p) : Vs w' L B A l := fun hp => by
  obtain ⟨b, off, e, hL, hb, hc⟩ := h hp
  refine ⟨b, off, e, hL, hb, fun j hj => ?_⟩
  obtain ⟨A', c', h1⟩ := hc j hj
  exact ⟨A', c', h1.keep hL hb hk⟩
theorem Vs.more (h : Vs w L B A l) (hB : B ≤ B') : Vs w L B' A l := fun hp => by
  obtain ⟨b, off, e, hL, hb, hc⟩ := h hp
  refine ⟨b, off, e, hL, by omega, fun j hj => ?_⟩
  obtain ⟨A', c', h0, h1, h2, h3, h4, h5⟩ := hc j hj
  exact ⟨A', c', h0, h1, h2, h3, h4, h5.more hB⟩
theorem Vs.less (h : Vs w L B A l) (hL : L' ≤ L) : Vs w L' B A l := fun hp => by
  obtain ⟨b, off, e, hLb, hb, hc⟩ := h hp
  refine ⟨b, off, e, by omega, hb, fun j hj => ?_⟩
  obtain ⟨A', c', h0, h1, h2, h3, h4, h5⟩ := hc j hj
  exact ⟨A', c', h0, h1, h2, h3, h4, h5.less hL⟩
theorem Vs.below (h : Vs w L B A l) (hb : Below B w w') : Vs w' L B A l := h.keep fun _ _ hp => hb.cell hp
theorem Vs.drewN (h : Vs w L B A l) (n : Nat) : Vs (w.drewN n) L B A l := h.keep fun _ _ _ => rfl
theorem Vs.alloc (h : Vs w L B A l) (hB : B ≤ w.heap.size) (o : Obj) : Vs (w.alloc o) L B A l := h.keep fun p _ hp => World.cell?_alloc_lt w o p (by omega)
/-- One of them, in a later world. -/
theorem Vs.at {n k : Nat} (h : Vs w L B A l) (hn : l.length = n) (hb : Below B w w') (hk : k < n) (hv : l.getD k v0 = v) : ∃ b off A' c', A = some ⟨b, off, none⟩ ∧ L ≤ b ∧ b < B ∧ Vat w' L B b (off + k * 5) v A' c' := by
  obtain ⟨b, off, e, hL, hbB, hc⟩ := (h.below hb) (by omega)
  obtain ⟨A', c', h1⟩ := hc k (by omega)
  rw [hv] at h1
  exact ⟨b, off, A', c', e, hL, hbB, h1⟩
end
end Vers
end Go.Proofs.YtbaclinjimfncaaGreat

/-
  Versions and slices of versions among a law's arguments.
-/
namespace Go.Proofs.YtbaclinjimfncaaGreat
namespace Vers
open Go.ChangeShapes Go.WideShapes Go.ChangeAt Go.RowKit Go.Joins Go.Deep Span

theorem cells_ver : Tryz.prog.cellsOf 58 = 5 := by kernel_rfl
theorem bytes_ver : Tryz.prog.bytesOf 58 = 64 := by kernel_rfl
theorem cells_spans : Tryz.prog.cellsOf 56 = 1 := by kernel_rfl
theorem cells_bool : Tryz.prog.cellsOf 4 = 1 := by kernel_rfl
theorem cells_string : Tryz.prog.cellsOf 9 = 1 := by kernel_rfl
theorem cells_int : Tryz.prog.cellsOf 3 = 1 := by kernel_rfl
theorem cells_int64 : Tryz.prog.cellsOf 2 = 1 := by kernel_rfl

section
variable {H : Type} {enc : TypeId × Value → H} {P : Program} {W : World}

/-- What a datum weighs is within the reach. -/
def Wt (P : Program) (t : TypeId) (d : DataW H) : Prop := ∀ x ∈ d.weights P t, x ≤ 140737488351232
theorem wt_arg {ts : List TypeId} {ds : List (DataW H)} {j : Nat} {t : TypeId} {d : DataW H} (h : (DataW.weightsEach P ts ds).all (· ≤ reachBytes) = true) (ht : ts[j]? = some t) (hd : ds[j]? = some d) : Wt P t d := fun x hx => by
  have h1 := List.all_eq_true.1 h x (DataW.weights_mem_each ht hd x hx)
  have h3 : reachBytes = 140737488351232 := by decide
  simpa [h3] using h1
theorem wt_all {e : TypeId} : ∀ {l : List (DataW H)}, (∀ x ∈ DataW.weightsAll P e l, x ≤ 140737488351232) → ∀ d ∈ l, Wt P e d
  | [], _, d, hd => by simp at hd
  | y :: l, h, d, hd => by
    simp only [DataW.weightsAll, List.mem_append] at h
    rcases List.mem_cons.1 hd with rfl | hd
    · exact fun x hx => h x (.inl hx)
    · exact wt_all (fun x hx => h x (.inr hx)) d hd
theorem wt_slice {t e : TypeId} {el sp : List (DataW H)} (ht : P.underlying t = some (.slice e)) (h : Wt P t (.slice el sp)) : (el.length + sp.length) * P.bytesOf e ≤ 140737488351232 ∧ ∀ d ∈ el, Wt P e d := by
  unfold Wt at h
  simp only [DataW.weights, ht, List.mem_cons, List.mem_append] at h
  exact ⟨h _ (.inl rfl), wt_all fun x hx => h x (.inr (.inl hx))⟩
theorem wt_string {t : TypeId} {b : List UInt8} (h : Wt P t (.lit (.string b) : DataW H)) : b.length ≤ 140737488351232 := by
  unfold Wt at h
  simp only [DataW.weights, List.mem_cons, List.not_mem_nil, or_false, forall_eq] at h
  exact h
theorem wt_each : ∀ {ts : List TypeId} {ds : List (DataW H)}, (∀ x ∈ DataW.weightsEach P ts ds, x ≤ 140737488351232) → ∀ (j : Nat) t d, ts[j]? = some t → ds[j]? = some d → Wt P t d
  | [], _, _, _, _, _, ht, _ => by simp at ht
  | _ :: _, [], _, _, _, _, _, hd => by simp at hd
  | t0 :: ts, d0 :: ds, h, j, t, d, ht, hd => by
    simp only [DataW.weightsEach, List.mem_append] at h
    rcases j with _ | j
    · simp only [List.getElem?_cons_zero, Option.some.injEq] at ht hd
      subst ht hd
      exact fun x hx => h x (.inl hx)
    · simp only [List.getElem?_cons_succ] at ht hd
      exact wt_each (fun x hx => h x (.inr hx)) j t d ht hd
theorem wt_struct {t : TypeId} {fs : Array Field} {parts : List (DataW H)} (ht : P.underlying t = some (.struct fs)) (h : Wt P t (.agg parts)) : ∀ (j : Nat) u d, (fs.toList.map (·.type))[j]? = some u → parts[j]? = some d → Wt P u d := by
  unfold Wt at h
  simp only [DataW.weights, ht] at h
  exact wt_each h

end

section
variable {H : Type} {enc : TypeId × Value → H} {W : World}
set_option maxRecDepth 100000 in
/-- The spans of a past, by their cell: a datum that is read there. -/
theorem past_at {n : Nat} {cs : List Value} {D : DataW H} {Pl : List MemPlace} (h : DataW.trod enc Tryz.prog W 0 (fun _ => true) true n 56 cs = some (D, Pl)) (hw : Wt Tryz.prog 56 D) :
    ∃ (A : Option Addr) (c : Nat) (l : List Sp), cs = [.slice A l.length c] ∧ Ss W W.heap.size A l ∧ l.length ≤ c ∧ l.length * 24 ≤ 140737488351232 := by
  have hf : DataW.Trod enc Tryz.prog W 0 (fun _ => true) true 56 (cs.headD (.slice none 0 0)) D Pl := by
    rcases open_slice Tryz.underlying56 h with ⟨rfl, hx⟩ | ⟨a, len, cap, m, n', D', Pl', rfl, _⟩
    · exact ⟨n, h⟩
    · exact ⟨n, h⟩
  have hcs : ∃ A len c, cs = [.slice A len c] := by
    rcases open_slice Tryz.underlying56 h with ⟨rfl, hx⟩ | ⟨a, len, cap, m, n', D', Pl', rfl, _⟩
    · exact ⟨_, _, _, rfl⟩
    · exact ⟨_, _, _, rfl⟩
  obtain ⟨A, len, c, rfl⟩ := hcs
  obtain ⟨fuel, hf⟩ := hf
  simp only [List.headD_cons, Value.cells] at hf
  rcases open_slice Tryz.underlying56 hf with ⟨he, hx⟩ | ⟨a, len', cap', m, n', D', Pl', he, _, hl, hm, hmm, hx, hi⟩
  · simp at he
    obtain ⟨rfl, rfl, rfl⟩ := he
    exact ⟨none, 0, [], rfl, Ss.nil _, by simp, by simp⟩
  · simp at he
    obtain ⟨rfl, rfl, rfl⟩ := he
    simp only [Prod.mk.injEq] at hx
    simp only [if_true] at hmm
    subst hmm
    have hwt := wt_slice Tryz.underlying56 (hx.1 ▸ hw)
    rw [bytes_span] at hwt
    have hz : ∀ i, i < len → ∃ z : Sp, W.cell? (a.add (i * 3)) = some (.int .i64 z.1) ∧ W.cell? (a.add (i * 3 + 1)) = some (.int .i64 z.2.1) ∧ W.cell? (a.add (i * 3 + 2)) = some (.int .i64 z.2.2) := by
      intro i hil
      obtain ⟨cs', hc, ht'⟩ := hi i (by omega)
      rw [cells_span] at hc
      obtain ⟨_, hcl, hat⟩ := World.cells?_some hc
      obtain ⟨z, z0, z1, z2⟩ := span_at Tryz.underlying60 (by kernel_rfl) Tryz.underlying3 Tryz.underlying2 Tryz.underlying2 ht'
      have q0 := (hat 0 (by omega)).trans z0
      have q1 := (hat 1 (by omega)).trans z1
      have q2 := (hat 2 (by omega)).trans z2
      rw [Go.Deep.add_add] at q0 q1 q2
      exact ⟨z, q0, q1, q2⟩
    obtain ⟨f, hfz⟩ : ∃ f : Nat → Sp, ∀ i, i < len → W.cell? (a.add (i * 3)) = some (.int .i64 (f i).1) ∧ W.cell? (a.add (i * 3 + 1)) = some (.int .i64 (f i).2.1) ∧ W.cell? (a.add (i * 3 + 2)) = some (.int .i64 (f i).2.2) :=
      ⟨fun i => if h : i < len then (hz i h).choose else (0, 0, 0), fun i h => by simp only [dif_pos h]; exact (hz i h).choose_spec⟩
    have hlen : ((List.range len).map f).length = len := by simp
    refine ⟨some a, _, (List.range len).map f, by rw [hlen], fun hp => ?_, by rw [hlen]; exact hl, by rw [hlen]; have := hwt.1; simp at this; omega⟩
    rw [hlen] at hp
    obtain ⟨b, off, spot⟩ := a
    have hspot : spot = none := by simpa [Addr.add] using World.cell?_spot (hfz 0 hp).1
    subst hspot
    have hadd : ∀ k, (⟨b, off, none⟩ : Addr).add k = ⟨b, off + k, none⟩ := Go.WideShapes.add_plain b off
    have h0 := (hfz 0 hp).1
    refine ⟨b, off, rfl, by have := World.block_lt_of_cell? W _ h0; rwa [hadd] at this, fun j hj => ?_⟩
    rw [hlen] at hj
    have hg : ((List.range len).map f).getD j (0, 0, 0) = f j := by simp [List.getD_eq_getElem?_getD, hj]
    rw [hg]
    obtain ⟨c0, c1, c2⟩ := hfz j hj
    rw [hadd] at c0 c1 c2
    exact ⟨c0, by rw [Nat.add_assoc]; exact c1, by rw [Nat.add_assoc]; exact c2⟩

set_option maxRecDepth 100000 in
/-- The cells of one version, as they are read. -/
theorem ver_at {n : Nat} {cs : List Value} {D : DataW H} {Pl : List MemPlace} (h : DataW.trod enc Tryz.prog W 0 (fun _ => true) true n 58 cs = some (D, Pl)) (hw : Wt Tryz.prog 58 D) :
    ∃ (v : Vr) (A : Option Addr) (c : Nat), cs = [.int .i64 v.s, .int .i64 v.n, .slice A v.past.length c, .bool v.gone, .string v.val] ∧ Pa W 0 W.heap.size A c v ∧ v.past.length * 24 ≤ 140737488351232 ∧ v.val.size ≤ 140737488351232 ∧
      (Lit.int .i64 v.s).wf = true ∧ (Lit.int .i64 v.n).wf = true := by
  obtain ⟨y0, y1, y2, y3, m, hx, hl, h0, h1, h2, h3⟩ := trod_struct4 Tryz.underlying58 h
  obtain ⟨z0, z1, m', hx', _, g0, g1⟩ := trod_struct2 Tryz.underlying55 h0
  rw [cells_ver] at hl
  match cs, hl with
  | [q0, q1, q2, q3, q4], _ =>
    simp only [cells_dot, cells_spans, cells_bool, cells_string, cells_int, cells_int64, List.drop_zero, List.take_succ_cons, List.take_zero, List.drop_succ_cons] at h1 h2 h3 g0 g1
    obtain ⟨s, e0, _, w0⟩ := DataW.trod_int Tryz.underlying3 g0
    obtain ⟨vn, e1, _, w1⟩ := DataW.trod_int Tryz.underlying2 g1
    obtain ⟨g, e3, _⟩ := DataW.trod_bool Tryz.underlying4 h2
    obtain ⟨x, e4, x4, hxl⟩ := DataW.trod_string Tryz.underlying9 h3
    simp only [Prod.mk.injEq] at hx
    have hww := wt_struct Tryz.underlying58 (hx.1 ▸ hw)
    obtain ⟨A, c, l, e2, hs, hlc, hlw⟩ := past_at (D := y1.1) (Pl := y1.2) h1 (hww 1 56 y1.1 rfl rfl)
    have hv := hww 3 9 y3.1 rfl rfl
    rw [show y3 = (.lit (.string x.data.toList), []) from x4] at hv
    have hvl := wt_string hv
    have hsz : x.data.toList.length = x.size := by rw [Array.length_toList]; rfl
    rw [hsz] at hvl
    simp only [List.cons.injEq, and_true] at e0 e1 e2 e3 e4
    subst e0 e1 e2 e3 e4
    exact ⟨⟨s, vn, l, g, x⟩, A, c, rfl, ⟨hs, hlc, by simp only; omega, by simp only; omega, fun _ _ _ => Nat.zero_le _⟩, hlw, hvl, w0, w1⟩

set_option maxRecDepth 100000 in
/-- A slice of versions among the arguments, nil and empty ones too. -/
theorem open_vs {v : Value} {d : DataW H} {p : List MemPlace} {r : Reach} {b0 : Nat} (hv : Value.okWide Tryz.prog W r b0 43 v) (h : DataW.Trod enc Tryz.prog W 0 (fun _ => true) true 43 v d p) (hw : Wt Tryz.prog 43 d) :
    ∃ (A : Option Addr) (c : Nat) (l : List Vr), v = .slice A l.length c ∧ Vs W 0 W.heap.size A l ∧ l.length ≤ c ∧ l.length * 64 ≤ 140737488351232 := by
  obtain ⟨A, len, c, rfl⟩ := okWide_slice Tryz.underlying43 hv
  obtain ⟨fuel, hf⟩ := h
  rcases open_slice Tryz.underlying43 hf with ⟨hcs, hx⟩ | ⟨a, len', cap', m, n, D, Pl, hcs, _, hl, hm, hmm, hx, hi⟩
  · simp [Value.cells] at hcs
    obtain ⟨rfl, rfl, rfl⟩ := hcs
    exact ⟨none, 0, [], rfl, Vs.nil _, by simp, by simp⟩
  · simp [Value.cells] at hcs
    obtain ⟨rfl, rfl, rfl⟩ := hcs
    simp only [Prod.mk.injEq] at hx
    simp only [if_true] at hmm
    subst hmm
    have hwt := wt_slice Tryz.underlying43 (hx.1 ▸ hw)
    rw [bytes_ver] at hwt
    have hz : ∀ i, i < len → ∃ (v : Vr) (A : Option Addr) (c : Nat), (∀ j u, [Value.int .i64 v.s, .int .i64 v.n, .slice A v.past.length c, .bool v.gone, .string v.val][j]? = some u → W.cell? (a.add (i * 5 + j)) = some u) ∧ Pa W 0 W.heap.size A c v := by
      intro i hil
      obtain ⟨cs', hc, ht'⟩ := hi i (by omega)
      rw [cells_ver] at hc
      obtain ⟨_, hcl, hat⟩ := World.cells?_some hc
      obtain ⟨v, A', c', hcs', hpa, _⟩ := ver_at ht' (hwt.2 (D i) (List.mem_map.2 ⟨i, List.mem_range.2 hil, rfl⟩))
      subst hcs'
      refine ⟨v, A', c', fun j u hj => ?_, hpa⟩
      have hj5 : j < 5 := by
        rcases Nat.lt_or_ge j 5 with h | h
        · exact h
        · rw [List.getElem?_eq_none (by simpa using h)] at hj; cases hj
      have q := (hat j (by omega)).trans hj
      rwa [Go.Deep.add_add] at q
    obtain ⟨f, hfz⟩ : ∃ f : Nat → Vr × Option Addr × Nat, ∀ i, i < len → (∀ j u, [Value.int .i64 (f i).1.s, .int .i64 (f i).1.n, .slice (f i).2.1 (f i).1.past.length (f i).2.2, .bool (f i).1.gone, .string (f i).1.val][j]? = some u → W.cell? (a.add (i * 5 + j)) = some u) ∧ Pa W 0 W.heap.size (f i).2.1 (f i).2.2 (f i).1 :=
      ⟨fun i => if h : i < len then ((hz i h).choose, (hz i h).choose_spec.choose, (hz i h).choose_spec.choose_spec.choose) else (v0, none, 0), fun i h => by simp only [dif_pos h]; exact (hz i h).choose_spec.choose_spec.choose_spec⟩
    have hlen : ((List.range len).map fun i => (f i).1).length = len := by simp
    refine ⟨some a, _, (List.range len).map fun i => (f i).1, by rw [hlen], fun hp => ?_, by rw [hlen]; exact hl, by rw [hlen]; have := hwt.1; simp at this; omega⟩
    rw [hlen] at hp
    obtain ⟨b, off, spot⟩ := a
    have h0 := (hfz 0 hp).1 0 _ rfl
    have hspot : spot = none := by simpa [Addr.add] using World.cell?_spot h0
    subst hspot
    have hadd : ∀ k, (⟨b, off, none⟩ : Addr).add k = ⟨b, off + k, none⟩ := Go.WideShapes.add_plain b off
    refine ⟨b, off, rfl, Nat.zero_le _, by have := World.block_lt_of_cell? W _ h0; rwa [hadd] at this, fun j hj => ?_⟩
    rw [hlen] at hj
    have hg : ((List.range len).map fun i => (f i).1).getD j v0 = (f j).1 := by simp [List.getD_eq_getElem?_getD, hj]
    rw [hg]
    obtain ⟨hc, hpa⟩ := hfz j hj
    have hcc : ∀ r u, [Value.int .i64 (f j).1.s, .int .i64 (f j).1.n, .slice (f j).2.1 (f j).1.past.length (f j).2.2, .bool (f j).1.gone, .string (f j).1.val][r]? = some u → W.cell? ⟨b, off + j * 5 + r, none⟩ = some u := fun r u hu => by
      have h := hc r u hu
      rw [hadd] at h
      rw [Nat.add_assoc]
      exact h
    exact ⟨_, _, hcc 0 _ rfl, hcc 1 _ rfl, hcc 2 _ rfl, hcc 3 _ rfl, hcc 4 _ rfl, hpa⟩

set_option maxRecDepth 100000 in
/-- A version among the arguments. -/
theorem open_ver {v : Value} {d : DataW H} {p : List MemPlace} {r : Reach} {b0 : Nat} (hv : Value.okWide Tryz.prog W r b0 58 v) (h : DataW.Trod enc Tryz.prog W 0 (fun _ => true) true 58 v d p) (hw : Wt Tryz.prog 58 d) :
    ∃ (x : Vr) (A : Option Addr) (c : Nat), v = vv A c x ∧ Pa W 0 W.heap.size A c x ∧ x.past.length * 24 ≤ 140737488351232 ∧ x.val.size ≤ 140737488351232 ∧ (Lit.int .i64 x.s).wf = true ∧ (Lit.int .i64 x.n).wf = true := by
  obtain ⟨cs, rfl, hsz⟩ := okWide_struct Tryz.underlying58 hv
  obtain ⟨fuel, hf⟩ := h
  obtain ⟨x, A, c, hcs, rest⟩ := ver_at hf hw
  refine ⟨x, A, c, ?_, rest⟩
  unfold vv
  congr 1
  rw [← Array.toList_inj]
  simpa [Value.cells] using hcs
end
end Vers
end Go.Proofs.YtbaclinjimfncaaGreat

/-
  Vectors: which are right, and the functions that only read them.
-/
namespace Go.Proofs.YtbaclinjimfncaaGreat
namespace Vect
open Go.RowKit Span
attribute [local go_sem ↓] Go.wp_at_zero Go.wp_at_succ

def RightV (v : List Int) : Prop := 1 ≤ v.length ∧ v.length ≤ 16 ∧ ∀ z ∈ v, 0 ≤ z ∧ z ≤ 4611686018427387904
instance (v : List Int) : Decidable (RightV v) := by unfold RightV; infer_instance
def atV (v : List Int) (s : Int) : Int := if 1 ≤ s ∧ s ≤ v.length then v.getD (s - 1).toNat 0 else 0
def CoversV (v : List Int) (s n : Int) : Prop := 0 < n ∧ 1 ≤ s ∧ s ≤ v.length ∧ n ≤ v.getD (s - 1).toNat 0
instance (v : List Int) (s n : Int) : Decidable (CoversV v s n) := by unfold CoversV; infer_instance

theorem ns_cell {w w' : World} {B : Nat} {A : Option Addr} {l : List Int} {n : Nat} (h : Ns .i64 w B A l) (hn : l.length = n) (hb : Below B w w') {k : Nat} (hk : k < n) {x : Int} (hx : l.getD k 0 = x) :
    ∃ b off, A = some ⟨b, off, none⟩ ∧ b < B ∧ w'.cell? ⟨b, off + k, none⟩ = some (.int .i64 x) := by
  subst hn
  subst hx
  obtain ⟨b, off, e, hbB, hc⟩ := h (by omega)
  exact ⟨b, off, e, hbB, (hb.cell (by exact hbB)).trans (hc k hk)⟩
theorem vtake_one {l : List Int} {i : Nat} {y : Int} (hi : i < l.length) (hy : l.getD i 0 = y) : l.take (i + 1) = l.take i ++ [y] := by
  rw [List.take_succ_eq_append_getElem hi]
  rw [List.getD_eq_getElem?_getD, List.getElem?_eq_getElem hi, Option.getD_some] at hy
  rw [hy]
theorem vget_mem {l : List Int} {i : Nat} {y : Int} (hi : i < l.length) (hy : l.getD i 0 = y) : y ∈ l := by
  rw [List.getD_eq_getElem?_getD, List.getElem?_eq_getElem hi, Option.getD_some] at hy
  exact hy ▸ List.getElem_mem hi

end Vect
end Go.Proofs.YtbaclinjimfncaaGreat

/-
  Functions that only read spans: firthref03.Has, span.Top, firthref03.Top, firthref03.Same.
-/
namespace Go.Proofs.YtbaclinjimfncaaGreat
namespace Span
open Go.RowKit

set_option maxHeartbeats 1000000 in
theorem ref_has_any (A : Option Addr) (c n' : Nat) (l : List Sp) (hn : l.length = n') (s n : Int) (w : World) (hr : Ss w w.heap.size A l) (hbig : n' ≤ 140737488355328) :
    Calls Tryz.prog 90 #[.slice A n' c, .agg #[.int .i64 s, .int .i64 n]] w fun e w' => e = .returned (.bool (hasL l s n)) ∧ Below w.heap.size w w' := by
  go_enter Tryz.func90, Tryz.ntmps90
  go_wp2
  go_loopw [5] (fun q wr => ∃ k : Nat, k ≤ n' ∧ q = .int .i64 k ∧ Below (w.heap.size + 1) (w.alloc (.cells #[.int .i64 s, .int .i64 n] 55)) wr ∧ Hid (hasL l s n = hasL (l.drop k) s n)) (fun q _ => n' - (intOf q).toNat)
  case atStart => exact ⟨0, by omega, rfl, Below.refl _ _, rfl⟩
  case round =>
    obtain ⟨k, hk, rfl, hb, hst⟩ := hrel
    have hbw := ((Below.refl w.heap.size w).alloc (Nat.le_refl _) (.cells #[.int .i64 s, .int .i64 n] 55)).trans (hb.mono (Nat.le_succ _))
    by_cases hlt : k < n'
    · obtain ⟨b, off, rfl, hbB, hc⟩ := hr (by omega)
      obtain ⟨c0, c1, c2⟩ := hc k (by omega)
      have d0 := (hb.cell (p := ⟨b, off + k * 3, none⟩) (by show b < _; omega)).trans ((World.cell?_alloc_lt w _ _ (by exact hbB)).trans c0)
      have d1 := (hb.cell (p := ⟨b, off + k * 3 + 1, none⟩) (by show b < _; omega)).trans ((World.cell?_alloc_lt w _ _ (by exact hbB)).trans c1)
      have d2 := (hb.cell (p := ⟨b, off + k * 3 + 2, none⟩) (by show b < _; omega)).trans ((World.cell?_alloc_lt w _ _ (by exact hbB)).trans c2)
      have e0 : wr.cell? ⟨w.heap.size, 0, none⟩ = some (.int .i64 s) := (hb.cell (by simp)).trans (by simp)
      have e1 : wr.cell? ⟨w.heap.size, 1, none⟩ = some (.int .i64 n) := (hb.cell (by simp)).trans (by simp)
      obtain ⟨⟨x0, x1, x2⟩, hx⟩ : ∃ x, l.getD k (0, 0, 0) = x := ⟨_, rfl⟩
      rw [hx] at d0 d1 d2
      simp only at d0 d1 d2
      have HX := Lib.hid hx
      have HN := Lib.hid hn
      have r0 : (0 : Int) ≤ (k : Int) := by omega
      have r1 : (k : Int) < (n' : Int) := by omega
      clear hr hc c0 c1 c2 hx hn
      by_cases h1 : x0 = s
      · have g1 : (x0 == s) = true := by simp [h1]
        by_cases h2 : x1 ≤ n
        · have g2 : decide (x1 ≤ n) = true := decide_eq_true h2
          by_cases h3 : n ≤ x2
          · have g3 : decide (n ≤ x2) = true := decide_eq_true h3
            have hres := Lib.hid (hst.out.trans (hasL_hit (by rw [HN.out]; exact hlt) HX.out h1 h2 h3))
            clear hst HX HN h1
            go_wp2
            go_quiet (fail)
            go_wp2
            go_ret
            exact ⟨by rw [hres.out]; rfl, hbw.trans (below_drewN _ _ _)⟩
          · have g3 : decide (n ≤ x2) = false := decide_eq_false h3
            have hres := Lib.hid (hst.out.trans (hasL_miss (by rw [HN.out]; exact hlt) HX.out fun h => h3 h.2.2))
            clear hst HX HN h1
            go_wp2
            go_quiet (fail)
            go_wp2
            exact ⟨⟨k + 1, by omega, rfl, hb.trans (below_drewN _ _ _), hres⟩, by simp only [intOf]; omega⟩
        · have g2 : decide (x1 ≤ n) = false := decide_eq_false h2
          have hres := Lib.hid (hst.out.trans (hasL_miss (by rw [HN.out]; exact hlt) HX.out fun h => h2 h.2.1))
          clear hst HX HN h1
          go_wp2
          go_quiet (fail)
          go_wp2
          exact ⟨⟨k + 1, by omega, rfl, hb.trans (below_drewN _ _ _), hres⟩, by simp only [intOf]; omega⟩
      · have g1 : (x0 == s) = false := by simp [h1]
        have hres := Lib.hid (hst.out.trans (hasL_miss (by rw [HN.out]; exact hlt) HX.out fun h => h1 h.1))
        clear hst HX HN h1
        go_wp2
        go_quiet (fail)
        go_wp2
        exact ⟨⟨k + 1, by omega, rfl, hb.trans (below_drewN _ _ _), hres⟩, by simp only [intOf]; omega⟩
    · have hk0 : k = n' := by omega
      have hres := Lib.hid (hst.out.trans (by rw [List.drop_eq_nil_of_le (by omega)]; rfl : _ = false))
      clear hst hr hn
      go_wp2
      go_ret
      exact ⟨by rw [hres.out]; rfl, hbw⟩

set_option maxHeartbeats 1000000 in
theorem top_any (A : Option Addr) (c n : Nat) (l : List Sp) (hn : l.length = n) (s : Int) (w : World) (hr : Ss w w.heap.size A l) (hbig : n ≤ 140737488355328) :
    Calls Tryz.prog 106 #[.slice A n c, .int .i64 s] w fun e w' => e = .returned (.int .i64 (topF l s)) ∧ Below w.heap.size w w' := by
  go_enter Tryz.func106, Tryz.ntmps106
  go_wp2
  go_loopw [5, 10] (fun z q wr => ∃ (k : Nat) (t : Int), k ≤ n ∧ q = .int .i64 k ∧ z = .int .i64 t ∧ Below w.heap.size w wr ∧ Hid (topF (l.take k) s = t)) (fun _ q _ => n - (intOf q).toNat)
  case atStart => exact ⟨0, 0, by omega, rfl, rfl, Below.refl _ _, rfl⟩
  case round =>
    obtain ⟨k, t, hk, rfl, rfl, hb, hst⟩ := hrel
    by_cases hlt : k < n
    · obtain ⟨b, off, rfl, hbB, hc⟩ := hr (by omega)
      obtain ⟨c0, c1, c2⟩ := hc k (by omega)
      have d0 := (hb.cell (p := ⟨b, off + k * 3, none⟩) (by exact hbB)).trans c0
      have d1 := (hb.cell (p := ⟨b, off + k * 3 + 1, none⟩) (by exact hbB)).trans c1
      have d2 := (hb.cell (p := ⟨b, off + k * 3 + 2, none⟩) (by exact hbB)).trans c2
      obtain ⟨⟨x0, x1, x2⟩, hx⟩ : ∃ x, l.getD k (0, 0, 0) = x := ⟨_, rfl⟩
      rw [hx] at d0 d1 d2
      simp only at d0 d1 d2
      have hs := topF_take (l := l) (by rw [hn]; exact hlt) hx s
      rw [hst.out] at hs
      have hbs := hb.size
      by_cases h1 : x0 = s
      · rw [if_pos h1] at hs
        have HS := Lib.hid hs
        clear hr hc c0 c1 c2 hx hn hs hst
        go_wp2
        all_goals exact ⟨⟨k + 1, max t x2, by omega, rfl, by first | rfl | (congr 1; omega), hb.alloc hbs _, HS⟩, by simp only [intOf]; omega⟩
      · rw [if_neg h1] at hs
        have HS := Lib.hid hs
        clear hr hc c0 c1 c2 hx hn hs hst
        go_wp2
        all_goals exact ⟨⟨k + 1, t, by omega, rfl, rfl, hb.alloc hbs _, HS⟩, by simp only [intOf]; omega⟩
    · have hk0 : k = n := by omega
      have hres := hst.out
      rw [List.take_of_length_le (by omega)] at hres
      have HR := Lib.hid hres
      clear hst hr hn hres
      go_wp2
      go_ret
      exact ⟨by rw [HR.out]; rfl, hb⟩

set_option maxHeartbeats 1000000 in
theorem ref_top_any (A : Option Addr) (c n : Nat) (l : List Sp) (hn : l.length = n) (s : Int) (w : World) (hr : Ss w w.heap.size A l) (hbig : n ≤ 140737488355328) :
    Calls Tryz.prog 89 #[.slice A n c, .int .i64 s] w fun e w' => e = .returned (.int .i64 (topF l s)) ∧ Below w.heap.size w w' := by
  go_enter Tryz.func89, Tryz.ntmps89
  go_wp2
  go_loopw [5, 6] (fun z q wr => ∃ (k : Nat) (t : Int), k ≤ n ∧ q = .int .i64 k ∧ z = .int .i64 t ∧ Below w.heap.size w wr ∧ Hid (topF (l.take k) s = t)) (fun _ q _ => n - (intOf q).toNat)
  case atStart => exact ⟨0, 0, by omega, rfl, rfl, Below.refl _ _, rfl⟩
  case round =>
    obtain ⟨k, t, hk, rfl, rfl, hb, hst⟩ := hrel
    by_cases hlt : k < n
    · obtain ⟨b, off, rfl, hbB, hc⟩ := hr (by omega)
      obtain ⟨c0, c1, c2⟩ := hc k (by omega)
      have d0 := (hb.cell (p := ⟨b, off + k * 3, none⟩) (by exact hbB)).trans c0
      have d2 := (hb.cell (p := ⟨b, off + k * 3 + 2, none⟩) (by exact hbB)).trans c2
      obtain ⟨⟨x0, x1, x2⟩, hx⟩ : ∃ x, l.getD k (0, 0, 0) = x := ⟨_, rfl⟩
      rw [hx] at d0 d2
      simp only at d0 d2
      have hs := topF_take (l := l) (by rw [hn]; exact hlt) hx s
      rw [hst.out] at hs
      have hbs := hb.size
      by_cases h1 : x0 = s
      · rw [if_pos h1] at hs
        by_cases h2 : t < x2
        · have HS := Lib.hid (hs.trans (show max t x2 = x2 by omega))
          clear hr hc c0 c1 c2 hx hn hs hst
          go_wp2
          all_goals exact ⟨⟨k + 1, x2, by omega, rfl, rfl, hb, HS⟩, by simp only [intOf]; omega⟩
        · have HS := Lib.hid (hs.trans (show max t x2 = t by omega))
          clear hr hc c0 c1 c2 hx hn hs hst
          go_wp2
          all_goals exact ⟨⟨k + 1, t, by omega, rfl, rfl, hb, HS⟩, by simp only [intOf]; omega⟩
      · rw [if_neg h1] at hs
        have HS := Lib.hid hs
        clear hr hc c0 c1 c2 hx hn hs hst
        go_wp2
        all_goals exact ⟨⟨k + 1, t, by omega, rfl, rfl, hb, HS⟩, by simp only [intOf]; omega⟩
    · have hk0 : k = n := by omega
      have hres := hst.out
      rw [List.take_of_length_le (by omega)] at hres
      have HR := Lib.hid hres
      clear hst hr hn hres
      go_wp2
      go_ret
      exact ⟨by rw [HR.out]; rfl, hb⟩

theorem take_eq_step {l m : List Sp} {k : Nat} (hl : k < l.length) (hm : k < m.length) (h : l.take k = m.take k) (he : l.getD k (0, 0, 0) = m.getD k (0, 0, 0)) : l.take (k + 1) = m.take (k + 1) := by
  rw [take_one hl rfl, take_one hm rfl, h, he]
theorem take_ne {l m : List Sp} {k : Nat} (he : l.getD k (0, 0, 0) ≠ m.getD k (0, 0, 0)) : ¬ l = m := fun h => he (by rw [h])

set_option maxHeartbeats 1000000 in
theorem same_any (A A' : Option Addr) (c c' n n' : Nat) (l m : List Sp) (hn : l.length = n) (hn' : m.length = n') (w : World) (hr : Ss w w.heap.size A l) (hr' : Ss w w.heap.size A' m) (hbig : n ≤ 140737488355328) (hbig' : n' ≤ 140737488355328) :
    Calls Tryz.prog 74 #[.slice A n c, .slice A' n' c'] w fun e w' => e = .returned (.bool (decide (l = m))) ∧ Below w.heap.size w w' := by
  by_cases hlen : n = n'
  · subst hlen
    go_enter Tryz.func74, Tryz.ntmps74
    go_wp2
    go_loopw [5] (fun q wr => ∃ k : Nat, k ≤ n ∧ q = .int .i64 k ∧ Below w.heap.size w wr ∧ Hid (l.take k = m.take k)) (fun q _ => n - (intOf q).toNat)
    case atStart => exact ⟨0, by omega, rfl, Below.refl _ _, rfl⟩
    case round =>
      obtain ⟨k, hk, rfl, hb, hst⟩ := hrel
      by_cases hlt : k < n
      · obtain ⟨b, off, rfl, hbB, hc⟩ := hr (by omega)
        obtain ⟨c0, c1, c2⟩ := hc k (by omega)
        have d0 := (hb.cell (p := ⟨b, off + k * 3, none⟩) (by exact hbB)).trans c0
        have d1 := (hb.cell (p := ⟨b, off + k * 3 + 1, none⟩) (by exact hbB)).trans c1
        have d2 := (hb.cell (p := ⟨b, off + k * 3 + 2, none⟩) (by exact hbB)).trans c2
        obtain ⟨b', off', rfl, hbB', hc'⟩ := hr' (by omega)
        obtain ⟨c0', c1', c2'⟩ := hc' k (by omega)
        have d0' := (hb.cell (p := ⟨b', off' + k * 3, none⟩) (by exact hbB')).trans c0'
        have d1' := (hb.cell (p := ⟨b', off' + k * 3 + 1, none⟩) (by exact hbB')).trans c1'
        have d2' := (hb.cell (p := ⟨b', off' + k * 3 + 2, none⟩) (by exact hbB')).trans c2'
        have hy := take_eq_step (l := l) (m := m) (by omega) (by omega) hst.out
        have hz := take_ne (l := l) (m := m) (k := k)
        obtain ⟨⟨x0, x1, x2⟩, hx⟩ : ∃ x, l.getD k (0, 0, 0) = x := ⟨_, rfl⟩
        obtain ⟨⟨y0, y1, y2⟩, hx'⟩ : ∃ x, m.getD k (0, 0, 0) = x := ⟨_, rfl⟩
        rw [hx] at d0 d1 d2
        rw [hx'] at d0' d1' d2'
        rw [hx, hx'] at hy hz
        simp only at d0 d1 d2 d0' d1' d2'
        have r0 : (0 : Int) ≤ (k : Int) := by omega
        have r1 : (k : Int) < (n : Int) := by omega
        by_cases he : (x0, x1, x2) = (y0, y1, y2)
        · have HY := Lib.hid (hy he)
          injection he with e0 e1
          injection e1 with e1 e2
          subst e0 e1 e2
          clear hr hr' hc hc' c0 c1 c2 c0' c1' c2' hst hy hz hx hx' hn hn'
          go_wp2
          go_quiet (fail)
          go_wp2
          all_goals exact ⟨⟨k + 1, by omega, rfl, hb.trans (below_drewN _ _ _), HY⟩, by simp only [intOf]; omega⟩
        · have HZ := Lib.hid (decide_eq_false (hz he))
          have hp : (x0 ≠ y0) ∨ (x0 = y0 ∧ x1 ≠ y1) ∨ (x0 = y0 ∧ x1 = y1 ∧ x2 ≠ y2) := by
            by_cases q0 : x0 = y0
            · by_cases q1 : x1 = y1
              · exact .inr (.inr ⟨q0, q1, fun q2 => he (by rw [q0, q1, q2])⟩)
              · exact .inr (.inl ⟨q0, q1⟩)
            · exact .inl q0
          clear hr hr' hc hc' c0 c1 c2 c0' c1' c2' hst hy hz hx hx' hn hn' he
          rcases hp with q0 | ⟨rfl, q1⟩ | ⟨rfl, rfl, q2⟩
          · have g0 : (x0 == y0) = false := by simp [q0]
            go_wp2
            go_quiet (fail)
            go_wp2
            go_ret
            exact ⟨by rw [HZ.out]; rfl, hb.trans (below_drewN _ _ _)⟩
          · have g0 : (x1 == y1) = false := by simp [q1]
            go_wp2
            go_quiet (fail)
            go_wp2
            go_ret
            exact ⟨by rw [HZ.out]; rfl, hb.trans (below_drewN _ _ _)⟩
          · have g0 : (x2 == y2) = false := by simp [q2]
            go_wp2
            go_quiet (fail)
            go_wp2
            go_ret
            exact ⟨by rw [HZ.out]; rfl, hb.trans (below_drewN _ _ _)⟩
      · have hk0 : k = n := by omega
        have hres := hst.out
        rw [List.take_of_length_le (by omega), List.take_of_length_le (by omega)] at hres
        have HR := Lib.hid (decide_eq_true hres)
        clear hst hr hr' hn hn' hres
        go_wp2
        go_ret
        exact ⟨by rw [HR.out]; rfl, hb⟩
  · have hne : ¬ l = m := fun h => hlen (by rw [← hn, ← hn', h])
    have HR := Lib.hid (decide_eq_false hne)
    clear hr hr' hn hn' hne
    go_enter Tryz.func74, Tryz.ntmps74
    go_wp2
    go_ret
    exact ⟨by rw [HR.out]; rfl, Below.refl _ _⟩
end Span
end Go.Proofs.YtbaclinjimfncaaGreat

/-
  span.lay puts a span behind those laid.
-/
namespace Go.Proofs.YtbaclinjimfncaaGreat
namespace Span
open Go.RowKit
attribute [local go_sem ↓] Go.wp_at_zero Go.wp_at_succ

theorem info_span : ∃ i, Tryz.prog.info? 60 = some i ∧ i.zero = some (.agg #[.int .i64 0, .int .i64 0, .int .i64 0]) ∧ i.size = 3 ∧ i.bytes = 24 := by
  have h : (Tryz.prog.info? 60).map (fun i => (i.zero, i.size, i.bytes)) = some (some (.agg #[.int .i64 0, .int .i64 0, .int .i64 0]), 3, 24) := by kernel_rfl
  obtain ⟨i, h1, h2⟩ := Option.map_eq_some_iff.1 h
  simp only [Prod.mk.injEq] at h2
  exact ⟨i, h1, h2.1, h2.2.1, h2.2.2⟩

/-- The slice l, made at or behind base; nothing below base has turned. -/
def GotSs (base : Nat) (l : List Sp) (w : World) (r : Ending) (w' : World) : Prop :=
  ∃ A c, r = .returned (.slice A l.length c) ∧ w'.ownsRow base 60 3 (.slice A l.length c) l.length (sps l) ∧ Below base w w'

theorem sps_set_last (l : List Sp) (z : Sp) (t : Int) : (sps (l ++ [z])).set (l.length * 3 + 2) (.int .i64 t) = sps (l ++ [(z.1, z.2.1, t)]) := by
  rw [sps_append, sps_append, sps_one, sps_one, List.set_append_right _ _ (by rw [sps_length]; omega)]
  rw [sps_length, show l.length * 3 + 2 - l.length * 3 = 2 by omega]
  rfl
theorem own_snoc {w : World} {base : Nat} {e : TypeId} {A : Option Addr} {c n : Nat} {l : List Sp} {z : Sp} (h : w.ownsRow base e 3 (.slice A n c) (l ++ [z]).length (sps (l ++ [z]))) :
    ∃ g, A = some ⟨g, 0, none⟩ ∧ base ≤ g ∧ g < w.heap.size ∧ w.cell? ⟨g, l.length * 3, none⟩ = some (.int .i64 z.1) ∧ w.cell? ⟨g, l.length * 3 + 1, none⟩ = some (.int .i64 z.2.1) ∧ w.cell? ⟨g, l.length * 3 + 2, none⟩ = some (.int .i64 z.2.2) ∧ ∀ j, w.frozen? ⟨g, j, none⟩ = false := by
  have hs := own_ss h
  obtain ⟨b, off, hA, hb, hc⟩ := hs (by simp)
  have h2 := hc l.length (by simp)
  rcases h.2 with ⟨_, h0⟩ | ⟨g, cap, cur, hv, hbg, hg, hn, hcm, hcs, htake⟩
  · simp at h0
  · injection hv with h1 _ h3
    rw [h1] at hA
    injection hA with hA
    injection hA with e1 e2
    subst e1
    subst e2
    have hz : (l ++ [z]).getD l.length (0, 0, 0) = z := by simp [List.getD_eq_getElem?_getD]
    rw [hz] at h2
    simp only [Nat.zero_add] at h2
    exact ⟨g, h1, hbg, (Array.getElem?_eq_some_iff.1 hg).1, h2.1, h2.2.1, h2.2.2, fun j => by simp [World.frozen?, hg]⟩

end Span
end Go.Proofs.YtbaclinjimfncaaGreat

/-
  span.Join: two right lists merged.
-/
namespace Go.Proofs.YtbaclinjimfncaaGreat
namespace Span
open Go.RowKit
attribute [local go_sem ↓] Go.wp_at_zero Go.wp_at_succ

/-- The answer of Join: the list of both, or the error's number; new memory. -/
def JoinPost (l : List Sp) (f : Int) (w : World) (e : Ending) (w' : World) : Prop :=
  ∃ A c, e = .returned (.tuple #[.slice A l.length c, .int .i64 f]) ∧ w'.ownsRow w.heap.size 60 3 (.slice A l.length c) l.length (sps l) ∧ Below w.heap.size w w'
theorem joinPost_nil (f : Int) (w w' : World) (hb : Below w.heap.size w w') (e : Ending) (he : e = .returned (.tuple #[.slice none 0 0, .int .i64 f])) : JoinPost [] f w e w' :=
  ⟨none, 0, he, World.ownsRow_nil _ _ _ _, hb⟩

theorem ss_at {w w' : World} {B : Nat} {A : Option Addr} {l : List Sp} {n : Nat} (h : Ss w B A l) (hn : l.length = n) (hb : Below B w w') {k : Nat} (hk : k < n) {x : Sp} (hx : l.getD k (0, 0, 0) = x) :
    ∃ b off, A = some ⟨b, off, none⟩ ∧ b < B ∧ w'.cell? ⟨b, off + k * 3, none⟩ = some (.int .i64 x.1) ∧ w'.cell? ⟨b, off + k * 3 + 1, none⟩ = some (.int .i64 x.2.1) ∧ w'.cell? ⟨b, off + k * 3 + 2, none⟩ = some (.int .i64 x.2.2) := by
  subst hn
  subst hx
  obtain ⟨b, off, e, hbB, hc⟩ := h (by omega)
  obtain ⟨c0, c1, c2⟩ := hc k hk
  exact ⟨b, off, e, hbB, (hb.cell (by exact hbB)).trans c0, (hb.cell (by exact hbB)).trans c1, (hb.cell (by exact hbB)).trans c2⟩

end Span
end Go.Proofs.YtbaclinjimfncaaGreat
