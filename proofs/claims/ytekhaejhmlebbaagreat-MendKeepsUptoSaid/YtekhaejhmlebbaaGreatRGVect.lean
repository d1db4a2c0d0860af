/-
 Several texts of this family in one: VersBase, VersArgs, VectReads, SpanReads, SpanLay, SpanJoin.
-/
import Derived.Test.YtekhaejhmlebbaaGreatRGSpanA
import Derived.Test.YtekhaejhmlebbaaGreatRGBase
/-
 A slice of versions read as a list: five cells each, of which one is the slice of the spans of its past.
-/
namespace Go.Proofs.YtekhaejhmlebbaaGreat
namespace Vers
open Go.RowKit Span

def Pa (w : World) (L B : Nat) (A : Option Addr) (c : Nat) (v : Vr) : Prop :=
 Ss w B A v.past ∧ v.past.length ≤ c ∧ v.past.length ≤ 140737488355328 ∧ v.val.size ≤ 140737488355328 ∧ (0 < v.past.length → ∀ a, A = some a → L ≤ a.block)
def Vat (w : World) (L B b off : Nat) (v : Vr) (A : Option Addr) (c : Nat) : Prop :=
 w.cell? ⟨b, off, none⟩ = some (.int .i64 v.s) ∧ w.cell? ⟨b, off + 1, none⟩ = some (.int .i64 v.n) ∧ w.cell? ⟨b, off + 2, none⟩ = some (.slice A v.past.length c) ∧
 w.cell? ⟨b, off + 3, none⟩ = some (.bool v.gone) ∧ w.cell? ⟨b, off + 4, none⟩ = some (.string v.val) ∧ Pa w L B A c v
def Vs (w : World) (L B : Nat) (A : Option Addr) (l : List Vr) : Prop :=
 0 < l.length → ∃ b off, A = some ⟨b, off, none⟩ ∧ L ≤ b ∧ b < B ∧ ∀ j, j < l.length → ∃ A' c', Vat w L B b (off + j * 5) (l.getD j v0) A' c'

section
variable {w w' : World} {L L' B B' b off c : Nat} {A : Option Addr} {l : List Vr} {l' : List Sp} {v : Vr}
theorem Ss.high (h : Ss w B A l') (hl : 0 < l'.length → ∀ a, A = some a → L ≤ a.block) (hk : ∀ p : Addr, L ≤ p.block → p.block < B → w'.cell? p = w.cell? p) : Ss w' B A l' := fun hp => by
 obtain ⟨b, off, e, hb, hc⟩ := h hp
 have hL : L ≤ b := hl hp _ e
 exact ⟨b, off, e, hb, fun j hj => ⟨(hk ⟨b, _, none⟩ hL hb).trans (hc j hj).1, (hk ⟨b, _, none⟩ hL hb).trans (hc j hj).2.1, (hk ⟨b, _, none⟩ hL hb).trans (hc j hj).2.2⟩⟩
theorem Pa.keep (h : Pa w L B A c v) (hk : ∀ p : Addr, L ≤ p.block → p.block < B → w'.cell? p = w.cell? p) : Pa w' L B A c v := ⟨Ss.high h.1 h.2.2.2.2 hk, h.2⟩
theorem Pa.more (h : Pa w L B A c v) (hB : B ≤ B') : Pa w L B' A c v := ⟨h.1.more hB, h.2⟩
theorem Pa.less (h : Pa w L B A c v) (hL : L' ≤ L) : Pa w L' B A c v := ⟨h.1, h.2.1, h.2.2.1, h.2.2.2.1, fun hp a ha => Nat.le_trans hL (h.2.2.2.2 hp a ha)⟩
theorem Pa.below (h : Pa w L B A c v) (hb : Below B w w') : Pa w' L B A c v := h.keep fun _ _ hp => hb.cell hp
theorem Pa.alloc (h : Pa w L B A c v) (hB : B ≤ w.heap.size) (o : Obj) : Pa (w.alloc o) L B A c v := h.keep fun p _ hp => World.cell?_alloc_lt w o p (by omega)
theorem Vat.keep (h : Vat w L B b off v A c) (hL : L ≤ b) (hb : b < B) (hk : ∀ p : Addr, L ≤ p.block → p.block < B → w'.cell? p = w.cell? p) : Vat w' L B b off v A c := by
 obtain ⟨h0, h1, h2, h3, h4, h5⟩ := h
 exact ⟨(hk ⟨b, _, none⟩ hL hb).trans h0, (hk ⟨b, _, none⟩ hL hb).trans h1, (hk ⟨b, _, none⟩ hL hb).trans h2, (hk ⟨b, _, none⟩ hL hb).trans h3, (hk ⟨b, _, none⟩ hL hb).trans h4, h5.keep hk⟩
theorem Vs.nil (A : Option Addr) : Vs w L B A [] := fun h => absurd h (by simp)
theorem Vs.keep (h : Vs w L B A l) (hk : ∀ p : Addr, L ≤ p.block → p.block < B → w'.cell? p = w.cell? p) : Vs w' L B A l := fun hp => by
 obtain ⟨b, off, e, hL, hb, hc⟩ := h hp
 refine ⟨b, off, e, hL, hb, fun j hj => ?_⟩
 obtain ⟨A', c', h1⟩ := hc j hj
 exact ⟨A', c', h1.keep hL hb hk⟩
theorem Vs.more (h : Vs w L B A l) (hB : B ≤ B') : Vs w L B' A l := fun hp => by
 obtain ⟨b, off, e, hL, hb, hc⟩ := h hp
 refine ⟨b, off, e, hL, by omega, fun j hj => ?_⟩
 obtain ⟨A', c', h0, h1, h2, h3, h4, h5⟩ := hc j hj
 exact ⟨A', c', h0, h1, h2, h3, h4, h5.more hB⟩
theorem Vs.less (h : Vs w L B A l) (hL : L' ≤ L) : Vs w L' B A l := fun hp => by
 obtain ⟨b, off, e, hLb, hb, hc⟩ := h hp
 refine ⟨b, off, e, by omega, hb, fun j hj => ?_⟩
 obtain ⟨A', c', h0, h1, h2, h3, h4, h5⟩ := hc j hj
 exact ⟨A', c', h0, h1, h2, h3, h4, h5.less hL⟩
theorem Vs.below (h : Vs w L B A l) (hb : Below B w w') : Vs w' L B A l := h.keep fun _ _ hp => hb.cell hp
theorem Vs.drewN (h : Vs w L B A l) (n : Nat) : Vs (w.drewN n) L B A l := h.keep fun _ _ _ => rfl
theorem Vs.alloc (h : Vs w L B A l) (hB : B ≤ w.heap.size) (o : Obj) : Vs (w.alloc o) L B A l := h.keep fun p _ hp => World.cell?_alloc_lt w o p (by omega)
theorem Vs.at {n k : Nat} (h : Vs w L B A l) (hn : l.length = n) (hb : Below B w w') (hk : k < n) (hv : l.getD k v0 = v) : ∃ b off A' c', A = some ⟨b, off, none⟩ ∧ L ≤ b ∧ b < B ∧ Vat w' L B b (off + k * 5) v A' c' := by
 obtain ⟨b, off, e, hL, hbB, hc⟩ := (h.below hb) (by omega)
 obtain ⟨A', c', h1⟩ := hc k (by omega)
 rw [hv] at h1
 exact ⟨b, off, A', c', e, hL, hbB, h1⟩
end
end Vers
end Go.Proofs.YtekhaejhmlebbaaGreat

/-
 Versions and slices of versions among a law's arguments.
-/
namespace Go.Proofs.YtekhaejhmlebbaaGreat
namespace Vers
open Go.ChangeShapes Go.WideShapes Go.ChangeAt Go.RowKit Go.Joins Go.Deep Span

theorem cells_ver : Tryz.prog.cellsOf 59 = 5 := by kernel_rfl
theorem bytes_ver : Tryz.prog.bytesOf 59 = 64 := by kernel_rfl
theorem cells_spans : Tryz.prog.cellsOf 57 = 1 := by kernel_rfl
theorem cells_bool : Tryz.prog.cellsOf 4 = 1 := by kernel_rfl
theorem cells_string : Tryz.prog.cellsOf 9 = 1 := by kernel_rfl
theorem cells_int : Tryz.prog.cellsOf 3 = 1 := by kernel_rfl
theorem cells_int64 : Tryz.prog.cellsOf 2 = 1 := by kernel_rfl

section
variable {H : Type} {enc : TypeId × Value → H} {P : Program} {W : World}

def Wt (P : Program) (t : TypeId) (d : DataW H) : Prop := ∀ x ∈ d.weights P t, x ≤ 140737488351232
theorem wt_arg {ts : List TypeId} {ds : List (DataW H)} {j : Nat} {t : TypeId} {d : DataW H} (h : (DataW.weightsEach P ts ds).all (· ≤ reachBytes) = true) (ht : ts[j]? = some t) (hd : ds[j]? = some d) : Wt P t d := fun x hx => by
 have h1 := List.all_eq_true.1 h x (DataW.weights_mem_each ht hd x hx)
 have h3 : reachBytes = 140737488351232 := by decide
 simpa [h3] using h1
theorem wt_all {e : TypeId} : ∀ {l : List (DataW H)}, (∀ x ∈ DataW.weightsAll P e l, x ≤ 140737488351232) → ∀ d ∈ l, Wt P e d
 | [], _, d, hd => by simp at hd
 | y :: l, h, d, hd => by
  simp only [DataW.weightsAll, List.mem_append] at h
  rcases List.mem_cons.1 hd with rfl | hd
  ·exact fun x hx => h x (.inl hx)
  ·exact wt_all (fun x hx => h x (.inr hx)) d hd
theorem wt_slice {t e : TypeId} {el sp : List (DataW H)} (ht : P.underlying t = some (.slice e)) (h : Wt P t (.slice el sp)) : (el.length + sp.length) * P.bytesOf e ≤ 140737488351232 ∧ ∀ d ∈ el, Wt P e d := by
 unfold Wt at h
 simp only [DataW.weights, ht, List.mem_cons, List.mem_append] at h
 exact ⟨h _ (.inl rfl), wt_all fun x hx => h x (.inr (.inl hx))⟩
theorem wt_string {t : TypeId} {b : List UInt8} (h : Wt P t (.lit (.string b) : DataW H)) : b.length ≤ 140737488351232 := by
 unfold Wt at h
 simp only [DataW.weights, List.mem_cons, List.not_mem_nil, or_false, forall_eq] at h
 exact h
theorem wt_each : ∀ {ts : List TypeId} {ds : List (DataW H)}, (∀ x ∈ DataW.weightsEach P ts ds, x ≤ 140737488351232) → ∀ (j : Nat) t d, ts[j]? = some t → ds[j]? = some d → Wt P t d
 | [], _, _, _, _, _, ht, _ => by simp at ht
 | _ :: _, [], _, _, _, _, _, hd => by simp at hd
 | t0 :: ts, d0 :: ds, h, j, t, d, ht, hd => by
  simp only [DataW.weightsEach, List.mem_append] at h
  rcases j with _ | j
  ·simp only [List.getElem?_cons_zero, Option.some.injEq] at ht hd
   subst ht hd
   exact fun x hx => h x (.inl hx)
  ·simp only [List.getElem?_cons_succ] at ht hd
   exact wt_each (fun x hx => h x (.inr hx)) j t d ht hd
theorem wt_struct {t : TypeId} {fs : Array Field} {parts : List (DataW H)} (ht : P.underlying t = some (.struct fs)) (h : Wt P t (.agg parts)) : ∀ (j : Nat) u d, (fs.toList.map (·.type))[j]? = some u → parts[j]? = some d → Wt P u d := by
 unfold Wt at h
 simp only [DataW.weights, ht] at h
 exact wt_each h

end

section
variable {H : Type} {enc : TypeId × Value → H} {W : World}
set_option maxRecDepth 100000 in
theorem past_at {n : Nat} {cs : List Value} {D : DataW H} {Pl : List MemPlace} (h : DataW.trod enc Tryz.prog W 0 (fun _ => true) true n 57 cs = some (D, Pl)) (hw : Wt Tryz.prog 57 D) :
  ∃ (A : Option Addr) (c : Nat) (l : List Sp), cs = [.slice A l.length c] ∧ Ss W W.heap.size A l ∧ l.length ≤ c ∧ l.length * 24 ≤ 140737488351232 := by
 have hf : DataW.Trod enc Tryz.prog W 0 (fun _ => true) true 57 (cs.headD (.slice none 0 0)) D Pl := by
  rcases open_slice Tryz.underlying57 h with ⟨rfl, hx⟩ | ⟨a, len, cap, m, n', D', Pl', rfl, _⟩
  ·exact ⟨n, h⟩
  ·exact ⟨n, h⟩
 have hcs : ∃ A len c, cs = [.slice A len c] := by
  rcases open_slice Tryz.underlying57 h with ⟨rfl, hx⟩ | ⟨a, len, cap, m, n', D', Pl', rfl, _⟩
  ·exact ⟨_, _, _, rfl⟩
  ·exact ⟨_, _, _, rfl⟩
 obtain ⟨A, len, c, rfl⟩ := hcs
 obtain ⟨fuel, hf⟩ := hf
 simp only [List.headD_cons, Value.cells] at hf
 rcases open_slice Tryz.underlying57 hf with ⟨he, hx⟩ | ⟨a, len', cap', m, n', D', Pl', he, _, hl, hm, hmm, hx, hi⟩
 ·simp at he
  obtain ⟨rfl, rfl, rfl⟩ := he
  exact ⟨none, 0, [], rfl, Ss.nil _, by simp, by simp⟩
 ·simp at he
  obtain ⟨rfl, rfl, rfl⟩ := he
  simp only [Prod.mk.injEq] at hx
  simp only [if_true] at hmm
  subst hmm
  have hwt := wt_slice Tryz.underlying57 (hx.1 ▸ hw)
  rw [bytes_span] at hwt
  have hz : ∀ i, i < len → ∃ z : Sp, W.cell? (a.add (i * 3)) = some (.int .i64 z.1) ∧ W.cell? (a.add (i * 3 + 1)) = some (.int .i64 z.2.1) ∧ W.cell? (a.add (i * 3 + 2)) = some (.int .i64 z.2.2) := by
   intro i hil
   obtain ⟨cs', hc, ht'⟩ := hi i (by omega)
   rw [cells_span] at hc
   obtain ⟨_, hcl, hat⟩ := World.cells?_some hc
   obtain ⟨z, z0, z1, z2⟩ := span_at Tryz.underlying61 (by kernel_rfl) Tryz.underlying3 Tryz.underlying2 Tryz.underlying2 ht'
   have q0 := (hat 0 (by omega)).trans z0
   have q1 := (hat 1 (by omega)).trans z1
   have q2 := (hat 2 (by omega)).trans z2
   rw [Go.Deep.add_add] at q0 q1 q2
   exact ⟨z, q0, q1, q2⟩
  obtain ⟨f, hfz⟩ : ∃ f : Nat → Sp, ∀ i, i < len → W.cell? (a.add (i * 3)) = some (.int .i64 (f i).1) ∧ W.cell? (a.add (i * 3 + 1)) = some (.int .i64 (f i).2.1) ∧ W.cell? (a.add (i * 3 + 2)) = some (.int .i64 (f i).2.2) :=
   ⟨fun i => if h : i < len then (hz i h).choose else (0, 0, 0), fun i h => by simp only [dif_pos h]; exact (hz i h).choose_spec⟩
  have hlen : ((List.range len).map f).length = len := by simp
  refine ⟨some a, _, (List.range len).map f, by rw [hlen], fun hp => ?_, by rw [hlen]; exact hl, by rw [hlen]; have := hwt.1; simp at this; omega⟩
  rw [hlen] at hp
  obtain ⟨b, off, spot⟩ := a
  have hspot : spot = none := by simpa [Addr.add] using World.cell?_spot (hfz 0 hp).1
  subst hspot
  have hadd : ∀ k, (⟨b, off, none⟩ : Addr).add k = ⟨b, off + k, none⟩ := Go.WideShapes.add_plain b off
  have h0 := (hfz 0 hp).1
  refine ⟨b, off, rfl, by have := World.block_lt_of_cell? W _ h0; rwa [hadd] at this, fun j hj => ?_⟩
  rw [hlen] at hj
  have hg : ((List.range len).map f).getD j (0, 0, 0) = f j := by simp [List.getD_eq_getElem?_getD, hj]
  rw [hg]
  obtain ⟨c0, c1, c2⟩ := hfz j hj
  rw [hadd] at c0 c1 c2
  exact ⟨c0, by rw [Nat.add_assoc]; exact c1, by rw [Nat.add_assoc]; exact c2⟩

set_option maxRecDepth 100000 in
theorem ver_at {n : Nat} {cs : List Value} {D : DataW H} {Pl : List MemPlace} (h : DataW.trod enc Tryz.prog W 0 (fun _ => true) true n 59 cs = some (D, Pl)) (hw : Wt Tryz.prog 59 D) :
  ∃ (v : Vr) (A : Option Addr) (c : Nat), cs = [.int .i64 v.s, .int .i64 v.n, .slice A v.past.length c, .bool v.gone, .string v.val] ∧ Pa W 0 W.heap.size A c v ∧ v.past.length * 24 ≤ 140737488351232 ∧ v.val.size ≤ 140737488351232 ∧
   (Lit.int .i64 v.s).wf = true ∧ (Lit.int .i64 v.n).wf = true := by
 obtain ⟨y0, y1, y2, y3, m, hx, hl, h0, h1, h2, h3⟩ := trod_struct4 Tryz.underlying59 h
 obtain ⟨z0, z1, m', hx', _, g0, g1⟩ := trod_struct2 Tryz.underlying56 h0
 rw [cells_ver] at hl
 match cs, hl with
 | [q0, q1, q2, q3, q4], _ =>
  simp only [cells_dot, cells_spans, cells_bool, cells_string, cells_int, cells_int64, List.drop_zero, List.take_succ_cons, List.take_zero, List.drop_succ_cons] at h1 h2 h3 g0 g1
  obtain ⟨s, e0, _, w0⟩ := DataW.trod_int Tryz.underlying3 g0
  obtain ⟨vn, e1, _, w1⟩ := DataW.trod_int Tryz.underlying2 g1
  obtain ⟨g, e3, _⟩ := DataW.trod_bool Tryz.underlying4 h2
  obtain ⟨x, e4, x4, hxl⟩ := DataW.trod_string Tryz.underlying9 h3
  simp only [Prod.mk.injEq] at hx
  have hww := wt_struct Tryz.underlying59 (hx.1 ▸ hw)
  obtain ⟨A, c, l, e2, hs, hlc, hlw⟩ := past_at (D := y1.1) (Pl := y1.2) h1 (hww 1 57 y1.1 rfl rfl)
  have hv := hww 3 9 y3.1 rfl rfl
  rw [show y3 = (.lit (.string x.data.toList), []) from x4] at hv
  have hvl := wt_string hv
  have hsz : x.data.toList.length = x.size := by rw [Array.length_toList]; rfl
  rw [hsz] at hvl
  simp only [List.cons.injEq, and_true] at e0 e1 e2 e3 e4
  subst e0 e1 e2 e3 e4
  exact ⟨⟨s, vn, l, g, x⟩, A, c, rfl, ⟨hs, hlc, by simp only; omega, by simp only; omega, fun _ _ _ => Nat.zero_le _⟩, hlw, hvl, w0, w1⟩

end
end Vers
end Go.Proofs.YtekhaejhmlebbaaGreat

/-
 Vectors: which are right, and the functions that only read them.
-/
namespace Go.Proofs.YtekhaejhmlebbaaGreat
namespace Vect
open Go.RowKit Span
attribute [local go_sem ↓] Go.wp_at_zero Go.wp_at_succ

def RightV (v : List Int) : Prop := 1 ≤ v.length ∧ v.length ≤ 16 ∧ ∀ z ∈ v, 0 ≤ z ∧ z ≤ 4611686018427387904
instance (v : List Int) : Decidable (RightV v) := by unfold RightV; infer_instance
def CoversV (v : List Int) (s n : Int) : Prop := 0 < n ∧ 1 ≤ s ∧ s ≤ v.length ∧ n ≤ v.getD (s - 1).toNat 0
instance (v : List Int) (s n : Int) : Decidable (CoversV v s n) := by unfold CoversV; infer_instance

end Vect
end Go.Proofs.YtekhaejhmlebbaaGreat

/-
 Functions that only read spans: firthref03.Has, span.Top, firthref03.Top, firthref03.Same.
-/
namespace Go.Proofs.YtekhaejhmlebbaaGreat
namespace Span
open Go.RowKit

set_option maxHeartbeats 1000000 in
theorem ref_has_any (A : Option Addr) (c n' : Nat) (l : List Sp) (hn : l.length = n') (s n : Int) (w : World) (hr : Ss w w.heap.size A l) (hbig : n' ≤ 140737488355328) :
  Calls Tryz.prog 84 #[.slice A n' c, .agg #[.int .i64 s, .int .i64 n]] w fun e w' => e = .returned (.bool (hasL l s n)) ∧ Below w.heap.size w w' := by
 go_enter Tryz.func84, Tryz.ntmps84
 go_wp2
 go_loopw [5] (fun q wr => ∃ k : Nat, k ≤ n' ∧ q = .int .i64 k ∧ Below (w.heap.size + 1) (w.alloc (.cells #[.int .i64 s, .int .i64 n] 56)) wr ∧ Hid (hasL l s n = hasL (l.drop k) s n)) (fun q _ => n' - (intOf q).toNat)
 case atStart => exact ⟨0, by omega, rfl, Below.refl _ _, rfl⟩
 case round =>
  obtain ⟨k, hk, rfl, hb, hst⟩ := hrel
  have hbw := ((Below.refl w.heap.size w).alloc (Nat.le_refl _) (.cells #[.int .i64 s, .int .i64 n] 56)).trans (hb.mono (Nat.le_succ _))
  by_cases hlt : k < n'
  ·obtain ⟨b, off, rfl, hbB, hc⟩ := hr (by omega)
   obtain ⟨c0, c1, c2⟩ := hc k (by omega)
   have d0 := (hb.cell (p := ⟨b, off + k * 3, none⟩) (by show b < _; omega)).trans ((World.cell?_alloc_lt w _ _ (by exact hbB)).trans c0)
   have d1 := (hb.cell (p := ⟨b, off + k * 3 + 1, none⟩) (by show b < _; omega)).trans ((World.cell?_alloc_lt w _ _ (by exact hbB)).trans c1)
   have d2 := (hb.cell (p := ⟨b, off + k * 3 + 2, none⟩) (by show b < _; omega)).trans ((World.cell?_alloc_lt w _ _ (by exact hbB)).trans c2)
   have e0 : wr.cell? ⟨w.heap.size, 0, none⟩ = some (.int .i64 s) := (hb.cell (by simp)).trans (by simp)
   have e1 : wr.cell? ⟨w.heap.size, 1, none⟩ = some (.int .i64 n) := (hb.cell (by simp)).trans (by simp)
   obtain ⟨⟨x0, x1, x2⟩, hx⟩ : ∃ x, l.getD k (0, 0, 0) = x := ⟨_, rfl⟩
   rw [hx] at d0 d1 d2
   simp only at d0 d1 d2
   have HX := Lib.hid hx
   have HN := Lib.hid hn
   have r0 : (0 : Int) ≤ (k : Int) := by omega
   have r1 : (k : Int) < (n' : Int) := by omega
   clear hr hc c0 c1 c2 hx hn
   by_cases h1 : x0 = s
   ·have g1 : (x0 == s) = true := by simp [h1]
    by_cases h2 : x1 ≤ n
    ·have g2 : decide (x1 ≤ n) = true := decide_eq_true h2
     by_cases h3 : n ≤ x2
     ·have g3 : decide (n ≤ x2) = true := decide_eq_true h3
      have hres := Lib.hid (hst.out.trans (hasL_hit (by rw [HN.out]; exact hlt) HX.out h1 h2 h3))
      clear hst HX HN h1
      go_wp2
      go_quiet (fail)
      go_wp2
      go_ret
      exact ⟨by rw [hres.out]; rfl, hbw.trans (below_drewN _ _ _)⟩
     ·have g3 : decide (n ≤ x2) = false := decide_eq_false h3
      have hres := Lib.hid (hst.out.trans (hasL_miss (by rw [HN.out]; exact hlt) HX.out fun h => h3 h.2.2))
      clear hst HX HN h1
      go_wp2
      go_quiet (fail)
      go_wp2
      exact ⟨⟨k + 1, by omega, rfl, hb.trans (below_drewN _ _ _), hres⟩, by simp only [intOf]; omega⟩
    ·have g2 : decide (x1 ≤ n) = false := decide_eq_false h2
     have hres := Lib.hid (hst.out.trans (hasL_miss (by rw [HN.out]; exact hlt) HX.out fun h => h2 h.2.1))
     clear hst HX HN h1
     go_wp2
     go_quiet (fail)
     go_wp2
     exact ⟨⟨k + 1, by omega, rfl, hb.trans (below_drewN _ _ _), hres⟩, by simp only [intOf]; omega⟩
   ·have g1 : (x0 == s) = false := by simp [h1]
    have hres := Lib.hid (hst.out.trans (hasL_miss (by rw [HN.out]; exact hlt) HX.out fun h => h1 h.1))
    clear hst HX HN h1
    go_wp2
    go_quiet (fail)
    go_wp2
    exact ⟨⟨k + 1, by omega, rfl, hb.trans (below_drewN _ _ _), hres⟩, by simp only [intOf]; omega⟩
  ·have hk0 : k = n' := by omega
   have hres := Lib.hid (hst.out.trans (by rw [List.drop_eq_nil_of_le (by omega)]; rfl : _ = false))
   clear hst hr hn
   go_wp2
   go_ret
   exact ⟨by rw [hres.out]; rfl, hbw⟩

set_option maxHeartbeats 1000000 in
theorem top_any (A : Option Addr) (c n : Nat) (l : List Sp) (hn : l.length = n) (s : Int) (w : World) (hr : Ss w w.heap.size A l) (hbig : n ≤ 140737488355328) :
  Calls Tryz.prog 126 #[.slice A n c, .int .i64 s] w fun e w' => e = .returned (.int .i64 (topF l s)) ∧ Below w.heap.size w w' := by
 go_enter Tryz.func126, Tryz.ntmps126
 go_wp2
 go_loopw [5, 10] (fun z q wr => ∃ (k : Nat) (t : Int), k ≤ n ∧ q = .int .i64 k ∧ z = .int .i64 t ∧ Below w.heap.size w wr ∧ Hid (topF (l.take k) s = t)) (fun _ q _ => n - (intOf q).toNat)
 case atStart => exact ⟨0, 0, by omega, rfl, rfl, Below.refl _ _, rfl⟩
 case round =>
  obtain ⟨k, t, hk, rfl, rfl, hb, hst⟩ := hrel
  by_cases hlt : k < n
  ·obtain ⟨b, off, rfl, hbB, hc⟩ := hr (by omega)
   obtain ⟨c0, c1, c2⟩ := hc k (by omega)
   have d0 := (hb.cell (p := ⟨b, off + k * 3, none⟩) (by exact hbB)).trans c0
   have d1 := (hb.cell (p := ⟨b, off + k * 3 + 1, none⟩) (by exact hbB)).trans c1
   have d2 := (hb.cell (p := ⟨b, off + k * 3 + 2, none⟩) (by exact hbB)).trans c2
   obtain ⟨⟨x0, x1, x2⟩, hx⟩ : ∃ x, l.getD k (0, 0, 0) = x := ⟨_, rfl⟩
   rw [hx] at d0 d1 d2
   simp only at d0 d1 d2
   have hs := topF_take (l := l) (by rw [hn]; exact hlt) hx s
   rw [hst.out] at hs
   have hbs := hb.size
   by_cases h1 : x0 = s
   ·rw [if_pos h1] at hs
    have HS := Lib.hid hs
    clear hr hc c0 c1 c2 hx hn hs hst
    go_wp2
    all_goals exact ⟨⟨k + 1, max t x2, by omega, rfl, by first | rfl | (congr 1; omega), hb.alloc hbs _, HS⟩, by simp only [intOf]; omega⟩
   ·rw [if_neg h1] at hs
    have HS := Lib.hid hs
    clear hr hc c0 c1 c2 hx hn hs hst
    go_wp2
    all_goals exact ⟨⟨k + 1, t, by omega, rfl, rfl, hb.alloc hbs _, HS⟩, by simp only [intOf]; omega⟩
  ·have hk0 : k = n := by omega
   have hres := hst.out
   rw [List.take_of_length_le (by omega)] at hres
   have HR := Lib.hid hres
   clear hst hr hn hres
   go_wp2
   go_ret
   exact ⟨by rw [HR.out]; rfl, hb⟩

set_option maxHeartbeats 1000000 in
theorem ref_top_any (A : Option Addr) (c n : Nat) (l : List Sp) (hn : l.length = n) (s : Int) (w : World) (hr : Ss w w.heap.size A l) (hbig : n ≤ 140737488355328) :
  Calls Tryz.prog 115 #[.slice A n c, .int .i64 s] w fun e w' => e = .returned (.int .i64 (topF l s)) ∧ Below w.heap.size w w' := by
 go_enter Tryz.func115, Tryz.ntmps115
 go_wp2
 go_loopw [5, 6] (fun z q wr => ∃ (k : Nat) (t : Int), k ≤ n ∧ q = .int .i64 k ∧ z = .int .i64 t ∧ Below w.heap.size w wr ∧ Hid (topF (l.take k) s = t)) (fun _ q _ => n - (intOf q).toNat)
 case atStart => exact ⟨0, 0, by omega, rfl, rfl, Below.refl _ _, rfl⟩
 case round =>
  obtain ⟨k, t, hk, rfl, rfl, hb, hst⟩ := hrel
  by_cases hlt : k < n
  ·obtain ⟨b, off, rfl, hbB, hc⟩ := hr (by omega)
   obtain ⟨c0, c1, c2⟩ := hc k (by omega)
   have d0 := (hb.cell (p := ⟨b, off + k * 3, none⟩) (by exact hbB)).trans c0
   have d2 := (hb.cell (p := ⟨b, off + k * 3 + 2, none⟩) (by exact hbB)).trans c2
   obtain ⟨⟨x0, x1, x2⟩, hx⟩ : ∃ x, l.getD k (0, 0, 0) = x := ⟨_, rfl⟩
   rw [hx] at d0 d2
   simp only at d0 d2
   have hs := topF_take (l := l) (by rw [hn]; exact hlt) hx s
   rw [hst.out] at hs
   have hbs := hb.size
   by_cases h1 : x0 = s
   ·rw [if_pos h1] at hs
    by_cases h2 : t < x2
    ·have HS := Lib.hid (hs.trans (show max t x2 = x2 by omega))
     clear hr hc c0 c1 c2 hx hn hs hst
     go_wp2
     all_goals exact ⟨⟨k + 1, x2, by omega, rfl, rfl, hb, HS⟩, by simp only [intOf]; omega⟩
    ·have HS := Lib.hid (hs.trans (show max t x2 = t by omega))
     clear hr hc c0 c1 c2 hx hn hs hst
     go_wp2
     all_goals exact ⟨⟨k + 1, t, by omega, rfl, rfl, hb, HS⟩, by simp only [intOf]; omega⟩
   ·rw [if_neg h1] at hs
    have HS := Lib.hid hs
    clear hr hc c0 c1 c2 hx hn hs hst
    go_wp2
    all_goals exact ⟨⟨k + 1, t, by omega, rfl, rfl, hb, HS⟩, by simp only [intOf]; omega⟩
  ·have hk0 : k = n := by omega
   have hres := hst.out
   rw [List.take_of_length_le (by omega)] at hres
   have HR := Lib.hid hres
   clear hst hr hn hres
   go_wp2
   go_ret
   exact ⟨by rw [HR.out]; rfl, hb⟩

theorem take_eq_step {l m : List Sp} {k : Nat} (hl : k < l.length) (hm : k < m.length) (h : l.take k = m.take k) (he : l.getD k (0, 0, 0) = m.getD k (0, 0, 0)) : l.take (k + 1) = m.take (k + 1) := by
 rw [take_one hl rfl, take_one hm rfl, h, he]
theorem take_ne {l m : List Sp} {k : Nat} (he : l.getD k (0, 0, 0) ≠ m.getD k (0, 0, 0)) : ¬ l = m := fun h => he (by rw [h])

set_option maxHeartbeats 1000000 in
theorem same_any (A A' : Option Addr) (c c' n n' : Nat) (l m : List Sp) (hn : l.length = n) (hn' : m.length = n') (w : World) (hr : Ss w w.heap.size A l) (hr' : Ss w w.heap.size A' m) (hbig : n ≤ 140737488355328) (hbig' : n' ≤ 140737488355328) :
  Calls Tryz.prog 112 #[.slice A n c, .slice A' n' c'] w fun e w' => e = .returned (.bool (decide (l = m))) ∧ Below w.heap.size w w' := by
 by_cases hlen : n = n'
 ·subst hlen
  go_enter Tryz.func112, Tryz.ntmps112
  go_wp2
  go_loopw [5] (fun q wr => ∃ k : Nat, k ≤ n ∧ q = .int .i64 k ∧ Below w.heap.size w wr ∧ Hid (l.take k = m.take k)) (fun q _ => n - (intOf q).toNat)
  case atStart => exact ⟨0, by omega, rfl, Below.refl _ _, rfl⟩
  case round =>
   obtain ⟨k, hk, rfl, hb, hst⟩ := hrel
   by_cases hlt : k < n
   ·obtain ⟨b, off, rfl, hbB, hc⟩ := hr (by omega)
    obtain ⟨c0, c1, c2⟩ := hc k (by omega)
    have d0 := (hb.cell (p := ⟨b, off + k * 3, none⟩) (by exact hbB)).trans c0
    have d1 := (hb.cell (p := ⟨b, off + k * 3 + 1, none⟩) (by exact hbB)).trans c1
    have d2 := (hb.cell (p := ⟨b, off + k * 3 + 2, none⟩) (by exact hbB)).trans c2
    obtain ⟨b', off', rfl, hbB', hc'⟩ := hr' (by omega)
    obtain ⟨c0', c1', c2'⟩ := hc' k (by omega)
    have d0' := (hb.cell (p := ⟨b', off' + k * 3, none⟩) (by exact hbB')).trans c0'
    have d1' := (hb.cell (p := ⟨b', off' + k * 3 + 1, none⟩) (by exact hbB')).trans c1'
    have d2' := (hb.cell (p := ⟨b', off' + k * 3 + 2, none⟩) (by exact hbB')).trans c2'
    have hy := take_eq_step (l := l) (m := m) (by omega) (by omega) hst.out
    have hz := take_ne (l := l) (m := m) (k := k)
    obtain ⟨⟨x0, x1, x2⟩, hx⟩ : ∃ x, l.getD k (0, 0, 0) = x := ⟨_, rfl⟩
    obtain ⟨⟨y0, y1, y2⟩, hx'⟩ : ∃ x, m.getD k (0, 0, 0) = x := ⟨_, rfl⟩
    rw [hx] at d0 d1 d2
    rw [hx'] at d0' d1' d2'
    rw [hx, hx'] at hy hz
    simp only at d0 d1 d2 d0' d1' d2'
    have r0 : (0 : Int) ≤ (k : Int) := by omega
    have r1 : (k : Int) < (n : Int) := by omega
    by_cases he : (x0, x1, x2) = (y0, y1, y2)
    ·have HY := Lib.hid (hy he)
     injection he with e0 e1
     injection e1 with e1 e2
     subst e0 e1 e2
     clear hr hr' hc hc' c0 c1 c2 c0' c1' c2' hst hy hz hx hx' hn hn'
     go_wp2
     go_quiet (fail)
     go_wp2
     all_goals exact ⟨⟨k + 1, by omega, rfl, hb.trans (below_drewN _ _ _), HY⟩, by simp only [intOf]; omega⟩
    ·have HZ := Lib.hid (decide_eq_false (hz he))
     have hp : (x0 ≠ y0) ∨ (x0 = y0 ∧ x1 ≠ y1) ∨ (x0 = y0 ∧ x1 = y1 ∧ x2 ≠ y2) := by
      by_cases q0 : x0 = y0
      ·by_cases q1 : x1 = y1
       ·exact .inr (.inr ⟨q0, q1, fun q2 => he (by rw [q0, q1, q2])⟩)
       ·exact .inr (.inl ⟨q0, q1⟩)
      ·exact .inl q0
     clear hr hr' hc hc' c0 c1 c2 c0' c1' c2' hst hy hz hx hx' hn hn' he
     rcases hp with q0 | ⟨rfl, q1⟩ | ⟨rfl, rfl, q2⟩
     ·have g0 : (x0 == y0) = false := by simp [q0]
      go_wp2
      go_quiet (fail)
      go_wp2
      go_ret
      exact ⟨by rw [HZ.out]; rfl, hb.trans (below_drewN _ _ _)⟩
     ·have g0 : (x1 == y1) = false := by simp [q1]
      go_wp2
      go_quiet (fail)
      go_wp2
      go_ret
      exact ⟨by rw [HZ.out]; rfl, hb.trans (below_drewN _ _ _)⟩
     ·have g0 : (x2 == y2) = false := by simp [q2]
      go_wp2
      go_quiet (fail)
      go_wp2
      go_ret
      exact ⟨by rw [HZ.out]; rfl, hb.trans (below_drewN _ _ _)⟩
   ·have hk0 : k = n := by omega
    have hres := hst.out
    rw [List.take_of_length_le (by omega), List.take_of_length_le (by omega)] at hres
    have HR := Lib.hid (decide_eq_true hres)
    clear hst hr hr' hn hn' hres
    go_wp2
    go_ret
    exact ⟨by rw [HR.out]; rfl, hb⟩
 ·have hne : ¬ l = m := fun h => hlen (by rw [← hn, ← hn', h])
  have HR := Lib.hid (decide_eq_false hne)
  clear hr hr' hn hn' hne
  go_enter Tryz.func112, Tryz.ntmps112
  go_wp2
  go_ret
  exact ⟨by rw [HR.out]; rfl, Below.refl _ _⟩
end Span
end Go.Proofs.YtekhaejhmlebbaaGreat

/-
 span.lay puts a span behind those laid.
-/
namespace Go.Proofs.YtekhaejhmlebbaaGreat
namespace Span
open Go.RowKit
attribute [local go_sem ↓] Go.wp_at_zero Go.wp_at_succ

theorem info_span : ∃ i, Tryz.prog.info? 61 = some i ∧ i.zero = some (.agg #[.int .i64 0, .int .i64 0, .int .i64 0]) ∧ i.size = 3 ∧ i.bytes = 24 := by
 have h : (Tryz.prog.info? 61).map (fun i => (i.zero, i.size, i.bytes)) = some (some (.agg #[.int .i64 0, .int .i64 0, .int .i64 0]), 3, 24) := by kernel_rfl
 obtain ⟨i, h1, h2⟩ := Option.map_eq_some_iff.1 h
 simp only [Prod.mk.injEq] at h2
 exact ⟨i, h1, h2.1, h2.2.1, h2.2.2⟩

end Span
end Go.Proofs.YtekhaejhmlebbaaGreat

/-
 span.Join: two right lists merged.
-/
namespace Go.Proofs.YtekhaejhmlebbaaGreat
namespace Span
open Go.RowKit
attribute [local go_sem ↓] Go.wp_at_zero Go.wp_at_succ

end Span
end Go.Proofs.YtekhaejhmlebbaaGreat
