/-
  Several texts of this family in one: SliceAt, Bulk, CodeArgs.
-/
import Derived.Test.YtbaclinjimfncaaGreatGVect
import Derived.Test.YtbaclinjimfncaaGreatGBase
import Derived.Test.YtbaclinjimfncaaGreatRows
import Derived.Test.YtbaclinjimfncaaGreatGFill
/-
  A slice by its cell, among the data of a law's arguments: its elements by a reading of one element's cells.
-/
namespace Go.Proofs.YtbaclinjimfncaaGreat
namespace Vers
open Go.ChangeShapes Go.WideShapes Go.ChangeAt Go.RowKit Go.Joins Go.Deep Span

section
variable {H : Type} {enc : TypeId × Value → H} {P : Program} {W : World}
set_option maxRecDepth 100000 in
theorem slice_at {t e : TypeId} (ht : P.underlying t = some (.slice e)) {n : Nat} {cs : List Value} {D : DataW H} {Pl : List MemPlace} (h : DataW.trod enc P W 0 (fun _ => true) true n t cs = some (D, Pl)) (hw : Wt P t D)
    {size bytes : Nat} (hs : P.cellsOf e = size) (hb : P.bytesOf e = bytes) (h1 : 0 < size) {α : Type} (val : α → List Value) (Q : α → Prop) (d : α) (hlen : ∀ x, (val x).length = size)
    (hel : ∀ n cs (D : DataW H) Pl, DataW.trod enc P W 0 (fun _ => true) true n e cs = some (D, Pl) → Wt P e D → ∃ x, cs = val x ∧ Q x) :
    ∃ (A : Option Addr) (c : Nat) (l : List α), cs = [.slice A l.length c] ∧ l.length ≤ c ∧ l.length * bytes ≤ 140737488351232 ∧ (∀ x ∈ l, Q x) ∧
      (0 < l.length → ∃ b off, A = some ⟨b, off, none⟩ ∧ b < W.heap.size ∧ ∀ j, j < l.length → ∀ r u, (val (l.getD j d))[r]? = some u → W.cell? ⟨b, off + j * size + r, none⟩ = some u) := by
  rcases open_slice ht h with ⟨rfl, hx⟩ | ⟨a, len, cap, m, n', D', Pl', rfl, _, hl, hm, hmm, hx, hi⟩
  · exact ⟨none, 0, [], rfl, by simp, by simp, by simp, fun h => absurd h (by simp)⟩
  · simp only [Prod.mk.injEq] at hx
    simp only [if_true] at hmm
    subst hmm
    have hwt := wt_slice ht (hx.1 ▸ hw)
    rw [hb] at hwt
    have hz : ∀ i, i < len → ∃ x : α, (∀ j u, (val x)[j]? = some u → W.cell? (a.add (i * size + j)) = some u) ∧ Q x := by
      intro i hil
      obtain ⟨cs', hc, ht'⟩ := hi i (by omega)
      rw [hs] at hc
      obtain ⟨_, hcl, hat⟩ := World.cells?_some hc
      obtain ⟨x, hcs', hq⟩ := hel _ _ _ _ ht' (hwt.2 (D' i) (List.mem_map.2 ⟨i, List.mem_range.2 hil, rfl⟩))
      subst hcs'
      refine ⟨x, fun j u hj => ?_, hq⟩
      have hj5 : j < size := by
        rcases Nat.lt_or_ge j size with h | h
        · exact h
        · rw [List.getElem?_eq_none (by rw [hlen]; exact h)] at hj; cases hj
      have q := (hat j hj5).trans hj
      rwa [Go.Deep.add_add] at q
    obtain ⟨f, hfz⟩ : ∃ f : Nat → α, ∀ i, i < len → (∀ j u, (val (f i))[j]? = some u → W.cell? (a.add (i * size + j)) = some u) ∧ Q (f i) :=
      ⟨fun i => if h : i < len then (hz i h).choose else d, fun i h => by simp only [dif_pos h]; exact (hz i h).choose_spec⟩
    have hll : ((List.range len).map f).length = len := by simp
    refine ⟨some a, _, (List.range len).map f, by rw [hll], by rw [hll]; exact hl, by rw [hll]; have := hwt.1; simp only [List.length_map, List.length_range] at this; exact Nat.le_trans (Nat.mul_le_mul_right _ (by omega)) this, fun x hx => ?_, fun hp => ?_⟩
    · obtain ⟨i, hi', rfl⟩ := List.mem_map.1 hx
      exact (hfz i (List.mem_range.1 hi')).2
    · rw [hll] at hp
      obtain ⟨b, off, spot⟩ := a
      obtain ⟨u0, hu0⟩ : ∃ u, (val (f 0))[0]? = some u := ⟨_, List.getElem?_eq_getElem (by rw [hlen]; exact h1)⟩
      have h0 := (hfz 0 hp).1 0 u0 hu0
      have hspot : spot = none := by simpa [Addr.add] using World.cell?_spot h0
      subst hspot
      have hadd : ∀ k, (⟨b, off, none⟩ : Addr).add k = ⟨b, off + k, none⟩ := Go.WideShapes.add_plain b off
      refine ⟨b, off, rfl, by have := World.block_lt_of_cell? W _ h0; rwa [hadd] at this, fun j hj r u hu => ?_⟩
      rw [hll] at hj
      have hg : ((List.range len).map f).getD j d = f j := by simp [List.getD_eq_getElem?_getD, hj]
      rw [hg] at hu
      have h := (hfz j hj).1 r u hu
      rw [hadd] at h
      rw [Nat.add_assoc]
      exact h
end
end Vers
end Go.Proofs.YtbaclinjimfncaaGreat

/-
  What a bound on the input's bulk says of its parts.
-/
namespace Go.Proofs.YtbaclinjimfncaaGreat
namespace Bulk
open Go.ChangeShapes Go.RowKit

theorem bound {H : Type} {l : List (DataW H)} (hk : Rows.uptoSmall H l = true) : Rows.uptoBulkAll l ≤ 1048576 := of_decide_eq_true hk

theorem lits_bulk {H : Type} (k : IntKind) (zs : List Int) : Rows.uptoBulkAll (H := H) (lits k zs) = zs.length := by
  induction zs with
  | nil => simp [lits, Rows.uptoBulkAll]
  | cons z zs ih =>
    have e : lits (H := H) k (z :: zs) = .lit (.int k z) :: lits k zs := by simp [lits]
    rw [e, Rows.uptoBulkAll, ih]
    simp [Rows.uptoBulk]
    omega

theorem ns_le {H : Type} {d : DataW H} {k : IntKind} {zs : List Int} {A : Option Addr} {c : Nat}
    (ho : (d = .nil ∧ A = none ∧ zs = [] ∧ c = 0) ∨ ∃ el sp, d = .slice el sp ∧ c = el.length + sp.length ∧ el = lits k zs) (_hlc : zs.length ≤ c) : zs.length ≤ Rows.uptoBulk d := by
  rcases ho with ⟨_, _, rfl, _⟩ | ⟨el, sp, rfl, _, rfl⟩
  · simp
  · simp only [Rows.uptoBulk, lits_bulk]
    omega

theorem str_le {H : Type} (s : ByteArray) : s.size ≤ Rows.uptoBulk (DataW.lit (H := H) (.string s.data.toList)) := by
  have h4 : s.data.toList.length = s.size := by rw [Array.length_toList]; rfl
  simp only [Rows.uptoBulk]
  omega
end Bulk
end Go.Proofs.YtbaclinjimfncaaGreat

/-
  Records and messages among a law's arguments.
-/
namespace Go.Proofs.YtbaclinjimfncaaGreat
namespace Code
open Go.ChangeShapes Go.WideShapes Go.ChangeAt Go.RowKit Go.Joins Go.Deep Span Vers Num

theorem cells_rec : Tryz.prog.cellsOf 45 = 2 := by kernel_rfl
theorem bytes_rec : Tryz.prog.bytesOf 45 = 40 := by kernel_rfl
theorem cells_vers : Tryz.prog.cellsOf 43 = 1 := by kernel_rfl
theorem cells_recs : Tryz.prog.cellsOf 22 = 1 := by kernel_rfl
theorem cells_errno : Tryz.prog.cellsOf 39 = 1 := by kernel_rfl
theorem cells_ints : Tryz.prog.cellsOf 23 = 1 := by kernel_rfl
theorem cells_u64s : Tryz.prog.cellsOf 32 = 1 := by kernel_rfl
theorem cells_u64 : Tryz.prog.cellsOf 28 = 1 := by kernel_rfl
theorem bytes_u64 : Tryz.prog.bytesOf 28 = 8 := by kernel_rfl
theorem bytes_i64 : Tryz.prog.bytesOf 2 = 8 := by kernel_rfl
theorem bytes_int : Tryz.prog.bytesOf 3 = 8 := by kernel_rfl

section
variable {H : Type} {enc : TypeId × Value → H} {W : World}
theorem vs_at {n : Nat} {cs : List Value} {D : DataW H} {Pl : List MemPlace} (h : DataW.trod enc Tryz.prog W 0 (fun _ => true) true n 43 cs = some (D, Pl)) (hw : Wt Tryz.prog 43 D) :
    ∃ (A : Option Addr) (c : Nat) (l : List Vr), cs = [.slice A l.length c] ∧ Vs W 0 W.heap.size A l ∧ l.length ≤ c ∧ l.length ≤ 140737488355328 := by
  obtain ⟨A, c, ps, rfl, hc, hb, hq, hp⟩ := slice_at Tryz.underlying43 h hw cells_ver bytes_ver (by omega) vcc (fun p => Pa W 0 W.heap.size p.2.1 p.2.2 p.1) z0 (fun _ => rfl) (fun n cs D Pl h hw => by
    obtain ⟨v, A, c, rfl, hpa, _⟩ := ver_at h hw
    exact ⟨(v, A, c), rfl, hpa⟩)
  refine ⟨A, c, ps.map Prod.fst, by rw [List.length_map], fun h0 => ?_, by rw [List.length_map]; exact hc, by rw [List.length_map]; omega⟩
  rw [List.length_map] at h0
  obtain ⟨b, off, e, hbl, hat⟩ := hp h0
  refine ⟨b, off, e, Nat.zero_le _, hbl, fun j hj => ?_⟩
  rw [List.length_map] at hj
  have e2 : (ps.map Prod.fst).getD j v0 = (ps.getD j z0).1 := by simp [List.getD_eq_getElem?_getD, hj]
  have hm : ps.getD j z0 ∈ ps := by
    rw [List.getD_eq_getElem?_getD, List.getElem?_eq_getElem hj]
    exact List.getElem_mem _
  rw [e2]
  exact ⟨_, _, hat j hj 0 _ (by simp [vcc]), hat j hj 1 _ (by simp [vcc]), hat j hj 2 _ (by simp [vcc]), hat j hj 3 _ (by simp [vcc]), hat j hj 4 _ (by simp [vcc]), hq _ hm⟩
set_option maxRecDepth 100000 in
theorem rec_at {n : Nat} {cs : List Value} {D : DataW H} {Pl : List MemPlace} (h : DataW.trod enc Tryz.prog W 0 (fun _ => true) true n 45 cs = some (D, Pl)) (hw : Wt Tryz.prog 45 D) :
    ∃ p : Pr, cs = rcc p ∧ (Vs W 0 W.heap.size p.2.1 p.1.2 ∧ (p.1.2.length ≤ p.2.2 ∧ p.1.2.length ≤ 140737488355328 ∧ p.1.1.size ≤ 140737488355328)) := by
  obtain ⟨y0, y1, m, hx, hl, h0, h1⟩ := trod_struct2 Tryz.underlying45 h
  rw [cells_rec] at hl
  match cs, hl with
  | [q0, q1], _ =>
    simp only [cells_vers, cells_string, List.drop_zero, List.take_succ_cons, List.take_zero, List.drop_succ_cons] at h0 h1
    obtain ⟨x, e0, x0, hxl⟩ := DataW.trod_string Tryz.underlying9 h0
    simp only [Prod.mk.injEq] at hx
    have hww := wt_struct Tryz.underlying45 (hx.1 ▸ hw)
    obtain ⟨A, c, l, e1, hs, hlc, hlw⟩ := vs_at (D := y1.1) (Pl := y1.2) h1 (hww 1 43 y1.1 rfl rfl)
    have hv := hww 0 9 y0.1 rfl rfl
    rw [show y0 = (.lit (.string x.data.toList), []) from x0] at hv
    have hvl := wt_string hv
    have hsz : x.data.toList.length = x.size := by rw [Array.length_toList]; rfl
    rw [hsz] at hvl
    simp only [List.cons.injEq, and_true] at e0 e1
    subst e0 e1
    exact ⟨((x, l), A, c), rfl, hs, hlc, hlw, by simp only; omega⟩
theorem rs_at {n : Nat} {cs : List Value} {D : DataW H} {Pl : List MemPlace} (h : DataW.trod enc Tryz.prog W 0 (fun _ => true) true n 22 cs = some (D, Pl)) (hw : Wt Tryz.prog 22 D) :
    ∃ (A : Option Addr) (c : Nat) (l : List Rc), cs = [.slice A l.length c] ∧ Rs W 0 W.heap.size A l ∧ l.length ≤ c ∧ l.length ≤ 140737488355328 := by
  obtain ⟨A, c, ps, rfl, hc, hb, hq, hp⟩ := slice_at Tryz.underlying22 h hw cells_rec bytes_rec (by omega) rcc (fun p => Vs W 0 W.heap.size p.2.1 p.1.2 ∧ (p.1.2.length ≤ p.2.2 ∧ p.1.2.length ≤ 140737488355328 ∧ p.1.1.size ≤ 140737488355328)) (r0, none, 0) (fun _ => rfl) (fun n cs D Pl h hw => rec_at h hw)
  refine ⟨A, c, ps.map Prod.fst, by rw [List.length_map], fun h0 => ?_, by rw [List.length_map]; exact hc, by rw [List.length_map]; omega⟩
  rw [List.length_map] at h0
  obtain ⟨b, off, e, hbl, hat⟩ := hp h0
  refine ⟨b, off, e, Nat.zero_le _, hbl, fun j hj => ?_⟩
  rw [List.length_map] at hj
  have e2 : (ps.map Prod.fst).getD j r0 = (ps.getD j (r0, none, 0)).1 := by simp [List.getD_eq_getElem?_getD, hj]
  have hm : ps.getD j (r0, none, 0) ∈ ps := by
    rw [List.getD_eq_getElem?_getD, List.getElem?_eq_getElem hj]
    exact List.getElem_mem _
  rw [e2]
  exact ⟨_, _, hat j hj 0 _ (by simp [rcc]), hat j hj 1 _ (by simp [rcc]), (hq _ hm).1, (hq _ hm).2⟩
theorem ns_at {t e : TypeId} {k : IntKind} (ht : Tryz.prog.underlying t = some (.slice e)) (he : Tryz.prog.cellsOf e = 1) (hb8 : Tryz.prog.bytesOf e = 8) (hu : Tryz.prog.underlying e = some (.int k))
    {n : Nat} {cs : List Value} {D : DataW H} {Pl : List MemPlace} (h : DataW.trod enc Tryz.prog W 0 (fun _ => true) true n t cs = some (D, Pl)) (hw : Wt Tryz.prog t D) :
    ∃ (A : Option Addr) (c : Nat) (l : List Int), cs = [.slice A l.length c] ∧ Ns k W W.heap.size A l ∧ l.length ≤ c ∧ l.length ≤ 140737488355328 ∧ ∀ x ∈ l, (Lit.int k x).wf = true := by
  obtain ⟨A, c, l, rfl, hc, hb, hq, hp⟩ := slice_at ht h hw he hb8 (by omega) (fun x => [.int k x]) (fun x => (Lit.int k x).wf = true) 0 (fun _ => rfl) (fun n cs D Pl h hw => by
    obtain ⟨s, e0, _, w0⟩ := DataW.trod_int hu h
    exact ⟨s, e0, w0⟩)
  refine ⟨A, c, l, rfl, fun h0 => ?_, hc, by omega, hq⟩
  obtain ⟨b, off, e, hbl, hat⟩ := hp h0
  exact ⟨b, off, e, hbl, fun j hj => by have := hat j hj 0 _ rfl; simpa using this⟩
/-! ### Bulks -/
theorem bulk_pos (d : DataW H) : 1 ≤ Rows.uptoBulk d := by
  cases d with
  | lit x => cases x <;> simp [Rows.uptoBulk]
  | _ => simp [Rows.uptoBulk]
theorem bulk_len : ∀ (l : List (DataW H)), l.length ≤ Rows.uptoBulkAll l
  | [] => by simp
  | d :: l => by
    have h1 := bulk_pos d
    have h2 := bulk_len l
    simp only [Rows.uptoBulkAll, List.length_cons]
    omega
theorem bulk_mem : ∀ {l : List (DataW H)} {d : DataW H}, d ∈ l → Rows.uptoBulk d ≤ Rows.uptoBulkAll l
  | [], _, h => by cases h
  | x :: l, d, h => by
    simp only [Rows.uptoBulkAll]
    rcases List.mem_cons.1 h with rfl | h
    · omega
    · have := bulk_mem h
      omega
theorem slice_bulk {P : Program} {t e : TypeId} (ht : P.underlying t = some (.slice e)) {n : Nat} {cs : List Value} {D : DataW H} {Pl : List MemPlace} (h : DataW.trod enc P W 0 (fun _ => true) true n t cs = some (D, Pl)) {A : Option Addr} {len c : Nat} (hcs : cs = [.slice A len c]) : len ≤ Rows.uptoBulk D := by
  rcases open_slice ht h with ⟨rfl, _⟩ | ⟨a, len', cap, m, n', D', Pl', rfl, _, hl, hm, hmm, hx, hi⟩
  · simp only [List.cons.injEq, Value.slice.injEq, and_true] at hcs
    omega
  · simp only [List.cons.injEq, Value.slice.injEq, and_true] at hcs
    simp only [Prod.mk.injEq] at hx
    rw [hx.1]
    simp only [Rows.uptoBulk]
    have := bulk_len ((List.range len').map D')
    simp only [List.length_map, List.length_range] at this
    omega
/-! ### Messages among the arguments -/
theorem wf_u64' {n : Int} (h : (Lit.int .u64 n).wf = true) : 0 ≤ n ∧ n < 18446744073709551616 := by
  simp [Lit.wf, IntKind.min, IntKind.max, IntKind.bits, IntKind.signed] at h
  omega
theorem trod_struct13 {P : Program} {w : World} {base : Nat} {spare : Nat → Bool} {held : Bool} {t : TypeId} {f0 f1 f2 f3 f4 f5 f6 f7 f8 f9 f10 f11 f12 : Field} {fuel : Nat} {cs : List Value} {x : DataW H × List MemPlace} (ht : P.underlying t = some (.struct #[f0, f1, f2, f3, f4, f5, f6, f7, f8, f9, f10, f11, f12])) (h : DataW.trod enc P w base spare held fuel t cs = some x) :
    ∃ y0 y1 y2 y3 y4 y5 y6 y7 y8 y9 y10 y11 y12 n, x.1 = .agg [y0.1, y1.1, y2.1, y3.1, y4.1, y5.1, y6.1, y7.1, y8.1, y9.1, y10.1, y11.1, y12.1] ∧ cs.length = P.cellsOf t ∧ DataW.trod enc P w base spare held n f0.type ((cs.drop f0.offset).take (P.cellsOf f0.type)) = some y0 ∧ DataW.trod enc P w base spare held n f1.type ((cs.drop f1.offset).take (P.cellsOf f1.type)) = some y1 ∧ DataW.trod enc P w base spare held n f2.type ((cs.drop f2.offset).take (P.cellsOf f2.type)) = some y2 ∧ DataW.trod enc P w base spare held n f3.type ((cs.drop f3.offset).take (P.cellsOf f3.type)) = some y3 ∧ DataW.trod enc P w base spare held n f4.type ((cs.drop f4.offset).take (P.cellsOf f4.type)) = some y4 ∧ DataW.trod enc P w base spare held n f5.type ((cs.drop f5.offset).take (P.cellsOf f5.type)) = some y5 ∧ DataW.trod enc P w base spare held n f6.type ((cs.drop f6.offset).take (P.cellsOf f6.type)) = some y6 ∧ DataW.trod enc P w base spare held n f7.type ((cs.drop f7.offset).take (P.cellsOf f7.type)) = some y7 ∧ DataW.trod enc P w base spare held n f8.type ((cs.drop f8.offset).take (P.cellsOf f8.type)) = some y8 ∧ DataW.trod enc P w base spare held n f9.type ((cs.drop f9.offset).take (P.cellsOf f9.type)) = some y9 ∧ DataW.trod enc P w base spare held n f10.type ((cs.drop f10.offset).take (P.cellsOf f10.type)) = some y10 ∧ DataW.trod enc P w base spare held n f11.type ((cs.drop f11.offset).take (P.cellsOf f11.type)) = some y11 ∧ DataW.trod enc P w base spare held n f12.type ((cs.drop f12.offset).take (P.cellsOf f12.type)) = some y12 := by
  obtain ⟨xs, n, _, rfl, hl, hlen, hf⟩ := DataW.trod_struct ht h
  match xs, hlen with
  | [y0, y1, y2, y3, y4, y5, y6, y7, y8, y9, y10, y11, y12], _ => exact ⟨y0, y1, y2, y3, y4, y5, y6, y7, y8, y9, y10, y11, y12, n, by simp, hl, by simpa using hf 0 f0 rfl, by simpa using hf 1 f1 rfl, by simpa using hf 2 f2 rfl, by simpa using hf 3 f3 rfl, by simpa using hf 4 f4 rfl, by simpa using hf 5 f5 rfl, by simpa using hf 6 f6 rfl, by simpa using hf 7 f7 rfl, by simpa using hf 8 f8 rfl, by simpa using hf 9 f9 rfl, by simpa using hf 10 f10 rfl, by simpa using hf 11 f11 rfl, by simpa using hf 12 f12 rfl⟩

end
end Code
end Go.Proofs.YtbaclinjimfncaaGreat
