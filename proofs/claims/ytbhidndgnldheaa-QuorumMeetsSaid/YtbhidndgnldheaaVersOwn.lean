/-
  Versions in a row of the call's own, five cells to a version; append onto such a row.
-/
import Derived.Test.YtbhidndgnldheaaVersSames
import Derived.Test.YtbhidndgnldheaaFacts
namespace Go.Proofs.Ytbhidndgnldheaa
namespace Vers
open Go.RowKit Span

/-- A version with the place of its past. -/
abbrev Pv := Vr × Option Addr × Nat
def z0 : Pv := (v0, none, 0)
def vcc (p : Pv) : List Value := [.int .i64 p.1.s, .int .i64 p.1.n, .slice p.2.1 p.1.past.length p.2.2, .bool p.1.gone, .string p.1.val]
def vcs (ps : List Pv) : List Value := ps.flatMap vcc
theorem vcs_cons (p : Pv) (ps : List Pv) : vcs (p :: ps) = vcc p ++ vcs ps := by simp [vcs]
theorem vcs_append (ps qs : List Pv) : vcs (ps ++ qs) = vcs ps ++ vcs qs := by simp [vcs]
theorem vcs_one (p : Pv) : vcs [p] = vcc p := by simp [vcs]
theorem vcs_length (ps : List Pv) : (vcs ps).length = ps.length * 5 := by
  induction ps with
  | nil => rfl
  | cons p ps ih =>
    rw [vcs_cons, List.length_append, ih]
    simp [vcc]
    omega
theorem vcs_at (ps : List Pv) : ∀ j, j < ps.length → ∀ r, r < 5 → (vcs ps)[j * 5 + r]? = (vcc (ps.getD j z0))[r]? := by
  induction ps with
  | nil => intro j h; simp at h
  | cons p ps ih =>
    intro j hj r hr
    rw [vcs_cons]
    rcases j with _ | j
    · rw [List.getElem?_append_left (by simp [vcc]; omega)]
      simp
    · have h := ih j (by simpa using hj) r hr
      rw [List.getElem?_append_right (by simp [vcc]; omega)]
      rw [show (j + 1) * 5 + r - (vcc p).length = j * 5 + r by simp [vcc]; omega, h]
      simp
theorem vcs_cell (ps : List Pv) : ∀ u ∈ vcs ps, u.oneCell' = true := by
  intro u hu
  obtain ⟨p, _, hp⟩ := List.mem_flatMap.1 hu
  simp [vcc] at hp
  rcases hp with rfl | rfl | rfl | rfl | rfl <;> rfl
theorem add_plain (b off k : Nat) : (⟨b, off, none⟩ : Addr).add k = ⟨b, off + k, none⟩ := by unfold Addr.add; split <;> simp_all

/-- What stands in a slice of versions, with the places of their pasts. -/
theorem vs_pick {w : World} {L B b off : Nat} {l : List Vr} (h : Vs w L B (some ⟨b, off, none⟩) l) (hl : 0 < l.length) :
    ∃ ps : List Pv, ps.map Prod.fst = l ∧ (∀ j u, (vcs ps)[j]? = some u → w.cell? ((⟨b, off, none⟩ : Addr).add j) = some u) ∧ ∀ p ∈ ps, Pa w L B p.2.1 p.2.2 p.1 := by
  obtain ⟨b', off', e, _, hb, hc⟩ := h hl
  injection e with e
  injection e with e1 e2
  subst e1 e2
  obtain ⟨f, hf⟩ : ∃ f : Nat → Option Addr × Nat, ∀ j, j < l.length → Vat w L B b (off + j * 5) (l.getD j v0) (f j).1 (f j).2 :=
    ⟨fun j => if h : j < l.length then ((hc j h).choose, (hc j h).choose_spec.choose) else (none, 0), fun j h => by simp only [dif_pos h]; exact (hc j h).choose_spec.choose_spec⟩
  have hlen : ((List.range l.length).map fun j => ((l.getD j v0, f j) : Pv)).length = l.length := by simp
  have hat : ∀ j, j < l.length → ((List.range l.length).map fun j => ((l.getD j v0, f j) : Pv)).getD j z0 = (l.getD j v0, f j) := fun j hj => by simp [List.getD_eq_getElem?_getD, hj]
  refine ⟨(List.range l.length).map fun j => (l.getD j v0, f j), ?_, fun j u hu => ?_, fun p hp => ?_⟩
  · rw [List.map_map]
    apply List.ext_getElem?
    intro j
    by_cases hj : j < l.length
    · simp [hj, List.getD_eq_getElem?_getD]
    · simp [hj]
  · have hj : j < (vcs ((List.range l.length).map fun j => ((l.getD j v0, f j) : Pv))).length := by
      rcases Nat.lt_or_ge j (vcs ((List.range l.length).map fun j => ((l.getD j v0, f j) : Pv))).length with h | h
      · exact h
      · rw [List.getElem?_eq_none h] at hu; cases hu
    rw [vcs_length, hlen] at hj
    have hq : j / 5 < l.length := by omega
    have hj2 : j = j / 5 * 5 + j % 5 := by omega
    have hr : j % 5 < 5 := Nat.mod_lt _ (by omega)
    rw [hj2, vcs_at _ _ (by rw [hlen]; exact hq) _ hr, hat _ hq] at hu
    obtain ⟨h0, h1, h2, h3, h4, _⟩ := hf (j / 5) hq
    rw [add_plain]
    have e0 : off + j = off + j / 5 * 5 + j % 5 := by omega
    rw [e0]
    obtain ⟨r, hrr⟩ : ∃ r, j % 5 = r := ⟨_, rfl⟩
    rw [hrr] at hu hr ⊢
    match r, hr with
    | 0, _ => simp [vcc] at hu; rw [← hu]; exact h0
    | 1, _ => simp [vcc] at hu; rw [← hu]; exact h1
    | 2, _ => simp [vcc] at hu; rw [← hu]; exact h2
    | 3, _ => simp [vcc] at hu; rw [← hu]; exact h3
    | 4, _ => simp [vcc] at hu; rw [← hu]; exact h4
  · obtain ⟨j, hj, rfl⟩ := List.mem_map.1 hp
    exact (hf j (List.mem_range.1 hj)).2.2.2.2.2

/-- A row of versions of the call's own; their pasts lie between L and B. -/
def OwnVs (base L B : Nat) (w : World) (v : Value) (ps : List Pv) : Prop := w.ownsRow base 69 5 v ps.length (vcs ps) ∧ ∀ p ∈ ps, Pa w L B p.2.1 p.2.2 p.1

theorem OwnVs.vs {base L B n c : Nat} {w : World} {A : Option Addr} {ps : List Pv} (h : OwnVs base L B w (.slice A n c) ps) (hL : L ≤ base) (hB : B ≤ w.heap.size) : Vs w L w.heap.size A (ps.map Prod.fst) := by
  intro hp
  rw [List.length_map] at hp
  obtain ⟨ho, hpa⟩ := h
  rcases ho.2 with ⟨_, h0⟩ | ⟨g, cap, cur, hv, hbg, hg, rest⟩
  · omega
  · injection hv with h1 h2 h3
    subst h1
    refine ⟨g, 0, rfl, by omega, (Array.getElem?_eq_some_iff.1 hg).1, fun j hj => ?_⟩
    rw [List.length_map] at hj
    have e : (ps.map Prod.fst).getD j v0 = (ps.getD j z0).1 := by simp [List.getD_eq_getElem?_getD, hj]
    have hm : ps.getD j z0 ∈ ps := by
      rw [List.getD_eq_getElem?_getD, List.getElem?_eq_getElem hj]
      exact List.getElem_mem _
    rw [e]
    have hat : ∀ r, r < 5 → ∀ u, (vcc (ps.getD j z0))[r]? = some u → w.cell? ⟨g, 0 + j * 5 + r, none⟩ = some u := fun r hr u hu => by
      have hc := ho.cells (g := g) rfl (j * 5 + r) u (by rw [vcs_at ps j hj r hr]; exact hu)
      rw [add_plain] at hc
      rw [show 0 + j * 5 + r = 0 + (j * 5 + r) by omega]
      exact hc
    exact ⟨_, _, hat 0 (by omega) _ (by simp [vcc]), hat 1 (by omega) _ (by simp [vcc]), hat 2 (by omega) _ (by simp [vcc]), hat 3 (by omega) _ (by simp [vcc]), hat 4 (by omega) _ (by simp [vcc]), (hpa _ hm).more hB⟩
theorem OwnVs.below {base L B : Nat} {w w' : World} {v : Value} {ps : List Pv} (h : OwnVs base L B w v ps) (hB : B ≤ w.heap.size) (hb : Below w.heap.size w w') : OwnVs base L B w' v ps :=
  ⟨own_below h.1 hb (Nat.le_refl _), fun p hp => (h.2 p hp).below (hb.mono hB)⟩
theorem pa_grown {w w' : World} {L B : Nat} {row : Option Nat} {ps : List Pv} (h : ∀ p ∈ ps, Pa w L B p.2.1 p.2.2 p.1) (hg : w.grownBy w' row) (hB : B ≤ w.heap.size) (hr : ∀ k, row = some k → B ≤ k) : ∀ p ∈ ps, Pa w' L B p.2.1 p.2.2 p.1 :=
  fun p hp => (h p hp).keep fun a _ ha => World.cell?_of_block (hg.block a.block (by omega) (fun e => by have := hr _ e.symm; omega))

theorem info_ver : (Try.prog.info? 69).map (fun i => (i.zero, i.size, i.bytes)) = some (some (.agg #[.int .i64 0, .int .i64 0, .slice none 0 0, .bool false, .string ⟨#[]⟩]), 5, 64) := by kernel_rfl

section
variable {P : Program} (w : World)
/-- append of one version that was just laid in a block of its own, onto a row of the call's own. -/
theorem wpList_append_v {ops : Array Oper} {rest : List Oper} {o : Oper} {a : Act} {Q : Exit → Act → World → Prop} (hgd : o.guard = none) (s x : Operand) (t : TypeId)
    (ho : o.op = .call { callee := .builtin .append, args := #[s, x], argTypes := #[t, t] })
    (base : Nat) (e : TypeId) (i : TypeInfo) (z : Value) (bytes : Nat) (ht : P.underlying t = some (.slice e)) (hi : P.info? e = some i) (hz : i.zero = some z)
    (hsize : i.size = 5) (hby : i.bytes = bytes) (hzs : z.cells.size = 5)
    (v : Value) (n : Nat) (ps : List Pv) (hs : a.eval s = v) (hown : w.ownsRow base e 5 v n (vcs ps)) (p : Pv) (k : Nat) (hk : p.1.past.length = k) (c : Nat)
    (hx : a.eval x = .slice (some ⟨w.heap.size, 0, none⟩) 1 c)
    (hbytes : (n + 1) * bytes ≤ 140737488355328) (hn : n + 1 ≤ 140737488355328) (hbase : base ≤ w.heap.size)
    (h : ∀ v' w', w'.ownsRow base e 5 v' (n + 1) (vcs (ps ++ [p])) → w.grownBy w' v.ownBlock → (v'.ownBlock = v.ownBlock ∨ ∃ g, v'.ownBlock = some g ∧ w.heap.size ≤ g) → wpList P ops Q rest (a.put o.dst v') w') :
    wpList P ops Q (o :: rest) a (w.alloc (.cells #[.int .i64 p.1.s, .int .i64 p.1.n, .slice p.2.1 k p.2.2, .bool p.1.gone, .string p.1.val] e)) := by
  subst hk
  refine wpList_append_own_at _ hgd s x t ho base e i z 5 bytes ht hi hz hsize hby hzs (by omega) v n (vcs ps) hs (hown.alloc _) ⟨w.heap.size, 0, none⟩ 1 c (vcc p) hx rfl ?_ ?_ (by unfold maxLen; omega) hbytes (by simp; omega) ?_
  · intro j u' hj
    match j, hj with
    | 0, hj => simp [vcc] at hj; subst hj; simp [Addr.add]
    | 1, hj => simp [vcc] at hj; subst hj; simp [Addr.add]
    | 2, hj => simp [vcc] at hj; subst hj; simp [Addr.add]
    | 3, hj => simp [vcc] at hj; subst hj; simp [Addr.add]
    | 4, hj => simp [vcc] at hj; subst hj; simp [Addr.add]
  · intro u' hu
    exact vcs_cell [p] u' (by rw [vcs_one]; exact hu)
  · intro v' w' hown' hg _ hat
    refine h v' w' ?_ ?_ ?_
    · rw [vcs_append, vcs_one]; exact hown'
    · exact ⟨hg.os, hg.tape, hg.output, Nat.le_trans (by simp) hg.size, fun k hk hne => (hg.block k (by simp; omega) hne).trans (Below.heap_alloc w _ k hk)⟩
    · rcases hat with h1 | h1
      · exact .inl h1
      · exact .inr ⟨_, h1, by simp⟩

/-- append of a slice of versions, nil and empty ones too, onto a row of the call's own. -/
theorem wpList_append_vs {ops : Array Oper} {rest : List Oper} {o : Oper} {a : Act} {Q : Exit → Act → World → Prop} (hgd : o.guard = none) (s x : Operand) (t : TypeId)
    (ho : o.op = .call { callee := .builtin .append, args := #[s, x], argTypes := #[t, t] })
    (base : Nat) (e : TypeId) (i : TypeInfo) (z : Value) (bytes : Nat) (ht : P.underlying t = some (.slice e)) (hi : P.info? e = some i) (hz : i.zero = some z)
    (hsize : i.size = 5) (hby : i.bytes = bytes) (hzs : z.cells.size = 5)
    (v : Value) (n : Nat) (ps : List Pv) (hs : a.eval s = v) (hown : w.ownsRow base e 5 v n (vcs ps)) (L B : Nat) (A : Option Addr) (m c : Nat) (ys : List Vr) (hm : ys.length = m)
    (hx : a.eval x = .slice A m c) (hr : Vs w L B A ys)
    (hbytes : (n + m) * bytes ≤ 140737488355328) (hn : n + m ≤ 140737488355328) (hbase : base ≤ w.heap.size)
    (h : ∀ v' w' qs, qs.map Prod.fst = ys → (∀ p ∈ qs, Pa w L B p.2.1 p.2.2 p.1) → w'.ownsRow base e 5 v' (n + m) (vcs (ps ++ qs)) → w.grownBy w' v.ownBlock → (v'.ownBlock = v.ownBlock ∨ v'.ownBlock = some w.heap.size) → wpList P ops Q rest (a.put o.dst v') w') :
    wpList P ops Q (o :: rest) a w := by
  subst hm
  rcases A with _ | ad
  · have h0 : ys = [] := by
      rcases Nat.eq_zero_or_pos ys.length with h0 | h0
      · exact List.eq_nil_of_length_eq_zero h0
      · obtain ⟨b, off, he, _⟩ := hr h0
        cases he
    subst h0
    refine wpList_plain hgd fun K hK => ?_
    have hrun : (Builtin.append_ #[t, t] o.type #[v, .slice none 0 c]).run P w = .ok v w := by
      rcases hown.2 with ⟨rfl, rfl⟩ | ⟨g, cap, cur, rfl, _, _, hnc, _⟩
      · simp [Builtin.append_, run_underlying ht, sizeOf, typeInfo, hi, Builtin.lenOf, Builtin.firstCells]
      · simp [Builtin.append_, run_underlying ht, sizeOf, typeInfo, hi, Builtin.lenOf, Builtin.firstCells, hnc, storeCells]
    unfold Oper.wp execOp
    simp only [ho, resolve, invoke, builtin, Sem.run_bind, Sem.run_pure, Result.andThen_ok, List.map_toArray, List.map_cons, List.map_nil, hs, hx, List.length_nil, hrun]
    exact hK _ _ (h v w [] rfl (by simp) (by simpa using hown) (World.grownBy.refl w _) (.inl rfl))
  · rcases ys with _ | ⟨y, ys⟩
    · refine wpList_append_own_at w hgd s x t ho base e i z 5 bytes ht hi hz hsize hby hzs (by omega) v n (vcs ps) hs hown ad 0 c [] hx (by simp) (by simp) (by simp) (by unfold maxLen; simp at hn; omega) hbytes hbase
        fun v' w' h1 h2 _ h4 => h v' w' [] rfl (by simp) (by simpa using h1) h2 h4
    · obtain ⟨b, off, he, _⟩ := hr (by simp)
      injection he with he
      subst he
      obtain ⟨qs, hq1, hq2, hq3⟩ := vs_pick hr (by simp)
      have hql : qs.length = (y :: ys).length := by rw [← hq1, List.length_map]
      exact wpList_append_own_at w hgd s x t ho base e i z 5 bytes ht hi hz hsize hby hzs (by omega) v n (vcs ps) hs hown ⟨b, off, none⟩ _ c (vcs qs) hx (by rw [vcs_length, hql]) hq2 (vcs_cell qs) (by unfold maxLen; omega) hbytes hbase
        fun v' w' h1 h2 _ h4 => h v' w' qs hq1 hq3 (by rw [vcs_append]; exact h1) h2 h4
end
end Vers
end Go.Proofs.Ytbhidndgnldheaa
