/-
  Several texts of this family in one: Bulk, QuorumBulk, QuorumOrderPlain.
-/
import Derived.Test.YtbhidndgnldheaaFrame
import Derived.Test.YtbhidndgnldheaaRows
import Derived.Test.YtbhidndgnldheaaG16F
import Derived.Test.YtbhidndgnldheaaG16E
/-
  What a bound on the input's bulk says of its parts.
-/
namespace Go.Proofs.Ytbhidndgnldheaa
namespace Bulk
open Go.ChangeShapes Go.RowKit

theorem bound {H : Type} {l : List (DataW H)} (hk : Rows.uptoSmall H l = true) : Rows.uptoBulkAll l ≤ 1048576 := of_decide_eq_true hk

theorem lits_bulk {H : Type} (k : IntKind) (zs : List Int) : Rows.uptoBulkAll (H := H) (lits k zs) = zs.length := by
  induction zs with
  | nil => simp [lits, Rows.uptoBulkAll]
  | cons z zs ih =>
    have e : lits (H := H) k (z :: zs) = .lit (.int k z) :: lits k zs := by simp [lits]
    rw [e, Rows.uptoBulkAll, ih]
    simp [Rows.uptoBulk]
    omega

theorem ns_le {H : Type} {d : DataW H} {k : IntKind} {zs : List Int} {A : Option Addr} {c : Nat}
    (ho : (d = .nil ∧ A = none ∧ zs = [] ∧ c = 0) ∨ ∃ el sp, d = .slice el sp ∧ c = el.length + sp.length ∧ el = lits k zs) (_hlc : zs.length ≤ c) : zs.length ≤ Rows.uptoBulk d := by
  rcases ho with ⟨_, _, rfl, _⟩ | ⟨el, sp, rfl, _, rfl⟩
  · simp
  · simp only [Rows.uptoBulk, lits_bulk]
    omega

theorem str_le {H : Type} (s : ByteArray) : s.size ≤ Rows.uptoBulk (DataW.lit (H := H) (.string s.data.toList)) := by
  have h4 : s.data.toList.length = s.size := by rw [Array.length_toList]; rfl
  simp only [Rows.uptoBulk]
  omega
end Bulk
end Go.Proofs.Ytbhidndgnldheaa

/-
  The bulk of answers among a law's arguments: all their versions together are no more than it (layer 16).
-/
namespace Go.Proofs.Ytbhidndgnldheaa
namespace Quorum
open Go.ChangeShapes Go.WideShapes Go.ChangeAt Go.RowKit Go.Joins Go.Deep Vers Span Blk
section
variable {H : Type} {enc : TypeId × Value → H} {W : World}
theorem bulk_pos (d : DataW H) : 1 ≤ Rows.uptoBulk d := by
  cases d with
  | lit l => cases l <;> simp [Rows.uptoBulk]
  | _ => simp [Rows.uptoBulk]
theorem bulk_len (ds : List (DataW H)) : ds.length ≤ Rows.uptoBulkAll ds := by
  induction ds with
  | nil => simp [Rows.uptoBulkAll]
  | cons d ds ih =>
    have := bulk_pos d
    simp only [List.length_cons, Rows.uptoBulkAll]
    omega
theorem bulk_mem {ds : List (DataW H)} {d : DataW H} (h : d ∈ ds) : Rows.uptoBulk d ≤ Rows.uptoBulkAll ds := by
  induction ds with
  | nil => simp at h
  | cons x ds ih =>
    simp only [Rows.uptoBulkAll]
    rcases List.mem_cons.1 h with rfl | h
    · omega
    · have := ih h
      omega
theorem vs_bulk {n k c : Nat} {A : Option Addr} {D : DataW H} {Pl : List MemPlace} (h : DataW.trod enc Try.prog W 0 (fun _ => true) true n 47 [.slice A k c] = some (D, Pl)) : k ≤ Rows.uptoBulk D := by
  rcases open_slice Try.underlying47 h with ⟨hcs, hx⟩ | ⟨a, len, cap, m, n', D', Pl', hcs, _, hl, hm, hmm, hx, hi⟩
  · simp at hcs
    obtain ⟨_, rfl, _⟩ := hcs
    omega
  · simp at hcs
    obtain ⟨rfl, rfl, rfl⟩ := hcs
    simp only [Prod.mk.injEq] at hx
    rw [hx.1]
    simp only [Rows.uptoBulk]
    have := bulk_len ((List.range k).map D')
    simp only [List.length_map, List.length_range] at this
    omega
set_option maxRecDepth 100000 in
theorem rep_bulk {n : Nat} {x : Rp} {D : DataW H} {Pl : List MemPlace} (h : DataW.trod enc Try.prog W 0 (fun _ => true) true n 50 (rpc x) = some (D, Pl)) : x.1.2.length ≤ Rows.uptoBulk D := by
  obtain ⟨y0, y1, y2, m, hx, hl, h0, h1, h2⟩ := trod_struct3 Try.underlying50 h
  simp only [rpc, cells_int, cells_vs, cells_recs, List.drop_zero, List.take_succ_cons, List.take_zero, List.drop_succ_cons] at h0 h1 h2
  have h3 := vs_bulk (D := y1.1) (Pl := y1.2) h1
  rw [show D = _ from congrArg Prod.fst hx]
  simp only [Rows.uptoBulk]
  exact Nat.le_trans h3 (Nat.le_trans (bulk_mem (by simp)) (Nat.le_succ _))
theorem all_bulk : ∀ (l : List Rp) (ds : List (DataW H)), l.length ≤ ds.length → (∀ (j : Nat) (x : Rp) (d : DataW H), l[j]? = some x → ds[j]? = some d → x.1.2.length ≤ Rows.uptoBulk d) → (allV l).length ≤ Rows.uptoBulkAll ds
  | [], _, _, _ => by simp [allV]
  | x :: l, [], h, _ => by simp at h
  | x :: l, d :: ds, h, hj => by
    have h1 := all_bulk l ds (by simpa using h) fun j y e h1 h2 => hj (j + 1) y e h1 h2
    have h2 := hj 0 x d rfl rfl
    simp only [allV, List.flatMap_cons, List.length_append, Rows.uptoBulkAll] at h1 ⊢
    omega
set_option maxRecDepth 100000 in
theorem reps_bulk {A : Option Addr} {c : Nat} {l : List Rp} {d : DataW H} {p : List MemPlace} (h : DataW.Trod enc Try.prog W 0 (fun _ => true) true 42 (.slice A l.length c) d p) (hr : Rs W A l) : (allV l).length ≤ Rows.uptoBulk d := by
  obtain ⟨fuel, hf⟩ := h
  simp only [Value.cells] at hf
  rcases open_slice Try.underlying42 hf with ⟨hcs, hx⟩ | ⟨a, len, cap, m, n', D', Pl', hcs, _, hl, hm, hmm, hx, hi⟩
  · simp at hcs
    rw [hcs.2.1]
    simp [allV]
  · simp at hcs
    obtain ⟨rfl, hlen, rfl⟩ := hcs
    simp only [Prod.mk.injEq] at hx
    simp only [if_true] at hmm
    subst hmm
    rw [hx.1]
    simp only [Rows.uptoBulk]
    have h1 := all_bulk l ((List.range len).map D') (by simp [hlen]) fun j x d hj hd => by
      have hjl := (List.getElem?_eq_some_iff.1 hj).1
      obtain ⟨b, off, ea, hb, hat⟩ := hr.1 (by omega)
      injection ea with ea
      subst ea
      obtain ⟨cs', hc, ht'⟩ := hi j (by omega)
      rw [cells_rep] at hc
      obtain ⟨_, hcl, hcat⟩ := World.cells?_some hc
      have hadd : ∀ k, (⟨b, off, none⟩ : Addr).add k = ⟨b, off + k, none⟩ := Go.WideShapes.add_plain b off
      have e : cs' = rpc x := by
        refine List.ext_getElem? fun r => ?_
        rcases Nat.lt_or_ge r 3 with h3 | h3
        · have h4 := hcat r (by omega)
          rw [Go.Deep.add_add, hadd] at h4
          obtain ⟨u, hu⟩ : ∃ u, (rpc x)[r]? = some u := ⟨_, List.getElem?_eq_getElem (show r < (rpc x).length by simpa [rpc] using h3)⟩
          rw [← h4, hu, ← Nat.add_assoc]
          exact hat j x hj r u hu
        · rw [List.getElem?_eq_none (by omega), List.getElem?_eq_none (by simpa [rpc] using h3)]
      subst e
      have hdd : D' j = d := by
        rw [List.getElem?_map, List.getElem?_range (by omega)] at hd
        simpa using hd
      rw [← hdd]
      exact rep_bulk ht'
    omega
end
end Quorum
end Go.Proofs.Ytbhidndgnldheaa

/-
  In whatever order nodes are counted, each once, the same comes of it (layer 16).
-/
namespace Go.Proofs.Ytbhidndgnldheaa
namespace Quorum
open Go.RowKit Vers Span Blk
theorem count_cons (e : En) (l : List En) (node : Int) (a : List Vr) : (countF (e :: l) node a).2 = if isAt node e = true then (node, true, a) :: l else e :: (countF l node a).2 := by
  unfold countF
  rw [List.any_cons, List.findIdx_cons]
  by_cases h : isAt node e = true
  · simp [h]
  · simp only [Bool.not_eq_true] at h
    simp only [h, Bool.false_or, cond_false, Bool.false_eq_true, if_false, List.set_cons_succ]
    split <;> rfl
theorem isAt_set (x y : Int) (_h : x ≠ y) (a : List Vr) : isAt y (x, true, a) = false := by simp [isAt]
theorem isAt_two {x y : Int} (h : x ≠ y) {e : En} (hx : isAt x e = true) : isAt y e = false := by
  unfold isAt at *
  rw [Bool.and_eq_true, beq_iff_eq] at hx
  rw [hx.1]
  simp [h]
theorem count_comm {x y : Int} (h : x ≠ y) (a b : List Vr) : ∀ l : List En, (countF (countF l x a).2 y b).2 = (countF (countF l y b).2 x a).2
  | [] => rfl
  | e :: l => by
    rw [count_cons e l x a, count_cons e l y b]
    by_cases hx : isAt x e = true
    · rw [if_pos hx, isAt_two h hx, count_cons, isAt_set x y h]
      simp only [Bool.false_eq_true, if_false]
      rw [count_cons, if_pos hx]
    · rw [if_neg hx]
      by_cases hy : isAt y e = true
      · rw [if_pos hy, count_cons, if_pos hy, count_cons, isAt_set y x (fun q => h q.symm)]
        simp
      · rw [if_neg hy, count_cons, if_neg hy, count_cons, if_neg hx, count_comm h a b l]
theorem got_comm {x y : Int} (h : x ≠ y) (a b : List Vr) (l : List En) : (gotF (gotF l x a).2 y b).2 = (gotF (gotF l y b).2 x a).2 := by
  unfold gotF
  by_cases ha : RightV a
  · by_cases hb : RightV b
    · simp only [if_pos ha, if_pos hb]
      exact count_comm h a b l
    · simp only [if_pos ha, if_neg hb]
  · simp only [if_neg ha]
def foldG (l : List En) (rs : List Rp) : List En := rs.foldl (fun l r => (gotF l r.1.1 r.1.2).2) l
theorem fold_snoc (l : List En) (rs : List Rp) (r : Rp) : foldG l (rs ++ [r]) = (gotF (foldG l rs) r.1.1 r.1.2).2 := by
  unfold foldG
  rw [List.foldl_append]
  rfl
theorem nodup_inj {α β : Type} {f : α → β} : ∀ {l : List α}, (l.map f).Nodup → ∀ x ∈ l, ∀ y ∈ l, f x = f y → x = y
  | [], _, x, hx, _, _, _ => by simp at hx
  | z :: l, h, x, hx, y, hy, e => by
    rw [List.map_cons, List.nodup_cons] at h
    rcases List.mem_cons.1 hx with h1 | h1
    · rcases List.mem_cons.1 hy with h2 | h2
      · rw [h1, h2]
      · exact absurd (h1 ▸ e ▸ List.mem_map_of_mem h2) h.1
    · rcases List.mem_cons.1 hy with h2 | h2
      · exact absurd (h2 ▸ e ▸ List.mem_map_of_mem h1) h.1
      · exact nodup_inj h.2 x h1 y h2 e
theorem fold_perm {rs qs : List Rp} (h : rs.Perm qs) (hn : (rs.map fun r => r.1.1).Nodup) (l : List En) : foldG l rs = foldG l qs := by
  refine List.Perm.foldl_eq' h (fun x hx y hy z => ?_) l
  by_cases e : x.1.1 = y.1.1
  · rw [nodup_inj (f := fun r : Rp => r.1.1) hn x hx y hy e]
  · exact got_comm e _ _ z
/-- Which one is told second, at round i. -/
def kF (odd : Bool) (n i : Nat) : Nat := if odd = true then (i + n / 2) % n else n - 1 - i
def pickL (rs : List Rp) (odd : Bool) (i : Nat) : List Rp := (List.range i).map fun t => rs.getD (kF odd rs.length t) rp0
theorem pick_snoc (rs : List Rp) (odd : Bool) (i : Nat) : pickL rs odd (i + 1) = pickL rs odd i ++ [rs.getD (kF odd rs.length i) rp0] := by
  unfold pickL
  rw [List.range_succ, List.map_append]
  rfl
theorem k_lt {n i : Nat} (odd : Bool) (h : i < n) : kF odd n i < n := by
  unfold kF
  split
  · exact Nat.mod_lt _ (by omega)
  · omega
theorem pick_at (rs : List Rp) (odd : Bool) {n t : Nat} (h : t < n) : (pickL rs odd n)[t]? = some (rs.getD (kF odd rs.length t) rp0) := by
  unfold pickL
  rw [List.getElem?_map, List.getElem?_range h]
  rfl
theorem getD_some {rs : List Rp} {k : Nat} (h : k < rs.length) : some (rs.getD k rp0) = rs[k]? := by
  rw [List.getD_eq_getElem?_getD, List.getElem?_eq_getElem h]
  rfl
theorem pick_perm (rs : List Rp) (odd : Bool) : rs.Perm (pickL rs odd rs.length) := by
  cases odd
  · have e : pickL rs false rs.length = rs.reverse := by
      refine List.ext_getElem? fun t => ?_
      rcases Nat.lt_or_ge t rs.length with h | h
      · rw [pick_at rs false h, List.getElem?_reverse h, getD_some (k_lt false h)]
        rfl
      · rw [List.getElem?_eq_none (by simp [pickL]; omega), List.getElem?_eq_none (by simp; omega)]
    rw [e]
    exact (List.reverse_perm rs).symm
  · obtain ⟨h, hh⟩ : ∃ h, rs.length / 2 = h := ⟨_, rfl⟩
    have e : pickL rs true rs.length = rs.drop h ++ rs.take h := by
      refine List.ext_getElem? fun t => ?_
      rcases Nat.lt_or_ge t rs.length with ht | ht
      · rw [pick_at rs true ht, getD_some (k_lt true ht)]
        unfold kF
        rw [if_pos rfl, hh]
        rcases Nat.lt_or_ge t (rs.length - h) with h1 | h1
        · rw [List.getElem?_append_left (by rw [List.length_drop]; omega), List.getElem?_drop, Nat.mod_eq_of_lt (by omega), Nat.add_comm]
        · rw [List.getElem?_append_right (by rw [List.length_drop]; omega), List.length_drop, List.getElem?_take_of_lt (by omega)]
          have : (t + h) % rs.length = t - (rs.length - h) := by
            rw [Nat.mod_eq_sub_mod (by omega), Nat.mod_eq_of_lt (by omega)]
            omega
          rw [this]
      · rw [List.getElem?_eq_none (by simp [pickL]; omega), List.getElem?_eq_none (by simp; omega)]
    rw [e]
    have h1 : rs.Perm (rs.take h ++ rs.drop h) := by rw [List.take_append_drop]
    exact h1.trans List.perm_append_comm
theorem order_same (l : List En) {rs : List Rp} (hn : (rs.map fun r => r.1.1).Nodup) (odd : Bool) : foldG l (pickL rs odd rs.length) = foldG l rs := (fold_perm (pick_perm rs odd) hn l).symm

section
variable {P : Program} {w : World}
def rpcs (rs : List Rp) : List Value := rs.flatMap rpc
theorem rpcs_append (rs qs : List Rp) : rpcs (rs ++ qs) = rpcs rs ++ rpcs qs := by simp [rpcs]
theorem rpcs_one (r : Rp) : rpcs [r] = rpc r := by simp [rpcs]
/-- append of one answer that stands at the heap's head. -/
theorem wpList_append_rp {ops : Array Oper} {rest : List Oper} {o : Oper} {a : Act} {Q : Exit → Act → World → Prop} (hgd : o.guard = none) (s x : Operand) (t : TypeId)
    (ho : o.op = .call { callee := .builtin .append, args := #[s, x], argTypes := #[t, t] })
    (base : Nat) (e : TypeId) (i : TypeInfo) (z : Value) (bytes : Nat) (ht : P.underlying t = some (.slice e)) (hi : P.info? e = some i) (hz : i.zero = some z)
    (hsize : i.size = 3) (hby : i.bytes = bytes) (hzs : z.cells.size = 3)
    (v : Value) (n : Nat) (l : List Rp) (hs : a.eval s = v) (hown : w.ownsRow base e 3 v n (rpcs l)) (y : Rp) (c : Nat)
    (hx : a.eval x = .slice (some ⟨w.heap.size, 0, none⟩) 1 c)
    (hbytes : (n + 1) * bytes ≤ 140737488355328) (hn : n + 1 ≤ 140737488355328) (hbase : base ≤ w.heap.size)
    (h : ∀ v' w', w'.ownsRow base e 3 v' (n + 1) (rpcs (l ++ [y])) → w.grownBy w' v.ownBlock → (v'.ownBlock = v.ownBlock ∨ ∃ g, v'.ownBlock = some g ∧ w.heap.size ≤ g) → wpList P ops Q rest (a.put o.dst v') w') :
    wpList P ops Q (o :: rest) a (w.alloc (.cells #[.int .i64 y.1.1, .slice y.2.1.1 y.1.2.length y.2.1.2, .slice y.2.2.1 y.2.2.2.1 y.2.2.2.2] e)) := by
  refine wpList_append_own_at _ hgd s x t ho base e i z 3 bytes ht hi hz hsize hby hzs (by omega) v n (rpcs l) hs (hown.alloc _) ⟨w.heap.size, 0, none⟩ 1 c (rpc y) hx rfl ?_ ?_ (by unfold maxLen; omega) hbytes (by simp; omega) ?_
  · intro j u' hj
    match j, hj with
    | 0, hj => simp [rpc] at hj; subst hj; simp [Addr.add]
    | 1, hj => simp [rpc] at hj; subst hj; simp [Addr.add]
    | 2, hj => simp [rpc] at hj; subst hj; simp [Addr.add]
  · intro u' hu
    simp [rpc] at hu
    rcases hu with rfl | rfl | rfl <;> rfl
  · intro v' w' hown' hg _ hat
    refine h v' w' ?_ ?_ ?_
    · rw [rpcs_append, rpcs_one]; exact hown'
    · exact ⟨hg.os, hg.tape, hg.output, Nat.le_trans (by simp) hg.size, fun k hk hne => (hg.block k (by simp; omega) hne).trans (Below.heap_alloc w _ k hk)⟩
    · rcases hat with h1 | h1
      · exact .inl h1
      · exact .inr ⟨_, h1, by simp⟩
end
theorem info_rep : (Try.prog.info? 50).map (fun i => (i.zero, i.size, i.bytes)) = some (some (.agg #[.int .i64 0, .slice none 0 0, .slice none 0 0]), 3, 56) := by kernel_rfl
/-- Answers in a row of the call's own, read. -/
theorem rpcs_at (rs : List Rp) : ∀ (j : Nat) (x : Rp), rs[j]? = some x → ∀ r, r < 3 → (rpcs rs)[j * 3 + r]? = (rpc x)[r]? := by
  induction rs with
  | nil => intro j x h; simp at h
  | cons y rs ih =>
    intro j x h r hr
    have e : rpcs (y :: rs) = rpc y ++ rpcs rs := by simp [rpcs]
    rw [e]
    rcases j with _ | j
    · simp only [List.getElem?_cons_zero, Option.some.injEq] at h
      subst h
      rw [List.getElem?_append_left (by simp [rpc]; omega), Nat.zero_mul, Nat.zero_add]
    · rw [List.getElem?_append_right (by simp [rpc]; omega)]
      have : (j + 1) * 3 + r - (rpc y).length = j * 3 + r := by simp [rpc]; omega
      rw [this]
      exact ih j x (by simpa using h) r hr
theorem own_rs {w : World} {base n c : Nat} {A : Option Addr} {rs : List Rp} (h : w.ownsRow base 50 3 (.slice A n c) n (rpcs rs)) (hn : rs.length = n) (h0 : 0 < n) :
    ∃ g, A = some ⟨g, 0, none⟩ ∧ base ≤ g ∧ g < w.heap.size ∧ ∀ (j : Nat) (x : Rp), rs[j]? = some x → ∀ r u, (rpc x)[r]? = some u → w.cell? ⟨g, j * 3 + r, none⟩ = some u := by
  rcases h.2 with ⟨hv, h2⟩ | ⟨g, cap, cur, hv, hb, hc, hnc, hcs⟩
  · cases hv
    omega
  · injection hv with hA
    subst hA
    refine ⟨g, rfl, hb, (Array.getElem?_eq_some_iff.1 hc).1, fun j x hj r u hu => ?_⟩
    have hr : r < 3 := by
      rcases Nat.lt_or_ge r 3 with h | h
      · exact h
      · rw [List.getElem?_eq_none (by simpa [rpc] using h)] at hu
        cases hu
    have hjl := (List.getElem?_eq_some_iff.1 hj).1
    rw [h.cellAt (j * 3 + r) (by omega), rpcs_at rs j x hj r hr]
    exact hu
end Quorum
end Go.Proofs.Ytbhidndgnldheaa
