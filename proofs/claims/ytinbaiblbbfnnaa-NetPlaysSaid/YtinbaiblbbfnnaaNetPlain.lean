/-
  Plain words of layer 8: packets, their cells; the keys of the map of the places that are parted.
-/
import Derived.Test.YtinbaiblbbfnnaaBlk
import Derived.Test.YtinbaiblbbfnnaaFacts
import Derived.Maps.OwnSet
import Derived.Maps.OwnOps
import Derived.DeepKeys4
import Derived.Laws.IdiomCopy
import Derived.Laws.Rows
namespace Go.Proofs.Ytinbaiblbbfnnaa
namespace Net
open Go.RowKit Blk Go.Maps

abbrev Ad := Int × Int
/-- A packet: from, to, data. -/
abbrev Pk := Ad × Ad × List Int
/-- A packet, and where its data lie. -/
abbrev PE := Pk × Option Addr × Nat
def p0 : Pk := ((0, 0), (0, 0), [])
def pe0 : PE := (p0, none, 0)
def okI (z : Int) : Prop := -9223372036854775808 ≤ z ∧ z ≤ 9223372036854775807
def okA (a : Ad) : Prop := okI a.1 ∧ okI a.2
def OkP (x : Pk) : Prop := (okA x.1 ∧ okA x.2.1) ∧ x.2.2.length ≤ 140737488351232 ∧ ∀ z ∈ x.2.2, 0 ≤ z ∧ z ≤ 255
def dV (x : PE) : Value := .slice x.2.1 x.1.2.2.length x.2.2
def pc (x : PE) : List Value := [.int .i64 x.1.1.1, .int .i64 x.1.1.2, .int .i64 x.1.2.1.1, .int .i64 x.1.2.1.2, dV x]
def pcs (l : List PE) : List Value := l.flatMap pc
theorem pc_length (x : PE) : (pc x).length = 5 := rfl
theorem pcs_nil : pcs [] = [] := rfl
theorem pcs_cons (x : PE) (l : List PE) : pcs (x :: l) = pc x ++ pcs l := by simp [pcs]
theorem pcs_append (l m : List PE) : pcs (l ++ m) = pcs l ++ pcs m := by simp [pcs]
theorem pcs_one (x : PE) : pcs [x] = pc x := by simp [pcs]
theorem pcs_length (l : List PE) : (pcs l).length = l.length * 5 := by
  induction l with
  | nil => rfl
  | cons x l ih =>
    rw [pcs_cons, List.length_append, ih, pc_length, List.length_cons]
    omega
theorem pcs_take (l : List PE) : ∀ j, (pcs l).take (j * 5) = pcs (l.take j) := by
  induction l with
  | nil => intro j; simp [pcs]
  | cons x l ih =>
    intro j
    rcases j with _ | j
    · simp [pcs]
    · rw [List.take_succ_cons, pcs_cons, pcs_cons, ← ih j, List.take_append, pc_length, List.take_of_length_le (by rw [pc_length]; omega), show (j + 1) * 5 - 5 = j * 5 by omega]
theorem pcs_drop (l : List PE) : ∀ j, (pcs l).drop (j * 5) = pcs (l.drop j) := by
  induction l with
  | nil => intro j; simp [pcs]
  | cons x l ih =>
    intro j
    rcases j with _ | j
    · simp [pcs]
    · rw [List.drop_succ_cons, pcs_cons, ← ih j, List.drop_append, pc_length, List.drop_of_length_le (by rw [pc_length]; omega), show (j + 1) * 5 - 5 = j * 5 by omega, List.nil_append]
theorem pcs_at (l : List PE) {j : Nat} {x : PE} (hj : l[j]? = some x) (r : Nat) (hr : r < 5) : (pcs l)[j * 5 + r]? = (pc x)[r]? := by
  have h1 : (pcs l)[j * 5 + r]? = ((pcs l).drop (j * 5))[r]? := by rw [List.getElem?_drop]
  obtain ⟨hlt, hx⟩ := List.getElem?_eq_some_iff.1 hj
  rw [h1, pcs_drop, List.drop_eq_getElem_cons hlt, hx, pcs_cons, List.getElem?_append_left (by rw [pc_length]; exact hr)]
theorem pcs_one_cell (l : List PE) : ∀ u ∈ pcs l, u.oneCell' = true := by
  intro u hu
  obtain ⟨x, _, hx⟩ := List.mem_flatMap.1 hu
  simp [pc, dV] at hx
  rcases hx with rfl | rfl | rfl | rfl | rfl <;> rfl

/-! ### Cells that are written in a row -/
theorem heap_setCells_same (g : Nat) (e : TypeId) : ∀ (vs : List Value) (o : Nat) (w : World) (cur : Array Value), w.heap[g]? = some (.cells cur e (0, 0)) → o + vs.length ≤ cur.size →
    ∃ cur', (w.setCells g o vs).heap[g]? = some (.cells cur' e (0, 0)) ∧ cur'.toList = cur.toList.take o ++ vs ++ cur.toList.drop (o + vs.length)
  | [], o, w, cur, h, _ => ⟨cur, h, by simp⟩
  | v :: r, o, w, cur, h, hl => by
    have h1 : (w.setCell ⟨g, o, none⟩ v).heap[g]? = some (.cells (cur.setIfInBounds o v) e (0, 0)) := by
      simp [World.setCell, Array.getElem?_modify, h]
    obtain ⟨cur', h2, h3⟩ := heap_setCells_same g e r (o + 1) (w.setCell ⟨g, o, none⟩ v) (cur.setIfInBounds o v) h1 (by simp at hl ⊢; omega)
    refine ⟨cur', h2, ?_⟩
    simp only [List.length_cons] at hl
    have hlo : o < cur.toList.length := by rw [Array.length_toList]; omega
    rw [h3, Array.toList_setIfInBounds, List.length_cons, show o + 1 + r.length = o + (r.length + 1) by omega, List.drop_set_of_lt (by omega), List.take_set, List.take_succ_eq_append_getElem hlo, List.set_append_right _ _ (by rw [List.length_take]; omega), List.length_take, show o - min o cur.toList.length = 0 by omega, List.set_cons_zero]
    simp

/-! ### Keys -/
theorem keyed : Keyed Try.prog 66 := Keyed.of_law (deep_law_laid Facts.laid (m := 3) (by omega) (of_decide_eq_true (by kernel_rfl)) (by kernel_rfl) (by rw [Try.underlying66]))
def kv (a b : Ad) : Value := .agg #[.int .i64 a.1, .int .i64 a.2, .int .i64 b.1, .int .i64 b.2]
theorem cells_pair : Try.prog.cellsOf 66 = 4 := by kernel_rfl
theorem cells_addr : Try.prog.cellsOf 33 = 2 := by kernel_rfl
theorem cells_i : Try.prog.cellsOf 3 = 1 := by kernel_rfl
theorem wf64 {z : Int} (h : okI z) : (Lit.int .i64 z).wf = true := WalkArith.wf_i64 h
theorem kind_pair : Try.prog.keyType 66 = true := by kernel_rfl
theorem key_some (a b : Ad) (ha : okA a) (hb : okA b) : ∃ l, keyOf Try.prog 66 (kv a b) = some l := by
  have w1 := wf64 ha.1
  have w2 := wf64 ha.2
  have w3 := wf64 hb.1
  have w4 := wf64 hb.2
  obtain ⟨m, hm⟩ : ∃ m, Try.prog.types.size = m + 2 := ⟨Try.prog.types.size - 2, by have : 2 ≤ Try.prog.types.size := of_decide_eq_true (by kernel_rfl); omega⟩
  have hA : ∀ d x y, (Lit.int .i64 x).wf = true → (Lit.int .i64 y).wf = true → Try.prog.keyLits (d + 2) 33 [.int .i64 x, .int .i64 y] = some [.int .i64 x, .int .i64 y] := fun d x y hx hy => by
    unfold Program.keyLits
    simp [Try.underlying33, cells_addr, cells_i, Program.keyLits, Try.underlying3, hx, hy]
  refine ⟨.string (keyBytes [.int .i64 a.1, .int .i64 a.2, .int .i64 b.1, .int .i64 b.2]), ?_⟩
  unfold keyOf kv
  simp only [Try.underlying66]
  rw [if_pos (by simp [kind_pair, Value.formed, Try.underlying66, cells_pair]), hm]
  unfold Program.keyLits
  simp only [Try.underlying66, Value.cells]
  rw [if_pos (by rw [cells_pair]; rfl), show List.range 2 = [0, 1] from rfl, List.mapM_cons, List.mapM_cons, List.mapM_nil]
  simp [cells_addr, hA, w1, w2, w3, w4]
theorem kv_inj {a b a' b' : Ad} (h : kv a b = kv a' b') : a = a' ∧ b = b' := by
  unfold kv at h
  injection h with h
  injection h with h
  simp at h
  exact ⟨Prod.ext h.1 h.2.1, Prod.ext h.2.2.1 h.2.2.2⟩
/-- The map says who is parted. -/
def MapIs (D : DataW Unit) (C : Ad → Ad → Bool) : Prop := Maps.IsMap D ∧ ∀ a b l, keyOf Try.prog 66 (kv a b) = some l → Maps.has D l = C a b
theorem map_none : MapIs (.map []) fun _ _ => false := ⟨Maps.isMap_empty, fun a b l _ => by simp [Maps.has]⟩
theorem map_put {D : DataW Unit} {C : Ad → Ad → Bool} (h : MapIs D C) (a b : Ad) (l : Lit) (hl : keyOf Try.prog 66 (kv a b) = some l) (d : DataW Unit) : MapIs (D.put l d) fun a' b' => (a' == a && b' == b) || C a' b' := by
  refine ⟨h.1.put _ _, fun a' b' l' hl' => ?_⟩
  by_cases e : l' = l
  · subst e
    obtain ⟨rfl, rfl⟩ := kv_inj (keyed.inj hl' hl)
    rw [Maps.has_put_same h.1 (keyed.key hl)]
    simp
  · rw [Maps.has_put_other e, h.2 a' b' l' hl']
    have : (a' == a && b' == b) = false := by
      rw [Bool.eq_false_iff]
      intro hc
      simp at hc
      obtain ⟨rfl, rfl⟩ := hc
      rw [hl] at hl'
      injection hl' with hl'
      exact e hl'.symm
    simp only [this, Bool.false_or]
theorem map_del {D : DataW Unit} {C : Ad → Ad → Bool} (h : MapIs D C) (a b : Ad) (l : Lit) (hl : keyOf Try.prog 66 (kv a b) = some l) : MapIs (D.del l) fun a' b' => !(a' == a && b' == b) && C a' b' := by
  refine ⟨h.1.del _, fun a' b' l' hl' => ?_⟩
  by_cases e : l' = l
  · subst e
    obtain ⟨rfl, rfl⟩ := kv_inj (keyed.inj hl' hl)
    rw [Maps.has_del_same]
    simp
  · rw [Maps.has_del_other e, h.2 a' b' l' hl']
    have : (a' == a && b' == b) = false := by
      rw [Bool.eq_false_iff]
      intro hc
      simp at hc
      obtain ⟨rfl, rfl⟩ := hc
      rw [hl] at hl'
      injection hl' with hl'
      exact e hl'.symm
    simp only [this, Bool.not_false, Bool.true_and]
end Net
end Go.Proofs.Ytinbaiblbbfnnaa
