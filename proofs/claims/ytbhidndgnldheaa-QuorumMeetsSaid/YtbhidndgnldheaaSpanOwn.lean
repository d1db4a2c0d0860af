/-
  Spans that a call has made: a row of its own, three cells to a span; and the small functions on spans.
-/
import Derived.Test.YtbhidndgnldheaaSpanPlain
import Derived.Test.YtbhidndgnldheaaRows
namespace Go.Proofs.Ytbhidndgnldheaa
namespace Span
open Go.RowKit

def spv (x : Sp) : Value := .agg #[.int .i64 x.1, .int .i64 x.2.1, .int .i64 x.2.2]
def spc (x : Sp) : List Value := [.int .i64 x.1, .int .i64 x.2.1, .int .i64 x.2.2]
def sps (l : List Sp) : List Value := l.flatMap spc
theorem sps_nil : sps [] = [] := rfl
theorem sps_one (x : Sp) : sps [x] = spc x := by simp [sps]
theorem sps_append (l m : List Sp) : sps (l ++ m) = sps l ++ sps m := by simp [sps]
theorem sps_length (l : List Sp) : (sps l).length = l.length * 3 := by
  induction l with
  | nil => rfl
  | cons x l ih =>
    have : sps (x :: l) = spc x ++ sps l := by simp [sps]
    rw [this, List.length_append, ih]
    simp [spc]
    omega
theorem sps_at (l : List Sp) : ∀ j, j < l.length → (sps l)[j * 3]? = some (.int .i64 (l.getD j (0, 0, 0)).1) ∧ (sps l)[j * 3 + 1]? = some (.int .i64 (l.getD j (0, 0, 0)).2.1) ∧ (sps l)[j * 3 + 2]? = some (.int .i64 (l.getD j (0, 0, 0)).2.2) := by
  induction l with
  | nil => intro j h; simp at h
  | cons x l ih =>
    intro j hj
    have h0 : sps (x :: l) = spc x ++ sps l := by simp [sps]
    rw [h0]
    rcases j with _ | j
    · simp [spc]
    · have := ih j (by simpa using hj)
      simp only [List.getD_cons_succ]
      rw [show (j + 1) * 3 = 3 + j * 3 by omega]
      refine ⟨?_, ?_, ?_⟩
      · rw [List.getElem?_append_right (by simp [spc])]; simpa [spc] using this.1
      · rw [List.getElem?_append_right (by simp [spc]; omega)]
        rw [show 3 + j * 3 + 1 - (spc x).length = j * 3 + 1 by simp [spc]; omega]
        exact this.2.1
      · rw [List.getElem?_append_right (by simp [spc]; omega)]
        rw [show 3 + j * 3 + 2 - (spc x).length = j * 3 + 2 by simp [spc]; omega]
        exact this.2.2
theorem sps_cell (l : List Sp) : ∀ u ∈ sps l, ∃ z, u = .int .i64 z := by
  intro u hu
  obtain ⟨x, _, hx⟩ := List.mem_flatMap.1 hu
  simp [spc] at hx
  rcases hx with rfl | rfl | rfl <;> exact ⟨_, rfl⟩

/-- The call has made the slice of the spans l, and has turned nothing that was there. -/
def MadeSs (l : List Sp) (w : World) (r : Ending) (w' : World) : Prop :=
  ∃ A c, r = .returned (.slice A l.length c) ∧ w'.ownsRow w.heap.size 111 3 (.slice A l.length c) l.length (sps l) ∧ Below w.heap.size w w'

theorem own_ss {w : World} {base : Nat} {e : TypeId} {A : Option Addr} {c n : Nat} {l : List Sp} (h : w.ownsRow base e 3 (.slice A n c) l.length (sps l)) : Ss w w.heap.size A l := by
  intro hp
  rcases h.2 with ⟨_, h0⟩ | ⟨g, cap, cur, hv, hbg, hg, hn, hcm, hcs, htake⟩
  · omega
  · injection hv with h1 h2 h3
    subst h1
    have hat : ∀ j u, (sps l)[j]? = some u → w.cell? ⟨g, 0 + j, none⟩ = some u := by
      intro j u hu
      have hc := h.cells (g := g) rfl j u hu
      have hadd : (⟨g, 0, none⟩ : Addr).add j = ⟨g, 0 + j, none⟩ := by unfold Addr.add; split <;> simp_all
      rwa [hadd] at hc
    refine ⟨g, 0, rfl, (Array.getElem?_eq_some_iff.1 hg).1, fun j hj => ?_⟩
    obtain ⟨h1, h2, h3⟩ := sps_at l j hj
    exact ⟨hat _ _ h1, hat _ _ h2, hat _ _ h3⟩

/-- What stands in a slice of spans, cell by cell. -/
theorem Ss.cells {w : World} {B : Nat} {b off : Nat} {l : List Sp} (h : Ss w B (some ⟨b, off, none⟩) l) : ∀ j u, (sps l)[j]? = some u → w.cell? ((⟨b, off, none⟩ : Addr).add j) = some u := by
  intro j u hu
  have hj : j < (sps l).length := by
    rcases Nat.lt_or_ge j (sps l).length with h | h
    · exact h
    · rw [List.getElem?_eq_none h] at hu; cases hu
  rw [sps_length] at hj
  obtain ⟨b', off', e, _, hc⟩ := h (by omega)
  injection e with e
  injection e with e1 e2
  subst e1
  subst e2
  have hadd : (⟨b, off, none⟩ : Addr).add j = ⟨b, off + j, none⟩ := by unfold Addr.add; split <;> simp_all
  rw [hadd]
  have hq : j / 3 < l.length := by omega
  obtain ⟨s0, s1, s2⟩ := sps_at l (j / 3) hq
  obtain ⟨c0, c1, c2⟩ := hc (j / 3) hq
  have hm : j = j / 3 * 3 ∨ j = j / 3 * 3 + 1 ∨ j = j / 3 * 3 + 2 := by omega
  rcases hm with hm | hm | hm
  · rw [hm] at hu ⊢
    rw [s0] at hu
    rw [c0, ← hu]
  · rw [hm] at hu ⊢
    rw [s1] at hu
    rw [← Nat.add_assoc, c1, ← hu]
  · rw [hm] at hu ⊢
    rw [s2] at hu
    rw [← Nat.add_assoc, c2, ← hu]

section
variable {P : Program} (w : World)
/-- append of one span that was just laid in a block of its own, onto a row of the call's own. -/
theorem wpList_append_sp {ops : Array Oper} {rest : List Oper} {o : Oper} {a : Act} {Q : Exit → Act → World → Prop} (hgd : o.guard = none) (s x : Operand) (t : TypeId)
    (ho : o.op = .call { callee := .builtin .append, args := #[s, x], argTypes := #[t, t] })
    (base : Nat) (e : TypeId) (i : TypeInfo) (z : Value) (bytes : Nat) (ht : P.underlying t = some (.slice e)) (hi : P.info? e = some i) (hz : i.zero = some z)
    (hsize : i.size = 3) (hby : i.bytes = bytes) (hzs : z.cells.size = 3)
    (v : Value) (n : Nat) (l : List Sp) (hs : a.eval s = v) (hown : w.ownsRow base e 3 v n (sps l)) (y : Sp) (c : Nat)
    (hx : a.eval x = .slice (some ⟨w.heap.size, 0, none⟩) 1 c)
    (hbytes : (n + 1) * bytes ≤ 140737488355328) (hn : n + 1 ≤ 140737488355328) (hbase : base ≤ w.heap.size)
    (h : ∀ v' w', w'.ownsRow base e 3 v' (n + 1) (sps (l ++ [y])) → w.grownBy w' v.ownBlock → (v'.ownBlock = v.ownBlock ∨ ∃ g, v'.ownBlock = some g ∧ w.heap.size ≤ g) → wpList P ops Q rest (a.put o.dst v') w') :
    wpList P ops Q (o :: rest) a (w.alloc (.cells #[.int .i64 y.1, .int .i64 y.2.1, .int .i64 y.2.2] e)) := by
  refine wpList_append_own_at _ hgd s x t ho base e i z 3 bytes ht hi hz hsize hby hzs (by omega) v n (sps l) hs (hown.alloc _) ⟨w.heap.size, 0, none⟩ 1 c (spc y) hx rfl ?_ ?_ (by unfold maxLen; omega) hbytes (by simp; omega) ?_
  · intro j u' hj
    match j, hj with
    | 0, hj => simp [spc] at hj; subst hj; simp [Addr.add]
    | 1, hj => simp [spc] at hj; subst hj; simp [Addr.add]
    | 2, hj => simp [spc] at hj; subst hj; simp [Addr.add]
  · intro u' hu
    simp [spc] at hu
    rcases hu with rfl | rfl | rfl <;> rfl
  · intro v' w' hown' hg _ hat
    refine h v' w' ?_ ?_ ?_
    · rw [sps_append, sps_one]; exact hown'
    · exact ⟨hg.os, hg.tape, hg.output, Nat.le_trans (by simp) hg.size, fun k hk hne => (hg.block k (by simp; omega) hne).trans (Below.heap_alloc w _ k hk)⟩
    · rcases hat with h1 | h1
      · exact .inl h1
      · exact .inr ⟨_, h1, by simp⟩
end

/-! ### The small functions -/
/-- A dot that is right. -/
def okDot (d : Int × Int) : Prop := 1 ≤ d.1 ∧ d.1 ≤ 16 ∧ 1 ≤ d.2 ∧ d.2 ≤ 4611686018427387904
instance (d : Int × Int) : Decidable (okDot d) := by unfold okDot; infer_instance
instance (a b : Sp) : Decidable (starts a b) := by unfold starts; infer_instance
theorem apart_is (a b : Sp) (w : World) (hb : 1 ≤ b.2.1 ∧ b.2.1 ≤ 9223372036854775807) :
    Calls Try.prog 79 #[.agg #[.int .i64 a.1, .int .i64 a.2.1, .int .i64 a.2.2], .agg #[.int .i64 b.1, .int .i64 b.2.1, .int .i64 b.2.2]] w fun e w' => e = .returned (.bool (decide (apart a b))) ∧ Below w.heap.size w w' := by
  obtain ⟨a0, a1, a2⟩ := a
  obtain ⟨b0, b1, b2⟩ := b
  obtain ⟨q, hq⟩ : ∃ q : Bool, decide (apart (a0, a1, a2) (b0, b1, b2)) = q := ⟨_, rfl⟩
  rw [hq]
  have H := Lib.hid ((decide_eq_true_iff (p := apart (a0, a1, a2) (b0, b1, b2))).symm.trans (by rw [hq]))
  simp only at hb ⊢
  clear hq
  go_enter Try.func79, Try.ntmps79
  go_wp2
  all_goals go_ret
  all_goals refine ⟨?_, ((Below.refl _ _).alloc (Nat.le_refl _) _).alloc (by simp) _⟩
  all_goals refine congrArg (fun b => Ending.returned (Value.bool b)) ?_
  all_goals rw [Bool.eq_iff_iff, ← H.out]
  all_goals unfold apart
  all_goals simp only [decide_eq_true_eq, true_iff]
  all_goals omega
theorem refDot_is (d : Int × Int) (w : World) :
    Calls Try.prog 50 #[.agg #[.int .i64 d.1, .int .i64 d.2]] w fun e w' => e = .returned (.bool (decide (okDot d))) ∧ Below w.heap.size w w' := by
  obtain ⟨d0, d1⟩ := d
  obtain ⟨q, hq⟩ : ∃ q : Bool, decide (okDot (d0, d1)) = q := ⟨_, rfl⟩
  rw [hq]
  have H := Lib.hid ((decide_eq_true_iff (p := okDot (d0, d1))).symm.trans (by rw [hq]))
  simp only
  clear hq
  go_enter Try.func50, Try.ntmps50
  go_wp2
  all_goals go_ret
  all_goals refine ⟨?_, (Below.refl _ _).alloc (Nat.le_refl _) _⟩
  all_goals refine congrArg (fun b => Ending.returned (Value.bool b)) ?_
  all_goals rw [Bool.eq_iff_iff, ← H.out]
  all_goals unfold okDot
  all_goals simp only [decide_eq_true_eq, Bool.false_eq_true, false_iff]
  all_goals omega
end Span
end Go.Proofs.Ytbhidndgnldheaa
