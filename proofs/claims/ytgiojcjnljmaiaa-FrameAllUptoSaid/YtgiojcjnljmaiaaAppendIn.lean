/-
  append of one cell inside a fence (a round of a range over a function): where the new row lies, too.
-/
import Derived.Test.YtgiojcjnljmaiaaLists
import Derived.OwnWalkIn
namespace Go.Proofs.Ytgiojcjnljmaiaa
open Go.RowKit

theorem wpListIn_append_one {F : Fence} {k : Nat} {P : Program} (w : World) {ops : Array Oper} {rest : List Oper} {o : Oper} {a : Act} {Q : Exit → Act → World → Prop} (hgd : o.guard = none) (s x : Operand) (t : TypeId)
    (ho : o.op = .call { callee := .builtin .append, args := #[s, x], argTypes := #[t, t] })
    (base : Nat) (e : TypeId) (i : TypeInfo) (z : Value) (bytes : Nat) (ht : P.underlying t = some (.slice e)) (hi : P.info? e = some i) (hz : i.zero = some z)
    (hsize : i.size = 1) (hby : i.bytes = bytes) (hzs : z.cells.size = 1)
    (v : Value) (n : Nat) (xs : List Value) (hs : a.eval s = v) (hown : w.ownsRow base e 1 v n xs) (u : Value) (c : Nat)
    (hx : a.eval x = .slice (some ⟨w.heap.size, 0, none⟩) 1 c) (h1 : u.oneCell' = true)
    (hbytes : (n + 1) * bytes ≤ 140737488355328) (hn : n + 1 ≤ 140737488355328) (hbase : base ≤ w.heap.size)
    (h : ∀ v' w', w'.ownsRow base e 1 v' (n + 1) (xs ++ [u]) → w.grownBy w' v.ownBlock → (v'.ownBlock = v.ownBlock ∨ ∃ g, v'.ownBlock = some g ∧ w.heap.size ≤ g) → wpListIn F k P ops Q rest (a.put o.dst v') w') :
    wpListIn F k P ops Q (o :: rest) a (w.alloc (.cells #[u] e)) := by
  refine wpListIn_plain hgd fun K hK => ?_
  obtain ⟨v', w', hrun, r1, hg, _, hat⟩ := run_append_own_at (P := P) (w := w.alloc (.cells #[u] e)) base t o.type e i z 1 bytes ht hi hz hsize hby hzs (by omega) v n xs (hown.alloc _) ⟨w.heap.size, 0, none⟩ 1 c [u] rfl
    (by
      intro j u' hj
      match j, hj with
      | 0, hj => simp at hj; subst hj; simp [Addr.add])
    (by intro u' hu; simp at hu; subst hu; exact h1) (by unfold maxLen; omega) hbytes (by simp; omega)
  unfold Oper.wpIn
  refine ⟨?_, ?_⟩
  · simp [Oper.about, ho, resolve, Target.leads, Sem.run_pure]
  · rw [Oper.semAt_plain F _ _ (by rw [ho]; intro c hc'; cases hc')]
    simp only [execOp, ho, resolve, invoke, builtin, List.map_toArray, List.map_cons, List.map_nil, hs, hx, Sem.run_bind, Sem.run_pure, Result.andThen_ok, hrun]
    refine hK _ _ (h v' w' r1 ?_ ?_)
    · exact ⟨hg.os, hg.tape, hg.output, Nat.le_trans (by simp) hg.size, fun k hk hne => (hg.block k (by simp; omega) hne).trans (Below.heap_alloc w _ k hk)⟩
    · rcases hat with h1 | h1
      · exact .inl h1
      · exact .inr ⟨_, h1, by simp⟩

namespace Frm
/-- Lists in a row of the call's own, whose bytes too lie from B on. -/
def HighLists (B : Nat) (t : TypeId) (w : World) (v : Value) (ps : List (List Int)) : Prop :=
  ∃ us : List Value, w.ownsRow B t 1 v ps.length us ∧ ∀ j, j < ps.length → ∃ A' c', us[j]? = some (.slice A' (ps.getD j []).length c') ∧ Ns .u8 w w.heap.size A' (ps.getD j []) ∧ (ps.getD j []).length ≤ c' ∧
    (0 < (ps.getD j []).length → ∀ a, A' = some a → v.ownBlock ≠ some a.block ∧ B ≤ a.block)

theorem HighLists.start (B : Nat) (t : TypeId) (w : World) : HighLists B t w (.slice none 0 0) [] :=
  ⟨[], World.ownsRow_nil _ _ _ _, fun j hj => absurd hj (by simp)⟩

theorem HighLists.low {B : Nat} {t : TypeId} {w : World} {v : Value} {ps : List (List Int)} (h : HighLists B t w v ps) : OwnLists B t w v ps := by
  obtain ⟨us, ho, hj⟩ := h
  refine ⟨us, ho, fun j h => ?_⟩
  obtain ⟨A', c', h1, h2, h3, h4⟩ := hj j h
  exact ⟨A', c', h1, h2, h3, fun hp a ha => (h4 hp a ha).1⟩

theorem OwnLists.from {B B' : Nat} {t : TypeId} {w : World} {v : Value} {ps : List (List Int)} (h : OwnLists B t w v ps) (hB : B' ≤ B) : OwnLists B' t w v ps := by
  obtain ⟨us, ho, hj⟩ := h
  refine ⟨us, ⟨ho.1, ?_⟩, hj⟩
  rcases ho.2 with hn | ⟨g, cap, cur, rfl, hbg, hg, rest⟩
  · exact .inl hn
  · exact .inr ⟨g, cap, cur, rfl, by omega, hg, rest⟩

theorem HighLists.keep {B : Nat} {t : TypeId} {w w' : World} {v : Value} {ps : List (List Int)} (h : HighLists B t w v ps) (hs : w.heap.size ≤ w'.heap.size) (hb : ∀ k, B ≤ k → k < w.heap.size → w'.heap[k]? = w.heap[k]?) : HighLists B t w' v ps := by
  obtain ⟨us, ho, hj⟩ := h
  refine ⟨us, ⟨ho.1, ?_⟩, fun j h => ?_⟩
  · rcases ho.2 with hn | ⟨g, cap, cur, rfl, hbg, hg, rest⟩
    · exact .inl hn
    · exact .inr ⟨g, cap, cur, rfl, hbg, by rw [hb g hbg (Array.getElem?_eq_some_iff.1 hg).1]; exact hg, rest⟩
  · obtain ⟨A', c', h1, h2, h3, h4⟩ := hj j h
    refine ⟨A', c', h1, fun hp => ?_, h3, h4⟩
    obtain ⟨b, off, rfl, hlt, hc⟩ := h2 hp
    have hB := (h4 hp _ rfl).2
    exact ⟨b, off, rfl, by omega, fun j hj => by
      rw [← hc j hj]
      unfold World.cell?
      rw [hb b hB hlt]⟩

/-- One more is laid behind them. -/
theorem high_more {B : Nat} {t : TypeId} {w w' : World} {v v' : Value} {ps : List (List Int)} {us : List Value} {ys : List Int} {A : Option Addr} {c : Nat} (ho : w.ownsRow B t 1 v ps.length us)
    (hj : ∀ j, j < ps.length → ∃ A' c', us[j]? = some (.slice A' (ps.getD j []).length c') ∧ Ns .u8 w w.heap.size A' (ps.getD j []) ∧ (ps.getD j []).length ≤ c' ∧
      (0 < (ps.getD j []).length → ∀ a, A' = some a → v.ownBlock ≠ some a.block ∧ B ≤ a.block))
    (hn : Ns .u8 w w.heap.size A ys) (hc : ys.length ≤ c) (ha : 0 < ys.length → ∀ a, A = some a → v.ownBlock ≠ some a.block ∧ B ≤ a.block)
    (ho' : w'.ownsRow B t 1 v' (ps.length + 1) (us ++ [.slice A ys.length c])) (hg : w.grownBy w' v.ownBlock) (hv : v'.ownBlock = v.ownBlock ∨ ∃ g, v'.ownBlock = some g ∧ w.heap.size ≤ g) :
    HighLists B t w' v' (ps ++ [ys]) := by
  have hl : us.length = ps.length := by have := ho.1; omega
  have key : ∀ (zs : List Int) (A' : Option Addr), Ns .u8 w w.heap.size A' zs → (0 < zs.length → ∀ a, A' = some a → v.ownBlock ≠ some a.block ∧ B ≤ a.block) →
      Ns .u8 w' w'.heap.size A' zs ∧ (0 < zs.length → ∀ a, A' = some a → v'.ownBlock ≠ some a.block ∧ B ≤ a.block) := by
    intro zs A' hz hne
    by_cases h0 : 0 < zs.length
    · obtain ⟨b, off, rfl, hb, hcs⟩ := hz h0
      obtain ⟨hvb, hB⟩ := hne h0 _ rfl
      refine ⟨fun _ => ⟨b, off, rfl, Nat.lt_of_lt_of_le hb hg.size, fun j hj => ?_⟩, fun _ a ha => ?_⟩
      · rw [← hcs j hj]
        unfold World.cell?
        rw [hg.block b hb (Ne.symm hvb)]
      · cases ha
        refine ⟨?_, hB⟩
        rcases hv with e | ⟨g, e, hgs⟩
        · rw [e]; exact hvb
        · rw [e]
          intro e'
          injection e' with e'
          simp only at e'
          omega
    · exact ⟨fun hp => absurd hp h0, fun hp => absurd hp h0⟩
  refine ⟨_, by rw [List.length_append]; exact ho', fun j h => ?_⟩
  rw [List.length_append] at h
  by_cases hlt : j < ps.length
  · obtain ⟨A', c', h1, h2, h3, h4⟩ := hj j hlt
    have e : (ps ++ [ys]).getD j [] = ps.getD j [] := by
      rw [List.getD_eq_getElem?_getD, List.getElem?_append_left hlt, List.getD_eq_getElem?_getD]
    rw [e]
    have k := key _ _ h2 h4
    exact ⟨A', c', by rw [List.getElem?_append_left (by omega)]; exact h1, k.1, h3, k.2⟩
  · have hj0 : j = ps.length := by simp at h; omega
    subst hj0
    have e : (ps ++ [ys]).getD ps.length [] = ys := by simp
    rw [e]
    have k := key _ _ hn ha
    exact ⟨A, c, by rw [List.getElem?_append_right (by omega)]; simp [hl], k.1, hc, k.2⟩
end Frm
end Go.Proofs.Ytgiojcjnljmaiaa
