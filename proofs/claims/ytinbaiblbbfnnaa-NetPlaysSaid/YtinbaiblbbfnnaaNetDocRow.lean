/-
  append of one packet onto a row of packets of the call's own (layer 8).
-/
import Derived.Test.YtinbaiblbbfnnaaNetDocLook
namespace Go.Proofs.Ytinbaiblbbfnnaa
namespace Net
open Go.RowKit Blk
section
variable {P : Program} {w : World}
theorem wpList_append_pk {ops : Array Oper} {rest : List Oper} {o : Oper} {a : Act} {Q : Exit → Act → World → Prop} (hgd : o.guard = none) (s x : Operand) (t : TypeId)
    (ho : o.op = .call { callee := .builtin .append, args := #[s, x], argTypes := #[t, t] })
    (base : Nat) (e : TypeId) (i : TypeInfo) (z : Value) (bytes : Nat) (ht : P.underlying t = some (.slice e)) (hi : P.info? e = some i) (hz : i.zero = some z)
    (hsize : i.size = 5) (hby : i.bytes = bytes) (hzs : z.cells.size = 5)
    (v : Value) (n : Nat) (l : List PE) (hs : a.eval s = v) (hown : w.ownsRow base e 5 v n (pcs l)) (y : PE) (c : Nat)
    (hx : a.eval x = .slice (some ⟨w.heap.size, 0, none⟩) 1 c)
    (hbytes : (n + 1) * bytes ≤ 140737488355328) (hn : n + 1 ≤ 140737488355328) (hbase : base ≤ w.heap.size)
    (h : ∀ v' w', w'.ownsRow base e 5 v' (n + 1) (pcs (l ++ [y])) → w.grownBy w' v.ownBlock → (v'.ownBlock = v.ownBlock ∨ ∃ g, v'.ownBlock = some g ∧ w.heap.size ≤ g) → wpList P ops Q rest (a.put o.dst v') w') :
    wpList P ops Q (o :: rest) a (w.alloc (.cells #[.int .i64 y.1.1.1, .int .i64 y.1.1.2, .int .i64 y.1.2.1.1, .int .i64 y.1.2.1.2, .slice y.2.1 y.1.2.2.length y.2.2] e)) := by
  refine wpList_append_own_at _ hgd s x t ho base e i z 5 bytes ht hi hz hsize hby hzs (by omega) v n (pcs l) hs (hown.alloc _) ⟨w.heap.size, 0, none⟩ 1 c (pc y) hx rfl ?_ ?_ (by unfold maxLen; omega) hbytes (by simp; omega) ?_
  · intro j u' hj
    match j, hj with
    | 0, hj => simp [pc] at hj; subst hj; simp [Addr.add]
    | 1, hj => simp [pc] at hj; subst hj; simp [Addr.add]
    | 2, hj => simp [pc] at hj; subst hj; simp [Addr.add]
    | 3, hj => simp [pc] at hj; subst hj; simp [Addr.add]
    | 4, hj => simp [pc, dV] at hj; subst hj; simp [Addr.add]
  · intro u' hu
    simp [pc, dV] at hu
    rcases hu with rfl | rfl | rfl | rfl | rfl <;> rfl
  · intro v' w' hown' hg _ hat
    refine h v' w' ?_ ?_ ?_
    · rw [pcs_append, pcs_one]; exact hown'
    · exact ⟨hg.os, hg.tape, hg.output, Nat.le_trans (by simp) hg.size, fun k hk hne => (hg.block k (by simp; omega) hne).trans (Below.heap_alloc w _ k hk)⟩
    · rcases hat with h1 | h1
      · exact .inl h1
      · exact .inr ⟨_, h1, by simp⟩
end
end Net
end Go.Proofs.Ytinbaiblbbfnnaa
