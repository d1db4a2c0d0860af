/-
 Versions gathered in a row of the call's own (the first part of VersLawPlain).
-/
import Derived.Test.YtekhaejhmlebbaaGreatQVersMore
import Derived.Test.YtekhaejhmlebbaaGreatQGSame
import Derived.Test.YtekhaejhmlebbaaGreatQGFill
import Derived.Deep.DeepAppendWide
namespace Go.Proofs.YtekhaejhmlebbaaGreat
namespace Vers
open Go.RowKit Span
attribute [local go_sem ↓] Go.wp_at_zero Go.wp_at_succ

section
variable {P : Program} (w : World)
theorem wpList_append_vs_wide {ops : Array Oper} {rest : List Oper} {o : Oper} {a : Act} {Q : Exit → Act → World → Prop} (hgd : o.guard = none) (s x : Operand) (t : TypeId)
  (ho : o.op = .call { callee := .builtin .append, args := #[s, x], argTypes := #[t, t] })
  (base : Nat) (e : TypeId) (i : TypeInfo) (z : Value) (bytes : Nat) (ht : P.underlying t = some (.slice e)) (hi : P.info? e = some i) (hz : i.zero = some z)
  (hsize : i.size = 5) (hby : i.bytes = bytes) (hzs : z.cells.size = 5)
  (v : Value) (n : Nat) (ps : List Pv) (hs : a.eval s = v) (hown : w.ownsRow base e 5 v n (vcs ps)) (L B : Nat) (A : Option Addr) (m c : Nat) (ys : List Vr) (hm : ys.length = m)
  (hx : a.eval x = .slice A m c) (hr : Vs w L B A ys)
  (hbytes : ((n + m) + (n + m) / 4 + 192) * bytes ≤ 281474976710656) (hn : n + m ≤ 281474976710656) (hbase : base ≤ w.heap.size)
  (h : ∀ v' w' qs, qs.map Prod.fst = ys → (∀ p ∈ qs, Pa w L B p.2.1 p.2.2 p.1) → w'.ownsRow base e 5 v' (n + m) (vcs (ps ++ qs)) → w.grownBy w' v.ownBlock → wpList P ops Q rest (a.put o.dst v') w') :
  wpList P ops Q (o :: rest) a w := by
 subst hm
 rcases A with _ | ad
 ·have h0 : ys = [] := by
   rcases Nat.eq_zero_or_pos ys.length with h0 | h0
   ·exact List.eq_nil_of_length_eq_zero h0
   ·obtain ⟨b, off, he, _⟩ := hr h0
    cases he
  subst h0
  refine wpList_plain hgd fun K hK => ?_
  have hrun : (Builtin.append_ #[t, t] o.type #[v, .slice none 0 c]).run P w = .ok v w := by
   rcases hown.2 with ⟨rfl, rfl⟩ | ⟨g, cap, cur, rfl, _, _, hnc, _⟩
   ·simp [Builtin.append_, run_underlying ht, sizeOf, typeInfo, hi, Builtin.lenOf, Builtin.firstCells]
   ·simp [Builtin.append_, run_underlying ht, sizeOf, typeInfo, hi, Builtin.lenOf, Builtin.firstCells, hnc, storeCells]
  unfold Oper.wp execOp
  simp only [ho, resolve, invoke, builtin, Sem.run_bind, Sem.run_pure, Result.andThen_ok, List.map_toArray, List.map_cons, List.map_nil, hs, hx, List.length_nil, hrun]
  exact hK _ _ (h v w [] rfl (by simp) (by simpa using hown) (World.grownBy.refl w _))
 ·rcases ys with _ | ⟨y, ys⟩
  ·refine wpList_append_own_wide w hgd s x t ho base e i z 5 bytes ht hi hz hsize hby hzs (by omega) v n (vcs ps) hs hown ad 0 c [] hx (by simp) (by simp) (by simp) (by unfold maxLen; simp at hn; omega) hbytes hbase
    fun v' w' h1 h2 _ => h v' w' [] rfl (by simp) (by simpa using h1) h2
  ·obtain ⟨b, off, he, _⟩ := hr (by simp)
   injection he with he
   subst he
   obtain ⟨qs, hq1, hq2, hq3⟩ := vs_pick hr (by simp)
   have hql : qs.length = (y :: ys).length := by rw [← hq1, List.length_map]
   exact wpList_append_own_wide w hgd s x t ho base e i z 5 bytes ht hi hz hsize hby hzs (by omega) v n (vcs ps) hs hown ⟨b, off, none⟩ _ c (vcs qs) hx (by rw [vcs_length, hql]) hq2 (vcs_cell qs) (by unfold maxLen; omega) hbytes hbase
    fun v' w' h1 h2 _ => h v' w' qs hq1 hq3 (by rw [vcs_append]; exact h1) h2
end

def Gath (w : World) (base n : Nat) (ps : List Pv) (l : List Vr) (v : Value) (V : World) : Prop :=
 V.ownsRow base 59 5 v n (vcs ps) ∧ Below base w V ∧ (∀ p ∈ ps, Pa V 0 base p.2.1 p.2.2 p.1) ∧ ps.map Prod.fst = l ∧ base ≤ V.heap.size
theorem gath_next {w V V' : World} {base n m : Nat} {ps qs : List Pv} {l ys : List Vr} {v v' : Value} (h : Gath w base n ps l v V) (hq : qs.map Prod.fst = ys) (hpa : ∀ p ∈ qs, Pa V 0 base p.2.1 p.2.2 p.1) (o : V'.ownsRow base 59 5 v' (n + m) (vcs (ps ++ qs))) (g : V.grownBy V' v.ownBlock) :
  Gath w base (n + m) (ps ++ qs) (l ++ ys) v' V' := by
 have hrow : ∀ k, v.ownBlock = some k → base ≤ k := fun k hk => (h.1.lt k hk).1
 refine ⟨o, h.2.1.grown g h.2.2.2.2 hrow, pa_grown (fun p hp => ?_) g h.2.2.2.2 hrow, by rw [List.map_append, h.2.2.2.1, hq], Nat.le_trans h.2.2.2.2 g.size⟩
 rcases List.mem_append.1 hp with hp | hp
 ·exact h.2.2.1 p hp
 ·exact hpa p hp

end Vers
end Go.Proofs.YtekhaejhmlebbaaGreat
