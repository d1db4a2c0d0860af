/-
  firthref03.Join, span.Add, firthref03.Add: the same answers as span.Join's.
-/
import Derived.Test.YtbhidndgnldheaaSpanPut
import Derived.Test.YtbhidndgnldheaaSpanRightRef
namespace Go.Proofs.Ytbhidndgnldheaa
namespace Span
open Go.RowKit
attribute [local go_sem ↓] Go.wp_at_zero Go.wp_at_succ

/-! The answers of Add. -/
open Classical in
noncomputable def addE (l : List Sp) (d : Int × Int) : Int := if okDot d then joinE l [(d.1, d.2, d.2)] else 1
open Classical in
noncomputable def addL (l : List Sp) (d : Int × Int) : List Sp := if okDot d then joinL l [(d.1, d.2, d.2)] else []
theorem add_good {l : List Sp} {s k : Int} (h : okDot (s, k)) : addL l (s, k) = joinL l [(s, k, k)] := if_pos h
theorem addE_good {l : List Sp} {s k : Int} (h : okDot (s, k)) : addE l (s, k) = joinE l [(s, k, k)] := if_pos h
theorem add_wrong {l : List Sp} {d : Int × Int} (h : ¬ okDot d) : addE l d = 1 ∧ addL l d = [] := ⟨if_neg h, if_neg h⟩
theorem addL_len (l : List Sp) (d : Int × Int) : (addL l d).length ≤ 1024 := by
  unfold addL
  split
  · exact joinL_len _ _
  · simp
theorem addE_range (l : List Sp) (d : Int × Int) : addE l d = 0 ∨ addE l d = 1 ∨ addE l d = 30 := by
  unfold addE
  split
  · exact joinE_range _ _
  · exact .inr (.inl rfl)

section
variable {P : Program} (w : World)
/-- append of a slice of spans, nil and empty ones too, onto a row of the call's own. -/
theorem wpList_append_ss {ops : Array Oper} {rest : List Oper} {o : Oper} {a : Act} {Q : Exit → Act → World → Prop} (hgd : o.guard = none) (s x : Operand) (t : TypeId)
    (ho : o.op = .call { callee := .builtin .append, args := #[s, x], argTypes := #[t, t] })
    (base : Nat) (e : TypeId) (i : TypeInfo) (z : Value) (bytes : Nat) (ht : P.underlying t = some (.slice e)) (hi : P.info? e = some i) (hz : i.zero = some z)
    (hsize : i.size = 3) (hby : i.bytes = bytes) (hzs : z.cells.size = 3)
    (v : Value) (n : Nat) (l : List Sp) (hs : a.eval s = v) (hown : w.ownsRow base e 3 v n (sps l)) (B : Nat) (A : Option Addr) (m c : Nat) (ys : List Sp) (hm : ys.length = m)
    (hx : a.eval x = .slice A m c) (hr : Ss w B A ys)
    (hbytes : (n + m) * bytes ≤ 140737488355328) (hn : n + m ≤ 140737488355328) (hbase : base ≤ w.heap.size)
    (h : ∀ v' w', w'.ownsRow base e 3 v' (n + m) (sps (l ++ ys)) → w.grownBy w' v.ownBlock → (v'.ownBlock = v.ownBlock ∨ v'.ownBlock = some w.heap.size) → wpList P ops Q rest (a.put o.dst v') w') :
    wpList P ops Q (o :: rest) a w := by
  subst hm
  have hone : ∀ u ∈ sps ys, u.oneCell' = true := by
    intro u hu
    obtain ⟨y, rfl⟩ := sps_cell ys u hu
    rfl
  rcases A with _ | ad
  · have h0 : ys = [] := by
      rcases Nat.eq_zero_or_pos ys.length with h0 | h0
      · exact List.eq_nil_of_length_eq_zero h0
      · obtain ⟨b, off, he, _⟩ := hr h0
        cases he
    subst h0
    refine wpList_plain hgd fun K hK => ?_
    have hrun : (Builtin.append_ #[t, t] o.type #[v, .slice none 0 c]).run P w = .ok v w := by
      rcases hown.2 with ⟨rfl, rfl⟩ | ⟨g, cap, cur, rfl, _, _, hnc, _⟩
      · simp [Builtin.append_, run_underlying ht, sizeOf, typeInfo, hi, Builtin.lenOf, Builtin.firstCells]
      · simp [Builtin.append_, run_underlying ht, sizeOf, typeInfo, hi, Builtin.lenOf, Builtin.firstCells, hnc, storeCells]
    unfold Oper.wp execOp
    simp only [ho, resolve, invoke, builtin, Sem.run_bind, Sem.run_pure, Result.andThen_ok, List.map_toArray, List.map_cons, List.map_nil, hs, hx, List.length_nil, hrun]
    exact hK _ _ (h v w (by simpa using hown) (World.grownBy.refl w _) (.inl rfl))
  · rcases ys with _ | ⟨y, ys⟩
    · refine wpList_append_own_at w hgd s x t ho base e i z 3 bytes ht hi hz hsize hby hzs (by omega) v n (sps l) hs hown ad 0 c [] hx (by simp) (by simp) (by simp) (by unfold maxLen; simp at hn; omega) hbytes hbase
        fun v' w' h1 h2 _ h4 => h v' w' (by simpa using h1) h2 h4
    · obtain ⟨b, off, he, _⟩ := hr (by simp)
      injection he with he
      subst he
      exact wpList_append_own_at w hgd s x t ho base e i z 3 bytes ht hi hz hsize hby hzs (by omega) v n (sps l) hs hown ⟨b, off, none⟩ _ c (sps (y :: ys)) hx (sps_length _) (Ss.cells hr) hone (by unfold maxLen; omega) hbytes hbase
        fun v' w' h1 h2 _ h4 => h v' w' (by rw [sps_append]; exact h1) h2 h4
end

end Span
end Go.Proofs.Ytbhidndgnldheaa
