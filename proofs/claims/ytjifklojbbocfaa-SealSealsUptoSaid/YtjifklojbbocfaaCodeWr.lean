/-
  The writer of layer 6: its block and the row of its bytes; numbers, texts, spans, sets.
-/
import Derived.Test.YtjifklojbbocfaaCodeSpans
import Derived.Test.YtjifklojbbocfaaPutText
import Derived.Test.YtjifklojbbocfaaFacts
import Derived.Deep.AppendLies
import Derived.Deep.RegionLaw
namespace Go.Proofs.Ytjifklojbbocfaa
namespace Code
open Go.RowKit Num Span
attribute [local go_sem ↓] Go.wp_at_zero Go.wp_at_succ

/-- The writer's block is g; its slice v owns the bytes L. -/
def Wr (base g : Nat) (L : List Int) (v : Value) (w : World) : Prop :=
  Boxed w g 66 v ∧ (∃ A c, v = .slice A L.length c) ∧ w.ownsRow base 5 1 v L.length (nums .u8 L) ∧ base ≤ g
/-- Nothing has turned but the writer's block and its row. -/
def Kp (g : Nat) (v : Value) (w : World) (v' : Value) (w' : World) : Prop :=
  w'.os = w.os ∧ w'.tape = w.tape ∧ w'.output = w.output ∧ w.heap.size ≤ w'.heap.size ∧ ∀ j, j < w.heap.size → j ≠ g → some j ≠ v.ownBlock → w'.heap[j]? = w.heap[j]? ∧ some j ≠ v'.ownBlock
section
variable {base g : Nat} {L : List Int} {v v' v'' : Value} {w w' w'' : World}
theorem Wr.lt (h : Wr base g L v w) : g < w.heap.size := h.1.lt
theorem Wr.base_le (h : Wr base g L v w) : base ≤ w.heap.size := Nat.le_trans h.2.2.2 (Nat.le_of_lt h.lt)
theorem Wr.far (h : Wr base g L v w) : some g ≠ v.ownBlock := Boxed.not_row h.1 (by decide) h.2.2.1
theorem Wr.below (h : Wr base g L v w) (hb : Below w.heap.size w w') : Wr base g L v w' :=
  ⟨(hb.block _ h.lt).trans h.1, h.2.1, own_below h.2.2.1 hb (Nat.le_refl _), h.2.2.2⟩
theorem Wr.alloc (h : Wr base g L v w) (o : Obj) : Wr base g L v (w.alloc o) := h.below ((Below.refl _ w).alloc (Nat.le_refl _) o)
theorem Kp.refl (g : Nat) (v : Value) (w : World) : Kp g v w v w := ⟨rfl, rfl, rfl, Nat.le_refl _, fun _ _ _ h => ⟨rfl, h⟩⟩
theorem Kp.trans (h : Kp g v w v' w') (k : Kp g v' w' v'' w'') : Kp g v w v'' w'' :=
  ⟨k.1.trans h.1, k.2.1.trans h.2.1, k.2.2.1.trans h.2.2.1, Nat.le_trans h.2.2.2.1 k.2.2.2.1, fun j hj hg hv => by
    obtain ⟨h1, h2⟩ := h.2.2.2.2 j hj hg hv
    obtain ⟨h3, h4⟩ := k.2.2.2.2 j (Nat.lt_of_lt_of_le hj h.2.2.2.1) hg h2
    exact ⟨h3.trans h1, h4⟩⟩
theorem Kp.of_below (hb : Below w.heap.size w w') : Kp g v w v w' := ⟨hb.os, hb.tape, hb.output, hb.size, fun j hj _ hv => ⟨hb.block j hj, hv⟩⟩
theorem Kp.alloc (g : Nat) (v : Value) (w : World) (o : Obj) : Kp g v w v (w.alloc o) := Kp.of_below ((Below.refl _ w).alloc (Nat.le_refl _) o)
theorem Kp.below (h : Kp g v w v' w') (hw : Wr base g L v w) : Below base w w' :=
  ⟨h.1, h.2.1, h.2.2.1, h.2.2.2.1, fun j hj => (h.2.2.2.2 j (Nat.lt_of_lt_of_le hj hw.base_le) (by have := hw.2.2.2; omega) (fun e => by have := (hw.2.2.1.lt j e.symm).1; omega)).1⟩
/-- What stands in another block is kept. -/
theorem Kp.block (h : Kp g v w v' w') {j : Nat} {o : Obj} (ho : w.heap[j]? = some o) (hg : j ≠ g) (hv : some j ≠ v.ownBlock) : w'.heap[j]? = some o ∧ some j ≠ v'.ownBlock := by
  obtain ⟨h1, h2⟩ := h.2.2.2.2 j (Array.getElem?_eq_some_iff.1 ho).1 hg hv
  exact ⟨h1.trans ho, h2⟩
theorem Wr.new_far (h : Wr base g L v w) : w.heap.size ≠ g ∧ some w.heap.size ≠ v.ownBlock :=
  ⟨by have := h.lt; omega, fun e => by have := (h.2.2.1.lt _ e.symm).2; omega⟩
end

/-- The writer has written: its bytes are L now. -/
def Wrote (base g : Nat) (L : List Int) (v : Value) (w : World) (e : Ending) (w' : World) : Prop := e = .returned (.tuple #[]) ∧ ∃ v', Wr base g L v' w' ∧ Kp g v w v' w'

/-- The cells of numbers, one by one. -/
theorem ns_news {k : IntKind} {w : World} {B b off : Nat} {zs : List Int} (h : Ns k w B (some ⟨b, off, none⟩) zs) : ∀ j u, (nums k zs)[j]? = some u → w.cell? ((⟨b, off, none⟩ : Addr).add j) = some u := by
  intro j u hu
  have hj : j < zs.length := by
    rcases Nat.lt_or_ge j zs.length with h | h
    · exact h
    · rw [List.getElem?_eq_none (by rw [nums_length]; exact h)] at hu; cases hu
  obtain ⟨b', off', he, _, hc⟩ := h (by omega)
  injection he with he
  injection he with e1 e2
  subst e1 e2
  have hadd : (⟨b, off, none⟩ : Addr).add j = ⟨b, off + j, none⟩ := by unfold Addr.add; split <;> simp_all
  rw [hadd, hc j hj, ← hu]
  simp only [nums, List.getElem?_map, List.getD_eq_getElem?_getD, List.getElem?_eq_getElem hj, Option.map_some, Option.getD_some]
theorem nums_cell (k : IntKind) (zs : List Int) : ∀ u ∈ nums k zs, u.oneCell' = true := by
  intro u hu
  obtain ⟨y, _, rfl⟩ := List.mem_map.1 hu
  rfl

/-- What an append onto the writer's row and the store behind it leave. -/
theorem wr_appended {base g : Nat} {L X : List Int} {v : Value} {w w1 w2 : World} {gg cap : Nat} (hw : Wr base g L v w) (hb : Below w.heap.size w w1)
    (ho : w2.ownsRow base 5 1 (.slice (some ⟨gg, 0, none⟩) (L.length + X.length) cap) (L.length + X.length) (nums .u8 L ++ nums .u8 X)) (hgr : w1.grownBy w2 v.ownBlock) (hat : v.ownBlock = some gg ∨ gg = w1.heap.size) :
    ∃ v', v' = .slice (some ⟨gg, 0, none⟩) (L.length + X.length) cap ∧ Wr base g (L ++ X) v' (w2.setCell ⟨g, 0, none⟩ v') ∧ Kp g v w v' (w2.setCell ⟨g, 0, none⟩ v') := by
  refine ⟨_, rfl, ?_, ?_⟩
  · have h1 := (hw.below hb)
    have hgg : g ≠ gg := by
      rcases hat with h | h
      · intro e
        exact h1.far (by rw [h, e])
      · have := h1.lt
        omega
    have hB : Boxed w2 g 66 v := h1.1.kept hgr h1.far
    refine ⟨hB.set _, ⟨_, _, by rw [List.length_append]⟩, ?_, hw.2.2.2⟩
    have h2 := ho.kept (grownBy_setCell' w2 g (.slice (some ⟨gg, 0, none⟩) (L.length + X.length) cap)) (.inr (by
      intro e
      injection e with e
      exact hgg e.symm))
    rw [List.length_append]
    simpa [nums] using h2
  · refine (Kp.of_below hb).trans (⟨hgr.os, hgr.tape, hgr.output, Nat.le_trans hgr.size (grownBy_setCell' w2 g _).size, fun j hj hg hv => ?_⟩)
    refine ⟨((grownBy_setCell' w2 g _).block j (Nat.lt_of_lt_of_le hj hgr.size) (by intro e; injection e with e; exact hg e)).trans (hgr.block j hj hv), fun e => ?_⟩
    have e' : j = gg := by injection e
    rcases hat with h | h
    · exact hv (by rw [h, e'])
    · omega

/-- A cell of the writer's block, that may be written. -/
def Bxd (w : World) (g : Nat) (v : Value) : Prop := w.cell? ⟨g, 0, none⟩ = some v ∧ w.frozen? ⟨g, 0, none⟩ = false
theorem frozen_block {w w' : World} {g : Nat} (h : w'.heap[g]? = w.heap[g]?) (hf : w.frozen? ⟨g, 0, none⟩ = false) : w'.frozen? ⟨g, 0, none⟩ = false := by
  unfold World.frozen? at hf ⊢
  simp only at hf ⊢
  rw [h]
  exact hf
theorem box_below {w w' : World} {g : Nat} {v : Value} (h : Bxd w g v) (hb : Below w.heap.size w w') : Bxd w' g v := by
  have hl := World.block_lt_of_cell? w _ h.1
  exact ⟨cell_below hb hl h.1, frozen_block (hb.block g hl) h.2⟩
theorem box_below2 {w w' w'' : World} {g : Nat} {v : Value} {row : Option Nat} (h : Bxd w g v) (hb : Below w.heap.size w w') (hg : w'.grownBy w'' row) (hne : some g ≠ row) : Bxd w'' g v := by
  have h1 := box_below h hb
  have hl := World.block_lt_of_cell? w' _ h1.1
  exact ⟨hg.cell h1.1 hne, frozen_block (hg.block g hl hne) h1.2⟩

theorem made_ret {e : TypeId} {k : IntKind} {zs : List Int} {w : World} (r : Ending) (w' : World) (h : MadeNs e k zs w r w') : ∃ v, r = .returned v := by
  obtain ⟨_, _, h, _⟩ := h
  exact ⟨_, h⟩
section
variable {P : Program} {w : World}
/-- A call of a function that is named, at a step of a region that draws: by its contract. -/
theorem step_call {ops : Array Oper} {o : Oper} {a : Act} {K : Act → World → Prop} {Q : Exit → Act → World → Prop} {E : Prop} (hgd : o.guard = none) (f : FuncId) (args : Array Operand) (ats : Array TypeId)
    (ho : o.op = .call { callee := .value (.func f), args := args, argTypes := ats }) (hcf : (callFunc f (args.map a.eval)).run P w = .ok (.enter f (args.map a.eval)) w) (vals : Array Value) (hv : args.map a.eval = vals) {R : Ending → World → Prop} (hc : Calls P f vals w R)
    (hR : ∀ e w', R e w' → ∃ v, e = .returned v) (hK : ∀ v w', R (.returned v) w' → K (a.put o.dst v) w') :
    if Region.wanted o (yielded ops a.tmps) = true then Oper.wp P o a w K Q else E := by
  have hw : Region.wanted o (yielded ops a.tmps) = true := by simp [Region.wanted, hgd]
  rw [if_pos hw]
  have hrun : (execOp a.eval o).run P w = .ok (.enter f vals) w := by
    subst hv
    unfold execOp
    simp [ho, go_sem, hcf]
  unfold Oper.wp
  rw [hrun, Oper.upon_enter]
  refine hc.mono fun e w' h => ?_
  obtain ⟨v, rfl⟩ := hR e w' h
  exact hK v w' h
end

set_option maxRecDepth 100000 in
theorem wnum_any (base g : Nat) (L : List Int) (v : Value) (n : Int) (hn : 0 ≤ n ∧ n ≤ 9223372036854775807) (w : World) (hw : Wr base g L v w) (hbig : L.length ≤ 70368744177664) :
    Calls Try.prog 45 #[.pointer (some ⟨g, 0, none⟩), .int .i64 n] w (Wrote base g (L ++ putL n) v w) := by
  obtain ⟨i0, hi0, hz0, hz1, hz2⟩ := info_parts Facts.info5
  have h1 := fun W => putnum_pos n hn W
  obtain ⟨hX1, hX9⟩ := putL_len n
  obtain ⟨X, hX⟩ : ∃ X, putL n = X := ⟨_, rfl⟩
  rw [hX] at h1 hX1 hX9 ⊢
  obtain ⟨⟨A, c, rfl⟩, hlt⟩ := And.intro hw.2.1 hw.lt
  have c0 : Bxd w.drew g (.slice A L.length c) := ⟨hw.1.cell, hw.1.frozen⟩
  have hbs := hw.base_le
  have hne := hw.far
  have HW := Lib.hid hw
  have H1 := Lib.hid h1
  clear h1 hw hX
  go_enter Try.func45, Try.ntmps45
  go_wp2_with fail
  have c00 := c0.1
  have c01 := c0.2
  have hcf : ∀ (a : Array Value) (w : World), (callFunc 21 a).run Try.prog w = .ok (.enter 21 a) w := fun a w => by simp [go_sem]
  go_region_law (first
      | (refine step_call (by rfl) 21 _ _ (by rfl) (hcf _ _) #[.int .i64 n] (by simp [Act.eval, Act.put]) (H1.out _) made_ret ?_; rintro v2 w2 ⟨A2, c2, hv2, o2, b2⟩; injection hv2 with hv2; subst hv2; obtain ⟨pb, off, rfl, _, _⟩ := (own_ns o2) (by omega); have q0 := (box_below c0 b2).1)
      | (refine step_append_lies _ (by rfl) _ _ _ (by rfl) base 5 i0 _ 1 1 Try.underlying25 hi0 hz0 hz1 hz2 (by rfl) (by omega) (.slice A L.length c) L.length (nums .u8 L) (by rfl) (own_below (w := w.drew) HW.out.2.2.1 b2 (Nat.le_refl _)) ⟨pb, off, none⟩ X.length c2 (nums .u8 X) (by rfl) (by rw [nums_length]; omega) (ns_news (own_ns o2)) (nums_cell _ _) (by omega) (by unfold maxLen; omega) (by omega) (Nat.le_trans hbs b2.size) w2.heap.size (by rfl) ?_; intro g7 cap7 w7 o7 gr7 at7 hl7; have r0 := (box_below2 c0 b2 gr7 hne).1; have r1 := (box_below2 c0 b2 gr7 hne).2))
  all_goals
    refine ⟨rfl, _, results_none rfl _ _ _, rfl, ?_⟩
    obtain ⟨v', rfl, hw1, hk1⟩ := wr_appended HW.out ((show Below w.heap.size w w.drew from (Below.refl _ w).drew).trans b2) o7 gr7 at7
    exact ⟨_, hw1, hk1⟩

theorem wwhole_any (base g : Nat) (L : List Int) (v : Value) (n : Int) (hn : 0 ≤ n ∧ n ≤ 9223372036854775807) (w : World) (hw : Wr base g L v w) (hbig : L.length ≤ 70368744177664) :
    Calls Try.prog 44 #[.pointer (some ⟨g, 0, none⟩), .int .i64 n] w (Wrote base g (L ++ putL n) v w) := by
  have H1 := Lib.hid (wnum_any base g L v n hn w hw hbig)
  clear hw hn
  go_enter Try.func44, Try.ntmps44
  go_wp2_with fail
  refine H1.out.mono ?_
  rintro e w1 ⟨rfl, hW⟩
  have HW := Lib.hid hW
  clear hW
  go_wp2_with fail
  exact ⟨rfl, _, results_none rfl _ _ _, rfl, HW.out⟩
end Code
end Go.Proofs.Ytjifklojbbocfaa
