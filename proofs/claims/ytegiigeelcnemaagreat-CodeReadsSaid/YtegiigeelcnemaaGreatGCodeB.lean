/-
  Several texts of this family in one: CodeWr, CodeWrSet, CodeRefPlain, CodeWrRef, CodeRdRef, Weights, BytesCut.
-/
import Derived.Test.YtegiigeelcnemaaGreatGCodeA
import Derived.Test.YtegiigeelcnemaaGreatGNumB
import Derived.Test.YtegiigeelcnemaaGreatGNumA
import Derived.Deep.AppendLies
import Derived.Deep.RegionLaw
import Derived.Test.YtegiigeelcnemaaGreatGSpanA
import Derived.Test.YtegiigeelcnemaaGreatSpanRightRef
/-
  The writer of layer 6: its block and the row of its bytes; numbers, texts, spans, sets.
-/
namespace Go.Proofs.YtegiigeelcnemaaGreat
namespace Code
open Go.RowKit Num Span
attribute [local go_sem ↓] Go.wp_at_zero Go.wp_at_succ

/-- The writer's block is g; its slice v owns the bytes L. -/
def Wr (base g : Nat) (L : List Int) (v : Value) (w : World) : Prop :=
  Boxed w g 57 v ∧ (∃ A c, v = .slice A L.length c) ∧ w.ownsRow base 5 1 v L.length (nums .u8 L) ∧ base ≤ g
/-- Nothing has turned but the writer's block and its row. -/
def Kp (g : Nat) (v : Value) (w : World) (v' : Value) (w' : World) : Prop :=
  w'.os = w.os ∧ w'.tape = w.tape ∧ w'.output = w.output ∧ w.heap.size ≤ w'.heap.size ∧ ∀ j, j < w.heap.size → j ≠ g → some j ≠ v.ownBlock → w'.heap[j]? = w.heap[j]? ∧ some j ≠ v'.ownBlock
section
variable {base g : Nat} {L : List Int} {v v' v'' : Value} {w w' w'' : World}
theorem Wr.lt (h : Wr base g L v w) : g < w.heap.size := h.1.lt
theorem Wr.base_le (h : Wr base g L v w) : base ≤ w.heap.size := Nat.le_trans h.2.2.2 (Nat.le_of_lt h.lt)
theorem Wr.far (h : Wr base g L v w) : some g ≠ v.ownBlock := Boxed.not_row h.1 (by decide) h.2.2.1
theorem Wr.below (h : Wr base g L v w) (hb : Below w.heap.size w w') : Wr base g L v w' :=
  ⟨(hb.block _ h.lt).trans h.1, h.2.1, own_below h.2.2.1 hb (Nat.le_refl _), h.2.2.2⟩
theorem Wr.alloc (h : Wr base g L v w) (o : Obj) : Wr base g L v (w.alloc o) := h.below ((Below.refl _ w).alloc (Nat.le_refl _) o)
theorem Kp.refl (g : Nat) (v : Value) (w : World) : Kp g v w v w := ⟨rfl, rfl, rfl, Nat.le_refl _, fun _ _ _ h => ⟨rfl, h⟩⟩
theorem Kp.trans (h : Kp g v w v' w') (k : Kp g v' w' v'' w'') : Kp g v w v'' w'' :=
  ⟨k.1.trans h.1, k.2.1.trans h.2.1, k.2.2.1.trans h.2.2.1, Nat.le_trans h.2.2.2.1 k.2.2.2.1, fun j hj hg hv => by
    obtain ⟨h1, h2⟩ := h.2.2.2.2 j hj hg hv
    obtain ⟨h3, h4⟩ := k.2.2.2.2 j (Nat.lt_of_lt_of_le hj h.2.2.2.1) hg h2
    exact ⟨h3.trans h1, h4⟩⟩
theorem Kp.of_below (hb : Below w.heap.size w w') : Kp g v w v w' := ⟨hb.os, hb.tape, hb.output, hb.size, fun j hj _ hv => ⟨hb.block j hj, hv⟩⟩
theorem Kp.alloc (g : Nat) (v : Value) (w : World) (o : Obj) : Kp g v w v (w.alloc o) := Kp.of_below ((Below.refl _ w).alloc (Nat.le_refl _) o)
theorem Kp.below (h : Kp g v w v' w') (hw : Wr base g L v w) : Below base w w' :=
  ⟨h.1, h.2.1, h.2.2.1, h.2.2.2.1, fun j hj => (h.2.2.2.2 j (Nat.lt_of_lt_of_le hj hw.base_le) (by have := hw.2.2.2; omega) (fun e => by have := (hw.2.2.1.lt j e.symm).1; omega)).1⟩
/-- What stands in another block is kept. -/
theorem Kp.block (h : Kp g v w v' w') {j : Nat} {o : Obj} (ho : w.heap[j]? = some o) (hg : j ≠ g) (hv : some j ≠ v.ownBlock) : w'.heap[j]? = some o ∧ some j ≠ v'.ownBlock := by
  obtain ⟨h1, h2⟩ := h.2.2.2.2 j (Array.getElem?_eq_some_iff.1 ho).1 hg hv
  exact ⟨h1.trans ho, h2⟩
theorem Wr.new_far (h : Wr base g L v w) : w.heap.size ≠ g ∧ some w.heap.size ≠ v.ownBlock :=
  ⟨by have := h.lt; omega, fun e => by have := (h.2.2.1.lt _ e.symm).2; omega⟩
end

/-- The writer has written: its bytes are L now. -/
def Wrote (base g : Nat) (L : List Int) (v : Value) (w : World) (e : Ending) (w' : World) : Prop := e = .returned (.tuple #[]) ∧ ∃ v', Wr base g L v' w' ∧ Kp g v w v' w'

/-- The cells of numbers, one by one. -/
theorem ns_news {k : IntKind} {w : World} {B b off : Nat} {zs : List Int} (h : Ns k w B (some ⟨b, off, none⟩) zs) : ∀ j u, (nums k zs)[j]? = some u → w.cell? ((⟨b, off, none⟩ : Addr).add j) = some u := by
  intro j u hu
  have hj : j < zs.length := by
    rcases Nat.lt_or_ge j zs.length with h | h
    · exact h
    · rw [List.getElem?_eq_none (by rw [nums_length]; exact h)] at hu; cases hu
  obtain ⟨b', off', he, _, hc⟩ := h (by omega)
  injection he with he
  injection he with e1 e2
  subst e1 e2
  have hadd : (⟨b, off, none⟩ : Addr).add j = ⟨b, off + j, none⟩ := by unfold Addr.add; split <;> simp_all
  rw [hadd, hc j hj, ← hu]
  simp only [nums, List.getElem?_map, List.getD_eq_getElem?_getD, List.getElem?_eq_getElem hj, Option.map_some, Option.getD_some]
theorem nums_cell (k : IntKind) (zs : List Int) : ∀ u ∈ nums k zs, u.oneCell' = true := by
  intro u hu
  obtain ⟨y, _, rfl⟩ := List.mem_map.1 hu
  rfl

/-- What an append onto the writer's row and the store behind it leave. -/
theorem wr_appended {base g : Nat} {L X : List Int} {v : Value} {w w1 w2 : World} {gg cap : Nat} (hw : Wr base g L v w) (hb : Below w.heap.size w w1)
    (ho : w2.ownsRow base 5 1 (.slice (some ⟨gg, 0, none⟩) (L.length + X.length) cap) (L.length + X.length) (nums .u8 L ++ nums .u8 X)) (hgr : w1.grownBy w2 v.ownBlock) (hat : v.ownBlock = some gg ∨ gg = w1.heap.size) :
    ∃ v', v' = .slice (some ⟨gg, 0, none⟩) (L.length + X.length) cap ∧ Wr base g (L ++ X) v' (w2.setCell ⟨g, 0, none⟩ v') ∧ Kp g v w v' (w2.setCell ⟨g, 0, none⟩ v') := by
  refine ⟨_, rfl, ?_, ?_⟩
  · have h1 := (hw.below hb)
    have hgg : g ≠ gg := by
      rcases hat with h | h
      · intro e
        exact h1.far (by rw [h, e])
      · have := h1.lt
        omega
    have hB : Boxed w2 g 57 v := h1.1.kept hgr h1.far
    refine ⟨hB.set _, ⟨_, _, by rw [List.length_append]⟩, ?_, hw.2.2.2⟩
    have h2 := ho.kept (grownBy_setCell' w2 g (.slice (some ⟨gg, 0, none⟩) (L.length + X.length) cap)) (.inr (by
      intro e
      injection e with e
      exact hgg e.symm))
    rw [List.length_append]
    simpa [nums] using h2
  · refine (Kp.of_below hb).trans (⟨hgr.os, hgr.tape, hgr.output, Nat.le_trans hgr.size (grownBy_setCell' w2 g _).size, fun j hj hg hv => ?_⟩)
    refine ⟨((grownBy_setCell' w2 g _).block j (Nat.lt_of_lt_of_le hj hgr.size) (by intro e; injection e with e; exact hg e)).trans (hgr.block j hj hv), fun e => ?_⟩
    have e' : j = gg := by injection e
    rcases hat with h | h
    · exact hv (by rw [h, e'])
    · omega

/-- A cell of the writer's block, that may be written. -/
def Bxd (w : World) (g : Nat) (v : Value) : Prop := w.cell? ⟨g, 0, none⟩ = some v ∧ w.frozen? ⟨g, 0, none⟩ = false
theorem frozen_block {w w' : World} {g : Nat} (h : w'.heap[g]? = w.heap[g]?) (hf : w.frozen? ⟨g, 0, none⟩ = false) : w'.frozen? ⟨g, 0, none⟩ = false := by
  unfold World.frozen? at hf ⊢
  simp only at hf ⊢
  rw [h]
  exact hf
theorem box_below {w w' : World} {g : Nat} {v : Value} (h : Bxd w g v) (hb : Below w.heap.size w w') : Bxd w' g v := by
  have hl := World.block_lt_of_cell? w _ h.1
  exact ⟨cell_below hb hl h.1, frozen_block (hb.block g hl) h.2⟩
theorem box_below2 {w w' w'' : World} {g : Nat} {v : Value} {row : Option Nat} (h : Bxd w g v) (hb : Below w.heap.size w w') (hg : w'.grownBy w'' row) (hne : some g ≠ row) : Bxd w'' g v := by
  have h1 := box_below h hb
  have hl := World.block_lt_of_cell? w' _ h1.1
  exact ⟨hg.cell h1.1 hne, frozen_block (hg.block g hl hne) h1.2⟩

theorem made_ret {e : TypeId} {k : IntKind} {zs : List Int} {w : World} (r : Ending) (w' : World) (h : MadeNs e k zs w r w') : ∃ v, r = .returned v := by
  obtain ⟨_, _, h, _⟩ := h
  exact ⟨_, h⟩
section
variable {P : Program} {w : World}
/-- A call of a function that is named, at a step of a region that draws: by its contract. -/
theorem step_call {ops : Array Oper} {o : Oper} {a : Act} {K : Act → World → Prop} {Q : Exit → Act → World → Prop} {E : Prop} (hgd : o.guard = none) (f : FuncId) (args : Array Operand) (ats : Array TypeId)
    (ho : o.op = .call { callee := .value (.func f), args := args, argTypes := ats }) (hcf : (callFunc f (args.map a.eval)).run P w = .ok (.enter f (args.map a.eval)) w) (vals : Array Value) (hv : args.map a.eval = vals) {R : Ending → World → Prop} (hc : Calls P f vals w R)
    (hR : ∀ e w', R e w' → ∃ v, e = .returned v) (hK : ∀ v w', R (.returned v) w' → K (a.put o.dst v) w') :
    if Region.wanted o (yielded ops a.tmps) = true then Oper.wp P o a w K Q else E := by
  have hw : Region.wanted o (yielded ops a.tmps) = true := by simp [Region.wanted, hgd]
  rw [if_pos hw]
  have hrun : (execOp a.eval o).run P w = .ok (.enter f vals) w := by
    subst hv
    unfold execOp
    simp [ho, go_sem, hcf]
  unfold Oper.wp
  rw [hrun, Oper.upon_enter]
  refine hc.mono fun e w' h => ?_
  obtain ⟨v, rfl⟩ := hR e w' h
  exact hK v w' h
end

set_option maxRecDepth 100000 in
theorem wnum_any (base g : Nat) (L : List Int) (v : Value) (n : Int) (hn : 0 ≤ n ∧ n ≤ 9223372036854775807) (w : World) (hw : Wr base g L v w) (hbig : L.length ≤ 70368744177664) :
    Calls Tryz.prog 80 #[.pointer (some ⟨g, 0, none⟩), .int .i64 n] w (Wrote base g (L ++ putL n) v w) := by
  obtain ⟨i0, hi0, hz0, hz1, hz2⟩ := info_parts Facts.info5
  have h1 := fun W => putnum_pos n hn W
  obtain ⟨hX1, hX9⟩ := putL_len n
  obtain ⟨X, hX⟩ : ∃ X, putL n = X := ⟨_, rfl⟩
  rw [hX] at h1 hX1 hX9 ⊢
  obtain ⟨⟨A, c, rfl⟩, hlt⟩ := And.intro hw.2.1 hw.lt
  have c0 : Bxd w.drew g (.slice A L.length c) := ⟨hw.1.cell, hw.1.frozen⟩
  have hbs := hw.base_le
  have hne := hw.far
  have HW := Lib.hid hw
  have H1 := Lib.hid h1
  clear h1 hw hX
  go_enter Tryz.func80, Tryz.ntmps80
  go_wp2_with fail
  have c00 := c0.1
  have c01 := c0.2
  have hcf : ∀ (a : Array Value) (w : World), (callFunc 86 a).run Tryz.prog w = .ok (.enter 86 a) w := fun a w => by simp [go_sem]
  go_region_law (first
      | (refine step_call (by rfl) 86 _ _ (by rfl) (hcf _ _) #[.int .i64 n] (by simp [Act.eval, Act.put]) (H1.out _) made_ret ?_; rintro v2 w2 ⟨A2, c2, hv2, o2, b2⟩; injection hv2 with hv2; subst hv2; obtain ⟨pb, off, rfl, _, _⟩ := (own_ns o2) (by omega); have q0 := (box_below c0 b2).1)
      | (refine step_append_lies _ (by rfl) _ _ _ (by rfl) base 5 i0 _ 1 1 Tryz.underlying25 hi0 hz0 hz1 hz2 (by rfl) (by omega) (.slice A L.length c) L.length (nums .u8 L) (by rfl) (own_below (w := w.drew) HW.out.2.2.1 b2 (Nat.le_refl _)) ⟨pb, off, none⟩ X.length c2 (nums .u8 X) (by rfl) (by rw [nums_length]; omega) (ns_news (own_ns o2)) (nums_cell _ _) (by omega) (by unfold maxLen; omega) (by omega) (Nat.le_trans hbs b2.size) w2.heap.size (by rfl) ?_; intro g7 cap7 w7 o7 gr7 at7 hl7; have r0 := (box_below2 c0 b2 gr7 hne).1; have r1 := (box_below2 c0 b2 gr7 hne).2))
  all_goals
    refine ⟨rfl, _, results_none rfl _ _ _, rfl, ?_⟩
    obtain ⟨v', rfl, hw1, hk1⟩ := wr_appended HW.out ((show Below w.heap.size w w.drew from (Below.refl _ w).drew).trans b2) o7 gr7 at7
    exact ⟨_, hw1, hk1⟩

theorem wwhole_any (base g : Nat) (L : List Int) (v : Value) (n : Int) (hn : 0 ≤ n ∧ n ≤ 9223372036854775807) (w : World) (hw : Wr base g L v w) (hbig : L.length ≤ 70368744177664) :
    Calls Tryz.prog 78 #[.pointer (some ⟨g, 0, none⟩), .int .i64 n] w (Wrote base g (L ++ putL n) v w) := by
  have H1 := Lib.hid (wnum_any base g L v n hn w hw hbig)
  clear hw hn
  go_enter Tryz.func78, Tryz.ntmps78
  go_wp2_with fail
  refine H1.out.mono ?_
  rintro e w1 ⟨rfl, hW⟩
  have HW := Lib.hid hW
  clear hW
  go_wp2_with fail
  exact ⟨rfl, _, results_none rfl _ _ _, rfl, HW.out⟩
end Code
end Go.Proofs.YtegiigeelcnemaaGreat

/-
  The writer of layer 6: spans and sets.
-/
namespace Go.Proofs.YtegiigeelcnemaaGreat
namespace Code
open Go.RowKit Num Span
attribute [local go_sem ↓] Go.wp_at_zero Go.wp_at_succ

theorem box3_new (w : World) (t : TypeId) (x y z : Value) : Box3 w.heap.size t x y z (w.alloc (.cells #[x, y, z] t)) := heap_alloc_new w _
theorem Box3.kp {g B : Nat} {v v' : Value} {w w' : World} {t : TypeId} {x y z : Value} (h : Box3 B t x y z w) (hk : Kp g v w v' w') (hg : B ≠ g) (hv : some B ≠ v.ownBlock) : Box3 B t x y z w' ∧ some B ≠ v'.ownBlock := hk.block h hg hv

set_option maxRecDepth 100000 in
theorem wspan_any (base g : Nat) (L : List Int) (v : Value) (x : Sp) (hx : okSp x) (w : World) (hw : Wr base g L v w) (hbig : L.length ≤ 70368744177600) :
    Calls Tryz.prog 72 #[.pointer (some ⟨g, 0, none⟩), .agg #[.int .i64 x.1, .int .i64 x.2.1, .int .i64 x.2.2]] w (Wrote base g (L ++ spL x) v w) := by
  obtain ⟨s, f, t⟩ := x
  unfold okSp at hx
  simp only at hx ⊢
  obtain ⟨B, hBe⟩ : ∃ B, w.heap.size = B := ⟨_, rfl⟩
  obtain ⟨W, hW⟩ : ∃ W, w.alloc (.cells #[.int .i64 s, .int .i64 f, .int .i64 t] 70) = W := ⟨_, rfl⟩
  have hB : Box3 B 70 (.int .i64 s) (.int .i64 f) (.int .i64 t) W := by rw [← hW, ← hBe]; exact box3_new _ _ _ _ _
  obtain ⟨hBg, hBv⟩ := hw.new_far
  rw [hBe] at hBg hBv
  have hwW : Wr base g L v W := by rw [← hW]; exact hw.alloc _
  have hkW : Kp g v w v W := by rw [← hW]; exact Kp.alloc _ _ _ _
  obtain ⟨k0, k1, k2⟩ := hB.cell
  have h1 := wwhole_any base g L v s (by omega) W hwW (by omega)
  have l1 := putL_len s
  have l2 := putL_len f
  have l3 := putL_len (t - f)
  have H1 := Lib.hid h1
  have HS := Lib.hid (And.intro hB (And.intro hBv hkW))
  clear h1 hB hBv hwW hkW hw
  go_enter Tryz.func72, Tryz.ntmps72
  go_wp2_with fail
  refine H1.out.mono ?_
  rintro e w1 ⟨rfl, v1, hw1, hk1⟩
  obtain ⟨hB, hBv, hkW⟩ := HS.out
  obtain ⟨hB1, hBv1⟩ := hB.kp hk1 hBg hBv
  have hkW1 := hkW.trans hk1
  obtain ⟨m0, m1, m2⟩ := hB1.cell
  have h2 := wnum_any base g _ v1 f (by omega) w1 hw1 (by rw [List.length_append]; omega)
  have H2 := Lib.hid h2
  have HS1 := Lib.hid (And.intro hB1 (And.intro hBv1 hkW1))
  clear h2 hB hBv hkW hB1 hBv1 hkW1 hw1 hk1 HS H1
  go_wp2_with fail
  refine H2.out.mono ?_
  rintro e w2 ⟨rfl, v2, hw2, hk2⟩
  obtain ⟨hB, hBv, hkW⟩ := HS1.out
  obtain ⟨hB2, hBv2⟩ := hB.kp hk2 hBg hBv
  have hkW2 := hkW.trans hk2
  obtain ⟨n0, n1, n2⟩ := hB2.cell
  have h3 := wnum_any base g _ v2 (t - f) (by omega) w2 hw2 (by rw [List.length_append, List.length_append]; omega)
  have hsub : IntKind.i64.wrap (t - f) = t - f := Go.IntWalk.i64_in _ (by omega)
  have H3 := Lib.hid h3
  have HK := Lib.hid hkW2
  clear h3 hB hBv hkW hB2 hBv2 hkW2 hw2 hk2 HS1 H2
  go_wp2_with fail
  refine H3.out.mono ?_
  rintro e w3 ⟨rfl, v3, hw3, hk3⟩
  have HE := Lib.hid (And.intro hw3 (HK.out.trans hk3))
  clear hw3 hk3
  go_wp2_with fail
  refine ⟨rfl, _, results_none rfl _ _ _, rfl, v3, ?_, HE.out.2⟩
  unfold spL
  simp only [← List.append_assoc]
  exact HE.out.1
theorem spL_len (x : Sp) : 3 ≤ (spL x).length ∧ (spL x).length ≤ 27 := by
  have l1 := putL_len x.1
  have l2 := putL_len x.2.1
  have l3 := putL_len (x.2.2 - x.2.1)
  unfold spL
  simp only [List.length_append]
  omega
theorem flat_le {α : Type} {enc : α → List Int} {m : Nat} : ∀ {l : List α}, (∀ x ∈ l, (enc x).length ≤ m) → (l.flatMap enc).length ≤ l.length * m
  | [], _ => by simp
  | x :: l, h => by
    have h1 := h x (by simp)
    have h2 := flat_le (l := l) (enc := enc) (m := m) (fun y hy => h y (by simp [hy]))
    rw [List.flatMap_cons, List.length_append, List.length_cons, Nat.add_mul]
    omega
theorem flat_take {α : Type} {enc : α → List Int} {l : List α} {k : Nat} {d : α} (h : k < l.length) : (l.take (k + 1)).flatMap enc = (l.take k).flatMap enc ++ enc (l.getD k d) := by
  rw [List.take_succ_eq_append_getElem h, List.flatMap_append]
  simp [List.getD_eq_getElem?_getD, h]

set_option maxRecDepth 100000 in
theorem wspans_any (base g : Nat) (L : List Int) (v : Value) (A : Option Addr) (c m : Nat) (l : List Sp) (hm : l.length = m) (hl : ∀ x ∈ l, okSp x) (B : Nat) (w : World) (hr : Ss w B A l) (hB : B ≤ base) (hw : Wr base g L v w) (hbig : L.length + 9 + m * 27 ≤ 70368744177600) :
    Calls Tryz.prog 71 #[.pointer (some ⟨g, 0, none⟩), .slice A m c, .func (.func 72) #[.pointer (some ⟨g, 0, none⟩)] #[]] w (Wrote base g (L ++ setL l) v w) := by
  have h1 := wwhole_any base g L v (m : Int) (by omega) w hw (by omega)
  have l1 := putL_len (m : Int)
  have H1 := Lib.hid h1
  have HS := Lib.hid (And.intro hr (And.intro hw (And.intro hl hm)))
  clear h1 hr hw hl hm
  go_enter Tryz.func71, Tryz.ntmps71
  go_wp2_with fail
  refine H1.out.mono ?_
  rintro e w1 ⟨rfl, v1, hw1, hk1⟩
  have HX := Lib.hid (And.intro hw1 hk1)
  clear hw1 hk1 H1
  go_wp2_with fail
  go_loopw [14] (fun q wr => ∃ (k : Nat) (u : Value), q = .int .i64 k ∧ k ≤ m ∧ Wr base g (L ++ putL (m : Int) ++ (l.take k).flatMap spL) u wr ∧ Kp g v w u wr) (fun q _ => m - (intOf q).toNat)
  case atStart => exact ⟨0, v1, rfl, by omega, by simpa using HX.out.1, HX.out.2⟩
  case round =>
    obtain ⟨k, u, rfl, hk, hwr, hkr⟩ := hrel
    have hb := hkr.below HS.out.2.1
    by_cases hlt : k < m
    · have hm := HS.out.2.2.2
      obtain ⟨pb, off, rfl, hpb, hc⟩ := (HS.out.1.below (hb.mono hB)) (by omega)
      obtain ⟨c0, c1, c2⟩ := hc k (by omega)
      have hx := HS.out.2.2.1 _ (List.getElem_mem (l := l) (n := k) (by omega))
      have hxe : l.getD k (0, 0, 0) = l[k]'(by omega) := by simp [List.getD_eq_getElem?_getD, show k < l.length by omega]
      rw [← hxe] at hx
      have hft := flat_take (enc := spL) (d := ((0, 0, 0) : Sp)) (show k < l.length by omega)
      obtain ⟨x, hxx⟩ : ∃ x, l.getD k (0, 0, 0) = x := ⟨_, rfl⟩
      rw [hxx] at hx c0 c1 c2 hft
      obtain ⟨s, f, t⟩ := x
      have hfl : ((l.take k).flatMap spL).length ≤ m * 27 := by
        have h1 := flat_le (l := l.take k) (enc := spL) (m := 27) (fun x _ => (spL_len x).2)
        rw [List.length_take] at h1
        have h2 : min k l.length * 27 ≤ m * 27 := Nat.mul_le_mul_right _ (by omega)
        omega
      have d1 : (0 : Int) ≤ (k : Int) := by omega
      have d2 : (k : Int) < (m : Int) := by omega
      simp only at c0 c1 c2
      have hwa := hwr.alloc (.cells #[.int .i64 s, .int .i64 f, .int .i64 t] 70)
      have h2 := wspan_any base g _ u (s, f, t) hx _ hwa (by rw [List.length_append, List.length_append]; omega)
      have hka := hkr.trans (Kp.alloc g u wr (.cells #[.int .i64 s, .int .i64 f, .int .i64 t] 70))
      have H2 := Lib.hid h2
      have HT := Lib.hid (And.intro hft hka)
      clear h2 hft hka hwa hwr hkr hb hc hx hxe hxx
      go_wp2_with fail
      refine H2.out.mono ?_
      rintro e w2 ⟨rfl, u2, hw2, hk2⟩
      have hw3 : Wr base g (L ++ putL (m : Int) ++ (l.take (k + 1)).flatMap spL) u2 w2 := by
        rw [HT.out.1, ← List.append_assoc]
        exact hw2
      have HE := Lib.hid (And.intro hw3 (HT.out.2.trans hk2))
      clear hw2 hk2 hw3 H2
      go_wp2_with fail
      go_roundw
      case rel => exact ⟨k + 1, u2, rfl, by omega, HE.out.1, HE.out.2⟩
      case measure => simp only [intOf]; omega
    · have hkm : k = m := by omega
      subst hkm
      have hE : Wr base g (L ++ setL l) u wr := by
        rw [List.take_of_length_le (by rw [HS.out.2.2.2]; exact Nat.le_refl _), List.append_assoc] at hwr
        unfold setL seqL
        rw [HS.out.2.2.2]
        exact hwr
      have HE := Lib.hid (And.intro hE hkr)
      clear hE hkr hwr hb
      go_wp2_with fail
      exact ⟨rfl, _, results_none rfl _ _ _, rfl, u, HE.out.1, HE.out.2⟩

/-- A set's bytes are not too many. -/
theorem setL_len {l : List Sp} (h : l.length ≤ 1024) : (setL l).length ≤ 27657 := by
  have h1 := putL_len (l.length : Int)
  have h2 := flat_le (l := l) (enc := spL) (m := 27) (fun x _ => (spL_len x).2)
  unfold setL seqL
  rw [List.length_append]
  omega
theorem putL_fine (n : Int) (h : 0 ≤ n) : ∀ z ∈ putL n, 0 ≤ z ∧ z ≤ 255 := putL_bytes n h
theorem seqL_fine {α : Type} {enc : α → List Int} {l : List α} (h : ∀ x ∈ l, ∀ z ∈ enc x, 0 ≤ z ∧ z ≤ 255) : ∀ z ∈ seqL enc l, 0 ≤ z ∧ z ≤ 255 := by
  intro z hz
  unfold seqL at hz
  rcases List.mem_append.1 hz with hz | hz
  · exact putL_bytes _ (by omega) z hz
  · obtain ⟨x, hx, hz⟩ := List.mem_flatMap.1 hz
    exact h x hx z hz
theorem spL_fine {x : Sp} (h : okSp x) : ∀ z ∈ spL x, 0 ≤ z ∧ z ≤ 255 := by
  unfold okSp at h
  intro z hz
  unfold spL at hz
  rcases List.mem_append.1 hz with hz | hz
  · rcases List.mem_append.1 hz with hz | hz
    · exact putL_bytes _ (by omega) z hz
    · exact putL_bytes _ (by omega) z hz
  · exact putL_bytes _ (by omega) z hz
theorem setL_fine {l : List Sp} (h : ∀ x ∈ l, okSp x) : ∀ z ∈ setL l, 0 ≤ z ∧ z ≤ 255 := seqL_fine fun x hx => spL_fine (h x hx)

/-- Bytes of the call's own, and no error; or none, and an error. -/
def PutOut (B : Nat) (r : List Int × Int) (w : World) (e : Ending) (w' : World) : Prop :=
  ∃ A c, e = .returned (.tuple #[.slice A r.1.length c, .int .i64 r.2]) ∧ w'.ownsRow B 5 1 (.slice A r.1.length c) r.1.length (nums .u8 r.1) ∧ Below B w w'

def putSetF (l : List Sp) : List Int × Int := if Right l then (setL l, 0) else ([], 1)

set_option maxRecDepth 100000 in
theorem putset_any (A : Option Addr) (c m : Nat) (l : List Sp) (hm : l.length = m) (w : World) (hr : Ss w w.heap.size A l) (hbig : m ≤ 140737488355328) :
    Calls Tryz.prog 27 #[.slice A m c] w (PutOut w.heap.size (putSetF l) w) := by
  have hmf : ∀ (fn : Fn) (first cap : Array Value) (w : World), (Instr.makeFunc fn first cap).run Tryz.prog w = .ok (.func fn first cap) w := fun _ _ _ _ => rfl
  have h1 := right_any A c m l hm w hr hbig
  by_cases hR : Right l
  · rw [show decide (Right l) = true from decide_eq_true hR] at h1
    have hF : putSetF l = (setL l, 0) := by unfold putSetF; rw [if_pos hR]
    have hlen := hR.1
    have H1 := Lib.hid h1
    have HR := Lib.hid (And.intro hr (And.intro hR.2.1 (And.intro hm hF)))
    have hm' : m ≤ 1024 := by omega
    clear h1 hr hR hF hm hlen
    go_enter Tryz.func27, Tryz.ntmps27
    go_wp2_with fail
    refine H1.out.mono ?_
    rintro e w1 ⟨rfl, hb1⟩
    have hw : Wr w.heap.size w1.heap.size [] (.slice none 0 0) (w1.alloc (.cells #[.slice none 0 0] 57)) := ⟨Boxed.new _ _ _, ⟨none, 0, rfl⟩, World.ownsRow_nil _ _ _ _, hb1.size⟩
    have hr1 : Ss (w1.alloc (.cells #[.slice none 0 0] 57)) w.heap.size A l := (HR.out.1.below hb1).alloc hb1.size _
    have h2 := wspans_any w.heap.size w1.heap.size [] (.slice none 0 0) A c m l HR.out.2.2.1 HR.out.2.1 w.heap.size _ hr1 (Nat.le_refl _) hw (by simp; omega)
    rw [List.nil_append] at h2
    have hba : Below w.heap.size w (w1.alloc (.cells #[.slice none 0 0] 57)) := hb1.alloc hb1.size _
    have H2 := Lib.hid h2
    have HB := Lib.hid (And.intro hba hw)
    clear h2 hba hw hr1 hb1
    go_wp2_with fail
    refine H2.out.mono ?_
    rintro e w2 ⟨rfl, u, hw2, hk2⟩
    obtain ⟨hbx, ⟨A', c', rfl⟩, ho, _⟩ := hw2
    have c0 := hbx.cell
    have HE := Lib.hid (And.intro ho (HB.out.1.trans (hk2.below HB.out.2)))
    clear hbx ho hk2 H2
    go_wp2_with fail
    go_ret2
    rw [HR.out.2.2.2]
    exact ⟨A', c', rfl, HE.out.1, HE.out.2⟩
  · rw [show decide (Right l) = false from decide_eq_false hR] at h1
    have hF : putSetF l = ([], 1) := by unfold putSetF; rw [if_neg hR]
    rw [hF]
    have H1 := Lib.hid h1
    clear h1 hr hR hF hm
    go_enter Tryz.func27, Tryz.ntmps27
    go_wp2_with fail
    refine H1.out.mono ?_
    rintro e w1 ⟨rfl, hb1⟩
    have HB := Lib.hid hb1
    clear hb1
    go_wp2_with fail
    go_ret2
    exact ⟨none, 0, rfl, World.ownsRow_nil _ _ _ _, HB.out⟩
end Code
end Go.Proofs.YtegiigeelcnemaaGreat

/-
  Plain words of layer 6: lists as the document takes them: no more than there are bytes.
-/
namespace Go.Proofs.YtegiigeelcnemaaGreat
namespace Code
open Num Span

/-- How many: no more than there are bytes. -/
def cntP (zs : List Int) (p : Nat) : Option (Int × Nat) :=
  match numP zs p with
  | some (n, q) => if n ≤ (zs.length : Int) - q then some (n, q) else none
  | none => none
def cseqP {α : Type} (P : Nat → Option (α × Nat)) (zs : List Int) (p : Nat) : Option (List α × Nat) :=
  match cntP zs p with
  | none => none
  | some (n, q) => listP P n.toNat q
theorem flat_ge {α : Type} {enc : α → List Int} : ∀ {l : List α}, (∀ x ∈ l, 1 ≤ (enc x).length) → l.length ≤ (l.flatMap enc).length
  | [], _ => by simp
  | x :: l, h => by
    have h1 := h x (by simp)
    have h2 := flat_ge (l := l) (enc := enc) (fun y hy => h y (by simp [hy]))
    rw [List.flatMap_cons, List.length_append, List.length_cons]
    omega
theorem cseqP_put {α : Type} {P : Nat → Option (α × Nat)} {enc : α → List Int} {ok : α → Prop} {zs : List Int} (hP : ∀ x p, ok x → Std zs p (enc x) → P p = some (x, p + (enc x).length)) (h1 : ∀ x, ok x → 1 ≤ (enc x).length)
    {l : List α} {p : Nat} (hl : l.length ≤ 9223372036854775807) (hok : ∀ x ∈ l, ok x) (h : Std zs p (seqL enc l)) : cseqP P zs p = some (l, p + (seqL enc l).length) := by
  obtain ⟨g1, g2⟩ := std_append.1 h
  have hfl := flat_ge (l := l) (enc := enc) (fun x hx => h1 x (hok x hx))
  have hle := std_le g2
  unfold cseqP cntP
  rw [numP_put (by omega) (by omega) g1]
  simp only
  rw [if_pos (by omega)]
  simp only [Int.toNat_natCast]
  rw [listP_put hP l _ hok g2]
  unfold seqL
  rw [List.length_append, Nat.add_assoc]
theorem cseqP_ok {α : Type} {P : Nat → Option (α × Nat)} {enc : α → List Int} {ok : α → Prop} {zs : List Int} (hby : ∀ z ∈ zs, 0 ≤ z ∧ z ≤ 255) (hP : ∀ x p q, p ≤ zs.length → P p = some (x, q) → q ≤ zs.length ∧ (ok x → Std zs p (enc x) ∧ q = p + (enc x).length))
    {l : List α} {p q : Nat} (hp : p ≤ zs.length) (h : cseqP P zs p = some (l, q)) : q ≤ zs.length ∧ ((∀ x ∈ l, ok x) → Std zs p (seqL enc l) ∧ q = p + (seqL enc l).length) := by
  refine seqP_ok (P := P) (ok := ok) hby hP hp ?_
  unfold cseqP cntP at h
  unfold seqP
  rcases hn : numP zs p with _ | ⟨n, r⟩
  · rw [hn] at h
    cases h
  · rw [hn] at h
    simp only at h ⊢
    by_cases hle : n ≤ (zs.length : Int) - r
    · rw [if_pos hle] at h
      exact h
    · rw [if_neg hle] at h
      cases h
theorem cntP_ok {zs : List Int} {p q : Nat} {n : Int} (hby : ∀ z ∈ zs, 0 ≤ z ∧ z ≤ 255) (hp : p ≤ zs.length) (h : cntP zs p = some (n, q)) : 0 ≤ n ∧ n ≤ (zs.length : Int) - q ∧ p < q ∧ q ≤ zs.length := by
  unfold cntP at h
  rcases hn : numP zs p with _ | ⟨k, r⟩
  · rw [hn] at h
    cases h
  · rw [hn] at h
    simp only at h
    obtain ⟨g1, g2, g3, g4⟩ := numP_ok hby hp hn
    have gl := std_le g1
    have gp := putL_len k
    split at h
    · simp only [Option.some.injEq, Prod.mk.injEq] at h
      omega
    · cases h

def setR (zs : List Int) (p : Nat) : Option (List Sp × Nat) := cseqP (spanQ zs) zs p
theorem spL_pos (x : Sp) : 1 ≤ (spL x).length := by
  have := putL_len x.1
  unfold spL
  simp only [List.length_append]
  omega
theorem setR_put {zs : List Int} {p : Nat} {l : List Sp} (hl : l.length ≤ 9223372036854775807) (hr : ∀ x ∈ l, okSp x) (h : Std zs p (setL l)) : setR zs p = some (l, p + (setL l).length) := cseqP_put (ok := okSp) (fun x p => spanQ_put x p) (fun x _ => spL_pos x) hl hr h
theorem setR_ok {zs : List Int} (hby : ∀ z ∈ zs, 0 ≤ z ∧ z ≤ 255) {p q : Nat} {l : List Sp} (hp : p ≤ zs.length) (h : setR zs p = some (l, q)) : q ≤ zs.length ∧ ((∀ x ∈ l, okSp x) → Std zs p (setL l) ∧ q = p + (setL l).length) := cseqP_ok (ok := okSp) hby (spanQ_ok hby) hp h
theorem setR_ref {zs : List Int} (hby : ∀ z ∈ zs, 0 ≤ z ∧ z ≤ 255) : wholeF (setR zs 0) zs.length Right [] = setF zs := by
  refine wholeF_same (enc := setL) (fun x hR he => ?_) (fun x q h hR hq => ?_) (fun x hR he => ?_) (fun x q h hR hq => ?_)
  · have h1 := std_all.2 he
    have := hR.1
    rw [setR_put (by omega) hR.2.1 h1.1, Nat.zero_add, h1.2]
  · obtain ⟨h1, h2⟩ := (setR_ok hby (by omega) h).2 hR.2.1
    exact std_all.1 ⟨h1, by omega⟩
  · have h1 := std_all.2 he
    have := hR.1
    rw [setP_put (by omega) hR.2.1 h1.1, Nat.zero_add, h1.2]
  · obtain ⟨h1, h2⟩ := (setP_ok hby (by omega) h).2 hR.2.1
    exact std_all.1 ⟨h1, by omega⟩
theorem spanQ_goes {zs : List Int} (hby : ∀ z ∈ zs, 0 ≤ z ∧ z ≤ 255) {x : Sp} {p q : Nat} (hp : p ≤ zs.length) (h : spanQ zs p = some (x, q)) : p < q ∧ q ≤ zs.length := by
  unfold spanQ at h
  split at h
  · cases h
  · rename_i s r h1
    obtain ⟨a1, a2, a3, a4⟩ := numP_ok hby hp h1
    have l1 := std_le a1
    have m1 := putL_len s
    split at h
    · cases h
    · rename_i f u h2
      obtain ⟨b1, b2, b3, b4, b5⟩ := upP_ok hby (by omega) h2
      have l2 := std_le b1
      split at h
      · cases h
      · rename_i t v h3
        obtain ⟨c1, c2, c3, c4, c5⟩ := upP_ok hby (by omega) h3
        have l3 := std_le c1
        simp only [Option.some.injEq, Prod.mk.injEq] at h
        omega
theorem setR_len {zs : List Int} (hby : ∀ z ∈ zs, 0 ≤ z ∧ z ≤ 255) {p q : Nat} {l : List Sp} (hp : p ≤ zs.length) (h : setR zs p = some (l, q)) : p + l.length < q ∧ q ≤ zs.length := by
  unfold setR cseqP at h
  rcases hc : cntP zs p with _ | ⟨n, r⟩
  · rw [hc] at h
    cases h
  · rw [hc] at h
    obtain ⟨g1, g2, g3, g4⟩ := cntP_ok hby hp hc
    have := listP_len (fun x p q hp h => spanQ_goes hby hp h) n.toNat r q l (by omega) h
    omega
end Code
end Go.Proofs.YtegiigeelcnemaaGreat

/-
  firthref06: numbers, spans and sets as bytes.
-/
namespace Go.Proofs.YtegiigeelcnemaaGreat
namespace Code
open Go.RowKit Num Span
attribute [local go_sem ↓] Go.wp_at_zero Go.wp_at_succ

/-- The slice of the bytes L, made at or behind base; nothing below base has turned. -/
def GotB (base : Nat) (L : List Int) (w : World) (e : Ending) (w' : World) : Prop :=
  ∃ A c, e = .returned (.slice A L.length c) ∧ w'.ownsRow base 5 1 (.slice A L.length c) L.length (nums .u8 L) ∧ Below base w w'

theorem Ns.far {k : IntKind} {w w' : World} {B : Nat} {A : Option Addr} {zs : List Int} {row : Option Nat} (h : Ns k w B A zs) (hg : w.grownBy w' row) (hB : B ≤ w.heap.size) (hf : 0 < zs.length → ∀ a, A = some a → some a.block ≠ row) : Ns k w' B A zs := fun hp => by
  obtain ⟨b, off, e, hb, hc⟩ := h hp
  have hne := hf hp _ e
  exact ⟨b, off, e, hb, fun j hj => (World.cell?_of_block (hg.block b (by omega) hne)).trans (hc j hj)⟩
/-- The numbers stand in another block than the row v. -/
def Apart (A : Option Addr) (m : Nat) (v : Value) : Prop := 0 < m → ∀ a, A = some a → some a.block ≠ v.ownBlock

set_option maxRecDepth 100000 in
theorem ref_nums_any (base : Nat) (L : List Int) (A : Option Addr) (c n : Nat) (hn : L.length = n) (B : Nat) (A' : Option Addr) (c' m : Nat) (zs : List Int) (hm : zs.length = m) (hz : ∀ z ∈ zs, 0 ≤ z ∧ z ≤ 9223372036854775807) (w : World)
    (ho : w.ownsRow base 5 1 (.slice A n c) n (nums .u8 L)) (hb : base ≤ w.heap.size) (hr : Ns .i64 w B A' zs) (hfar : Apart A' m (.slice A n c)) (hB : B ≤ w.heap.size) (hbig : n + m * 9 ≤ 70368744177600) :
    Calls Tryz.prog 62 #[.slice A n c, .slice A' m c'] w (GotB base (L ++ zs.flatMap putL) w) := by
  obtain ⟨i0, hi0, hz0, hz1, hz2⟩ := info_parts Facts.info5
  have HS := Lib.hid (And.intro ho (And.intro hr (And.intro hz (And.intro hm (And.intro hn hfar)))))
  clear ho hr hz hm hn hfar
  go_enter Tryz.func62, Tryz.ntmps62
  go_wp2_with fail
  go_loopw [0, 5] (fun v q wr => ∃ k : Nat, q = .int .i64 k ∧ k ≤ m ∧ wr.ownsRow base 5 1 v (L ++ (zs.take k).flatMap putL).length (nums .u8 (L ++ (zs.take k).flatMap putL)) ∧ Below base w wr ∧ w.heap.size ≤ wr.heap.size ∧ Ns .i64 wr B A' zs ∧ Apart A' m v) (fun _ q _ => m - (intOf q).toNat)
  case atStart =>
    exact ⟨0, rfl, by omega, by rw [List.take_zero, List.flatMap_nil, List.append_nil, HS.out.2.2.2.2.1]; exact HS.out.1, Below.refl _ _, Nat.le_refl _, HS.out.2.1, HS.out.2.2.2.2.2⟩
  case round =>
    obtain ⟨k, rfl, hk, hown, hbl, hsz, hns, hap⟩ := hrel
    have hml := HS.out.2.2.2.1
    have hfl : ((zs.take k).flatMap putL).length ≤ k * 9 := by
      have h1 := flat_le (l := zs.take k) (enc := putL) (m := 9) (fun x _ => (putL_len x).2)
      rw [List.length_take] at h1
      have h2 : min k zs.length * 9 ≤ k * 9 := Nat.mul_le_mul_right _ (by omega)
      omega
    obtain ⟨T, hT⟩ : ∃ T, (zs.take k).flatMap putL = T := ⟨_, rfl⟩
    rw [hT] at hown hfl
    have hLn := HS.out.2.2.2.2.1
    by_cases hlt : k < m
    · obtain ⟨b, off, rfl, hbb, hc⟩ := hns (by omega)
      have hck := hc k (by omega)
      have hft := flat_take (enc := putL) (d := (0 : Int)) (show k < zs.length by omega)
      rw [hT] at hft
      have hx : 0 ≤ zs.getD k 0 ∧ zs.getD k 0 ≤ 9223372036854775807 := by
        rw [List.getD_eq_getElem?_getD, List.getElem?_eq_getElem (by omega), Option.getD_some]
        exact HS.out.2.2.1 _ (List.getElem_mem _)
      obtain ⟨x, hxx⟩ : ∃ x, zs.getD k 0 = x := ⟨_, rfl⟩
      rw [hxx] at hck hft hx
      have h1 := ref_putnum_pos x hx wr
      obtain ⟨l1, l9⟩ := putL_len x
      obtain ⟨X, hX⟩ : ∃ X, putL x = X := ⟨_, rfl⟩
      rw [hX] at h1 hft l1 l9
      have hll : (L ++ T).length = n + T.length := by rw [List.length_append, hLn]
      obtain ⟨N, hN⟩ : ∃ N, (L ++ T).length = N := ⟨_, rfl⟩
      rw [hN] at hown hll
      have d1 : (0 : Int) ≤ (k : Int) := by omega
      have d2 : (k : Int) < (m : Int) := by omega
      have H1 := Lib.hid h1
      have HT := Lib.hid (And.intro hft (And.intro hown (And.intro hns (And.intro hap (And.intro hN hbl)))))
      clear h1 hft hown hns hap hc hX hxx hx hLn hN hml hT hbl
      go_wp2_with fail
      refine H1.out.mono ?_
      rintro e w2 ⟨A2, c2, rfl, o2, b2⟩
      have hs2 := b2.size
      have hown2 := own_below HT.out.2.1 b2 (Nat.le_refl _)
      have hX2 := own_ns o2
      have HO := Lib.hid (And.intro hown2 b2)
      clear hown2 o2 b2 H1
      go_wp2_with (at_builtin; refine wpList_append_ns _ rfl _ _ 25 rfl base 5 i0 (.int .u8 0) 1 Tryz.underlying25 hi0 hz0 hz1 hz2 rfl _ N (nums .u8 (L ++ T)) rfl HO.out.1 .u8 w2.heap.size A2 X.length c2 X rfl rfl hX2 (by omega) (by omega) (by omega) ?_; intro v3 w3 o3 g3 at3)
      have hb3 : Below base w w3 := (HT.out.2.2.2.2.2.trans (HO.out.2.mono (by omega))).grown g3 (by omega) (fun j hj => (HO.out.1.lt j hj).1)
      have hns3 := Ns.far (HT.out.2.2.1.below (HO.out.2.mono (by omega))) g3 (by omega) (by rw [HS.out.2.2.2.1]; exact HT.out.2.2.2.1)
      have hap3 : Apart (some ⟨b, off, none⟩) m v3 := fun hp a ha e => by
        rcases at3 with h | h
        · exact HT.out.2.2.2.1 hp a ha (e.trans h)
        · injection ha with ha
          subst ha
          rw [h] at e
          injection e with e
          simp only at e
          omega
      have ho3 : w3.ownsRow base 5 1 v3 (L ++ (zs.take (k + 1)).flatMap putL).length (nums .u8 (L ++ (zs.take (k + 1)).flatMap putL)) := by
        rw [HT.out.1, ← List.append_assoc, List.length_append, HT.out.2.2.2.2.1]
        simpa [nums] using o3
      have hs3 := g3.size
      have HE := Lib.hid (And.intro ho3 (And.intro hb3 (And.intro hns3 hap3)))
      clear ho3 hb3 hns3 hap3 o3 g3 at3 hX2
      go_wp2_with fail
      go_roundw
      case rel => exact ⟨k + 1, rfl, by omega, HE.out.1, HE.out.2.1, by omega, HE.out.2.2.1, HE.out.2.2.2⟩
      case measure => simp only [intOf]; omega
    · have hkm : k = m := by omega
      subst hkm
      rw [List.take_of_length_le (by omega)] at hT
      obtain ⟨A3, c3, rfl⟩ := own_form hown
      have HE := Lib.hid (And.intro hown (And.intro hbl hT))
      clear hown hbl hns hap hT hLn hml
      go_wp2_with fail
      go_ret
      rw [HE.out.2.2]
      exact ⟨A3, c3, rfl, HE.out.1, HE.out.2.1⟩
theorem ns_lit1 (w : World) (e : TypeId) (x : Int) : Ns .i64 (w.alloc (.cells #[.int .i64 x] e)) (w.heap.size + 1) (some ⟨w.heap.size, 0, none⟩) [x] := fun _ =>
  ⟨w.heap.size, 0, rfl, by omega, fun j hj => by
    match j, hj with
    | 0, _ => simp⟩
theorem ns_lit3 (w : World) (e : TypeId) (x y z : Int) : Ns .i64 (w.alloc (.cells #[.int .i64 x, .int .i64 y, .int .i64 z] e)) (w.heap.size + 1) (some ⟨w.heap.size, 0, none⟩) [x, y, z] := fun _ =>
  ⟨w.heap.size, 0, rfl, by omega, fun j hj => by
    match j, hj with
    | 0, _ => simp
    | 1, _ => simp
    | 2, _ => simp⟩
theorem apart_new {w : World} {base n : Nat} {e : TypeId} {size : Nat} {v : Value} {xs : List Value} (h : w.ownsRow base e size v n xs) (m : Nat) : Apart (some ⟨w.heap.size, 0, none⟩) m v := fun _ a ha e => by
  injection ha with ha
  subst ha
  have := (h.lt _ e.symm).2
  simp only at this
  omega
theorem spL_nums (x : Sp) : [x.1, x.2.1, x.2.2 - x.2.1].flatMap putL = spL x := by
  unfold spL
  simp

set_option maxRecDepth 100000 in
theorem ref_spans_any (base : Nat) (L : List Int) (A : Option Addr) (c n : Nat) (hn : L.length = n) (B : Nat) (A' : Option Addr) (c' m : Nat) (l : List Sp) (hm : l.length = m) (hl : ∀ x ∈ l, okSp x) (w : World)
    (ho : w.ownsRow base 5 1 (.slice A n c) n (nums .u8 L)) (hb : base ≤ w.heap.size) (hr : Ss w B A' l) (hB : B ≤ base) (hbig : n + 9 + m * 27 ≤ 70368744170000) :
    Calls Tryz.prog 63 #[.slice A n c, .slice A' m c'] w (GotB base (L ++ setL l) w) := by
  have h1 := ref_nums_any base L A c n hn (w.heap.size + 1) (some ⟨w.heap.size, 0, none⟩) 1 1 [(m : Int)] rfl (by intro z hz; simp at hz; omega) (w.alloc (.cells #[.int .i64 m] 2)) (ho.alloc _) (by simp; omega) (ns_lit1 _ _ _) (apart_new ho 1) (by simp) (by omega)
  rw [show [(m : Int)].flatMap putL = putL (m : Int) by simp] at h1
  have l1 := putL_len (m : Int)
  have H1 := Lib.hid h1
  have HS := Lib.hid (And.intro hr (And.intro hl (And.intro hm hn)))
  clear h1 ho hr hl hm hn
  go_enter Tryz.func63, Tryz.ntmps63
  go_wp2_with fail
  refine H1.out.mono ?_
  rintro e w1 ⟨A1, c1, rfl, o1, b1⟩
  have b1' : Below base w w1 := ((Below.refl _ w).alloc hb _).trans b1
  have HX := Lib.hid (And.intro o1 b1')
  clear o1 b1 b1' H1
  go_wp2_with fail
  go_loopw [0, 5] (fun v q wr => ∃ (k : Nat) (A2 : Option Addr) (c2 : Nat), q = .int .i64 k ∧ k ≤ m ∧ v = .slice A2 (L ++ putL (m : Int) ++ (l.take k).flatMap spL).length c2 ∧ wr.ownsRow base 5 1 (.slice A2 (L ++ putL (m : Int) ++ (l.take k).flatMap spL).length c2) (L ++ putL (m : Int) ++ (l.take k).flatMap spL).length (nums .u8 (L ++ putL (m : Int) ++ (l.take k).flatMap spL)) ∧ Below base w wr) (fun _ q _ => m - (intOf q).toNat)
  case atStart => exact ⟨0, A1, c1, rfl, by omega, by simp, by simpa using HX.out.1, HX.out.2⟩
  case round =>
    obtain ⟨k, A2, c2, rfl, hk, rfl, hown, hbl⟩ := hrel
    have hml := HS.out.2.2.1
    have hLn := HS.out.2.2.2
    have hfl : ((l.take k).flatMap spL).length ≤ m * 27 := by
      have h1 := flat_le (l := l.take k) (enc := spL) (m := 27) (fun x _ => (spL_len x).2)
      rw [List.length_take] at h1
      have h2 : min k l.length * 27 ≤ m * 27 := Nat.mul_le_mul_right _ (by omega)
      omega
    have hsz := hbl.size
    by_cases hlt : k < m
    · obtain ⟨b, off, rfl, hbb, hc⟩ := (HS.out.1.below (hbl.mono hB)) (by omega)
      obtain ⟨q0, q1, q2⟩ := hc k (by omega)
      have hft := flat_take (enc := spL) (d := ((0, 0, 0) : Sp)) (show k < l.length by omega)
      have hx : okSp (l.getD k (0, 0, 0)) := by
        rw [List.getD_eq_getElem?_getD, List.getElem?_eq_getElem (by omega), Option.getD_some]
        exact HS.out.2.1 _ (List.getElem_mem _)
      obtain ⟨x, hxx⟩ : ∃ x, l.getD k (0, 0, 0) = x := ⟨_, rfl⟩
      rw [hxx] at q0 q1 q2 hft hx
      obtain ⟨s, f, t⟩ := x
      unfold okSp at hx
      simp only at q0 q1 q2 hx
      obtain ⟨T, hT⟩ : ∃ T, L ++ putL (m : Int) ++ (l.take k).flatMap spL = T := ⟨_, rfl⟩
      have hTl : T.length ≤ n + 9 + m * 27 := by rw [← hT]; simp only [List.length_append]; omega
      rw [hT] at hown ⊢
      obtain ⟨N, hN⟩ : ∃ N, T.length = N := ⟨_, rfl⟩
      rw [hN] at hown hTl ⊢
      have h2 : ∀ V, V = (wr.alloc (.cells #[.int .i64 s, .int .i64 f, .int .i64 (t - f)] 2)).drew → Calls Tryz.prog 62 #[.slice A2 N c2, .slice (some ⟨wr.heap.size, 0, none⟩) 3 3] V (GotB base (T ++ spL (s, f, t)) V) := fun V hV => by
        subst hV
        have h3 := ref_nums_any base T A2 c2 N hN (wr.heap.size + 1) (some ⟨wr.heap.size, 0, none⟩) 3 3 [s, f, t - f] rfl (by intro z hz; simp at hz; omega) (wr.alloc (.cells #[.int .i64 s, .int .i64 f, .int .i64 (t - f)] 2)).drew (hown.alloc _) (by simp; omega) (ns_lit3 _ _ _ _ _) (apart_new hown 3) (by simp) (by omega)
        rwa [show [s, f, t - f].flatMap putL = spL (s, f, t) from spL_nums (s, f, t)] at h3
      have d1 : (0 : Int) ≤ (k : Int) := by omega
      have d2 : (k : Int) < (m : Int) := by omega
      have hbw : b < base := by omega
      have hbz : b < wr.heap.size := by omega
      have hsub : IntKind.i64.wrap (t - f) = t - f := Go.IntWalk.i64_in _ (by omega)
      have H2 := Lib.hid h2
      have HT := Lib.hid (And.intro hft (And.intro hT (And.intro hbl hx)))
      clear h2 hft hT hbl hc hown hxx hx hLn hml
      go_wp2_with fail
      go_region_held3 (fun V => V.cell? ⟨b, off + k * 3, none⟩ = some (.int .i64 s) ∧ V.cell? ⟨b, off + k * 3 + 1, none⟩ = some (.int .i64 f) ∧ V.cell? ⟨b, off + k * 3 + 2, none⟩ = some (.int .i64 t))
        (first
          | exact ⟨q0, q1, q2⟩
          | exact ⟨(World.cell?_alloc_lt wr _ _ hbz).trans q0, (World.cell?_alloc_lt wr _ _ hbz).trans q1, (World.cell?_alloc_lt wr _ _ hbz).trans q2⟩
          | exact ⟨(b3.cell hbw).trans ((World.cell?_alloc_lt wr _ _ hbz).trans q0), (b3.cell hbw).trans ((World.cell?_alloc_lt wr _ _ hbz).trans q1), (b3.cell hbw).trans ((World.cell?_alloc_lt wr _ _ hbz).trans q2)⟩)
        (first | (go_at_call 62; refine (H2.out _ (by rfl)).mono ?_; rintro e w3 ⟨A3, c3, rfl, o3, b3⟩))
      all_goals
        have ho3 : w3.ownsRow base 5 1 (.slice A3 (L ++ putL (m : Int) ++ (l.take (k + 1)).flatMap spL).length c3) (L ++ putL (m : Int) ++ (l.take (k + 1)).flatMap spL).length (nums .u8 (L ++ putL (m : Int) ++ (l.take (k + 1)).flatMap spL)) := by
          rw [HT.out.1, ← List.append_assoc, HT.out.2.1]
          exact o3
        have hv3 : (T ++ spL (s, f, t)).length = (L ++ putL (m : Int) ++ (l.take (k + 1)).flatMap spL).length := by rw [HT.out.1, ← List.append_assoc, HT.out.2.1]
        have hb3 : Below base w w3 := HT.out.2.2.1.trans (((Below.refl _ wr).alloc (by omega) (.cells #[.int .i64 s, .int .i64 f, .int .i64 (t - f)] 2)).drew.trans b3)
        have HE := Lib.hid (And.intro ho3 (And.intro hb3 hv3))
        clear ho3 hb3 hv3 o3 b3
        go_wp2_with fail
        exact ⟨⟨k + 1, A3, c3, rfl, by omega, by rw [← HE.out.2.2, List.length_append, hN], HE.out.1, HE.out.2.1⟩, by simp only [intOf]; omega⟩
    · have hkm : k = m := by omega
      subst hkm
      have hE : L ++ putL (k : Int) ++ (l.take k).flatMap spL = L ++ setL l := by
        rw [List.take_of_length_le (by omega), List.append_assoc]
        unfold setL seqL
        rw [hml]
      rw [hE] at hown ⊢
      have HE := Lib.hid (And.intro hown hbl)
      clear hown hbl hE hml hLn
      go_wp2_with fail
      go_ret
      exact ⟨A2, c2, rfl, HE.out.1, HE.out.2⟩

end Code
end Go.Proofs.YtegiigeelcnemaaGreat

/-
  firthref06: what is read, one thing behind the other; sets.
-/
namespace Go.Proofs.YtegiigeelcnemaaGreat
namespace Code
open Go.RowKit Num Span
attribute [local go_sem ↓] Go.wp_at_zero Go.wp_at_succ

section
variable {w : World} {B : Nat} {t : TypeId} {x y z : Value}
theorem Box3.set1 (h : Box3 B t x y z w) (y' : Value) : Box3 B t x y' z (w.setCell ⟨B, 1, none⟩ y') := by
  have h' : w.heap[B]? = some (.cells #[x, y, z] t (0, 0)) := h
  show (w.setCell ⟨B, 1, none⟩ y').heap[B]? = _
  simp [World.setCell, Array.getElem?_modify, h']
theorem Box3.set2 (h : Box3 B t x y z w) (z' : Value) : Box3 B t x y z' (w.setCell ⟨B, 2, none⟩ z') := by
  have h' : w.heap[B]? = some (.cells #[x, y, z] t (0, 0)) := h
  show (w.setCell ⟨B, 2, none⟩ z').heap[B]? = _
  simp [World.setCell, Array.getElem?_modify, h']
theorem Box3.drew (h : Box3 B t x y z w) : Box3 B t x y z w.drew := h
end

/-- Where the document's reader is. -/
abbrev Rq (R : Nat) (A : Option Addr) (c n p : Nat) (bad : Bool) (w : World) : Prop := Box3 R 67 (.slice A n c) (.int .i64 p) (.bool bad) w
/-- What reading comes to: a value, and it goes on; or something was bad. -/
def RTook {α : Type} (R : Nat) (A : Option Addr) (c n : Nat) (w : World) (Q : Option (α × Nat)) (V : α → Value → World → Prop) (Z : Value → World → Prop) (e : Ending) (w' : World) : Prop :=
  w.grownBy w' (some R) ∧ match Q with
    | some (x, q) => ∃ v, e = .returned v ∧ Rq R A c n q false w' ∧ V x v w'
    | none => ∃ (v : Value) (p' : Nat), e = .returned v ∧ Rq R A c n p' true w' ∧ p' ≤ n ∧ Z v w'
def gd {α : Type} (bad : Bool) (Q : Option α) : Option α := if bad then none else Q
theorem RTook.none {α : Type} {R c n : Nat} {A : Option Addr} {w w' : World} {V : α → Value → World → Prop} {Z : Value → World → Prop} {e : Ending} (h : RTook R A c n w none V Z e w') : ∃ (v : Value) (p' : Nat), e = .returned v ∧ Rq R A c n p' true w' ∧ p' ≤ n ∧ Z v w' ∧ w.grownBy w' (some R) := by
  obtain ⟨h0, v, p', h1, h2, h3, h4⟩ := h
  exact ⟨v, p', h1, h2, h3, h4, h0⟩
theorem RTook.some {α : Type} {R c n q : Nat} {A : Option Addr} {w w' : World} {V : α → Value → World → Prop} {Z : Value → World → Prop} {e : Ending} {x : α} (h : RTook R A c n w (some (x, q)) V Z e w') : ∃ v, e = .returned v ∧ Rq R A c n q false w' ∧ V x v w' ∧ w.grownBy w' (some R) := by
  obtain ⟨h0, v, h1, h2, h3⟩ := h
  exact ⟨v, h1, h2, h3, h0⟩
theorem rtook_none {α : Type} {R c n p' : Nat} {A : Option Addr} {w w' : World} {V : α → Value → World → Prop} {Z : Value → World → Prop} {v : Value} (h : w.grownBy w' (some R)) (hr : Rq R A c n p' true w') (hp : p' ≤ n) (hz : Z v w') : RTook R A c n w none V Z (.returned v) w' := ⟨h, v, p', rfl, hr, hp, hz⟩
theorem rtook_some {α : Type} {R c n q : Nat} {A : Option Addr} {w w' : World} {V : α → Value → World → Prop} {Z : Value → World → Prop} {x : α} {v : Value} (h : w.grownBy w' (some R)) (hr : Rq R A c n q false w') (hv : V x v w') : RTook R A c n w (some (x, q)) V Z (.returned v) w' := ⟨h, v, rfl, hr, hv⟩
theorem grown_drewN {w w' : World} {row : Option Nat} (h : w.grownBy w' row) (k : Nat) : w.grownBy (w'.drewN k) row := ⟨h.os, h.tape, h.output, h.size, h.block⟩
def zeroV (v : Value) (_ : World) : Prop := v = .int .i64 0

theorem qnum_any (R : Nat) (A : Option Addr) (c n p : Nat) (bad : Bool) (zs : List Int) (w : World) (hs : Src R A c n zs w) (hr : Rq R A c n p bad w) (hp : p ≤ n) :
    Calls Tryz.prog 48 #[.pointer (some ⟨R, 0, none⟩)] w (RTook R A c n w (gd bad (numP zs p)) intV zeroV) := by
  obtain ⟨hN, hby, hn, hc, hbig⟩ := hs
  have hlt := hr.lt
  obtain ⟨c0, c1, c2⟩ := hr.cell
  have f1 := hr.frozen 1
  have f2 := hr.frozen 2
  cases bad
  case true =>
    have HR := Lib.hid hr
    clear hr hN hby
    go_enter Tryz.func48, Tryz.ntmps48
    go_wp2_with fail
    go_ret
    exact rtook_none (World.grownBy.refl _ _) HR.out hp rfl
  case false =>
    have h1 := fun W (hW : Ns .u8 W R A zs) => ref_num_in A c zs p R W hW hby (by omega) (by omega)
    rw [hn] at h1
    show Calls Tryz.prog 48 #[.pointer (some ⟨R, 0, none⟩)] w (RTook R A c n w (numP zs p) intV zeroV)
    rcases hP : numP zs p with _ | ⟨x, q⟩
    · have he := numP_none hP
      obtain ⟨⟨x, q, e⟩, hF⟩ : ∃ r, numF zs p = r := ⟨_, rfl⟩
      rw [hF] at h1 he
      simp only at he
      have he1 : (e != 0) = true := by simpa using he
      have H1 := Lib.hid h1
      have HN := Lib.hid hN
      have HR := Lib.hid hr
      clear h1 hN hF hP hby hr he
      go_enter Tryz.func48, Tryz.ntmps48
      go_wp2_with fail
      go_region_held3 (fun V => V.cell? ⟨R, 0, none⟩ = some (.slice A n c) ∧ V.cell? ⟨R, 1, none⟩ = some (.int .i64 p) ∧ V = w.drew) (first | exact ⟨c0, c1, rfl⟩ | assumption)
        (first | (go_at_call 102; refine (H1.out _ HN.out.drew).mono ?_; rintro e w3 ⟨rfl, rfl⟩))
      all_goals
        go_wp2_with fail
        go_ret
        exact rtook_none (grown_drew (grown_set1 _ _ _ _)) (HR.out.set2 _).drew hp rfl
    · have hF := numP_some hP
      rw [hF] at h1
      have H1 := Lib.hid h1
      have HN := Lib.hid hN
      have HR := Lib.hid hr
      clear h1 hN hF hP hby hr
      go_enter Tryz.func48, Tryz.ntmps48
      go_wp2_with fail
      go_region_held3 (fun V => V.cell? ⟨R, 0, none⟩ = some (.slice A n c) ∧ V.cell? ⟨R, 1, none⟩ = some (.int .i64 p) ∧ V = w.drew) (first | exact ⟨c0, c1, rfl⟩ | assumption)
        (first | (go_at_call 102; refine (H1.out _ HN.out.drew).mono ?_; rintro e w3 ⟨rfl, rfl⟩))
      all_goals
        go_wp2_with fail
        go_ret
        exact rtook_some (grown_drew (grown_set1 _ _ _ _)) (HR.out.set1 _).drew rfl

theorem qcount_any (R : Nat) (A : Option Addr) (c n p : Nat) (bad : Bool) (zs : List Int) (w : World) (hs : Src R A c n zs w) (hr : Rq R A c n p bad w) (hp : p ≤ n) :
    Calls Tryz.prog 51 #[.pointer (some ⟨R, 0, none⟩)] w (RTook R A c n w (gd bad (cntP zs p)) intV zeroV) := by
  have h1 := qnum_any R A c n p bad zs w hs hr hp
  have hn := hs.2.2.1
  have hbig := hs.2.2.2.2
  have hby := hs.2.1
  rcases hP : gd bad (numP zs p) with _ | ⟨x, q⟩
  · have hU : gd bad (cntP zs p) = none := by
      unfold gd at hP ⊢
      cases bad
      · simp only [Bool.false_eq_true, if_false] at hP ⊢
        unfold cntP
        rw [hP]
      · rfl
    rw [hU]
    rw [hP] at h1
    have H1 := Lib.hid h1
    clear h1 hU hP hs hr hby
    go_enter Tryz.func51, Tryz.ntmps51
    go_wp2_with fail
    refine H1.out.mono ?_
    intro e w1 hT
    obtain ⟨v, p', rfl, hr1, hp1, rfl, hg1⟩ := hT.none
    obtain ⟨c0, c1, c2⟩ := hr1.cell
    have hle : ¬ ((n : Int) - p' < 0) := by omega
    have hd : decide ((n : Int) - p' < 0) = false := decide_eq_false hle
    have hsub : IntKind.i64.wrap ((n : Int) - p') = (n : Int) - p' := Go.IntWalk.i64_in _ (by omega)
    have HE := Lib.hid (And.intro hg1 hr1)
    clear hT hg1 hr1 H1
    go_wp2_with fail
    go_quiet (fail)
    go_wp2_with fail
    go_ret
    exact rtook_none (grown_drewN HE.out.1 _) HE.out.2 hp1 rfl
  · obtain ⟨rfl, hP'⟩ : bad = false ∧ numP zs p = some (x, q) := by
      unfold gd at hP
      cases bad
      · exact ⟨rfl, hP⟩
      · cases hP
    obtain ⟨a1, a2, a3, a4⟩ := numP_ok hby (by omega) hP'
    have hq := std_le a1
    rw [hP] at h1
    have hsub : IntKind.i64.wrap ((n : Int) - q) = (n : Int) - q := Go.IntWalk.i64_in _ (by omega)
    have hz : zs.length = n := hn
    have hqn : q ≤ n := by omega
    by_cases hle : x ≤ (n : Int) - q
    · have hU : gd false (cntP zs p) = some (x, q) := by
        unfold gd cntP
        rw [hP']
        simp only [Bool.false_eq_true, if_false]
        rw [if_pos (by omega)]
      rw [hU]
      have H1 := Lib.hid h1
      clear h1 hU hP hP' hs hr hby a1 a2 hq hn hz
      go_enter Tryz.func51, Tryz.ntmps51
      go_wp2_with fail
      refine H1.out.mono ?_
      intro e w1 hT
      obtain ⟨v, rfl, hr1, rfl, hg1⟩ := hT.some
      obtain ⟨c0, c1, c2⟩ := hr1.cell
      have hd : decide ((n : Int) - q < x) = false := decide_eq_false (by omega)
      have HE := Lib.hid (And.intro hg1 hr1)
      clear hT hg1 hr1 H1
      go_wp2_with fail
      go_quiet (fail)
      go_wp2_with fail
      go_ret
      exact rtook_some (grown_drewN HE.out.1 _) HE.out.2 rfl
    · have hU : gd false (cntP zs p) = none := by
        unfold gd cntP
        rw [hP']
        simp only [Bool.false_eq_true, if_false]
        rw [if_neg (by omega)]
      rw [hU]
      have H1 := Lib.hid h1
      clear h1 hU hP hP' hs hr hby a1 a2 hq hn hz
      go_enter Tryz.func51, Tryz.ntmps51
      go_wp2_with fail
      refine H1.out.mono ?_
      intro e w1 hT
      obtain ⟨v, rfl, hr1, rfl, hg1⟩ := hT.some
      obtain ⟨c0, c1, c2⟩ := hr1.cell
      have f2 := hr1.frozen 2
      have hd : decide ((n : Int) - q < x) = true := decide_eq_true (by omega)
      have HE := Lib.hid (And.intro hg1 hr1)
      clear hT hg1 hr1 H1
      go_wp2_with fail
      go_quiet (fail)
      go_wp2_with fail
      go_ret
      exact rtook_none (grown_trans (grown_drewN HE.out.1 _) (grown_set1 _ _ _ _)) ((show Rq R A c n q false (w1.drewN _) from HE.out.2).set2 _) (by omega) rfl

/-- What a number comes to. -/
def Num1 (zs : List Int) (p : Nat) (bad : Bool) (x : Int) (p' : Nat) (b' : Bool) : Prop := (b' = false ∧ bad = false ∧ numP zs p = some (x, p')) ∨ (b' = true ∧ x = 0 ∧ (bad = true ∨ numP zs p = none))
/-- One number, said in one breath. -/
theorem qnum_one (R : Nat) (A : Option Addr) (c n p : Nat) (bad : Bool) (zs : List Int) (w : World) (hs : Src R A c n zs w) (hr : Rq R A c n p bad w) (hp : p ≤ n) :
    Calls Tryz.prog 48 #[.pointer (some ⟨R, 0, none⟩)] w (fun e w' => ∃ (x : Int) (p' : Nat) (b' : Bool), e = .returned (.int .i64 x) ∧ Rq R A c n p' b' w' ∧ p' ≤ n ∧ w.grownBy w' (some R) ∧ (0 ≤ x ∧ x ≤ 9223372036854775807) ∧ Num1 zs p bad x p' b') := by
  refine (qnum_any R A c n p bad zs w hs hr hp).mono ?_
  intro e w1 hT
  have hby := hs.2.1
  have hn := hs.2.2.1
  rcases hP : gd bad (numP zs p) with _ | ⟨x, q⟩
  · rw [hP] at hT
    obtain ⟨v, p', rfl, hr1, hp1, rfl, hg1⟩ := hT.none
    refine ⟨0, p', true, rfl, hr1, hp1, hg1, by omega, .inr ⟨rfl, rfl, ?_⟩⟩
    unfold gd at hP
    cases bad
    · exact .inr hP
    · exact .inl rfl
  · rw [hP] at hT
    obtain ⟨v, rfl, hr1, rfl, hg1⟩ := hT.some
    obtain ⟨rfl, hP'⟩ : bad = false ∧ numP zs p = some (x, q) := by
      unfold gd at hP
      cases bad
      · exact ⟨rfl, hP⟩
      · cases hP
    obtain ⟨a1, a2, a3, a4⟩ := numP_ok hby (by omega) hP'
    have := std_le a1
    exact ⟨x, q, false, rfl, hr1, by omega, hg1, ⟨a3, a4⟩, .inl ⟨rfl, rfl, hP'⟩⟩
/-- Spans of the call's own, whichever. -/
def anySs (B : Nat) (v : Value) (w' : World) : Prop := ∃ l, ssV B l v w'

/-- How many, said in one breath. -/
theorem qcount_one (R : Nat) (A : Option Addr) (c n p : Nat) (bad : Bool) (zs : List Int) (w : World) (hs : Src R A c n zs w) (hr : Rq R A c n p bad w) (hp : p ≤ n) :
    Calls Tryz.prog 51 #[.pointer (some ⟨R, 0, none⟩)] w (fun e w' => ∃ (x p' : Nat) (b' : Bool), e = .returned (.int .i64 x) ∧ Rq R A c n p' b' w' ∧ p' ≤ n ∧ w.grownBy w' (some R) ∧ x ≤ n ∧
      ((b' = false ∧ bad = false ∧ cntP zs p = some ((x : Int), p')) ∨ (b' = true ∧ x = 0 ∧ gd bad (cntP zs p) = none))) := by
  refine (qcount_any R A c n p bad zs w hs hr hp).mono ?_
  intro e w1 hT
  have hby := hs.2.1
  have hn := hs.2.2.1
  rcases hP : gd bad (cntP zs p) with _ | ⟨x, q⟩
  · rw [hP] at hT
    obtain ⟨v, p', rfl, hr1, hp1, rfl, hg1⟩ := hT.none
    exact ⟨0, p', true, rfl, hr1, hp1, hg1, by omega, .inr ⟨rfl, rfl, rfl⟩⟩
  · rw [hP] at hT
    obtain ⟨v, rfl, hr1, rfl, hg1⟩ := hT.some
    obtain ⟨rfl, hP'⟩ : bad = false ∧ cntP zs p = some (x, q) := by
      unfold gd at hP
      cases bad
      · exact ⟨rfl, hP⟩
      · cases hP
    obtain ⟨a1, a2, a3, a4⟩ := cntP_ok hby (by omega) hP'
    obtain ⟨X, rfl⟩ := Int.eq_ofNat_of_zero_le a1
    exact ⟨X, q, false, rfl, hr1, by omega, hg1, by omega, .inl ⟨rfl, rfl, hP'⟩⟩
theorem setR_none {bad : Bool} {zs : List Int} {p : Nat} (h : gd bad (cntP zs p) = none) : gd bad (setR zs p) = none := by
  unfold gd at h ⊢
  cases bad
  · simp only [Bool.false_eq_true, if_false] at h ⊢
    unfold setR cseqP
    rw [h]
  · rfl
theorem setR_some {zs : List Int} {p q M : Nat} (h : cntP zs p = some ((M : Int), q)) : setR zs p = listP (spanQ zs) M q := by
  unfold setR cseqP
  rw [h]
  simp

theorem spanQ_one {zs : List Int} {r r1 r2 r3 : Nat} {b2 b3 b4 : Bool} {x1 x2 x3 : Int} (h1 : Num1 zs r false x1 r1 b2) (h2 : Num1 zs r1 b2 x2 r2 b3) (h3 : Num1 zs r2 b3 x3 r3 b4) :
    (b4 = true → spanQ zs r = none) ∧ (b4 = false → spanQ zs r = if x2 ≤ 4611686018427387904 ∧ x3 ≤ 4611686018427387904 then some ((x1, x2, wrap64 (x2 + x3)), r3) else none) := by
  unfold Num1 at h1 h2 h3
  constructor
  · rintro rfl
    rcases h3 with ⟨h, _⟩ | ⟨_, _, h3⟩
    · cases h
    rcases h2 with ⟨rfl, rfl, h2⟩ | ⟨rfl, _, h2⟩
    · rcases h1 with ⟨_, _, h1⟩ | ⟨h, _⟩
      · rcases h3 with h3 | h3
        · cases h3
        · unfold spanQ upP
          simp only [h1, h2]
          by_cases hx : x2 ≤ 4611686018427387904
          · simp [hx, h3]
          · simp [hx]
      · cases h
    · rcases h1 with ⟨rfl, _, h1⟩ | ⟨rfl, _, h1⟩
      · rcases h2 with h2 | h2
        · cases h2
        · unfold spanQ upP
          simp only [h1, h2]
      · rcases h1 with h1 | h1
        · cases h1
        · unfold spanQ
          simp only [h1]
  · rintro rfl
    rcases h3 with ⟨_, rfl, h3⟩ | ⟨h, _⟩
    · rcases h2 with ⟨_, rfl, h2⟩ | ⟨h, _⟩
      · rcases h1 with ⟨_, _, h1⟩ | ⟨h, _⟩
        · unfold spanQ upP
          simp only [h1, h2]
          by_cases hx : x2 ≤ 4611686018427387904
          · by_cases hy : x3 ≤ 4611686018427387904
            · simp [hx, hy, h3]
            · simp [hx, hy, h3]
          · simp [hx]
        · cases h
      · cases h
    · cases h

set_option maxRecDepth 100000 in
set_option maxHeartbeats 1000000 in
theorem qspans_any (R : Nat) (A : Option Addr) (c n p : Nat) (bad : Bool) (zs : List Int) (w : World) (hs : Src R A c n zs w) (hr : Rq R A c n p bad w) (hp : p ≤ n) :
    Calls Tryz.prog 69 #[.pointer (some ⟨R, 0, none⟩)] w (RTook R A c n w (gd bad (setR zs p)) (ssV w.heap.size) (anySs w.heap.size)) := by
  obtain ⟨info, hi, hz, hsize, hbyt⟩ := info_span
  have hlt := hr.lt
  have hbig := hs.2.2.2.2
  have h1 := qcount_one R A c n p bad zs w hs hr hp
  obtain ⟨F, hF⟩ : ∃ F, gd bad (setR zs p) = F := ⟨_, rfl⟩
  have H1 := Lib.hid h1
  have HS := Lib.hid (And.intro hs hF)
  rw [hF]
  clear h1 hs hr hF
  go_enter Tryz.func69, Tryz.ntmps69
  go_wp2_with fail
  refine H1.out.mono ?_
  rintro e w1 ⟨M, p1, b1, rfl, hr1, hp1, hg1, hMn, hst⟩
  have hF := HS.out.2
  have hby := HS.out.1.2.1
  have hn := HS.out.1.2.2.1
  have hdead : b1 = true → F = none := fun e => by
    rcases hst with ⟨e', _⟩ | ⟨_, _, h⟩
    · rw [e] at e'; cases e'
    · rw [← hF]; exact setR_none h
  have hlive : b1 = false → F = listP (spanQ zs) M p1 := fun e => by
    rcases hst with ⟨_, rfl, h⟩ | ⟨e', _⟩
    · rw [← hF]; exact setR_some h
    · rw [e] at e'; cases e'
  have HX := Lib.hid (And.intro hr1 (And.intro hg1 (And.intro hdead hlive)))
  clear hr1 hg1 hst hF hby hn hdead hlive H1
  go_wp2_with fail
  go_loopw [3, 5] (fun v q wr => ∃ (k : Nat) (l : List Sp) (r : Nat) (b : Bool), q = .int .i64 k ∧ k ≤ M ∧ l.length = k ∧ r ≤ n ∧ wr.ownsRow w.heap.size 70 3 v l.length (sps l) ∧ Rq R A c n r b wr ∧ w.grownBy wr (some R) ∧ (b = false → F = listP (spanQ zs) M p1 ∧ Taking (spanQ zs) M p1 k l r) ∧ (b = true → F = none)) (fun _ q _ => M - (intOf q).toNat)
  case atStart => exact ⟨0, [], p1, b1, rfl, by omega, rfl, hp1, World.ownsRow_nil _ _ _ _, HX.out.1, HX.out.2.1, fun e => ⟨HX.out.2.2.2 e, taking_start _ _ _⟩, HX.out.2.2.1⟩
  case round =>
    obtain ⟨k, l, r, b, rfl, hkM, hlk, hrn, ho, hrq, hg, hal, hde⟩ := hrel
    obtain ⟨c0, c1, c2⟩ := hrq.cell
    have hsz := hg.size
    by_cases hgo : k < M ∧ b = false
    · obtain ⟨hlt3, rfl⟩ := hgo
      have hsw : Src R A c n zs wr := HS.out.1.kept hg hlt
      have h2 := qnum_one R A c n r false zs wr hsw hrq hrn
      have H2 := Lib.hid h2
      have HU := Lib.hid (And.intro ho (And.intro hg (hal rfl)))
      clear h2 ho hg hal hde hsw
      have hltR := hrq.lt
      clear hrq
      go_wp2_with fail
      refine H2.out.mono ?_
      rintro e w2 ⟨x1, r1, b2, rfl, hr2, hrn2, hg2, hx1, hst1⟩
      have hg02 := grown_trans HU.out.2.1 hg2
      have h3 := qnum_one R A c n r1 b2 zs w2 (HS.out.1.kept hg02 hlt) hr2 hrn2
      have H3 := Lib.hid h3
      have HU2 := Lib.hid (And.intro hg02 (And.intro hst1 hg2))
      clear h3 hg02 hst1 hg2 hr2 H2
      go_wp2_with fail
      refine H3.out.mono ?_
      rintro e w3 ⟨x2, r2, b3, rfl, hr3, hrn3, hg3, hx2, hst2⟩
      have hg03 := grown_trans HU2.out.1 hg3
      have h4 := qnum_one R A c n r2 b3 zs w3 (HS.out.1.kept hg03 hlt) hr3 hrn3
      have H4 := Lib.hid h4
      have HU3 := Lib.hid (And.intro hg03 (And.intro hst2 hg3))
      clear h4 hg03 hst2 hg3 hr3 H3
      go_wp2_with fail
      refine H4.out.mono ?_
      rintro e w4 ⟨x3, r3, b4, rfl, hr4, hrn4, hg4, hx3, hst3⟩
      have hg04 := grown_trans HU3.out.1 hg4
      obtain ⟨k0, k1, k2⟩ := hr4.cell
      have f2 := hr4.frozen 2
      have hT := HU.out.2.2.2
      have hFl := HU.out.2.2.1
      have hby := HS.out.1.2.1
      have hn := HS.out.1.2.2.1
      obtain ⟨hq1, hq2⟩ := spanQ_one (zs := zs) HU2.out.2.1 HU3.out.2.1 hst3
      have hfin : F = none → RTook R A c n w F (ssV w.heap.size) (anySs w.heap.size) (.returned (.slice none 0 0)) (w4.setCell ⟨R, 2, none⟩ (.bool true)) := fun e => by
        rw [e]
        exact rtook_none (grown_trans hg04 (grown_set1 _ _ _ _)) (hr4.set2 _) hrn4 ⟨[], none, 0, rfl, World.ownsRow_nil _ _ _ _⟩
      have hQ : ¬ (x2 ≤ 4611686018427387904 ∧ x3 ≤ 4611686018427387904) → F = none := fun h => by
        rw [hFl]
        cases b4
        · exact taking_none hT hlt3 (by rw [hq2 rfl, if_neg h])
        · exact taking_none hT hlt3 (hq1 rfl)
      have o2 := HU.out.1.kept HU2.out.2.2 (own_apart HU.out.1 hlt)
      have o3 := o2.kept HU3.out.2.2 (own_apart o2 hlt)
      have o4 := o3.kept hg4 (own_apart o3 hlt)
      have hs4 := hg04.size
      have hnext : x2 ≤ 4611686018427387904 → x3 ≤ 4611686018427387904 → (b4 = false → F = listP (spanQ zs) M p1 ∧ Taking (spanQ zs) M p1 (k + 1) (l ++ [(x1, x2, wrap64 (x2 + x3))]) r3) ∧ (b4 = true → F = none) := fun hx hy => by
        refine ⟨fun e => ?_, fun e => ?_⟩
        · have h := hq2 e
          rw [if_pos ⟨hx, hy⟩] at h
          obtain ⟨g1, g2⟩ := spanQ_goes hby (by omega) h
          exact ⟨hFl, taking_more hT hlt3 h g1⟩
        · rw [hFl]
          exact taking_none hT hlt3 (hq1 e)
      have HF := Lib.hid (And.intro hfin (And.intro hQ (And.intro hnext (And.intro o4 (And.intro hg04 hr4)))))
      clear hfin hQ hnext o2 o3 o4 hg04 hr4 hT hFl hby hn hq1 hq2 hg4 hst3 H4
      by_cases hx : x2 ≤ 4611686018427387904
      · by_cases hy : x3 ≤ 4611686018427387904
        · go_wp2_with (at_builtin; refine wpList_append_sp _ rfl _ _ _ rfl w.heap.size 70 info _ 24 Tryz.underlying71 hi hz hsize hbyt rfl _ l.length l rfl HF.out.2.2.2.1 (x1, x2, wrap64 (x2 + x3)) 1 rfl (by omega) (by omega) hs4 ?_; intro v' w' o' g' _)
          have hgw := grown_own HF.out.2.2.2.2.1 g' (fun j hj => (HF.out.2.2.2.1.lt j hj).1)
          have hrw : Rq R A c n r3 b4 w' := HF.out.2.2.2.2.2.kept g' (own_far HF.out.2.2.2.1 hlt)
          have hoo : w'.ownsRow w.heap.size 70 3 v' (l ++ [(x1, x2, wrap64 (x2 + x3))]).length (sps (l ++ [(x1, x2, wrap64 (x2 + x3))])) := by simpa using o'
          obtain ⟨n1, n2⟩ := HF.out.2.2.1 hx hy
          have HE := Lib.hid (And.intro hoo (And.intro hgw (And.intro hrw (And.intro n1 n2))))
          clear HF o' g' hgw hrw hoo n1 n2
          go_wp2_with fail
          go_roundw
          case rel => exact ⟨k + 1, l ++ [(x1, x2, wrap64 (x2 + x3))], r3, b4, rfl, by omega, by simp [hlk], hrn4, HE.out.1, HE.out.2.2.1, HE.out.2.1, HE.out.2.2.2.1, HE.out.2.2.2.2⟩
          case measure => simp only [intOf]; omega
        · have hy' : (4611686018427387904 : Int) < x3 := by omega
          go_wp2_with fail
          go_ret
          exact HF.out.1 (HF.out.2.1 (fun h => absurd h.2 (by omega)))
      · have hx' : (4611686018427387904 : Int) < x2 := by omega
        go_wp2_with fail
        go_ret
        exact HF.out.1 (HF.out.2.1 (fun h => absurd h.1 (by omega)))
    · obtain ⟨A', c', rfl⟩ := own_form ho
      have hend : RTook R A c n w F (ssV w.heap.size) (anySs w.heap.size) (.returned (.slice A' l.length c')) wr := by
        cases b
        · have hk : k = M := by
            rcases Nat.lt_or_ge k M with h | h
            · exact absurd ⟨h, rfl⟩ hgo
            · omega
          subst hk
          obtain ⟨h1, h2⟩ := hal rfl
          rw [h1, taking_end h2]
          exact rtook_some hg hrq ⟨A', c', rfl, ho⟩
        · rw [hde rfl]
          exact rtook_none hg hrq hrn ⟨l, A', c', rfl, ho⟩
      have HE := Lib.hid hend
      clear hend hal hde hg ho hrq
      by_cases hk : k < M
      · have hbt : b = true := by
          cases b
          · exact absurd ⟨hk, rfl⟩ hgo
          · rfl
        subst hbt
        go_wp2_with fail
        go_ret
        first | exact HE.out | (have h := HE.out; rw [hlk] at h; exact h)
      · have hk' : ¬ (k : Int) < (M : Int) := by omega
        have hd : decide ((k : Int) < (M : Int)) = false := decide_eq_false hk'
        go_wp2_with fail
        go_ret
        first | exact HE.out | (have h := HE.out; rw [hlk] at h; exact h)

/-- A set and an error, the set in memory of the call's own. -/
def GotSetR (B : Nat) (r : List Sp × Int) (w : World) (e : Ending) (w' : World) : Prop :=
  ∃ A c, e = .returned (.tuple #[.slice A r.1.length c, .int .i64 r.2]) ∧ w'.ownsRow B 70 3 (.slice A r.1.length c) r.1.length (sps r.1) ∧ Below B w w'

end Code
end Go.Proofs.YtegiigeelcnemaaGreat

/-
  What the data of a law's arguments weigh: each string and each slice within them is within the reach.
-/
namespace Go.Proofs.YtegiigeelcnemaaGreat
namespace Wgt
open Go.ChangeShapes Go.WideShapes Go.ChangeAt Go.RowKit

section
variable {H : Type} {P : Program}

/-- What a datum weighs is within the reach. -/
def Wt (P : Program) (t : TypeId) (d : DataW H) : Prop := ∀ x ∈ d.weights P t, x ≤ 140737488351232
theorem wt_arg {ts : List TypeId} {ds : List (DataW H)} {j : Nat} {t : TypeId} {d : DataW H} (h : (DataW.weightsEach P ts ds).all (· ≤ reachBytes) = true) (ht : ts[j]? = some t) (hd : ds[j]? = some d) : Wt P t d := fun x hx => by
  have h1 := List.all_eq_true.1 h x (DataW.weights_mem_each ht hd x hx)
  have h3 : reachBytes = 140737488351232 := by decide
  simpa [h3] using h1
theorem wt_all {e : TypeId} : ∀ {l : List (DataW H)}, (∀ x ∈ DataW.weightsAll P e l, x ≤ 140737488351232) → ∀ d ∈ l, Wt P e d
  | [], _, d, hd => by simp at hd
  | y :: l, h, d, hd => by
    simp only [DataW.weightsAll, List.mem_append] at h
    rcases List.mem_cons.1 hd with rfl | hd
    · exact fun x hx => h x (.inl hx)
    · exact wt_all (fun x hx => h x (.inr hx)) d hd
theorem wt_slice {t e : TypeId} {el sp : List (DataW H)} (ht : P.underlying t = some (.slice e)) (h : Wt P t (.slice el sp)) : (el.length + sp.length) * P.bytesOf e ≤ 140737488351232 ∧ ∀ d ∈ el, Wt P e d := by
  unfold Wt at h
  simp only [DataW.weights, ht, List.mem_cons, List.mem_append] at h
  exact ⟨h _ (.inl rfl), wt_all fun x hx => h x (.inr (.inl hx))⟩
theorem wt_string {t : TypeId} {b : List UInt8} (h : Wt P t (.lit (.string b) : DataW H)) : b.length ≤ 140737488351232 := by
  unfold Wt at h
  simp only [DataW.weights, List.mem_cons, List.not_mem_nil, or_false, forall_eq] at h
  exact h
theorem wt_each : ∀ {ts : List TypeId} {ds : List (DataW H)}, (∀ x ∈ DataW.weightsEach P ts ds, x ≤ 140737488351232) → ∀ (j : Nat) t d, ts[j]? = some t → ds[j]? = some d → Wt P t d
  | [], _, _, _, _, _, ht, _ => by simp at ht
  | _ :: _, [], _, _, _, _, _, hd => by simp at hd
  | t0 :: ts, d0 :: ds, h, j, t, d, ht, hd => by
    simp only [DataW.weightsEach, List.mem_append] at h
    rcases j with _ | j
    · simp only [List.getElem?_cons_zero, Option.some.injEq] at ht hd
      subst ht hd
      exact fun x hx => h x (.inl hx)
    · simp only [List.getElem?_cons_succ] at ht hd
      exact wt_each (fun x hx => h x (.inr hx)) j t d ht hd
theorem wt_struct {t : TypeId} {fs : Array Field} {parts : List (DataW H)} (ht : P.underlying t = some (.struct fs)) (h : Wt P t (.agg parts)) : ∀ (j : Nat) u d, (fs.toList.map (·.type))[j]? = some u → parts[j]? = some d → Wt P u d := by
  unfold Wt at h
  simp only [DataW.weights, ht] at h
  exact wt_each h
theorem str_len (s : ByteArray) : s.data.toList.length = s.size := by rw [Array.length_toList]; rfl
end
end Wgt
end Go.Proofs.YtegiigeelcnemaaGreat

/-
  A slice of bytes, cut: b[:h], b[l:], b[l:h]; nil and empty ones too.
-/
namespace Go.Proofs.YtegiigeelcnemaaGreat
namespace Cut
open Go.RowKit

theorem elem_bytes : Tryz.prog.underlying 25 = some (.slice (Tryz.prog.elem 25)) := by kernel_rfl
theorem elem_byte : Tryz.prog.elem 25 = 5 := by kernel_rfl
/-- The address of what stands from m on. -/
def tailA (A : Option Addr) (c m : Nat) : Option Addr := if c = m then A else A.map fun a => a.add m
theorem tail_ns {w : World} {B : Nat} {A : Option Addr} {zs : List Int} {k c m : Nat} (hz : zs.length = k) (hm : m ≤ k) (hk : k ≤ c) (h : Ns .u8 w B A zs) : Ns .u8 w B (tailA A c m) (zs.drop m) := by
  intro hp
  rw [List.length_drop] at hp
  obtain ⟨b, off, rfl, _, _⟩ := h (by omega)
  have h2 := h.cut m (zs.length - m)
  rw [List.take_of_length_le (by rw [List.length_drop]; omega)] at h2
  have e : tailA (some ⟨b, off, none⟩) c m = some ⟨b, off + m, none⟩ := by
    unfold tailA
    rw [if_neg (by omega), Option.map_some, Addr.add_lit]
  rw [e]
  exact h2 (by rw [List.length_drop]; omega)
theorem cut_h (A : Option Addr) (k c m : Nat) (x : Int) (hx : x = m) (hm : m ≤ k) (hk : k ≤ c) :
    ∀ V, (Instr.slice 25 (.slice A k c) none (some (.int .i64 x)) none).run Tryz.prog V = .ok (.slice A m c) V := fun V => by
  subst hx
  obtain ⟨j0, hj0, hy0, hy1, hy2⟩ := info_parts Facts.info5
  have hs := run_slice_h (P := Tryz.prog) V 25 A k c elem_bytes .i64 (m : Int) (by omega) (by omega)
  rw [hs, elem_byte]
  simp only [sizeOf, typeInfo, Sem.run_bind, Sem.run_pure, sliced, Int.toNat_natCast, Nat.sub_zero]
  simp [go_sem, hj0, hy1]
theorem cut_l (A : Option Addr) (k c m : Nat) (x : Int) (hx : x = m) (hm : m ≤ k) :
    ∀ V, (Instr.slice 25 (.slice A k c) (some (.int .i64 x)) none none).run Tryz.prog V = .ok (.slice (tailA A c m) (k - m) (c - m)) V := fun V => by
  subst hx
  obtain ⟨j0, hj0, hy0, hy1, hy2⟩ := info_parts Facts.info5
  have hs := run_slice_l (P := Tryz.prog) V 25 A k c elem_bytes .i64 (m : Int) (by omega) (by omega)
  rw [hs, elem_byte]
  simp only [sizeOf, typeInfo, Sem.run_bind, Sem.run_pure, sliced, Int.toNat_natCast]
  simp [go_sem, hj0, hy1, tailA]
theorem cut_lh (A : Option Addr) (k c l m : Nat) (x y : Int) (hx : x = l) (hy : y = m) (hl : l ≤ m) (hm : m ≤ k) (hk : k ≤ c) :
    ∀ V, (Instr.slice 25 (.slice A k c) (some (.int .i64 x)) (some (.int .i64 y)) none).run Tryz.prog V = .ok (.slice (tailA A c l) (m - l) (c - l)) V := fun V => by
  subst hx
  subst hy
  obtain ⟨j0, hj0, hy0, hy1, hy2⟩ := info_parts Facts.info5
  have hs := run_slice_lh (P := Tryz.prog) V 25 A k c elem_bytes .i64 .i64 (l : Int) (m : Int) (by omega) (by omega) (by omega)
  rw [hs, elem_byte]
  simp only [sizeOf, typeInfo, Sem.run_bind, Sem.run_pure, sliced, Int.toNat_natCast]
  simp [go_sem, hj0, hy1, tailA]
end Cut
end Go.Proofs.YtegiigeelcnemaaGreat
