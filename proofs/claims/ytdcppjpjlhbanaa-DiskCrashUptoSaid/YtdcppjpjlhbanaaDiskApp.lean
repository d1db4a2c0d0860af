/-
  disk: bytes are appended to a file's: in its own room, or in a new block (layer 7).
-/
import Derived.Test.YtdcppjpjlhbanaaDiskClose
import Derived.ArgAppend
import Derived.Deep.AppendLies
import Derived.Deep.Upon
import Derived.Deep.AppendSrc
namespace Go.Proofs.Ytdcppjpjlhbanaa
namespace Disk
open Go.RowKit Blk Go.Maps
theorem heap_setCells_same (g : Nat) (e : TypeId) : ∀ (vs : List Value) (o : Nat) (w : World) (cur : Array Value), w.heap[g]? = some (.cells cur e (0, 0)) → o + vs.length ≤ cur.size →
    ∃ cur', (w.setCells g o vs).heap[g]? = some (.cells cur' e (0, 0)) ∧ cur'.toList = cur.toList.take o ++ vs ++ cur.toList.drop (o + vs.length)
  | [], o, w, cur, h, _ => ⟨cur, h, by simp⟩
  | v :: r, o, w, cur, h, hl => by
    have h1 : (w.setCell ⟨g, o, none⟩ v).heap[g]? = some (.cells (cur.setIfInBounds o v) e (0, 0)) := by
      simp [World.setCell, Array.getElem?_modify, h]
    obtain ⟨cur', h2, h3⟩ := heap_setCells_same g e r (o + 1) (w.setCell ⟨g, o, none⟩ v) (cur.setIfInBounds o v) h1 (by simp at hl ⊢; omega)
    refine ⟨cur', h2, ?_⟩
    simp only [List.length_cons] at hl
    have hlo : o < cur.toList.length := by rw [Array.length_toList]; omega
    rw [h3, Array.toList_setIfInBounds, List.length_cons, show o + 1 + r.length = o + (r.length + 1) by omega, List.drop_set_of_lt (by omega), List.take_set, List.take_succ_eq_append_getElem hlo, List.set_append_right _ _ (by rw [List.length_take]; omega), List.length_take, show o - min o cur.toList.length = 0 by omega, List.set_cons_zero]
    simp
theorem setCells_chg (g o : Nat) (vs : List Value) (w : World) : Chg (fun j => j = g) w (w.setCells g o vs) := by
  induction vs generalizing o w with
  | nil => exact Chg.refl _ _
  | cons v r ih =>
    have h1 : Chg (fun j => j = g) w (w.setCell ⟨g, o, none⟩ v) := Chg.of_grown (gset w g o v) fun j hj => by injection hj with hj; exact hj.symm
    exact h1.trans (ih (o + 1) _) fun _ h => .inl h
/-- The blocks' owners, with what is new. -/
def ownTo (own : Nat → Nat) (B i : Nat) : Nat → Nat := fun g => if g < B then own g else i
section
variable {F : Nat → Prop} {own : Nat → Nat} {W W' : World}
theorem ROK.grow {F' : Nat → Prop} {own' : Nat → Nat} {y : Fl} (h : ROK F own W y) (hF : ∀ j, F j → F' j) (ho : ∀ j, F j → own' j = own j) (hk : ∀ g, y.A = some ⟨g, 0, none⟩ → W'.heap[g]? = W.heap[g]?) : ROK F' own' W' y := by
  obtain ⟨h1, h2, h3, h4⟩ := h
  refine ⟨h1, h2, h3, h4.imp id fun ⟨g, cur, q1, q2, q3, q4, q5⟩ => ⟨g, cur, q1, hF g q2, (ho g q2).trans q3, (hk g q1).trans q4, q5⟩⟩
/-- What an append to a file's bytes leaves. -/
def App (F : Nat → Prop) (own : Nat → Nat) (W : World) (x : Fl) (b : List Int) (A' : Option Addr) (c' : Nat) (W' : World) : Prop :=
  Chg (fun j => x.A = some ⟨j, 0, none⟩) W W' ∧ (∀ g, x.A = some ⟨g, 0, none⟩ → ∃ cur, W'.heap[g]? = some (.cells cur 5 (0, 0))) ∧
  ROK (fun j => F j ∨ (W.heap.size ≤ j ∧ j < W'.heap.size)) (ownTo own W.heap.size x.i) W' ⟨x.d ++ b, A', c', x.i⟩ ∧
  ∀ y, ROK F own W y → (y.A = x.A → y.A ≠ none → x.c ≠ x.d.length → y.d.length ≤ x.d.length) →
    ROK (fun j => F j ∨ (W.heap.size ≤ j ∧ j < W'.heap.size)) (ownTo own W.heap.size x.i) W' y ∧ (y.A = A' → y.A ≠ none → c' ≠ (x.d ++ b).length → y.d.length ≤ (x.d ++ b).length)
set_option maxHeartbeats 1000000 in
theorem app_run {x : Fl} (hx : ROK F own W x) (b : List Int) (Ab : Option Addr) (cb : Nat) (hb : Ns .u8 W W.heap.size Ab b) (hb8 : ∀ z ∈ b, 0 ≤ z ∧ z ≤ 255) (hsz : x.d.length + b.length ≤ 1099511627776) (hF : ∀ j, F j → j < W.heap.size) (ty : TypeId) :
    ∃ A' c' W', (Builtin.append_ #[29, 29] ty #[.slice x.A x.d.length x.c, .slice Ab b.length cb]).run Try.prog W = .ok (.slice A' (x.d.length + b.length) c') W' ∧ App F own W x b A' c' W' := by
  obtain ⟨i0, hi0, hz0, hz1, hz2⟩ := info_parts Facts.info5
  obtain ⟨h1, h2, h3, h4⟩ := hx
  have hown : ∀ j, F j → ownTo own W.heap.size x.i j = own j := fun j hj => by unfold ownTo; rw [if_pos (hF j hj)]
  have hx0 : ROK F own W x := ⟨h1, h2, h3, h4⟩
  by_cases h0 : b.length = 0
  · obtain rfl : b = [] := List.eq_nil_of_length_eq_zero h0
    have hrun : (Builtin.append_ #[29, 29] ty #[.slice x.A x.d.length x.c, .slice Ab 0 cb]).run Try.prog W = .ok (.slice x.A x.d.length x.c) W := by
      refine run_append_nothing (P := Try.prog) W 29 29 ty 5 i0 Try.underlying29 hi0 x.A x.d.length x.c h1 _ ?_
      rcases Ab with _ | ad
      · exact Src.ofNil W Try.underlying29 cb
      · exact Src.ofSlice W Try.underlying29 ad 0 cb [] (by simp) (by simp) (by simp)
    refine ⟨x.A, x.c, W, hrun, Chg.refl _ _, fun g hg => ?_, ?_, fun y hy hR => ⟨?_, ?_⟩⟩
    · rcases h4 with ⟨e, _⟩ | ⟨g', cur, e, _, _, hh, _⟩
      · rw [hg] at e; cases e
      · rw [hg] at e
        injection e with e
        injection e with e
        subst e
        exact ⟨cur, hh⟩
    · have e : (⟨x.d ++ [], x.A, x.c, x.i⟩ : Fl) = x := by rw [List.append_nil]
      rw [e]
      exact hx0.grow (fun _ => .inl) hown fun g _ => rfl
    · exact hy.grow (fun _ => .inl) hown fun g _ => rfl
    · rw [List.append_nil]
      exact fun e1 e2 e3 => hR e1 e2 e3
  · obtain ⟨bb, boff, eb, hbB, hbc⟩ := hb (by omega)
    subst eb
    have hnews : ∀ j u, (nums .u8 b)[j]? = some u → W.cell? ((⟨bb, boff, none⟩ : Addr).add j) = some u := fun j u hu => by
      have hj : j < b.length := by
        have := (List.getElem?_eq_some_iff.1 hu).1
        simpa [nums] using this
      have hu2 : u = .int .u8 (b.getD j 0) := by
        unfold nums at hu
        rw [List.getElem?_map, List.getElem?_eq_getElem hj] at hu
        rw [List.getD_eq_getElem?_getD, List.getElem?_eq_getElem hj]
        exact (Option.some.inj hu).symm
      rw [hu2, Addr.add_lit]
      exact hbc j hj
    have hnl : (nums .u8 b).length = b.length * 1 := by simp [nums]
    have hn1 : ∀ u ∈ nums .u8 b, u.oneCell' = true := fun u hu => by
      obtain ⟨z, _, rfl⟩ := List.mem_map.1 hu
      rfl
    have hbytes : ∀ z ∈ x.d ++ b, 0 ≤ z ∧ z ≤ 255 := fun z hz => (List.mem_append.1 hz).elim (h2 z) (hb8 z)
    have hll : (x.d ++ b).length = x.d.length + b.length := List.length_append
    -- the way that grows
    have hgrow : ∀ (v' : Value) (W' : World), W'.ownsRow W.heap.size 5 1 v' (x.d.length + b.length) (nums .u8 x.d ++ nums .u8 b) → W.grownBy W' none → ∃ A' c', v' = .slice A' (x.d.length + b.length) c' ∧ App F own W x b A' c' W' := fun v' W' ho hg => by
      obtain ⟨g, cap, hv, hgb, hgl⟩ := ho.form (by omega)
      obtain ⟨_, hrow⟩ := ho
      rcases hrow with ⟨_, e⟩ | ⟨g', cap', cur, hv', _, hc, hnc, _, hcs, htk⟩
      · omega
      · have hgg : g' = g ∧ cap' = cap := by
          rw [hv] at hv'
          injection hv' with e1 _ e2
          injection e1 with e1
          injection e1 with e1
          exact ⟨e1.symm, e2.symm⟩
        obtain ⟨rfl, rfl⟩ := hgg
        refine ⟨some ⟨g', 0, none⟩, cap', hv, ⟨hg.os, hg.tape, hg.output, hg.size, fun j hj _ => hg.block j hj (by simp)⟩, fun j hj => ?_, ?_, fun y hy hR => ⟨?_, ?_⟩⟩
        · rcases h4 with ⟨e, _⟩ | ⟨j', cur2, e, hFj, _, hh, _⟩
          · rw [hj] at e; cases e
          · rw [hj] at e
            injection e with e
            injection e with e
            subst e
            exact ⟨cur2, (hg.block _ (hF _ hFj) (by simp)).trans hh⟩
        · refine ⟨by rw [hll]; exact hnc, hbytes, by rw [hll]; exact hsz, .inr ⟨g', cur, rfl, .inr ⟨hgb, hgl⟩, ?_, hc, by simp only; omega, ?_⟩⟩
          · unfold ownTo
            rw [if_neg (by omega)]
          · simp only
            rw [hll, ← Nat.mul_one (x.d.length + b.length), htk]
            simp [nums]
        · refine hy.grow (fun _ => .inl) hown fun j hj => hg.block j ?_ (by simp)
          obtain ⟨_, _, _, q⟩ := hy
          rcases q with ⟨e, _⟩ | ⟨j', _, e, hFj, _⟩
          · rw [hj] at e; cases e
          · rw [hj] at e
            injection e with e
            injection e with e
            subst e
            exact hF _ hFj
        · intro e1 _ _
          exfalso
          obtain ⟨_, _, _, q⟩ := hy
          rcases q with ⟨e, _⟩ | ⟨j', _, e, hFj, _⟩
          · rw [e1] at e; cases e
          · rw [e1] at e
            injection e with e
            injection e with e
            subst e
            have := hF _ hFj
            omega
    rcases h4 with ⟨e1, e2, e3⟩ | ⟨g, cur, e1, hFg, hog, hh, hc, htk⟩
    · have hr := run_append_own (P := Try.prog) W W.heap.size 29 ty 5 i0 (.int .u8 0) 1 1 Try.underlying29 hi0 hz0 hz1 hz2 rfl (by omega) (.slice none 0 0) 0 [] (World.ownsRow_nil W _ _ _) ⟨bb, boff, none⟩ b.length cb (nums .u8 b) hnl hnews hn1 (by unfold maxLen; omega) (by omega) (Nat.le_refl _)
      obtain ⟨v', W', hrun, r1, r2, _⟩ := hr
      have hd0 : x.d.length = 0 := by rw [e2]; rfl
      obtain ⟨A', c', rfl, hA⟩ := hgrow v' W' (by rw [hd0, e2]; simpa [nums] using r1) r2
      refine ⟨A', c', W', ?_, hA⟩
      rw [e1, hd0, e3]
      rw [hd0] at hrun
      exact hrun
    · by_cases hfit : x.d.length + b.length ≤ x.c
      · have hcs : ∀ j, j < (nums .u8 b).length → (W.cell? ⟨g, 0 + x.d.length * i0.size + j, none⟩).isSome = true := fun j hj => by
          rw [hz1, Nat.mul_one, Nat.zero_add]
          have hjl : j < b.length := by simpa [nums] using hj
          simp [World.cell?, hh, show x.d.length + j < cur.size by omega]
        have hfz : ∀ j, j < (nums .u8 b).length → W.frozen? ⟨g, 0 + x.d.length * i0.size + j, none⟩ = false := fun j _ => by simp [World.frozen?, hh]
        have hrun := run_append_room_cells (P := Try.prog) W 29 ty 5 i0 Try.underlying29 hi0 g 0 x.d.length x.c ⟨bb, boff, none⟩ b.length cb (nums .u8 b) (by rw [hz1]; exact hnl) hnews hn1 hfit hcs hfz
        rw [hz1, Nat.mul_one, Nat.zero_add] at hrun
        obtain ⟨cur', hh', htl⟩ := heap_setCells_same g 5 (nums .u8 b) x.d.length W cur hh (by simp [nums]; omega)
        have hchg := setCells_chg g x.d.length (nums .u8 b) W
        have hsz' : cur'.size = cur.size := by
          have := congrArg List.length htl
          simp [nums] at this
          omega
        refine ⟨some ⟨g, 0, none⟩, x.c, _, by rw [e1]; exact hrun, hchg.mono fun j hj => by rw [e1, hj], fun j hj => ?_, ?_, fun y hy hR => ⟨?_, ?_⟩⟩
        · rw [e1] at hj
          injection hj with hj
          injection hj with hj
          subst hj
          exact ⟨cur', hh'⟩
        · refine ⟨by rw [hll]; exact hfit, hbytes, by rw [hll]; exact hsz, .inr ⟨g, cur', rfl, .inl hFg, (hown g hFg).trans hog, hh', by simp only; omega, ?_⟩⟩
          simp only
          rw [hll, htl, htk, List.take_append_of_le_length (by simp [nums]), List.take_of_length_le (by simp [nums])]
          simp [nums]
        · obtain ⟨y1, y2, y3, y4⟩ := hy
          refine ⟨y1, y2, y3, ?_⟩
          rcases y4 with q | ⟨g2, cur2, q1, q2, q3, q4, q5, q6⟩
          · exact .inl q
          · by_cases hgg : g2 = g
            · subst hgg
              have hle := hR (q1.trans e1.symm) (by rw [q1]; simp) (by omega)
              rw [hh] at q4
              injection q4 with q4
              injection q4 with q4
              subst q4
              refine .inr ⟨g2, cur', q1, .inl q2, (hown g2 q2).trans q3, hh', by omega, ?_⟩
              rw [htl, htk, List.append_assoc, List.take_append_of_le_length (by simp [nums]; exact hle), ← htk, List.take_take, Nat.min_eq_left hle]
              exact q6
            · exact .inr ⟨g2, cur2, q1, .inl q2, (hown g2 q2).trans q3, (hchg.block g2 (hF g2 q2) hgg).trans q4, q5, q6⟩
        · intro q1 q2 _
          have := hR (q1.trans e1.symm) q2 (by omega)
          omega
      · have holds : ∀ j u, (nums .u8 x.d)[j]? = some u → W.cell? ((⟨g, 0, none⟩ : Addr).add j) = some u := fun j u hu => by
          have hj : j < x.d.length := by
            have := (List.getElem?_eq_some_iff.1 hu).1
            simpa [nums] using this
          rw [← htk, List.getElem?_take_of_lt hj] at hu
          rw [Addr.add_lit, Nat.zero_add]
          simp only [World.cell?, hh]
          rw [← Array.getElem?_toList]
          exact hu
        obtain ⟨v', W', hrun, r1, r2⟩ := run_append_arg_grows (P := Try.prog) W 29 ty 5 i0 (.int .u8 0) 1 1 Try.underlying29 hi0 hz0 hz1 hz2 rfl (by omega) ⟨g, 0, none⟩ x.d.length x.c (nums .u8 x.d) (by simp [nums]) holds ⟨bb, boff, none⟩ b.length cb (nums .u8 b) hnl hnews (by omega) (by unfold maxLen; omega) (by omega)
        obtain ⟨A', c', rfl, hA⟩ := hgrow v' W' r1 r2
        refine ⟨A', c', W', ?_, hA⟩
        rw [e1]
        exact hrun
end
end Disk
end Go.Proofs.Ytdcppjpjlhbanaa
