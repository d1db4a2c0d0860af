/-
  net: Lose, Copy, Take.
-/
import Derived.Test.YtinbaiblbbfnnaaNetGet
namespace Go.Proofs.Ytinbaiblbbfnnaa
namespace Net
open Go.RowKit Blk Go.Maps
attribute [local go_sem ↓] Go.wp_at_zero Go.wp_at_succ
section
variable {F : Nat → Prop} {w : World} {nb m : Nat} {P : List Pk} {s t u : Int} {C : Ad → Ad → Bool}
theorem map_eraseIdx (l : List PE) (i : Nat) : (l.eraseIdx i).map Prod.fst = (l.map Prod.fst).eraseIdx i := by
  rw [List.eraseIdx_eq_take_drop_succ, List.eraseIdx_eq_take_drop_succ, List.map_append, List.map_take, List.map_drop]
/-- What stands behind the packet's deletion. -/
def Gone (F : Nat → Prop) (w : World) (nb : Nat) (P : List Pk) (s t u : Int) (C : Ad → Ad → Bool) (m : Nat) (V : Value) (zs : List Int) (W : World) : Prop :=
  ∃ F', NI F' W nb P s t u C m ∧ Stp F w F' W ∧ W.ownsRow 0 5 1 V zs.length (nums .u8 zs) ∧ (∀ g, V.ownBlock = some g → F g ∧ ¬ F' g) ∧ ∀ k, F' k → F k
/-- The packet in the i-th place, and its deletion. -/
theorem NI.delAt (h : NI F w nb P s t u C m) {i : Nat} {a1 a2 b1 b2 : Int} {zs : List Int} (hx : P[i]? = some ((a1, a2), (b1, b2), zs)) :
    ∃ A c n n' g Ad cd, n = P.length ∧ i < n ∧ n ≤ 4096 ∧ n' + 1 = n ∧ A = some ⟨g, 0, none⟩ ∧ OkP ((a1, a2), (b1, b2), zs) ∧ ∀ U, Below w.heap.size w U →
      (U.cell? ⟨nb, 0, none⟩ = some (.slice A n c) ∧ U.cell? ⟨g, i * 5, none⟩ = some (.int .i64 a1) ∧ U.cell? ⟨g, i * 5 + 1, none⟩ = some (.int .i64 a2) ∧ U.cell? ⟨g, i * 5 + 2, none⟩ = some (.int .i64 b1) ∧ U.cell? ⟨g, i * 5 + 3, none⟩ = some (.int .i64 b2) ∧ U.cell? ⟨g, i * 5 + 4, none⟩ = some (.slice Ad zs.length cd)) ∧
      ∀ j, i + 1 = j → Calls Try.prog 36 #[.slice A n c, .int .i64 i, .int .i64 j] U (fun e w' => e = .returned (.slice A n' c) ∧
        Hid (w'.cell? ⟨nb, 0, none⟩ = some (.slice A n c) ∧ w'.frozen? ⟨nb, 0, none⟩ = false ∧ U.heap.size ≤ w'.heap.size ∧ (∀ k, w.heap.size ≤ k → k < U.heap.size → w'.heap[k]? = U.heap[k]?) ∧ Gone F w nb (P.eraseIdx i) s t u C m (.slice Ad zs.length cd) zs (w'.setCell ⟨nb, 0, none⟩ (.slice A n' c)))) := by
  obtain ⟨mb, A, c, l, D, e, hS, hM, hl⟩ := h
  have hil : i < P.length := (List.getElem?_eq_some_iff.1 hx).1
  have hlP : l.length = P.length := by rw [← e, List.length_map]
  have hx' := hx
  rw [← e, List.getElem?_map] at hx'
  obtain ⟨x, hxl, hxe⟩ := Option.map_eq_some_iff.1 hx'
  obtain ⟨x1, Ad, cd⟩ := x
  simp only at hxe
  subst hxe
  have c0 := hS.1.1.cell 0
  simp only [List.getElem?_cons_zero] at c0
  obtain ⟨g, cap, hv, _, hg⟩ := hS.1.2.1.form (by omega)
  injection hv with hA _ hcap
  have hat : ∀ r, r < 5 → w.cell? ⟨g, i * 5 + r, none⟩ = (pc (((a1, a2), (b1, b2), zs), Ad, cd))[r]? := fun r hr => by
    have h5 := hS.1.2.1
    rw [hA, hcap] at h5
    rw [h5.cellAt (i * 5 + r) (by omega), pcs_at l hxl r hr]
  have hp := hS.2.1.2.2 _ (List.mem_of_getElem? hxl)
  have hgl : g < w.heap.size := hS.lt g (hS.2.2.2.2.1 g (by rw [hA]; rfl))
  refine ⟨A, c, l.length, l.length - 1, g, Ad, cd, hlP, by omega, hl, by omega, hA, hp.2.2, fun U hU => ⟨⟨(hU.cell (hS.lt nb hS.2.2.1)).trans c0, ?_, ?_, ?_, ?_, ?_⟩, fun j hj => ?_⟩⟩
  · exact (hU.cell (p := ⟨g, i * 5, none⟩) hgl).trans (hat 0 (by omega))
  · exact (hU.cell (p := ⟨g, i * 5 + 1, none⟩) hgl).trans (hat 1 (by omega))
  · exact (hU.cell (p := ⟨g, i * 5 + 2, none⟩) hgl).trans (hat 2 (by omega))
  · exact (hU.cell (p := ⟨g, i * 5 + 3, none⟩) hgl).trans (hat 3 (by omega))
  · exact (hU.cell (p := ⟨g, i * 5 + 4, none⟩) hgl).trans (hat 4 (by omega))
  · have hSU := hS.below hU
    refine (del_any (n' := l.length - 1) hSU.1.2.1 rfl (by omega) (by omega) hj hl).mono fun e' w' ⟨he, hh⟩ => ⟨he, Lib.hid ?_⟩
    obtain ⟨ho, hgr⟩ := hh.out
    have hL := hSU.less hxl (by omega) ho hgr
    have hb' := hSU.1.1.kept hgr (fun q => own_ne hSU.1.2.1 hSU.1.1 (by decide) q.symm)
    have c0' := hb'.cell 0
    simp only [List.getElem?_cons_zero] at c0'
    have hgs := gset w' nb 0 (.slice A (l.length - 1) c)
    refine ⟨c0', hb'.frozen 0, hgr.size, fun k hk1 hk2 => hgr.block k hk2 fun q => ?_, Less F (((a1, a2), (b1, b2), zs), Ad, cd), ⟨mb, A, c, l.eraseIdx i, D, by rw [map_eraseIdx, e], ?_, hM, by rw [List.length_eraseIdx_of_lt (by omega)]; omega⟩, ⟨?_, fun k hk => .inl hk.1⟩, hL.2, fun gg hgg => ⟨hp.2.1 gg hgg, fun hc => hc.2 hgg⟩, fun k hk => hk.1⟩
    · have := hS.lt k (hS.2.2.2.2.1 k q.symm)
      omega
    · rw [List.length_eraseIdx_of_lt (by omega)]
      exact hL.1
    · exact ((Chg.of_below hU).trans (Chg.of_grown hgr fun g hg => hS.2.2.2.2.1 g hg) fun j hj => .inl hj).trans (Chg.of_grown hgs fun g hg => by injection hg with hg; subst hg; exact hS.2.2.1) fun j hj => .inl hj

theorem lose_out (h : NI F w nb P s t u C m) (i : Int) (hi : ¬ (0 ≤ i ∧ i < P.length)) :
    Calls Try.prog 23 #[hd nb, .int .i64 i] w (fun e w' => e = .returned (.bool false) ∧ w' = w) := by
  have H1 := Lib.hid (hasF h i hi)
  clear h hi
  go_enter Try.func23, Try.ntmps23
  go_wp2_with fail
  refine H1.out.mono ?_
  rintro e w2 ⟨rfl, rfl⟩
  go_wp2_with fail
  go_ret
  exact ⟨rfl, rfl⟩
theorem lose_in (h : NI F w nb P s t u C m) {i : Nat} {a1 a2 b1 b2 : Int} {zs : List Int} (hx : P[i]? = some ((a1, a2), (b1, b2), zs)) :
    Calls Try.prog 23 #[hd nb, .int .i64 i] w (fun e w' => e = .returned (.bool true) ∧ ∃ F', Hid (NI F' w' nb (P.eraseIdx i) s t (IntKind.i64.wrap (u + 1)) C m ∧ Stp F w F' w')) := by
  have H1 := Lib.hid (hasT h i (List.getElem?_eq_some_iff.1 hx).1)
  obtain ⟨A, c, n, n', g, Ad, cd, hn, hin, hn4, hn1, hA, hok, hdel⟩ := h.delAt hx
  obtain ⟨c0, _⟩ := (hdel w (Below.refl _ _)).1
  obtain ⟨j, hj⟩ : ∃ j, i + 1 = j := ⟨_, rfl⟩
  have HJ := Lib.hid (And.intro hj (And.intro hin hn4))
  have H2 := Lib.hid ((hdel w (Below.refl _ _)).2 j hj)
  clear hdel h hx hok hj hn hin hn4 hn1
  subst hA
  go_enter Try.func23, Try.ntmps23
  go_wp2_with fail
  refine H1.out.mono ?_
  rintro e w2 ⟨rfl, rfl⟩
  have e1 : IntKind.i64.wrap ((i : Int) + 1) = (j : Int) := by rw [show (i : Int) + 1 = (j : Int) by have := HJ.out.1; have := HJ.out.2.1; have := HJ.out.2.2; omega]; exact Go.IntWalk.i64_in _ (by have := HJ.out.1; have := HJ.out.2.1; have := HJ.out.2.2; omega)
  go_wp2_with fail
  refine H2.out.mono ?_
  rintro e w3 ⟨rfl, h3⟩
  clear e1
  have k1 := h3.out.1
  have k2 := h3.out.2.1
  obtain ⟨W3, hW3⟩ : ∃ W, w3.setCell ⟨nb, 0, none⟩ (.slice (some ⟨g, 0, none⟩) n' c) = W := ⟨_, rfl⟩
  have hG := h3.out.2.2.2.2
  rw [hW3] at hG
  obtain ⟨F3, hN3, hS3, _⟩ := hG
  have H4 := Lib.hid (add_int W3 nb 4 u 1 hN3.cnt.2.2.1 (hN3.cnt.2.2.2.1 4))
  have HN := Lib.hid (And.intro hN3 hS3)
  clear h3 hN3 hS3
  go_wp2_with fail
  refine H4.out.mono ?_
  rintro e w4 ⟨rfl, rfl⟩
  go_wp2_with fail
  go_ret
  have h4 := HN.out.1.count4 (IntKind.i64.wrap (u + 1))
  exact ⟨rfl, F3, Lib.hid ⟨h4.1, HN.out.2.trans h4.2⟩⟩

theorem copy_out (h : NI F w nb P s t u C m) (i : Int) (hi : ¬ (0 ≤ i ∧ i < P.length)) :
    Calls Try.prog 21 #[hd nb, .int .i64 i] w (fun e w' => e = .returned (.bool false) ∧ w' = w) := by
  have H1 := Lib.hid (hasF h i hi)
  clear h hi
  go_enter Try.func21, Try.ntmps21
  go_wp2_with fail
  refine H1.out.mono ?_
  rintro e w2 ⟨rfl, rfl⟩
  go_wp2_with fail
  go_ret
  exact ⟨rfl, rfl⟩
theorem copy_full (h : NI F w nb P s t u C m) {i : Nat} {a1 a2 b1 b2 : Int} {zs : List Int} (hx : P[i]? = some ((a1, a2), (b1, b2), zs)) (hf : 4096 ≤ P.length) :
    Calls Try.prog 21 #[hd nb, .int .i64 i] w (fun e w' => e = .returned (.bool false) ∧ Below w.heap.size w w') := by
  have H1 := Lib.hid (hasT h i (List.getElem?_eq_some_iff.1 hx).1)
  obtain ⟨A, c, n, g, Ad, cd, hn, hin, hn4, c0, hA, ⟨q0, q1, q2, q3, q4⟩, ho, hok⟩ := h.at hx
  have H2 := Lib.hid (add_full h hf a1 a2 b1 b2 (.slice Ad zs.length cd))
  have z1 : (0 : Int) ≤ (i : Int) := by omega
  have z2 : (i : Int) < (n : Int) := by omega
  subst hA
  clear h hx hf ho hok
  go_enter Try.func21, Try.ntmps21
  go_wp2_with fail
  refine H1.out.mono ?_
  rintro e w2 ⟨rfl, rfl⟩
  go_wp2_with fail
  refine H2.out.mono ?_
  rintro e w3 ⟨rfl, b3⟩
  have HE := Lib.hid b3
  clear b3
  go_wp2_with fail
  go_ret
  exact ⟨rfl, HE.out⟩
theorem copy_in (h : NI F w nb P s t u C m) {i : Nat} {a1 a2 b1 b2 : Int} {zs : List Int} (hx : P[i]? = some ((a1, a2), (b1, b2), zs)) (hf : P.length < 4096) :
    Calls Try.prog 21 #[hd nb, .int .i64 i] w (fun e w' => e = .returned (.bool true) ∧ ∃ F', Hid (NI F' w' nb (P ++ [((a1, a2), (b1, b2), zs)]) s t u C m ∧ Stp F w F' w')) := by
  have H1 := Lib.hid (hasT h i (List.getElem?_eq_some_iff.1 hx).1)
  obtain ⟨A, c, n, g, Ad, cd, hn, hin, hn4, c0, hA, ⟨q0, q1, q2, q3, q4⟩, ho, hok⟩ := h.at hx
  obtain ⟨k, hk⟩ : ∃ k, zs.length = k := ⟨_, rfl⟩
  rw [hk] at ho q4
  have H2 := Lib.hid (add_more h hf a1 a2 b1 b2 zs k hk Ad cd (own_ns (c := cd) (n := k) (by rw [hk]; exact ho)) hok)
  have z1 : (0 : Int) ≤ (i : Int) := by omega
  have z2 : (i : Int) < (n : Int) := by omega
  subst hA
  clear h hx hf ho hok hk
  go_enter Try.func21, Try.ntmps21
  go_wp2_with fail
  refine H1.out.mono ?_
  rintro e w2 ⟨rfl, rfl⟩
  go_wp2_with fail
  refine H2.out.mono ?_
  rintro e w3 ⟨rfl, F3, h3⟩
  go_wp2_with fail
  go_ret
  exact ⟨rfl, F3, h3⟩
theorem take_out (h : NI F w nb P s t u C m) (i : Int) (hi : ¬ (0 ≤ i ∧ i < P.length)) :
    Calls Try.prog 19 #[hd nb, .int .i64 i] w (fun e w' => e = .returned (.tuple #[.agg zc, .bool false]) ∧ Below w.heap.size w w') := by
  obtain ⟨U, hU⟩ : ∃ U, w.alloc (.cells #[.int .i64 0, .int .i64 0, .int .i64 0, .int .i64 0, .slice none 0 0] 36) = U := ⟨_, rfl⟩
  have hb : Below w.heap.size w U := by rw [← hU]; exact (Below.refl _ w).alloc (Nat.le_refl _) _
  have hB : Bn w.heap.size 36 [.int .i64 0, .int .i64 0, .int .i64 0, .int .i64 0, .slice none 0 0] U := by rw [← hU]; exact heap_alloc_new w _
  have x1 := hB.cell 0
  have x2 := hB.cell 1
  have x3 := hB.cell 2
  have x4 := hB.cell 3
  have x5 := hB.cell 4
  simp only [List.getElem?_cons_zero, List.getElem?_cons_succ] at x1 x2 x3 x4 x5
  have f1 := hB.frozen 0
  have f2 := hB.frozen 1
  have f3 := hB.frozen 2
  have f4 := hB.frozen 3
  have f5 := hB.frozen 4
  have hB4 := five_bn hB (.int .i64 0) (.int .i64 0) (.int .i64 0) (.int .i64 0) (.slice none 0 0)
  have hb4 := five_below U w.heap.size (Nat.le_refl _) hb.size (.int .i64 0) (.int .i64 0) (.int .i64 0) (.int .i64 0) (.slice none 0 0)
  obtain ⟨W4, hW4⟩ : ∃ W4, five U w.heap.size (.int .i64 0) (.int .i64 0) (.int .i64 0) (.int .i64 0) (.slice none 0 0) = W4 := ⟨_, rfl⟩
  rw [hW4] at hB4 hb4
  unfold five at hW4
  have y1 := hB4.cell 0
  have y2 := hB4.cell 1
  have y3 := hB4.cell 2
  have y4 := hB4.cell 3
  have y5 := hB4.cell 4
  simp only [List.getElem?_cons_zero, List.getElem?_cons_succ] at y1 y2 y3 y4 y5
  have H1 := Lib.hid (hasF (h.below hb) i hi)
  have HB := Lib.hid (hb.trans hb4)
  clear hB hb h hB4 hb4 hi
  go_enter Try.func19, Try.ntmps19
  go_wp2_with fail
  refine H1.out.mono ?_
  rintro e w2 ⟨rfl, rfl⟩
  go_wp2_with fail
  refine bodyPost_ret (v := .tuple #[.agg zc, .bool false]) ?_ rfl ⟨rfl, HB.out⟩
  rw [results_cell_tmp rfl]
  go_simp
end
end Net
end Go.Proofs.Ytinbaiblbbfnnaa
