/-
  net: Take of a packet that is under way.
-/
import Derived.Test.YtinbaiblbbfnnaaNetTake
namespace Go.Proofs.Ytinbaiblbbfnnaa
namespace Net
open Go.RowKit Blk Go.Maps
attribute [local go_sem ↓] Go.wp_at_zero Go.wp_at_succ
/-- What Take answers of a packet. -/
def TakePost (F : Nat → Prop) (w : World) (nb : Nat) (P : List Pk) (i : Nat) (s t u : Int) (C : Ad → Ad → Bool) (m : Nat) (a1 a2 b1 b2 : Int) (zs : List Int) (e : Ending) (w' : World) : Prop :=
  (C (a1, a2) (b1, b2) = true ∧ e = .returned (.tuple #[.agg zc, .bool false]) ∧ ∃ F', NI F' w' nb (P.eraseIdx i) s t (IntKind.i64.wrap (u + 1)) C m ∧ Stp F w F' w') ∨
  (C (a1, a2) (b1, b2) = false ∧ ∃ A1 c1, e = .returned (.tuple #[.agg #[.int .i64 a1, .int .i64 a2, .int .i64 b1, .int .i64 b2, .slice A1 zs.length c1], .bool true]) ∧ Gone F w nb (P.eraseIdx i) s (IntKind.i64.wrap (t + 1)) u C m (.slice A1 zs.length c1) zs w')
section
variable {F : Nat → Prop} {w : World} {nb m : Nat} {P : List Pk} {s t u : Int} {C : Ad → Ad → Bool}
set_option maxRecDepth 100000 in
set_option maxHeartbeats 2000000 in
theorem take_in (h : NI F w nb P s t u C m) {i : Nat} {a1 a2 b1 b2 : Int} {zs : List Int} (hx : P[i]? = some ((a1, a2), (b1, b2), zs)) :
    Calls Try.prog 19 #[hd nb, .int .i64 i] w (TakePost F w nb P i s t u C m a1 a2 b1 b2 zs) := by
  obtain ⟨k, hk⟩ : ∃ k, zs.length = k := ⟨_, rfl⟩
  obtain ⟨A, c, n, n', g, Ad, cd, hn, hin, hn4, hn1, hA, hok, hdel⟩ := h.delAt hx
  rw [hk] at hdel
  subst hA
  obtain ⟨U, hU⟩ : ∃ U, w.alloc (.cells #[.int .i64 0, .int .i64 0, .int .i64 0, .int .i64 0, .slice none 0 0] 36) = U := ⟨_, rfl⟩
  have hb : Below w.heap.size w U := by rw [← hU]; exact (Below.refl _ w).alloc (Nat.le_refl _) _
  have hB : Bn w.heap.size 36 [.int .i64 0, .int .i64 0, .int .i64 0, .int .i64 0, .slice none 0 0] U := by rw [← hU]; exact heap_alloc_new w _
  have hUs : U.heap.size = w.heap.size + 1 := by rw [← hU]; simp
  have H1 := Lib.hid (hasT (h.below hb) i (List.getElem?_eq_some_iff.1 hx).1)
  obtain ⟨bx, hbx⟩ : ∃ b, w.heap.size = b := ⟨_, rfl⟩
  obtain ⟨px, hpx⟩ : ∃ b, U.heap.size = b := ⟨_, rfl⟩
  -- the packet's own variable
  obtain ⟨U2, hU2⟩ : ∃ U2, U.alloc (.cells #[.int .i64 a1, .int .i64 a2, .int .i64 b1, .int .i64 b2, .slice Ad k cd] 36) = U2 := ⟨_, rfl⟩
  have hP2 : Bn px 36 [.int .i64 a1, .int .i64 a2, .int .i64 b1, .int .i64 b2, .slice Ad k cd] U2 := by rw [← hU2, ← hpx]; exact heap_alloc_new U _
  have hb2 : Below U.heap.size U U2 := by rw [← hU2]; exact (Below.refl _ U).alloc (Nat.le_refl _) _
  have hs2 : U2.heap.size = px + 1 := by rw [← hU2]; simp [hpx]
  have hbw2 := hb.trans (hb2.mono hb.size)
  have hq := (hdel U hb).1
  obtain ⟨q0, q1, q2, q3, q4, q5⟩ := hq
  obtain ⟨j, hj⟩ : ∃ j, i + 1 = j := ⟨_, rfl⟩
  have v0 := (hdel U2 hbw2).1.1
  have H2 := Lib.hid ((hdel U2 hbw2).2 j hj)
  have HJ := Lib.hid (And.intro hj (And.intro hin hn4))
  have HX := Lib.hid (And.intro hb (And.intro hB (And.intro hUs (And.intro hP2 (And.intro hb2 (And.intro hs2 (And.intro hbw2 (And.intro hok (And.intro h (And.intro hk (And.intro hbx hpx)))))))))))
  have z1 : (0 : Int) ≤ (i : Int) := by omega
  have z2 : (i : Int) < (n : Int) := by omega
  clear hb hB hUs hP2 hb2 hs2 hbw2 hdel h hx hok hj hn hin hn4 hn1 hk
  go_enter Try.func19, Try.ntmps19
  go_wp2_with fail
  refine H1.out.mono ?_
  rintro e w2 ⟨rfl, rfl⟩
  have e1 : IntKind.i64.wrap ((i : Int) + 1) = (j : Int) := by rw [show (i : Int) + 1 = (j : Int) by have := HJ.out.1; omega]; exact Go.IntWalk.i64_in _ (by have := HJ.out.1; have := HJ.out.2.1; have := HJ.out.2.2; omega)
  go_wp2_with fail
  refine H2.out.mono ?_
  rintro e w3 ⟨rfl, h3⟩
  clear e1 q0 q1 q2 q3 q4 q5 v0
  have k1 := h3.out.1
  have k2 := h3.out.2.1
  obtain ⟨W3, hW3⟩ : ∃ W, w3.setCell ⟨nb, 0, none⟩ (.slice (some ⟨g, 0, none⟩) n' c) = W := ⟨_, rfl⟩
  have hG := h3.out.2.2.2.2
  rw [hW3] at hG
  obtain ⟨F3, hN3, hS3, hD3, hF3, hFF⟩ := hG
  have hnbF := HX.out.2.2.2.2.2.2.2.2.1.cnt.2.2.2.2
  have hnbl := HX.out.2.2.2.2.2.2.2.2.1.lt nb hnbF
  have hP3 : Bn px 36 [.int .i64 a1, .int .i64 a2, .int .i64 b1, .int .i64 b2, .slice Ad k cd] W3 := by
    rw [← hW3]
    refine (HX.out.2.2.2.1.same (h3.out.2.2.2.1 px ?_ ?_)).kept (gset w3 nb 0 _) fun q => ?_
    · have := HX.out.1.size; have := HX.out.2.2.2.2.2.2.2.2.2.2.2; omega
    · have := HX.out.2.2.2.2.2.1; omega
    · injection q with q
      have := HX.out.1.size; have := HX.out.2.2.2.2.2.2.2.2.2.2.2; omega
  have hR3 : Bn bx 36 [.int .i64 0, .int .i64 0, .int .i64 0, .int .i64 0, .slice none 0 0] W3 := by
    rw [← hW3, ← HX.out.2.2.2.2.2.2.2.2.2.2.1]
    refine ((HX.out.2.1.same (HX.out.2.2.2.2.1.block _ (by have := HX.out.2.2.1; omega))).same (h3.out.2.2.2.1 w.heap.size (Nat.le_refl _) (by have := HX.out.2.2.1; have := HX.out.2.2.2.2.2.1; have := HX.out.2.2.2.2.2.2.2.2.2.2.2; omega))).kept (gset w3 nb 0 _) fun q => ?_
    injection q with q
    omega
  have y1 := hP3.cell 0
  have y2 := hP3.cell 1
  have y3 := hP3.cell 2
  have y4 := hP3.cell 3
  simp only [List.getElem?_cons_zero, List.getElem?_cons_succ] at y1 y2 y3 y4
  have H4 := Lib.hid (parted_any hN3 a1 a2 b1 b2 HX.out.2.2.2.2.2.2.2.1.1.1 HX.out.2.2.2.2.2.2.2.1.1.2)
  have hbxF : ∀ j, F3 j → j ≠ bx := fun j hj => by
    have e1 := HX.out.2.2.2.2.2.2.2.2.2.2.1
    have := HX.out.2.2.2.2.2.2.2.2.1.lt j (hFF j hj)
    omega
  have HN := Lib.hid (And.intro hN3 (And.intro hS3 (And.intro hD3 (And.intro hF3 (And.intro hP3 (And.intro hR3 (And.intro hbxF hFF)))))))
  obtain ⟨cb, hcb⟩ : ∃ b, C (a1, a2) (b1, b2) = b := ⟨_, rfl⟩
  rw [hcb] at H4
  have HCB := Lib.hid hcb
  clear h3 hN3 hS3 hD3 hF3 hP3 hR3 hbxF hcb hnbF hnbl hFF
  go_wp2_with fail
  refine H4.out.mono ?_
  rintro e w4 ⟨rfl, b4⟩
  have hN4 := HN.out.1.below b4
  have hnb3 := HN.out.1.lt nb HN.out.1.cnt.2.2.2.2
  have hP4 := HN.out.2.2.2.2.1.same (b4.block _ HN.out.2.2.2.2.1.lt)
  have hR4 := HN.out.2.2.2.2.2.1.same (b4.block _ HN.out.2.2.2.2.2.1.lt)
  have hD4 := own_keep HN.out.2.2.1 fun g hg => b4.block g (HN.out.2.2.1.lt g hg).2
  have hnbx : nb ≠ bx := HN.out.2.2.2.2.2.2.1 nb HN.out.1.cnt.2.2.2.2
  have hbn4 : ∃ cs, Bn nb 63 cs w4 := by obtain ⟨mb, A, c, l, D, _, hS, _⟩ := hN4; exact ⟨_, hS.1.1⟩
  have hnpx : nb ≠ px := fun q => by
    obtain ⟨cs, hc⟩ := hbn4
    exact absurd (hc.type (q ▸ hP4)) (by decide)
  cases cb with
  | true =>
    have H5 := Lib.hid (add_int w4 nb 4 u 1 hN4.cnt.2.2.1 (hN4.cnt.2.2.2.1 4))
    have h5 := hN4.count4 (IntKind.i64.wrap (u + 1))
    have hg5 := gset w4 nb 4 (.int .i64 (IntKind.i64.wrap (u + 1)))
    have hR5 := hR4.kept hg5 (fun q => hnbx (by injection q with q; exact q.symm))
    obtain ⟨W5, hW5⟩ : ∃ W, w4.setCell ⟨nb, 4, none⟩ (.int .i64 (IntKind.i64.wrap (u + 1))) = W := ⟨_, rfl⟩
    rw [hW5] at h5 hR5
    have x1 := hR5.cell 0
    have x2 := hR5.cell 1
    have x3 := hR5.cell 2
    have x4 := hR5.cell 3
    have x5 := hR5.cell 4
    simp only [List.getElem?_cons_zero, List.getElem?_cons_succ] at x1 x2 x3 x4 x5
    have f1 := hR5.frozen 0
    have f2 := hR5.frozen 1
    have f3 := hR5.frozen 2
    have f4 := hR5.frozen 3
    have f5 := hR5.frozen 4
    have hR6 := five_bn hR5 (.int .i64 0) (.int .i64 0) (.int .i64 0) (.int .i64 0) (.slice none 0 0)
    have hg6 := five_grown W5 bx (.int .i64 0) (.int .i64 0) (.int .i64 0) (.int .i64 0) (.slice none 0 0)
    obtain ⟨W6, hW6⟩ : ∃ W, five W5 bx (.int .i64 0) (.int .i64 0) (.int .i64 0) (.int .i64 0) (.slice none 0 0) = W := ⟨_, rfl⟩
    rw [hW6] at hR6 hg6
    unfold five at hW6
    have g1 := hR6.cell 0
    have g2 := hR6.cell 1
    have g3 := hR6.cell 2
    have g4 := hR6.cell 3
    have g5 := hR6.cell 4
    simp only [List.getElem?_cons_zero, List.getElem?_cons_succ] at g1 g2 g3 g4 g5
    have hC6 : Chg (fun j => j = bx) W5 W6 := Chg.of_grown hg6 fun g hg => by injection hg with hg; exact hg.symm
    have hN6 := h5.1.chg hC6 fun j hj hq => HN.out.2.2.2.2.2.2.1 j hj hq
    have hS6 : Stp F w F3 W6 := by
      have e1 := HX.out.2.2.2.2.2.2.2.2.2.2.1
      refine ⟨((HN.out.2.1.trans ((Stp.of_below b4).trans h5.2)).1.trans hC6 fun j hj => .inr (by omega)), HN.out.2.1.2⟩
    have HE := Lib.hid (And.intro hN6 hS6)
    clear hN4 hnb3 hP4 hR4 hD4 hbn4 b4 h5 hg5 hR5 hR6 hg6 hC6 hN6 hS6
    go_wp2_with fail
    refine H5.out.mono ?_
    rintro e w5 ⟨rfl, rfl⟩
    rw [hW5]
    go_wp2_with fail
    refine bodyPost_ret (v := .tuple #[.agg zc, .bool false]) ?_ rfl (.inl ⟨HCB.out, rfl, F3, HE.out.1, HE.out.2⟩)
    rw [results_cell_tmp rfl]
    go_simp
  | false =>
    have H5 := Lib.hid (add_int w4 nb 3 t 1 hN4.cnt.2.1 (hN4.cnt.2.2.2.1 3))
    have h5 := hN4.count3 (IntKind.i64.wrap (t + 1))
    have hg5 := gset w4 nb 3 (.int .i64 (IntKind.i64.wrap (t + 1)))
    have hR5 := hR4.kept hg5 (fun q => hnbx (by injection q with q; exact q.symm))
    have hP5 := hP4.kept hg5 (fun q => hnpx (by injection q with q; exact q.symm))
    have hD5 := own_keep hD4 fun g hg => hg5.block g (hD4.lt g hg).2 fun q => by
      obtain ⟨cs, hc⟩ := hbn4
      exact own_ne hD4 hc (by decide) (by rw [hg, q])
    obtain ⟨W5, hW5⟩ : ∃ W, w4.setCell ⟨nb, 3, none⟩ (.int .i64 (IntKind.i64.wrap (t + 1))) = W := ⟨_, rfl⟩
    rw [hW5] at h5 hR5 hP5 hD5
    have x1 := hR5.cell 0
    have x2 := hR5.cell 1
    have x3 := hR5.cell 2
    have x4 := hR5.cell 3
    have x5 := hR5.cell 4
    have p1 := hP5.cell 0
    have p2 := hP5.cell 1
    have p3 := hP5.cell 2
    have p4 := hP5.cell 3
    have p5 := hP5.cell 4
    simp only [List.getElem?_cons_zero, List.getElem?_cons_succ] at x1 x2 x3 x4 x5 p1 p2 p3 p4 p5
    have f1 := hR5.frozen 0
    have f2 := hR5.frozen 1
    have f3 := hR5.frozen 2
    have f4 := hR5.frozen 3
    have f5 := hR5.frozen 4
    have hR6 := five_bn hR5 (.int .i64 a1) (.int .i64 a2) (.int .i64 b1) (.int .i64 b2) (.slice Ad k cd)
    have hg6 := five_grown W5 bx (.int .i64 a1) (.int .i64 a2) (.int .i64 b1) (.int .i64 b2) (.slice Ad k cd)
    have hD6 := own_keep hD5 fun g hg => hg6.block g (hD5.lt g hg).2 fun q => own_ne hD5 hR5 (by decide) (by rw [hg, q])
    obtain ⟨W6, hW6⟩ : ∃ W, five W5 bx (.int .i64 a1) (.int .i64 a2) (.int .i64 b1) (.int .i64 b2) (.slice Ad k cd) = W := ⟨_, rfl⟩
    rw [hW6] at hR6 hg6 hD6
    unfold five at hW6
    have g1 := hR6.cell 0
    have g2 := hR6.cell 1
    have g3 := hR6.cell 2
    have g4 := hR6.cell 3
    have g5 := hR6.cell 4
    simp only [List.getElem?_cons_zero, List.getElem?_cons_succ] at g1 g2 g3 g4 g5
    have hC6 : Chg (fun j => j = bx) W5 W6 := Chg.of_grown hg6 fun g hg => by injection hg with hg; exact hg.symm
    have hN6 := h5.1.chg hC6 fun j hj hq => HN.out.2.2.2.2.2.2.1 j hj hq
    have hS6 : Stp F w F3 W6 := by
      have e1 := HX.out.2.2.2.2.2.2.2.2.2.2.1
      refine ⟨((HN.out.2.1.trans ((Stp.of_below b4).trans h5.2)).1.trans hC6 fun j hj => .inr (by omega)), HN.out.2.1.2⟩
    have HE := Lib.hid (And.intro hN6 (And.intro hS6 hD6))
    clear hN4 hnb3 hP4 hR4 hD4 hbn4 b4 h5 hg5 hR5 hP5 hD5 hD6 hR6 hg6 hC6 hN6 hS6
    go_wp2_with fail
    refine H5.out.mono ?_
    rintro e w5 ⟨rfl, rfl⟩
    rw [hW5]
    go_wp2_with fail
    refine bodyPost_ret (v := .tuple #[.agg #[.int .i64 a1, .int .i64 a2, .int .i64 b1, .int .i64 b2, .slice Ad k cd], .bool true]) ?_ rfl (.inr ⟨HCB.out, Ad, cd, by rw [HX.out.2.2.2.2.2.2.2.2.2.1], F3, HE.out.1, HE.out.2.1, by have h := HE.out.2.2; rw [HX.out.2.2.2.2.2.2.2.2.2.1] at h ⊢; exact h, fun g hg => HN.out.2.2.2.1 g (by rw [HX.out.2.2.2.2.2.2.2.2.2.1] at hg; exact hg), HN.out.2.2.2.2.2.2.2⟩)
    rw [results_cell_tmp rfl]
    go_simp
end
end Net
end Go.Proofs.Ytinbaiblbbfnnaa
