/-
  net: Look, Parted, Tally, has.
-/
import Derived.Test.YtinbaiblbbfnnaaNetLook
import Derived.Laws.ResultCell
namespace Go.Proofs.Ytinbaiblbbfnnaa
namespace Net
open Go.RowKit Blk Go.Maps
attribute [local go_sem ↓] Go.wp_at_zero Go.wp_at_succ
abbrev zc : Array Value := #[.int .i64 0, .int .i64 0, .int .i64 0, .int .i64 0, .slice none 0 0]
section
variable {F : Nat → Prop} {w : World} {nb m : Nat} {P : List Pk} {s t u : Int} {C : Ad → Ad → Bool}
theorem hasF (h : NI F w nb P s t u C m) (i : Int) (hi : ¬ (0 ≤ i ∧ i < P.length)) : Calls Try.prog 32 #[hd nb, .int .i64 i] w (fun e w' => e = .returned (.bool false) ∧ w' = w) := by
  obtain ⟨mb, A, c, l, D, e, hS, _⟩ := h
  have h1 := has_any hS.1.1 i
  rwa [show decide (0 ≤ i ∧ i < (l.length : Int)) = false from decide_eq_false (by rw [← e, List.length_map] at hi; exact hi)] at h1
theorem hasT (h : NI F w nb P s t u C m) (i : Nat) (hi : i < P.length) : Calls Try.prog 32 #[hd nb, .int .i64 i] w (fun e w' => e = .returned (.bool true) ∧ w' = w) := by
  obtain ⟨mb, A, c, l, D, e, hS, _⟩ := h
  have h1 := has_any hS.1.1 i
  rwa [show decide (0 ≤ (i : Int) ∧ (i : Int) < (l.length : Int)) = true from decide_eq_true (by rw [← e, List.length_map] at hi; omega)] at h1
theorem look_out (h : NI F w nb P s t u C m) (i : Int) (hi : ¬ (0 ≤ i ∧ i < P.length)) :
    Calls Try.prog 16 #[hd nb, .int .i64 i] w (fun e w' => e = .returned (.tuple #[.agg zc, .bool false]) ∧ Below w.heap.size w w') := by
  obtain ⟨U, hU⟩ : ∃ U, w.alloc (.cells #[.int .i64 0, .int .i64 0, .int .i64 0, .int .i64 0, .slice none 0 0] 36) = U := ⟨_, rfl⟩
  have hb : Below w.heap.size w U := by rw [← hU]; exact (Below.refl _ w).alloc (Nat.le_refl _) _
  have hB : Bn w.heap.size 36 [.int .i64 0, .int .i64 0, .int .i64 0, .int .i64 0, .slice none 0 0] U := by rw [← hU]; exact heap_alloc_new w _
  have x1 := hB.cell 0
  have x2 := hB.cell 1
  have x3 := hB.cell 2
  have x4 := hB.cell 3
  have x5 := hB.cell 4
  simp only [List.getElem?_cons_zero, List.getElem?_cons_succ] at x1 x2 x3 x4 x5
  have f1 := hB.frozen 0
  have f2 := hB.frozen 1
  have f3 := hB.frozen 2
  have f4 := hB.frozen 3
  have f5 := hB.frozen 4
  have hB4 := five_bn hB (.int .i64 0) (.int .i64 0) (.int .i64 0) (.int .i64 0) (.slice none 0 0)
  have hb4 := five_below U w.heap.size (Nat.le_refl _) hb.size (.int .i64 0) (.int .i64 0) (.int .i64 0) (.int .i64 0) (.slice none 0 0)
  obtain ⟨W4, hW4⟩ : ∃ W4, five U w.heap.size (.int .i64 0) (.int .i64 0) (.int .i64 0) (.int .i64 0) (.slice none 0 0) = W4 := ⟨_, rfl⟩
  rw [hW4] at hB4 hb4
  unfold five at hW4
  have y1 := hB4.cell 0
  have y2 := hB4.cell 1
  have y3 := hB4.cell 2
  have y4 := hB4.cell 3
  have y5 := hB4.cell 4
  simp only [List.getElem?_cons_zero, List.getElem?_cons_succ] at y1 y2 y3 y4 y5
  have H1 := Lib.hid (hasF (h.below hb) i hi)
  have HB := Lib.hid (hb.trans hb4)
  clear hB hb h hB4 hb4 hi
  go_enter Try.func16, Try.ntmps16
  go_wp2_with fail
  refine H1.out.mono ?_
  rintro e w2 ⟨rfl, rfl⟩
  go_wp2_with fail
  refine bodyPost_ret (v := .tuple #[.agg zc, .bool false]) ?_ rfl ⟨rfl, HB.out⟩
  rw [results_cell_tmp rfl]
  go_simp
theorem look_in (h : NI F w nb P s t u C m) {i : Nat} {a1 a2 b1 b2 : Int} {zs : List Int} (hx : P[i]? = some ((a1, a2), (b1, b2), zs)) (k : Nat) (hk : zs.length = k) :
    Calls Try.prog 16 #[hd nb, .int .i64 i] w (fun e w' => ∃ A1 c1, e = .returned (.tuple #[.agg #[.int .i64 a1, .int .i64 a2, .int .i64 b1, .int .i64 b2, .slice A1 k c1], .bool true]) ∧ Hid (w'.ownsRow w.heap.size 5 1 (.slice A1 k c1) k (nums .u8 zs) ∧ Below w.heap.size w w')) := by
  obtain ⟨U, hU⟩ : ∃ U, w.alloc (.cells #[.int .i64 0, .int .i64 0, .int .i64 0, .int .i64 0, .slice none 0 0] 36) = U := ⟨_, rfl⟩
  have hb : Below w.heap.size w U := by rw [← hU]; exact (Below.refl _ w).alloc (Nat.le_refl _) _
  have hB : Bn w.heap.size 36 [.int .i64 0, .int .i64 0, .int .i64 0, .int .i64 0, .slice none 0 0] U := by rw [← hU]; exact heap_alloc_new w _
  have hU1 : U.heap.size = w.heap.size + 1 := by rw [← hU]; simp
  have hUN := h.below hb
  have H1 := Lib.hid (hasT hUN i (List.getElem?_eq_some_iff.1 hx).1)
  obtain ⟨A, c, n, g, Ad, cd, hn, hin, hn4, c0, hA, ⟨e0, e1, e2, e3, e4⟩, ho, hok⟩ := hUN.at hx
  subst hA
  rw [hk] at e4 ho
  have z1 : (0 : Int) ≤ (i : Int) := by omega
  have z2 : (i : Int) < (n : Int) := by omega
  have H2 := Lib.hid (fresh_any U a1 a2 b1 b2 zs k hk Ad cd (own_ns (c := cd) (n := k) (by rw [hk]; exact ho)) (by have := hok.2.1; simp only at this; omega))
  have HB := Lib.hid (And.intro hb (And.intro hB hU1))
  clear hB hb h hUN hx ho hok hk
  go_enter Try.func16, Try.ntmps16
  go_wp2_with fail
  refine H1.out.mono ?_
  rintro e w2 ⟨rfl, rfl⟩
  go_wp2_with fail
  refine H2.out.mono ?_
  rintro e w3 ⟨A1, c1, rfl, o3, b3⟩
  have hB3 := HB.out.2.1.same (b3.block _ (by have := HB.out.2.2; omega))
  have x1 := hB3.cell 0
  have x2 := hB3.cell 1
  have x3 := hB3.cell 2
  have x4 := hB3.cell 3
  have x5 := hB3.cell 4
  simp only [List.getElem?_cons_zero, List.getElem?_cons_succ] at x1 x2 x3 x4 x5
  have f1 := hB3.frozen 0
  have f2 := hB3.frozen 1
  have f3 := hB3.frozen 2
  have f4 := hB3.frozen 3
  have f5 := hB3.frozen 4
  have hB4 := five_bn hB3 (.int .i64 a1) (.int .i64 a2) (.int .i64 b1) (.int .i64 b2) (.slice A1 k c1)
  have hw3 : w.heap.size ≤ w3.heap.size := Nat.le_trans HB.out.1.size b3.size
  have hb4 := five_below (B := w.heap.size) w3 w.heap.size (Nat.le_refl _) hw3 (.int .i64 a1) (.int .i64 a2) (.int .i64 b1) (.int .i64 b2) (.slice A1 k c1)
  have o4 := own_keep o3 fun g hg => (five_grown w3 w.heap.size (.int .i64 a1) (.int .i64 a2) (.int .i64 b1) (.int .i64 b2) (.slice A1 k c1)).block g (o3.lt g hg).2 fun q => own_ne o3 hB3 (by decide) (by rw [hg, q])
  obtain ⟨W4, hW4⟩ : ∃ W4, five w3 w.heap.size (.int .i64 a1) (.int .i64 a2) (.int .i64 b1) (.int .i64 b2) (.slice A1 k c1) = W4 := ⟨_, rfl⟩
  rw [hW4] at hB4 hb4 o4
  unfold five at hW4
  have y1 := hB4.cell 0
  have y2 := hB4.cell 1
  have y3 := hB4.cell 2
  have y4 := hB4.cell 3
  have y5 := hB4.cell 4
  simp only [List.getElem?_cons_zero, List.getElem?_cons_succ] at y1 y2 y3 y4 y5
  have o5 := own_base (base' := w.heap.size) o4 HB.out.1.size
  have HE := Lib.hid (And.intro o5 ((HB.out.1.trans (b3.mono HB.out.1.size)).trans hb4))
  clear hB3 hB4 hw3 hb4 o4 o3 b3 o5
  go_wp2_with fail
  refine bodyPost_ret (v := .tuple #[.agg #[.int .i64 a1, .int .i64 a2, .int .i64 b1, .int .i64 b2, .slice A1 k c1], .bool true]) ?_ rfl ⟨A1, c1, rfl, HE⟩
  rw [results_cell_tmp rfl]
  go_simp

theorem zeroU (w : World) : (zeroValue 57).run Try.prog w = .ok (.agg #[]) w := by kernel_rfl
set_option maxHeartbeats 1000000 in
theorem parted_any (h : NI F w nb P s t u C m) (a1 a2 b1 b2 : Int) (ha : okA (a1, a2)) (hb : okA (b1, b2)) :
    Calls Try.prog 14 #[hd nb, .agg #[.int .i64 a1, .int .i64 a2], .agg #[.int .i64 b1, .int .i64 b2]] w (fun e w' => e = .returned (.bool (C (a1, a2) (b1, b2))) ∧ Below w.heap.size w w') := by
  obtain ⟨mb, A, c, l, D, e, hS, hM, hl⟩ := h
  obtain ⟨kl, hkl⟩ := key_some (a1, a2) (b1, b2) ha hb
  have hD := hM.2 (a1, a2) (b1, b2) kl hkl
  obtain ⟨U, hU⟩ : ∃ U, (w.alloc (.cells #[.int .i64 a1, .int .i64 a2] 33)).alloc (.cells #[.int .i64 b1, .int .i64 b2] 33) = U := ⟨_, rfl⟩
  have hbl : Below w.heap.size w U := by rw [← hU]; exact ((Below.refl _ w).alloc (Nat.le_refl _) _).alloc (by simp) _
  have hB1 : Bn w.heap.size 33 [.int .i64 a1, .int .i64 a2] U := by
    rw [← hU]
    exact (Below.heap_alloc _ _ _ (by simp)).trans (heap_alloc_new w _)
  have hB2 : Bn (w.heap.size + 1) 33 [.int .i64 b1, .int .i64 b2] U := by
    rw [← hU]
    have h := heap_alloc_new (w.alloc (.cells #[.int .i64 a1, .int .i64 a2] 33)) (.cells #[.int .i64 b1, .int .i64 b2] 33)
    rw [World.size_alloc] at h
    exact h
  have hSU := hS.below hbl
  have c1 := hSU.1.1.cell 1
  have x1 := hB1.cell 0
  have x2 := hB1.cell 1
  have y1 := hB2.cell 0
  have y2 := hB2.cell 1
  simp only [List.getElem?_cons_zero, List.getElem?_cons_succ] at c1 x1 x2 y1 y2
  obtain ⟨cb, hcb⟩ : ∃ b, C (a1, a2) (b1, b2) = b := ⟨_, rfl⟩
  rw [hcb] at hD ⊢
  have hrun : ∀ V, Below U.heap.size U V → (Instr.lookup 56 (.map (some mb)) (.agg #[.int .i64 a1, .int .i64 a2, .int .i64 b1, .int .i64 b2]) true).run Try.prog V = .ok (.tuple #[.agg #[], .bool cb]) V := fun V hV => by
    obtain ⟨vv, pp, hrun, hvv⟩ := (hSU.below hV).1.2.2.look_ok (t := 56) (e := 57) keyed Try.underlying56 (zeroU _) unitElem_mk hkl
    obtain ⟨rfl, _⟩ := unitElem_inv hvv
    rw [hD] at hrun
    exact hrun
  have HS : Hid (∀ V, Below U.heap.size U V → V.cell? ⟨nb, 1, none⟩ = some (.map (some mb)) ∧ V.cell? ⟨w.heap.size, 0, none⟩ = some (.int .i64 a1) ∧ V.cell? ⟨w.heap.size, 1, none⟩ = some (.int .i64 a2) ∧ V.cell? ⟨w.heap.size + 1, 0, none⟩ = some (.int .i64 b1) ∧ V.cell? ⟨w.heap.size + 1, 1, none⟩ = some (.int .i64 b2) ∧
      (Instr.lookup 56 (.map (some mb)) (.agg #[.int .i64 a1, .int .i64 a2, .int .i64 b1, .int .i64 b2]) true).run Try.prog V = .ok (.tuple #[.agg #[], .bool cb]) V) := Lib.hid fun V hV =>
    ⟨(hV.cell (hSU.lt nb hSU.2.2.1)).trans c1, (hV.cell hB1.lt).trans x1, (hV.cell hB1.lt).trans x2, (hV.cell hB2.lt).trans y1, (hV.cell hB2.lt).trans y2, hrun V hV⟩
  have HB := Lib.hid (And.intro hbl trivial)
  clear hS hSU hM hl e hbl hB1 hB2 hrun hkl hD ha hb
  go_enter Try.func14, Try.ntmps14
  go_wp2_with fail
  go_region_held3 (fun V => V.cell? ⟨nb, 1, none⟩ = some (.map (some mb)) ∧ V.cell? ⟨w.heap.size, 0, none⟩ = some (.int .i64 a1) ∧ V.cell? ⟨w.heap.size, 1, none⟩ = some (.int .i64 a2) ∧ V.cell? ⟨w.heap.size + 1, 0, none⟩ = some (.int .i64 b1) ∧ V.cell? ⟨w.heap.size + 1, 1, none⟩ = some (.int .i64 b2) ∧
      (Instr.lookup 56 (.map (some mb)) (.agg #[.int .i64 a1, .int .i64 a2, .int .i64 b1, .int .i64 b2]) true).run Try.prog V = .ok (.tuple #[.agg #[], .bool cb]) V)
    (first | exact HS.out _ (Below.refl _ _).drew | exact HS.out _ (((Below.refl _ _).alloc (Nat.le_refl _) _).drew) | exact HS.out _ (((Below.refl _ _).drew).alloc (Nat.le_refl _) _)) (fail)
  all_goals
    go_wp2_with fail
    go_ret
    refine ⟨rfl, HB.out.1.trans (Below.mono (B := U.heap.size) ?_ HB.out.1.size)⟩
    first
    | exact ((Below.refl _ _).drew).alloc (Nat.le_refl _) _
    | exact ((Below.refl _ _).alloc (Nat.le_refl _) _).drew
end
end Net
end Go.Proofs.Ytinbaiblbbfnnaa
