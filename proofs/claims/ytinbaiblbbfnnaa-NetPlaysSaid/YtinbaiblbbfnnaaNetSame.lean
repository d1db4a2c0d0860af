/-
  firthref08.Same of two packets that are the same; firthlaw08.awake.
-/
import Derived.Test.YtinbaiblbbfnnaaNetTakes
import Derived.Lib.SlBytesConst
namespace Go.Proofs.Ytinbaiblbbfnnaa
namespace Net
open Go.RowKit Blk Go.Maps
attribute [local go_sem ↓] Go.wp_at_zero Go.wp_at_succ
theorem conv_any (U : World) (B : Nat) (A : Option Addr) (c k : Nat) (zs : List Int) (hk : zs.length = k) (h : Ns .u8 U B A zs) : (convert 34 9 (.slice A k c)).run Try.prog U = .ok (.string (strOfNums zs)) U := by
  subst hk
  exact run_conv_ns (P := Try.prog) U 34 5 9 Try.underlying34 Try.underlying5 Try.underlying9 c h
set_option maxRecDepth 100000 in
theorem same_yes (w : World) (a1 a2 b1 b2 : Int) (zs : List Int) (k : Nat) (hk : zs.length = k) (A A' : Option Addr) (c c' : Nat) (hr : Ns .u8 w w.heap.size A zs) (hr' : Ns .u8 w w.heap.size A' zs) :
    Calls Try.prog 17 #[.agg #[.int .i64 a1, .int .i64 a2, .int .i64 b1, .int .i64 b2, .slice A k c], .agg #[.int .i64 a1, .int .i64 a2, .int .i64 b1, .int .i64 b2, .slice A' k c']] w (fun e w' => e = .returned (.bool true) ∧ Below w.heap.size w w') := by
  obtain ⟨U, hU⟩ : ∃ U, (w.alloc (.cells #[.int .i64 a1, .int .i64 a2, .int .i64 b1, .int .i64 b2, .slice A k c] 36)).alloc (.cells #[.int .i64 a1, .int .i64 a2, .int .i64 b1, .int .i64 b2, .slice A' k c'] 36) = U := ⟨_, rfl⟩
  have hb : Below w.heap.size w U := by rw [← hU]; exact ((Below.refl _ w).alloc (Nat.le_refl _) _).alloc (by simp) _
  have hB1 : Bn w.heap.size 36 [.int .i64 a1, .int .i64 a2, .int .i64 b1, .int .i64 b2, .slice A k c] U := by
    rw [← hU]
    exact (Below.heap_alloc _ _ _ (by simp)).trans (heap_alloc_new w _)
  have hB2 : Bn (w.heap.size + 1) 36 [.int .i64 a1, .int .i64 a2, .int .i64 b1, .int .i64 b2, .slice A' k c'] U := by
    rw [← hU]
    have h := heap_alloc_new (w.alloc (.cells #[.int .i64 a1, .int .i64 a2, .int .i64 b1, .int .i64 b2, .slice A k c] 36)) (.cells #[.int .i64 a1, .int .i64 a2, .int .i64 b1, .int .i64 b2, .slice A' k c'] 36)
    rw [World.size_alloc] at h
    exact h
  have x1 := hB1.cell 0
  have x2 := hB1.cell 1
  have x3 := hB1.cell 2
  have x4 := hB1.cell 3
  have x5 := hB1.cell 4
  have y1 := hB2.cell 0
  have y2 := hB2.cell 1
  have y3 := hB2.cell 2
  have y4 := hB2.cell 3
  have y5 := hB2.cell 4
  simp only [List.getElem?_cons_zero, List.getElem?_cons_succ] at x1 x2 x3 x4 x5 y1 y2 y3 y4 y5
  have k1 := conv_any U w.heap.size A c k zs hk (hr.below hb)
  have k2 := conv_any U w.heap.size A' c' k zs hk (hr'.below hb)
  have HB := Lib.hid hb
  obtain ⟨St, hSt⟩ : ∃ S, strOfNums zs = S := ⟨_, rfl⟩
  rw [hSt] at k1 k2
  have heq : (St.toList == St.toList) = true := by simp
  clear hB1 hB2 hb hr hr' hk hSt
  go_enter Try.func17, Try.ntmps17
  go_wp2_with fail
  go_ret
  exact ⟨rfl, HB.out⟩
/-- A network behind a world w, all of it new since then. -/
def Sit (w : World) (nb : Nat) (P : List Pk) (s t u : Int) (C : Ad → Ad → Bool) (m : Nat) (F : Nat → Prop) (V : World) : Prop := NI F V nb P s t u C m ∧ Below w.heap.size w V ∧ ∀ k, F k → w.heap.size ≤ k
section
variable {w V V' : World} {nb m m' : Nat} {P P' : List Pk} {s t u s' t' u' : Int} {C C' : Ad → Ad → Bool} {F F' : Nat → Prop}
theorem Sit.step (h : Sit w nb P s t u C m F V) (h1 : NI F' V' nb P' s' t' u' C' m') (h2 : Stp F V F' V') : Sit w nb P' s' t' u' C' m' F' V' := ⟨h1, h2.old h.2.1 h.2.2⟩
theorem Sit.below (h : Sit w nb P s t u C m F V) (hb : Below V.heap.size V V') : Sit w nb P s t u C m F V' := ⟨h.1.below hb, h.2.1.trans (hb.mono h.2.1.size), h.2.2⟩
theorem Sit.size (h : Sit w nb P s t u C m F V) : w.heap.size ≤ V.heap.size := h.2.1.size
end
set_option maxRecDepth 100000 in
set_option maxHeartbeats 1000000 in
theorem awake_any (w : World) : Calls Try.prog 9 #[] w fun e w' => e = .returned (.bool true) ∧ Below w.heap.size w w' := by
  have H1 := Lib.hid (new_any w)
  go_enter Try.func9, Try.ntmps9
  go_wp2_with fail
  refine H1.out.mono ?_
  rintro e1 w1 ⟨F1, nb, rfl, h1⟩
  have S1 : Hid (Sit w nb [] 0 0 0 (fun _ _ => false) 0 F1 w1) := Lib.hid ⟨h1.out.1, h1.out.2.2, h1.out.2.1⟩
  have hal : Below w1.heap.size w1 (w1.alloc (.cells #[.int .u8 112] 5 (1, 2))) := (Below.refl _ w1).alloc (Nat.le_refl _) _
  have hns : Ns .u8 (w1.alloc (.cells #[.int .u8 112] 5 (1, 2))) (w1.alloc (.cells #[.int .u8 112] 5 (1, 2))).heap.size (some ⟨w1.heap.size, 0, none⟩) [112] := fun _ => ⟨w1.heap.size, 0, rfl, by simp, fun j hj => by
    have : j = 0 := by simpa using hj
    subst this
    exact cell_of_row _ w1.heap.size 0 #[.int .u8 112] 5 (1, 2) (heap_alloc_new w1 _)⟩
  have kc : (convert 34 34 (.slice (some ⟨w1.heap.size, 0, none⟩) 1 1)).run Try.prog (w1.alloc (.cells #[.int .u8 112] 5)) = .ok (.slice (some ⟨w1.heap.size, 0, none⟩) 1 1) (w1.alloc (.cells #[.int .u8 112] 5 (1, 2))) := Lib.run_convert_bytes_const (P := Try.prog) w1 34 5 #[.int .u8 112] 1 1 Try.underlying34 Try.underlying5
  have S2 := Lib.hid (S1.out.below hal)
  have H2 := Lib.hid (send_more S2.out.1 (by simp) 1 0 2 0 [112] 1 rfl (some ⟨w1.heap.size, 0, none⟩) 1 hns (by unfold OkP okA okI; simp))
  clear h1 hal hns
  go_wp2_with fail
  refine H2.out.mono ?_
  rintro e2 w2 ⟨rfl, F2, h2⟩
  have S3 := Lib.hid (S2.out.step h2.out.1 h2.out.2)
  have H3 := Lib.hid (copy_in S3.out.1 (i := 0) (zs := [112]) (a1 := 1) (a2 := 0) (b1 := 2) (b2 := 0) rfl (by simp))
  clear h2 kc
  go_wp2_with fail
  refine H3.out.mono ?_
  rintro e3 w3 ⟨rfl, F3, h3⟩
  have S4 := Lib.hid (S3.out.step h3.out.1 h3.out.2)
  have H4 := Lib.hid (take_in S4.out.1 (i := 1) (zs := [112]) (a1 := 1) (a2 := 0) (b1 := 2) (b2 := 0) rfl)
  clear h3
  go_wp2_with fail
  refine H4.out.mono ?_
  rintro e4 w4 (⟨hc, _⟩ | ⟨_, A4, c4, rfl, F4, hN4, hS4, hD4, _, _⟩)
  · cases hc
  have S5 := Lib.hid (S4.out.step hN4 hS4)
  simp only [show ([112] : List Int).length = 1 from rfl] at hD4 ⊢
  obtain ⟨U, hU⟩ : ∃ U, w4.alloc (.cells #[.int .i64 1, .int .i64 0, .int .i64 2, .int .i64 0, .slice A4 1 c4] 36) = U := ⟨_, rfl⟩
  have hb : Below w4.heap.size w4 U := by rw [← hU]; exact (Below.refl _ w4).alloc (Nat.le_refl _) _
  have hB : Bn w4.heap.size 36 [.int .i64 1, .int .i64 0, .int .i64 2, .int .i64 0, .slice A4 1 c4] U := by rw [← hU]; exact heap_alloc_new w4 _
  have x5 := hB.cell 4
  simp only [List.getElem?_cons_zero, List.getElem?_cons_succ] at x5
  have S6 := Lib.hid (S5.out.below hb)
  have k1 := conv_any U w4.heap.size A4 c4 1 [112] rfl ((own_ns (zs := [112]) (c := c4) (n := 1) hD4).below hb)
  rw [show strOfNums [112] = ⟨#[112]⟩ from rfl] at k1
  have H5 := Lib.hid (len_any S6.out.1 1 rfl)
  clear hb hB hD4 hN4 hS4 H4
  go_wp2_with fail
  refine H5.out.mono ?_
  rintro e5 w5 ⟨rfl, rfl⟩
  go_wp2_with fail
  go_ret
  exact ⟨rfl, S6.out.2.1⟩
end Net
end Go.Proofs.Ytinbaiblbbfnnaa
