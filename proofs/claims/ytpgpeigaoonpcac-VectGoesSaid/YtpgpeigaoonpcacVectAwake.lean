/-
  firthlaw04.awake tells true.
-/
import Derived.Test.YtpgpeigaoonpcacVectJoinRef
namespace Go.Proofs.Ytpgpeigaoonpcac
namespace Vect
open Go.RowKit Span
attribute [local go_sem ↓] Go.wp_at_zero Go.wp_at_succ

theorem ns_lit2 (w : World) (x y : Int) : Ns .i64 (w.alloc (.cells #[.int .i64 x, .int .i64 y] 2)) (w.alloc (.cells #[.int .i64 x, .int .i64 y] 2)).heap.size (some ⟨w.heap.size, 0, none⟩) [x, y] := fun _ =>
  ⟨w.heap.size, 0, rfl, by simp, fun j hj => by
    obtain rfl | rfl : j = 0 ∨ j = 1 := by simp at hj; omega
    · simp
    · simp⟩
/-- An answer of Join, read: k is how long it is. -/
theorem vpost_read {L : List Int} {E : Int} {k : Nat} (hk : L.length = k) (w : World) (e : Ending) (w' : World) (h : VJPost L E w e w') :
    ∃ A c, e = .returned (.tuple #[.slice A k c, .int .i64 E]) ∧ Ns .i64 w' w'.heap.size A L ∧ Below w.heap.size w w' := by
  obtain ⟨A, c, rfl, o, b⟩ := h
  exact ⟨A, c, by rw [hk], own_ns o, b⟩

set_option maxHeartbeats 1000000 in
theorem awake_v (w : World) : Calls Try.prog 6 #[] w fun e w' => e = .returned (.bool true) ∧ Below w.heap.size w w' := by
  have hj1 : vjL [1, 5] [4, 2] = [4, 5] ∧ vjE [1, 5] [4, 2] = 0 := by decide
  have hn1 : nextV [3, 0] 2 = (2, 1, 0) := by decide
  have h1 := fun A A' W h h' => vjoin_any A A' 2 2 2 2 [1, 5] [4, 2] rfl rfl W h h' (by omega) (by omega)
  rw [hj1.1, hj1.2] at h1
  have h2 := fun A W h => next_any A 2 2 [3, 0] rfl 2 (by omega) W h (by omega)
  rw [hn1] at h2
  have h3 := fun A A' c c' W h h' => vsame_any A A' c c' 2 2 [4, 5] [4, 5] rfl rfl W h h' (by omega) (by omega)
  rw [show decide (([4, 5] : List Int) = [4, 5]) = true by decide] at h3
  have h4 := fun A c W h => covers_any A c 2 [4, 5] rfl 1 4 W h (by omega)
  rw [show decide (CoversV [4, 5] 1 4) = true by decide] at h4
  have HJ := Lib.hid (vpost_read (L := [4, 5]) (E := 0) (k := 2) rfl)
  have n1 := ns_lit2 w 1 5
  have hb1 := (Below.refl w.heap.size w).alloc (Nat.le_refl _) (.cells #[.int .i64 1, .int .i64 5] 2)
  obtain ⟨W1, hW1⟩ : ∃ W1, w.alloc (.cells #[.int .i64 1, .int .i64 5] 2) = W1 := ⟨_, rfl⟩
  rw [hW1] at n1 hb1
  have n2 := ns_lit2 W1 4 2
  have n1b := (n1.alloc (Nat.le_refl _) (.cells #[.int .i64 4, .int .i64 2] 2)).more (show W1.heap.size ≤ (W1.alloc (.cells #[.int .i64 4, .int .i64 2] 2)).heap.size by simp)
  have hb2 := hb1.alloc hb1.size (.cells #[.int .i64 4, .int .i64 2] 2)
  obtain ⟨W2, hW2⟩ : ∃ W2, W1.alloc (.cells #[.int .i64 4, .int .i64 2] 2) = W2 := ⟨_, rfl⟩
  rw [hW2] at n2 n1b hb2
  have H1 := Lib.hid h1
  have H2 := Lib.hid h2
  have H3 := Lib.hid h3
  have H4 := Lib.hid h4
  have N1 := Lib.hid n1b
  have N2 := Lib.hid n2
  have HB2 := Lib.hid hb2
  clear h1 h2 h3 h4 hj1 hn1 n1 n1b n2 hb1 hb2
  go_enter Try.func6, Try.ntmps6
  go_wp2_with fail
  refine (H1.out _ _ W2 N1.out N2.out).mono ?_
  intro e w3 hp
  obtain ⟨A3, c3, rfl, n3, b3⟩ := HJ.out _ _ _ hp
  have hb3 := HB2.out.trans (b3.mono HB2.out.size)
  clear hp b3 hW1 hW2 H1 N1 N2 HB2 HJ
  have n4 := ns_lit2 w3 3 0
  have n3b := (n3.alloc (Nat.le_refl _) (.cells #[.int .i64 3, .int .i64 0] 2)).more (show w3.heap.size ≤ (w3.alloc (.cells #[.int .i64 3, .int .i64 0] 2)).heap.size by simp)
  have hb4 := hb3.alloc hb3.size (.cells #[.int .i64 3, .int .i64 0] 2)
  obtain ⟨W4, hW4⟩ : ∃ W4, w3.alloc (.cells #[.int .i64 3, .int .i64 0] 2) = W4 := ⟨_, rfl⟩
  rw [hW4] at n4 n3b hb4
  have N3 := Lib.hid n3b
  have N4 := Lib.hid n4
  have HB4 := Lib.hid hb4
  clear n3 n3b n4 hb3 hb4
  go_wp2_with fail
  refine (H2.out _ W4 N4.out).mono ?_
  rintro e w5 ⟨rfl, b5⟩
  have hb5 := HB4.out.trans (b5.mono HB4.out.size)
  have n5 := (N3.out.below b5).more b5.size
  clear b5 hW4 N3 N4 HB4 H2
  -- the dot's box
  have q0 : (w5.alloc (.cells #[.int .i64 2, .int .i64 1] 24)).cell? ⟨w5.heap.size, 0, none⟩ = some (.int .i64 2) := by simp
  have q1 : (w5.alloc (.cells #[.int .i64 2, .int .i64 1] 24)).cell? ⟨w5.heap.size, 1, none⟩ = some (.int .i64 1) := by simp
  have hb6 := hb5.alloc hb5.size (.cells #[.int .i64 2, .int .i64 1] 24)
  have n6 := (n5.alloc (Nat.le_refl _) (.cells #[.int .i64 2, .int .i64 1] 24)).more (show w5.heap.size ≤ (w5.alloc (.cells #[.int .i64 2, .int .i64 1] 24)).heap.size by simp)
  have s6 : w5.heap.size < (w5.alloc (.cells #[.int .i64 2, .int .i64 1] 24)).heap.size := by simp
  obtain ⟨W6, hW6⟩ : ∃ W6, w5.alloc (.cells #[.int .i64 2, .int .i64 1] 24) = W6 := ⟨_, rfl⟩
  rw [hW6] at q0 q1 hb6 n6 s6
  have n7 := ns_lit2 W6 4 5
  have n6b := (n6.alloc (Nat.le_refl _) (.cells #[.int .i64 4, .int .i64 5] 2)).more (show W6.heap.size ≤ (W6.alloc (.cells #[.int .i64 4, .int .i64 5] 2)).heap.size by simp)
  have hb7 := hb6.alloc hb6.size (.cells #[.int .i64 4, .int .i64 5] 2)
  have q0b := (World.cell?_alloc_lt W6 (.cells #[.int .i64 4, .int .i64 5] 2) ⟨w5.heap.size, 0, none⟩ s6).trans q0
  have q1b := (World.cell?_alloc_lt W6 (.cells #[.int .i64 4, .int .i64 5] 2) ⟨w5.heap.size, 1, none⟩ s6).trans q1
  have s7 : w5.heap.size < (W6.alloc (.cells #[.int .i64 4, .int .i64 5] 2)).heap.size := by simp; omega
  obtain ⟨W7, hW7⟩ : ∃ W7, W6.alloc (.cells #[.int .i64 4, .int .i64 5] 2) = W7 := ⟨_, rfl⟩
  rw [hW7] at n7 n6b hb7 q0b q1b s7
  have N6 := Lib.hid n6b
  have N7 := Lib.hid n7
  have HB7 := Lib.hid hb7
  clear n5 n6 n6b n7 hb5 hb6 hb7 q0 q1 s6
  go_wp2_with fail
  refine (H3.out A3 _ c3 2 W7 N6.out N7.out).mono ?_
  rintro e w8 ⟨rfl, b8⟩
  have p0 := cell_below b8 s7 q0b
  have p1 := cell_below b8 s7 q1b
  have n8 := (N6.out.below b8).more b8.size
  have hb8 := HB7.out.trans (b8.mono HB7.out.size)
  clear b8 N6 N7 HB7 hW6 hW7 q0b q1b H3
  go_wp2_with fail
  refine (H4.out A3 c3 w8 n8).mono ?_
  rintro e w9 ⟨rfl, b9⟩
  have hb9 := hb8.trans (b9.mono hb8.size)
  clear b9 hb8 n8 p0 p1 H4
  go_wp2
  go_ret
  exact ⟨rfl, hb9⟩
end Vect
end Go.Proofs.Ytpgpeigaoonpcac
