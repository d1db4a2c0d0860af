/-
  firthlaw03.awake tells true.
-/
import Derived.Test.YtpgpeigaoonpcabSpanJoinRef
import Derived.Test.YtpgpeigaoonpcabSpanSize
import Derived.Test.YtpgpeigaoonpcabSpanLooks
namespace Go.Proofs.Ytpgpeigaoonpcab
namespace Span
open Go.RowKit
attribute [local go_sem ↓] Go.wp_at_zero Go.wp_at_succ

theorem awake_join : addL [(1, 1, 3), (1, 5, 6)] (1, 4) = [(1, 1, 6)] ∧ addE [(1, 1, 3), (1, 5, 6)] (1, 4) = 0 := by
  have hd : okDot (1, 4) := by decide
  have hj : IsJoin [(1, 1, 3), (1, 5, 6)] [(1, 4, 4)] [(1, 1, 6)] := by
    refine ⟨by decide, fun s n => ?_⟩
    unfold mem inSp
    simp only [List.mem_cons, List.not_mem_nil, or_false, exists_eq_or_imp, exists_eq_left]
    omega
  have hg := join_good (by decide) (by decide) hj (by decide)
  rw [add_good hd, addE_good hd]
  exact ⟨hg.2, hg.1⟩

theorem ss_lit1 (w : World) (x : Sp) : Ss (w.alloc (.cells #[.int .i64 x.1, .int .i64 x.2.1, .int .i64 x.2.2] 52)) (w.alloc (.cells #[.int .i64 x.1, .int .i64 x.2.1, .int .i64 x.2.2] 52)).heap.size (some ⟨w.heap.size, 0, none⟩) [x] := fun _ =>
  ⟨w.heap.size, 0, rfl, by simp, fun j hj => by
    obtain rfl : j = 0 := by simp at hj; omega
    exact ⟨by simp, by simp, by simp⟩⟩
theorem ss_lit2 (w : World) (x y : Sp) : Ss (w.alloc (.cells #[.int .i64 x.1, .int .i64 x.2.1, .int .i64 x.2.2, .int .i64 y.1, .int .i64 y.2.1, .int .i64 y.2.2] 52)) (w.alloc (.cells #[.int .i64 x.1, .int .i64 x.2.1, .int .i64 x.2.2, .int .i64 y.1, .int .i64 y.2.1, .int .i64 y.2.2] 52)).heap.size (some ⟨w.heap.size, 0, none⟩) [x, y] := fun _ =>
  ⟨w.heap.size, 0, rfl, by simp, fun j hj => by
    obtain rfl | rfl : j = 0 ∨ j = 1 := by simp at hj; omega
    · exact ⟨by simp, by simp, by simp⟩
    · exact ⟨by simp, by simp, by simp⟩⟩

set_option maxHeartbeats 1000000 in
theorem awake_any (w : World) : Calls Try.prog 19 #[] w fun e w' => e = .returned (.bool true) ∧ Below w.heap.size w w' := by
  have hs2 := ss_lit2 w (1, 1, 3) (1, 5, 6)
  have hb1 := (Below.refl w.heap.size w).alloc (Nat.le_refl _) (.cells #[.int .i64 1, .int .i64 1, .int .i64 3, .int .i64 1, .int .i64 5, .int .i64 6] 52)
  have hadd := fun A W h => add_any A 2 2 [(1, 1, 3), (1, 5, 6)] rfl 1 4 W h (by omega)
  rw [awake_join.1, awake_join.2] at hadd
  obtain ⟨W, hW⟩ : ∃ W, w.alloc (.cells #[.int .i64 1, .int .i64 1, .int .i64 3, .int .i64 1, .int .i64 5, .int .i64 6] 52) = W := ⟨_, rfl⟩
  rw [hW] at hs2 hb1
  have hsame := fun A A' c W h h' => same_any A A' c 1 1 1 [(1, 1, 6)] [(1, 1, 6)] rfl rfl W h h' (by omega) (by omega)
  have hright := fun A c W h => right_any A c 1 [(1, 1, 6)] rfl W h (by omega)
  have hhas := fun A c W h => has_any A c [(1, 1, 6)] 1 4 W h (by simp)
  have hsize := fun A c W h => size_any A c 1 [(1, 1, 6)] rfl W h (by omega)
  have hr1 : decide (Right [(1, 1, 6)]) = true := by decide
  rw [hr1] at hright
  rw [show hasL [(1, 1, 6)] 1 4 = true by decide] at hhas
  rw [sizeF_good hr1 (by decide), show total [(1, 1, 6)] = 6 by decide] at hsize
  rw [show decide (([(1, 1, 6)] : List Sp) = [(1, 1, 6)]) = true by decide] at hsame
  have HA := Lib.hid hadd
  have HS := Lib.hid hsame
  have HR := Lib.hid hright
  have HH := Lib.hid hhas
  have HZ := Lib.hid hsize
  have HL := Lib.hid hs2
  have HB := Lib.hid hb1
  clear hadd hsame hright hhas hsize hs2 hb1 hr1
  go_enter Try.func19, Try.ntmps19
  go_wp2_with fail
  refine (HA.out _ _ HL.out).mono ?_
  rintro e w1 ⟨A1, c1, rfl, o1, b1⟩
  have n1 := own_ss o1
  have hb2 := HB.out.trans (b1.mono HB.out.size)
  have sz1 := b1.size
  obtain ⟨W2, hW2⟩ : ∃ W2, w1.alloc (.cells #[.int .i64 1, .int .i64 1, .int .i64 6] 52) = W2 := ⟨_, rfl⟩
  have hs1 := ss_lit1 w1 (1, 1, 6)
  have n2 := n1.alloc (Nat.le_refl _) (.cells #[.int .i64 1, .int .i64 1, .int .i64 6] 52)
  have hb3 := hb2.alloc hb2.size (.cells #[.int .i64 1, .int .i64 1, .int .i64 6] 52)
  have sz2 : w1.heap.size ≤ (w1.alloc (.cells #[.int .i64 1, .int .i64 1, .int .i64 6] 52)).heap.size := by simp
  rw [hW2] at hs1 n2 hb3 sz2
  clear o1 b1 hW
  have N2 := Lib.hid (n2.more sz2)
  have HS1 := Lib.hid hs1
  have HB3 := Lib.hid hb3
  clear hs1 n2 hb3 hb2 n1 HL HA HB sz1 sz2
  go_wp2_with fail
  refine (HS.out A1 _ c1 W2 N2.out HS1.out).mono ?_
  rintro e w3 ⟨rfl, b3⟩
  have N3 := Lib.hid ((N2.out.below b3).more b3.size)
  have HB4 := Lib.hid (HB3.out.trans (b3.mono HB3.out.size))
  clear N2 HS1 HB3 b3 HS
  go_wp2_with fail
  refine (HR.out A1 c1 w3 N3.out).mono ?_
  rintro e w4 ⟨rfl, b4⟩
  have N4 := Lib.hid ((N3.out.below b4).more b4.size)
  have HB5 := Lib.hid (HB4.out.trans (b4.mono HB4.out.size))
  clear N3 HB4 b4 HR
  go_wp2_with fail
  refine (HH.out A1 c1 w4 N4.out).mono ?_
  rintro e w5 ⟨rfl, b5⟩
  have N5 := Lib.hid ((N4.out.below b5).more b5.size)
  have HB6 := Lib.hid (HB5.out.trans (b5.mono HB5.out.size))
  clear N4 HB5 b5 HH
  go_wp2_with fail
  refine (HZ.out A1 c1 w5 N5.out).mono ?_
  rintro e w6 ⟨rfl, b6⟩
  have HB7 := Lib.hid (HB6.out.trans (b6.mono HB6.out.size))
  clear N5 HB6 b6 HZ
  go_wp2
  go_ret
  exact ⟨rfl, HB7.out⟩
end Span
end Go.Proofs.Ytpgpeigaoonpcab
