/-
  firthlaw12.awake tells true.
-/
import Derived.Test.YtfnjengcemokpaaRingPart
namespace Go.Proofs.Ytfnjengcemokpaa
namespace Facts
theorem cells3 : Try.prog.cellsOf 3 = 1 := by kernel_rfl
theorem bytes3 : Try.prog.bytesOf 3 = 8 := by kernel_rfl
end Facts
namespace Ring
open Go.RowKit
attribute [local go_sem ↓] Go.wp_at_zero Go.wp_at_succ

theorem list_four {p : Int} (h0 : 0 ≤ p) (h8 : p < 8) : listF [4] p 1 = [4] := by
  have e : ordL [4] p = [4] := ordL_eq (ordOK_some ⟨by decide, h0, h8⟩ ⟨fun m => Iff.rfl, by simp⟩)
  unfold listF
  rw [e]
  rfl
theorem owns_four : ∀ k : Nat, k ≤ 8 → (ownsTo [4] 4 1 k).length = k
  | 0, _ => rfl
  | k + 1, h => by
    rw [ownsTo, if_pos (by rw [list_four (by omega) (by omega)]; simp), List.length_append, owns_four k (by omega)]
    rfl
theorem list_len {ms : List Int} {part n : Int} (h : OrdOK ms part (ordL ms part)) (hr : RightM ms ∧ 0 ≤ part ∧ part < 8) : (listF ms part n).length = cutF n ms.length := by
  rw [listF_len, ord_len (h.1 hr) hr.1.2.2.2]

/-- What List and Rest tell, read: k is how long it is. -/
theorem list_got {ms L : List Int} {part n : Int} {k : Nat} (hL : listF ms part n = L) (hk : L.length = k) (w w' : World) (e : Ending) (h : ListPost ms part n w e w') :
    ∃ A c, e = .returned (.slice A k c) ∧ k ≤ c ∧ k ≤ 8 ∧ Ns .i64 w' w'.heap.size A L ∧ Below w.heap.size w w' := by
  obtain ⟨A, c, h1, h2, h3, h4⟩ := list_read (show (listF ms part n).length = k by rw [hL, hk]) h
  refine ⟨A, c, h1, h2, ?_, by rw [← hL]; exact h3.out.2, h4⟩
  have h5 := ord_small h3.out.1
  rw [← hk, ← hL, listF_len]
  have := cutF_le n (ordL ms part).length
  omega
theorem rest_got {ms L : List Int} {part n : Int} {k : Nat} (hL : restF ms part n = L) (hk : L.length = k) (w w' : World) (e : Ending) (h : RestPost ms part n w e w') :
    ∃ A c, e = .returned (.slice A k c) ∧ k ≤ c ∧ k ≤ 8 ∧ Ns .i64 w' w'.heap.size A L ∧ Below w.heap.size w w' := by
  obtain ⟨A, c, h1, h2, h3, h4⟩ := rest_read (show (restF ms part n).length = k by rw [hL, hk]) h
  refine ⟨A, c, h1, h2, ?_, by rw [← hL]; exact h3.out.2, h4⟩
  have h5 := ord_small h3.out.1
  rw [← hk, ← hL, restF_len]
  omega

theorem lit1 (w : World) (x : Int) : Ns .i64 (w.alloc (.cells #[.int .i64 x] 3)) (w.alloc (.cells #[.int .i64 x] 3)).heap.size (some ⟨w.heap.size, 0, none⟩) [x] := fun _ =>
  ⟨w.heap.size, 0, rfl, by simp, fun j hj => by
    obtain rfl : j = 0 := by simp at hj; omega
    simp⟩
theorem lit2 (w : World) (x y : Int) : Ns .i64 (w.alloc (.cells #[.int .i64 x, .int .i64 y] 3)) (w.alloc (.cells #[.int .i64 x, .int .i64 y] 3)).heap.size (some ⟨w.heap.size, 0, none⟩) [x, y] := fun _ =>
  ⟨w.heap.size, 0, rfl, by simp, fun j hj => by
    obtain rfl | rfl : j = 0 ∨ j = 1 := by simp at hj; omega
    all_goals simp⟩
theorem lit3 (w : World) (x y z : Int) : Ns .i64 (w.alloc (.cells #[.int .i64 x, .int .i64 y, .int .i64 z] 3)) (w.alloc (.cells #[.int .i64 x, .int .i64 y, .int .i64 z] 3)).heap.size (some ⟨w.heap.size, 0, none⟩) [x, y, z] := fun _ =>
  ⟨w.heap.size, 0, rfl, by simp, fun j hj => by
    obtain rfl | rfl | rfl : j = 0 ∨ j = 1 ∨ j = 2 := by simp at hj; omega
    all_goals simp⟩

set_option maxRecDepth 100000 in
set_option maxHeartbeats 1000000 in
theorem awake_any (w : World) : Calls Try.prog 9 #[] w fun e w' => e = .returned (.bool true) ∧ Below w.heap.size w w' := by
  have hA := fun V : World => list_any (some ⟨V.heap.size, 0, none⟩) 1 1 [4] rfl 0 1 _ (lit1 V 4) (by omega)
  have hB := fun V : World => rightM_any (some ⟨V.heap.size, 0, none⟩) 2 2 [1, 3] rfl _ (lit2 V 1 3) (by omega)
  have hC := fun V : World => list_any (some ⟨V.heap.size, 0, none⟩) 3 3 [1, 2, 3] rfl 5 9 _ (lit3 V 1 2 3) (by omega)
  have hD := fun V : World => owns_any (some ⟨V.heap.size, 0, none⟩) 1 1 [4] rfl 4 1 _ (lit1 V 4) (by omega)
  rw [show decide (RightM [1, 3]) = true from by decide] at hB
  have HA := Lib.hid hA
  have HB := Lib.hid hB
  have HC := Lib.hid hC
  have HD := Lib.hid hD
  clear hA hB hC hD
  have B1 := Lib.hid (fun (V : World) (o : Obj) => (Below.refl V.heap.size V).alloc (Nat.le_refl _) o)
  go_enter Try.func9, Try.ntmps9
  go_wp2_with fail
  refine (HA.out w).mono ?_
  rintro e w1 hl
  obtain ⟨A1, c1, rfl, hc1, hOK, b1⟩ := list_read (k := 1) (by rw [list_four (by omega) (by omega)]; rfl) hl
  rw [list_four (by omega) (by omega)] at hOK
  obtain ⟨pb, off, rfl, _, hc⟩ := hOK.out.2 (by simp)
  have c0 : w1.cell? ⟨pb, off, none⟩ = some (.int .i64 4) := hc 0 (by simp)
  have BA := Lib.hid ((B1.out w _).trans (b1.mono (by simp)))
  clear hl hOK b1 hc
  go_wp2_with fail
  refine (HB.out w1).mono ?_
  rintro e w2 ⟨rfl, b2⟩
  have BB := Lib.hid (BA.out.trans (((B1.out w1 _).trans (b2.mono (by simp))).mono BA.out.size))
  clear b2
  go_wp2_with fail
  refine (HC.out w2).mono ?_
  rintro e w3 hl
  have hlen : (listF [1, 2, 3] 5 9).length = 3 := by
    obtain ⟨A, c, cx, _, _, hok, _⟩ := hl
    rw [list_len hok.out ⟨by decide, by omega, by omega⟩]
    rfl
  obtain ⟨A3, c3, rfl, hc3, hOK, b3⟩ := list_read hlen hl
  have BC := Lib.hid (BB.out.trans (((B1.out w2 _).trans (b3.mono (by simp))).mono BB.out.size))
  clear hl hOK b3
  go_wp2_with fail
  refine (HD.out w3).mono ?_
  rintro e w4 ⟨A4, c4, rfl, o4, b4⟩
  have BD := Lib.hid (BC.out.trans (((B1.out w3 _).trans (b4.mono (by simp))).mono BC.out.size))
  rw [owns_four 8 (by omega)]
  clear o4 b4
  go_wp2_with fail
  go_ret
  exact ⟨rfl, BD.out⟩
end Ring
end Go.Proofs.Ytfnjengcemokpaa
