/-
  The document's Lose (layer 8).
-/
import Derived.Test.YtinbaiblbbfnnaaNetDocSend
namespace Go.Proofs.Ytinbaiblbbfnnaa
namespace Net
open Go.RowKit Blk
attribute [local go_sem ↓] Go.wp_at_zero Go.wp_at_succ
section
variable {F : Nat → Prop} {w : World} {mb : Nat} {A : Option Addr} {c n : Nat} {l : List PE} {B : Option Addr} {q k : Nat} {cs : List Ct} {s t u : Int}

theorem doc_lose_out (h : RN F w mb A c n l B q k cs s t u) (i : Int) (hi : ¬ (0 ≤ i ∧ i < n)) :
    Calls Try.prog 26 #[.pointer (some ⟨mb, 0, none⟩), .int .i64 i] w (fun e w' => e = .returned (.bool false) ∧ Below w.heap.size w w') := by
  have H1 := Lib.hid (doc_look_out h i hi)
  clear h hi
  go_enter Try.func26, Try.ntmps26
  go_wp2_with fail
  refine H1.out.mono ?_
  rintro e w1 ⟨rfl, b1⟩
  have HB : Hid (Below w.heap.size w (w1.alloc (.cells #[.int .i64 0, .int .i64 0, .int .i64 0, .int .i64 0, .slice none 0 0] 36))) := Lib.hid (b1.alloc b1.size _)
  clear b1
  go_wp2_with fail
  go_ret
  exact ⟨rfl, HB.out⟩
set_option maxRecDepth 100000 in
set_option maxHeartbeats 1000000 in
theorem doc_lose_in (h : RN F w mb A c n l B q k cs s t u) (hn4 : n ≤ 4096) (j : Nat) (hj : j < n) :
    Calls Try.prog 26 #[.pointer (some ⟨mb, 0, none⟩), .int .i64 j] w (fun e w' => e = .returned (.bool true) ∧ ∃ F' A' c' n', Hid (n' + 1 = n ∧ RN F' w' mb A' c' n' (l.eraseIdx j) B q k cs s t (IntKind.i64.wrap (u + 1)) ∧ Stp F w F' w')) := by
  obtain ⟨⟨⟨⟨a1, a2⟩, ⟨b1, b2⟩, zs⟩, Ax, cx⟩, hx⟩ : ∃ x, l[j]? = some x := ⟨_, List.getElem?_eq_getElem (by have := h.2.1.1; omega)⟩
  obtain ⟨kz, hkz⟩ : ∃ k, zs.length = k := ⟨_, rfl⟩
  have H1 := doc_look_in h j a1 a2 b1 b2 zs Ax cx hx
  rw [hkz] at H1
  have H1 := Lib.hid H1
  have HH := Lib.hid h
  clear h hx hkz
  go_enter Try.func26, Try.ntmps26
  go_wp2_with fail
  refine H1.out.mono ?_
  rintro e w1 ⟨rfl, bb1⟩
  obtain ⟨U, hU⟩ : ∃ V, w1.alloc (.cells #[.int .i64 a1, .int .i64 a2, .int .i64 b1, .int .i64 b2, .slice Ax kz cx] 36) = V := ⟨_, rfl⟩
  have HB : Hid (Below w.heap.size w U) := Lib.hid (by rw [← hU]; exact bb1.alloc bb1.size _)
  have H2 := Lib.hid (doc_gone (HH.out.below HB.out) hn4 j hj)
  clear bb1
  go_wp2_with fail
  refine H2.out.mono ?_
  rintro e w3 ⟨rfl, F3, A3, c3, n3, h3⟩
  obtain ⟨_, _, _, _, y4⟩ := h3.out.2.1.head
  have f4 := h3.out.2.1.frozen 4
  have HC := Lib.hid (h3.out.2.1.count (r := 4) (v := .int .i64 (IntKind.i64.wrap (u + 1))) rfl)
  go_wp2_with fail
  go_ret
  rw [← Go.IntWalk.i64_left]
  exact ⟨rfl, _, _, _, _, Lib.hid ⟨h3.out.1, HC.out.1, ((Stp.of_below HB.out).trans h3.out.2.2.1).trans HC.out.2⟩⟩
end
end Net
end Go.Proofs.Ytinbaiblbbfnnaa
