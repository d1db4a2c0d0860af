/-
  firthlaw13.awake answers true; a key among the arguments.
-/
import Derived.Test.YtjifklojbbocfaaSealOpenRef
import Derived.Test.YtjifklojbbocfaaSpanReads
import Derived.Test.YtjifklojbbocfaaSpanRow
namespace Go.Proofs.Ytjifklojbbocfaa
namespace Seal
open Go.RowKit Num Span Ring Go.Proofs.Ytjifklojbbocfaa.Code
attribute [local go_sem ↓] Go.wp_at_zero Go.wp_at_succ

theorem awake_facts : okKey ⟨#[115]⟩ 3 ∧ okKey ⟨#[115]⟩ 4 ∧ ¬ okKey ⟨#[]⟩ 4 ∧ Right [(1, 1, 3)] ∧ (bodyL 3 [(1, 1, 3)]).length = 6 := by
  refine ⟨by decide, by decide, by decide, by decide, by decide⟩
theorem ss_lit {w : World} (t : TypeId) (a b c : Int) : Ss (w.alloc (.cells #[.int .i64 a, .int .i64 b, .int .i64 c] t)) (w.heap.size + 1) (some ⟨w.heap.size, 0, none⟩) [(a, b, c)] := fun _ => by
  refine ⟨_, _, rfl, by omega, fun j hj => ?_⟩
  match j, hj with
  | 0, _ => simp

set_option maxRecDepth 100000 in
set_option maxHeartbeats 1000000 in
theorem awake_any (w : World) : Calls Try.prog 11 #[] w fun e w' => e = .returned (.bool true) ∧ Below w.heap.size w w' := by
  obtain ⟨k3, k4, k0, hR, hl⟩ := awake_facts
  have hml := markL_len ⟨#[115]⟩ (bodyL 3 [(1, 1, 3)])
  have hse := seal_ok (s := ⟨#[115]⟩) (g := 3) (l := [(1, 1, 3)]) k3 hR
  have hbt := seal_bytes ⟨#[115]⟩ 3 [(1, 1, 3)]
  have ho1 := open_back (s := ⟨#[115]⟩) (g := 3) (l := [(1, 1, 3)]) k3 (by omega) hR
  have ho2 := open_token (s := ⟨#[115]⟩) (s' := ⟨#[115]⟩) (g := 3) (g' := 4) (l := [(1, 1, 3)]) k3 (by omega) hR k4 _ hml
  have ho3 : openF ⟨#[]⟩ 4 (bodyL 3 [(1, 1, 3)] ++ markL ⟨#[115]⟩ (bodyL 3 [(1, 1, 3)])) = ([], 1) := open_key k0
  rw [if_pos (by omega)] at ho2
  rw [hse] at hbt ho1
  have hL : (bodyL 3 [(1, 1, 3)] ++ markL ⟨#[115]⟩ (bodyL 3 [(1, 1, 3)])).length = 14 := by rw [List.length_append, hl, hml]
  obtain ⟨L, hLe⟩ : ∃ L, bodyL 3 [(1, 1, 3)] ++ markL ⟨#[115]⟩ (bodyL 3 [(1, 1, 3)]) = L := ⟨_, rfl⟩
  rw [hLe] at hse hbt ho1 ho2 ho3 hL
  simp only at hbt ho1
  have h1 := fun W (hW : Ss W W.heap.size (some ⟨w.heap.size, 0, none⟩) [(1, 1, 3)]) => seal_any ⟨#[115]⟩ (by decide) 3 (by omega) (some ⟨w.heap.size, 0, none⟩) 1 1 [(1, 1, 3)] rfl W hW (by omega)
  rw [hse] at h1
  have h2 := fun A c (hc : 14 ≤ c) W (hW : Ns .u8 W W.heap.size A L) => open_any ⟨#[115]⟩ (by decide) 3 A c 14 L hL W hW hbt hc (by omega)
  have h3 := fun A c (hc : 14 ≤ c) W (hW : Ns .u8 W W.heap.size A L) => open_any ⟨#[115]⟩ (by decide) 4 A c 14 L hL W hW hbt hc (by omega)
  have h4 := fun A c (hc : 14 ≤ c) W (hW : Ns .u8 W W.heap.size A L) => open_any ⟨#[]⟩ (by decide) 4 A c 14 L hL W hW hbt hc (by omega)
  rw [ho1] at h2
  rw [ho2] at h3
  rw [ho3] at h4
  have hsame := fun A A' c c' W h h' => Span.same_any A A' c c' 1 1 [(1, 1, 3)] [(1, 1, 3)] rfl rfl W h h' (by omega) (by omega)
  rw [show decide (([(1, 1, 3)] : List Sp) = [(1, 1, 3)]) = true from decide_eq_true rfl] at hsame
  have hs0 : Ss (w.alloc (.cells #[.int .i64 1, .int .i64 1, .int .i64 3] 45)) (w.alloc (.cells #[.int .i64 1, .int .i64 1, .int .i64 3] 45)).heap.size (some ⟨w.heap.size, 0, none⟩) [(1, 1, 3)] := (ss_lit 45 1 1 3).more (by simp)
  have hb0 : Below w.heap.size w (w.alloc (.cells #[.int .i64 1, .int .i64 1, .int .i64 3] 45)) := (Below.refl _ w).alloc (Nat.le_refl _) _
  obtain ⟨W, hW⟩ : ∃ W, w.alloc (.cells #[.int .i64 1, .int .i64 1, .int .i64 3] 45) = W := ⟨_, rfl⟩
  rw [hW] at hs0 hb0
  have HW := Lib.hid (And.intro hW (And.intro hs0 hb0))
  clear hW hs0 hb0
  have H1 := Lib.hid (And.intro h1 hL)
  have H2 := Lib.hid (And.intro h2 (And.intro h3 (And.intro h4 hsame)))
  clear h1 h2 h3 h4 hsame k3 k4 k0 hR hl hml hse hbt ho1 ho2 ho3 hL hLe
  go_enter Try.func11, Try.ntmps11
  go_wp2_with fail
  rw [HW.out.1]
  refine (H1.out.1 W HW.out.2.1).mono ?_
  rintro e w1 ⟨v, rfl, h | ⟨_, hf⟩, d1⟩
  · exact absurd (show (0 : Int) = 1 from congrArg Prod.snd h.1) (by decide)
  obtain ⟨A1, c1, rfl, n1, hc1⟩ := hf.ns
  simp only at n1 hc1
  rw [H1.out.2] at hc1
  have b1 := HW.out.2.2.trans (d1.mono HW.out.2.2.size)
  have HA := Lib.hid (And.intro n1 (And.intro b1 ((HW.out.2.1.below d1).more d1.size)))
  rw [show ((L, 0) : List Int × Int).1 = L from rfl, H1.out.2]
  clear hf n1 d1 b1
  go_wp2_with fail
  refine (H2.out.1 A1 c1 hc1 w1 HA.out.1).mono ?_
  rintro e w2 ⟨A2, c2, rfl, o2, d2⟩
  have HB := Lib.hid (And.intro ((HA.out.1.below d2).more d2.size) (And.intro (HA.out.2.1.trans (d2.mono HA.out.2.1.size)) (And.intro ((HA.out.2.2.below d2).more d2.size) (own_ss o2))))
  clear o2 d2
  go_wp2_with fail
  refine (H2.out.2.1 A1 c1 hc1 w2 HB.out.1).mono ?_
  rintro e w3 ⟨A3, c3, rfl, o3, d3⟩
  have HC := Lib.hid (And.intro ((HB.out.1.below d3).more d3.size) (And.intro (HB.out.2.1.trans (d3.mono HB.out.2.1.size)) (And.intro ((HB.out.2.2.1.below d3).more d3.size) ((HB.out.2.2.2.below d3).more d3.size))))
  clear o3 d3
  go_wp2_with fail
  refine (H2.out.2.2.1 A1 c1 hc1 w3 HC.out.1).mono ?_
  rintro e w4 ⟨A4, c4, rfl, o4, d4⟩
  have HD := Lib.hid (And.intro (HC.out.2.1.trans (d4.mono HC.out.2.1.size)) (And.intro ((HC.out.2.2.1.below d4).more d4.size) ((HC.out.2.2.2.below d4).more d4.size)))
  clear o4 d4
  go_wp2_with fail
  refine (H2.out.2.2.2 _ A2 1 c2 w4 HD.out.2.1 HD.out.2.2).mono ?_
  rintro e w5 ⟨rfl, d5⟩
  have HE := Lib.hid (HD.out.1.trans (d5.mono HD.out.1.size))
  clear d5
  go_wp2_with fail
  go_ret
  exact ⟨rfl, HE.out⟩
end Seal
end Go.Proofs.Ytjifklojbbocfaa
