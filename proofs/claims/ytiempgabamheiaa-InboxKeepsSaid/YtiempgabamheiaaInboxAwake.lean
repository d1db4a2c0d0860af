/-
  The answers that the document fixes are given (layer 18).
-/
import Derived.Test.YtiempgabamheiaaInboxSit
namespace Go.Proofs.Ytiempgabamheiaa
namespace Inbox
open Go.RowKit Vers Span Blk
attribute [local go_sem ↓] Go.wp_at_zero Go.wp_at_succ

theorem aw1 : takeF 2 [] [0, 0] (fx 1 2) = (2, [fx 1 2]) := by decide +kernel
theorem aw2 : takeF 2 [fx 1 2] [0, 0] (fx 1 1) = (2, [fx 1 2, fx 1 1]) := by decide +kernel
theorem aw3 : takeF 2 [fx 1 2, fx 1 1] [0, 0] (fx 2 2) = (4, [fx 1 2, fx 1 1]) := by decide +kernel
theorem aw4 : dropF 1 (fun x => decide (mayF [0, 0] x)) [fx 1 2, fx 1 1] = ([fx 1 1], [fx 1 2]) := Prod.ext (by decide +kernel) (by decide +kernel)
theorem aw5 : dropF 1 (fun x => decide (mayF [1, 0] x)) [fx 1 2] = ([fx 1 2], []) := Prod.ext (by decide +kernel) (by decide +kernel)
theorem aw6 : takeF 2 [] [1, 0] (fx 1 1) = (1, []) := by decide +kernel
theorem fx_sz (s n : Int) : SzF (fx s n) := ⟨by show (1 : Nat) ≤ _; omega, by show (1 : Nat) ≤ _; omega, Nat.zero_le _⟩
theorem nil_ok : ∀ y ∈ ([] : List Fr), okF y := fun y hy => by cases hy
set_option maxRecDepth 100000 in
set_option maxHeartbeats 2000000 in
theorem awake_any (w : World) : Calls Try.prog 9 #[] w (fun e w' => e = .returned (.bool true) ∧ Below w.heap.size w w') := by
  have HN := Lib.hid (Sit.new (w := w) 2 (Below.refl _ w))
  go_enter Try.func9, Try.ntmps9
  go_wp2_with fail
  refine HN.out.mono ?_
  rintro e w1 ⟨nb, rfl, h1⟩
  obtain ⟨W2, hW2⟩ : ∃ W, w1.alloc (.cells #[.int .i64 0, .int .i64 0] 2) = W := ⟨_, rfl⟩
  have b2 : Below w1.heap.size w1 W2 := by rw [← hW2]; exact (Below.refl _ w1).alloc (Nat.le_refl _) _
  have s2 : W2.heap.size = w1.heap.size + 1 := by rw [← hW2]; simp
  have n2 : Ns .i64 W2 W2.heap.size (some ⟨w1.heap.size, 0, none⟩) [0, 0] := by rw [← hW2]; exact ns_two w1 0 0
  have S2 := (h1.out.1.hold b2).less (Y := At 2 (some ⟨w1.heap.size, 0, none⟩)) fun k hk => .inr (.inl (by obtain ⟨_, a, ha, rfl⟩ := hk; injection ha with ha; subst ha; simp only; omega))
  have H2 := Lib.hid (And.intro S2 n2)
  clear b2 n2 S2 h1 HN
  go_wp2_with fail
  refine (far_any 1 2 W2).mono ?_
  rintro e w3 ⟨A3, rfl, hv3, b3⟩
  have H3 := Lib.hid ((H2.out.1.below b3).take nil_ok (by simp) 2 2 ⟨#[107]⟩ A3 1 1 [⟨1, 2, [], false, ⟨#[]⟩⟩] rfl none 0 0 [] rfl (fx_sz 1 2) hv3.out (Ns.nil _) (some ⟨w1.heap.size, 0, none⟩) 2 2 [0, 0] rfl (by omega) ((H2.out.2.below b3).more b3.size) aw1)
  have n3 := Lib.hid ((H2.out.2.below b3).more b3.size)
  clear hv3 b3
  go_wp2_with fail
  refine H3.out.mono ?_
  rintro e w4 ⟨rfl, h4⟩
  have n4 := Lib.hid (h4.out.2.ns (n := 2) rfl (fun j hj => hj) n3.out)
  clear H3
  go_wp2_with fail
  refine (far_any 1 1 w4).mono ?_
  rintro e w5 ⟨A5, rfl, hv5, b5⟩
  have n5 := Lib.hid ((n4.out.below b5).more b5.size)
  have H5 := Lib.hid ((h4.out.1.below b5).take (take_ok nil_ok aw1) (by simp) 2 1 ⟨#[107]⟩ A5 1 1 [⟨1, 1, [], false, ⟨#[]⟩⟩] rfl none 0 0 [] rfl (fx_sz 1 1) hv5.out (Ns.nil _) (some ⟨w1.heap.size, 0, none⟩) 2 2 [0, 0] rfl (by omega) n5.out aw2)
  clear hv5 b5
  go_wp2_with fail
  refine H5.out.mono ?_
  rintro e w6 ⟨rfl, h6⟩
  have n6 := Lib.hid (h6.out.2.ns (n := 2) rfl (fun j hj => hj) n5.out)
  clear H5
  go_wp2_with fail
  refine (far_any 2 2 w6).mono ?_
  rintro e w7 ⟨A7, rfl, hv7, b7⟩
  have n7 := Lib.hid ((n6.out.below b7).more b7.size)
  have H7 := Lib.hid ((h6.out.1.below b7).take (take_ok (take_ok nil_ok aw1) aw2) (by simp) 2 2 ⟨#[107]⟩ A7 1 1 [⟨2, 2, [], false, ⟨#[]⟩⟩] rfl none 0 0 [] rfl (fx_sz 2 2) hv7.out (Ns.nil _) (some ⟨w1.heap.size, 0, none⟩) 2 2 [0, 0] rfl (by omega) n7.out aw3)
  clear hv7 b7
  go_wp2_with fail
  refine H7.out.mono ?_
  rintro e w8 ⟨rfl, h8⟩
  have n8 := Lib.hid (h8.out.2.ns (n := 2) rfl (fun j hj => hj) n7.out)
  have H8 := Lib.hid (h8.out.1.ready (take_ok (take_ok nil_ok aw1) aw2) (by simp) (some ⟨w1.heap.size, 0, none⟩) 2 2 [0, 0] rfl (by omega) n8.out aw4)
  clear H7
  go_wp2_with fail
  refine H8.out.mono ?_
  rintro e w9 ⟨a9, c9, a9', c9', k9, rfl, h9⟩
  simp only [fx]
  clear H8
  obtain ⟨V0, hV0⟩ : ∃ W, w9.alloc (.cells #[.int .i64 2, .int .i64 1, .string ⟨#[107]⟩, .slice a9 1 c9, .slice a9' k9 c9'] 35) = W := ⟨_, rfl⟩
  have c0 : Below w9.heap.size w9 V0 := by rw [← hV0]; exact (Below.refl _ w9).alloc (Nat.le_refl _) _
  have z0 : V0.heap.size = w9.heap.size + 1 := by rw [← hV0]; simp
  have B0 : Bn w9.heap.size 35 [.int .i64 2, .int .i64 1, .string ⟨#[107]⟩, .slice a9 1 c9, .slice a9' k9 c9'] V0 := by rw [← hV0]; exact heap_alloc_new w9 _
  obtain ⟨V1, hV1⟩ : ∃ W, V0.alloc (.cells #[.int .i64 1, .int .i64 0] 2) = W := ⟨_, rfl⟩
  have c1 : Below V0.heap.size V0 V1 := by rw [← hV1]; exact (Below.refl _ V0).alloc (Nat.le_refl _) _
  have z1 : V1.heap.size = w9.heap.size + 2 := by rw [← hV1]; simp [z0]
  have m1 : Ns .i64 V1 V1.heap.size (some ⟨V0.heap.size, 0, none⟩) [1, 0] := by rw [← hV1]; exact ns_two V0 1 0
  rw [z0] at m1
  have S1 := (h9.out.1.1.hold (c0.trans (c1.mono (by omega)))).less (Y := fun k => w9.heap.size ≤ k ∧ k < V1.heap.size) fun k hk => .inr (.inl hk)
  have B1 := B0.same (c1.block _ B0.lt)
  have HR := Lib.hid (S1.ready (fun y hy => by rw [List.mem_singleton.1 hy]; exact take_ok nil_ok aw1 _ (by simp)) (by simp) (some ⟨w9.heap.size + 1, 0, none⟩) 2 2 [1, 0] rfl (by omega) m1 aw5)
  have HV0 := Lib.hid (And.intro hV0 hV1)
  have HB := Lib.hid (And.intro B1 (And.intro m1 z1))
  clear hV0 hV1 c0 c1 B0 m1 S1 B1 z1 h9
  go_upto_region 6 with fail
  rw [HV0.out.1]
  have HV1 := HV0.out.2
  go_wp2_with fail
  refine HR.out.mono ?_
  rintro e wa ⟨aa, ca, aa', ca', ka, rfl, ha⟩
  simp only [fx]
  have Ba := ha.out.1.2.bn ⟨Nat.le_refl _, by have := HB.out.2.2; omega⟩ HB.out.1
  obtain ⟨V2, hV2⟩ : ∃ W, wa.alloc (.cells #[.int .i64 2, .int .i64 2, .string ⟨#[107]⟩, .slice aa 1 ca, .slice aa' ka ca'] 35) = W := ⟨_, rfl⟩
  have c2 : Below wa.heap.size wa V2 := by rw [← hV2]; exact (Below.refl _ wa).alloc (Nat.le_refl _) _
  have B2 : Bn wa.heap.size 35 [.int .i64 2, .int .i64 2, .string ⟨#[107]⟩, .slice aa 1 ca, .slice aa' ka ca'] V2 := by rw [← hV2]; exact heap_alloc_new wa _
  have Ba2 := Ba.same (c2.block _ Ba.lt)
  have x1 := (Ba2.cell 1).trans rfl
  have y1 := (B2.cell 1).trans rfl
  have HW := Lib.hid ((ha.out.1.1.below c2).waits nil_ok (by simp) 0 rfl)
  have HV2 := Lib.hid hV2
  clear hV2 c2 B2 Ba2 Ba HV1 HR ha
  go_upto_region 7 with fail
  rw [HV2.out]
  go_wp2_with fail
  refine HW.out.mono ?_
  rintro e wb ⟨Ab, cb, rfl, hb⟩
  go_wp2_with fail
  refine (far_any 1 1 wb).mono ?_
  rintro e wc ⟨Ac, rfl, hvc, bc⟩
  obtain ⟨V3, hV3⟩ : ∃ W, wc.alloc (.cells #[.int .i64 1, .int .i64 0] 2) = W := ⟨_, rfl⟩
  have c3 : Below wc.heap.size wc V3 := by rw [← hV3]; exact (Below.refl _ wc).alloc (Nat.le_refl _) _
  have m3 : Ns .i64 V3 V3.heap.size (some ⟨wc.heap.size, 0, none⟩) [1, 0] := by rw [← hV3]; exact ns_two wc 1 0
  have HT := Lib.hid (((hb.out.2.2.below bc).below c3).take nil_ok (by simp) 2 1 ⟨#[107]⟩ Ac 1 1 [⟨1, 1, [], false, ⟨#[]⟩⟩] rfl none 0 0 [] rfl (fx_sz 1 1) ((hvc.out.below c3).more c3.size) (Ns.nil _) (some ⟨wc.heap.size, 0, none⟩) 2 2 [1, 0] rfl (by omega) m3 aw6)
  clear c3 m3 hvc bc hb HW
  go_wp2_with fail
  refine HT.out.mono ?_
  rintro e wd ⟨rfl, hd⟩
  go_wp2_with fail
  go_ret
  exact ⟨rfl, hd.out.1.old⟩
end Inbox
end Go.Proofs.Ytiempgabamheiaa
