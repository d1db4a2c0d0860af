/-
  The document's Copy (layer 8).
-/
import Derived.Test.YtinbaiblbbfnnaaNetDocSend
namespace Go.Proofs.Ytinbaiblbbfnnaa
namespace Net
open Go.RowKit Blk
attribute [local go_sem ↓] Go.wp_at_zero Go.wp_at_succ
section
variable {F : Nat → Prop} {w : World} {mb : Nat} {A : Option Addr} {c n : Nat} {l : List PE} {B : Option Addr} {q k : Nat} {cs : List Ct} {s t u : Int}

theorem doc_copy_out (h : RN F w mb A c n l B q k cs s t u) (i : Int) (hi : ¬ (0 ≤ i ∧ i < n)) :
    Calls Try.prog 27 #[.pointer (some ⟨mb, 0, none⟩), .int .i64 i] w (fun e w' => e = .returned (.bool false) ∧ Below w.heap.size w w') := by
  have H1 := Lib.hid (doc_look_out h i hi)
  clear h hi
  go_enter Try.func27, Try.ntmps27
  go_wp2_with fail
  refine H1.out.mono ?_
  rintro e w1 ⟨rfl, b1⟩
  have HB : Hid (Below w.heap.size w (w1.alloc (.cells #[.int .i64 0, .int .i64 0, .int .i64 0, .int .i64 0, .slice none 0 0] 36))) := Lib.hid (b1.alloc b1.size _)
  clear b1
  go_wp2_with fail
  go_ret
  exact ⟨rfl, HB.out⟩
theorem doc_copy_full (h : RN F w mb A c n l B q k cs s t u) (hf : 4096 ≤ n) (j : Nat) (hj : j < n) :
    Calls Try.prog 27 #[.pointer (some ⟨mb, 0, none⟩), .int .i64 j] w (fun e w' => e = .returned (.bool false) ∧ Below w.heap.size w w') := by
  obtain ⟨⟨⟨⟨a1, a2⟩, ⟨b1, b2⟩, zs⟩, Ax, cx⟩, hx⟩ : ∃ x, l[j]? = some x := ⟨_, List.getElem?_eq_getElem (by have := h.2.1.1; omega)⟩
  obtain ⟨kz, hkz⟩ : ∃ k, zs.length = k := ⟨_, rfl⟩
  have H1 := doc_look_in h j a1 a2 b1 b2 zs Ax cx hx
  rw [hkz] at H1
  have H1 := Lib.hid H1
  have HH := Lib.hid h
  have d1 : decide ((4096 : Int) ≤ (n : Int)) = true := decide_eq_true (by omega)
  clear h hx hkz
  go_enter Try.func27, Try.ntmps27
  go_wp2_with fail
  refine H1.out.mono ?_
  rintro e w1 ⟨rfl, bb1⟩
  obtain ⟨U, hU⟩ : ∃ V, w1.alloc (.cells #[.int .i64 a1, .int .i64 a2, .int .i64 b1, .int .i64 b2, .slice Ax kz cx] 36) = V := ⟨_, rfl⟩
  have HB : Hid (Below w.heap.size w U) := Lib.hid (by rw [← hU]; exact bb1.alloc bb1.size _)
  obtain ⟨m0, _, _, _, _⟩ := (HH.out.below HB.out).head
  clear bb1
  go_wp2_with fail
  go_ret
  exact ⟨rfl, HB.out⟩
set_option maxRecDepth 100000 in
set_option maxHeartbeats 2000000 in
theorem doc_copy_in (h : RN F w mb A c n l B q k cs s t u) (hf : n < 4096) (j : Nat) (x : PE) (hx : l[j]? = some x) :
    Calls Try.prog 27 #[.pointer (some ⟨mb, 0, none⟩), .int .i64 j] w (fun e w' => e = .returned (.bool true) ∧ ∃ F' A' c' Ay cy, Hid (RN F' w' mb A' c' (n + 1) (l ++ [(x.1, Ay, cy)]) B q k cs s t u ∧ Stp F w F' w')) := by
  obtain ⟨⟨⟨a1, a2⟩, ⟨b1, b2⟩, zs⟩, Ax, cx⟩ := x
  obtain ⟨kz, hkz⟩ : ∃ k, zs.length = k := ⟨_, rfl⟩
  obtain ⟨i0, hi0, hz0, hz1, hz2⟩ := info_parts info_pkt
  have H1 := doc_look_in h j a1 a2 b1 b2 zs Ax cx hx
  rw [hkz] at H1
  have H1 := Lib.hid H1
  have hpk := h.2.1.2.2 _ (List.mem_of_getElem? hx)
  have HH := Lib.hid (And.intro h (And.intro hpk hkz))
  have d1 : decide ((4096 : Int) ≤ (n : Int)) = false := decide_eq_false (by omega)
  have hcf : ∀ (a : Array Value) (w : World), (callFunc 37 a).run Try.prog w = .ok (.enter 37 a) w := fun a w => by simp [go_sem]
  clear h hx hkz hpk
  go_enter Try.func27, Try.ntmps27
  go_wp2_with fail
  refine H1.out.mono ?_
  rintro e w1 ⟨rfl, bb1⟩
  obtain ⟨pb, hpb⟩ : ∃ b, w1.heap.size = b := ⟨_, rfl⟩
  obtain ⟨U, hU⟩ : ∃ V, w1.alloc (.cells #[.int .i64 a1, .int .i64 a2, .int .i64 b1, .int .i64 b2, .slice Ax kz cx] 36) = V := ⟨_, rfl⟩
  have hb : Below w.heap.size w U := by rw [← hU]; exact bb1.alloc bb1.size _
  have hB : Bn pb 36 [.int .i64 a1, .int .i64 a2, .int .i64 b1, .int .i64 b2, .slice Ax kz cx] U := by rw [← hU, ← hpb]; exact heap_alloc_new w1 _
  have hSU := HH.out.1.below hb
  obtain ⟨x0, _, _, _, _⟩ := hSU.head
  have x1 := hB.cell 0
  have x2 := hB.cell 1
  have x3 := hB.cell 2
  have x4 := hB.cell 3
  have x5 := hB.cell 4
  simp only [List.getElem?_cons_zero, List.getElem?_cons_succ] at x1 x2 x3 x4 x5
  have hns : Ns .u8 U U.heap.size Ax zs := by
    have h1 := own_keep HH.out.2.1.1 fun g hg => hb.block g (HH.out.2.1.1.lt g hg).2
    have e := HH.out.2.2
    subst e
    exact own_ns (n := zs.length) (c := cx) h1
  have H3 := Lib.hid (doc_own U.drew a1 a2 b1 b2 zs kz HH.out.2.2 Ax cx hns (by have := HH.out.2.1.2.2.2.1; have := HH.out.2.2; simp only at *; omega))
  have HS := Lib.hid (And.intro hSU (And.intro hb (And.intro HH.out.2.1.2.2 HH.out.2.2)))
  clear hb hB hSU hns bb1
  go_wp2_with fail
  go_region_law (first
    | (refine step_call (by rfl) 37 _ _ (by rfl) (hcf _ _) #[.agg #[.int .i64 a1, .int .i64 a2, .int .i64 b1, .int .i64 b2, .slice Ax kz cx]] (by simp [Act.eval]) (H3.out) (fun e w' h => by obtain ⟨_, _, rfl, _⟩ := h; exact ⟨_, rfl⟩) ?_; rintro v2 w2 ⟨A1, c1, hv2, o2, bb2⟩; injection hv2 with hv2; subst hv2; obtain ⟨q0, _, _, _, _⟩ := (HS.out.1.below (show Below U.heap.size U w2 from (show Below U.heap.size U U.drew from (Below.refl _ U).drew).trans bb2)).head; obtain ⟨p0, _, _, _, _⟩ := (HS.out.1.below ((show Below U.heap.size U w2 from (show Below U.heap.size U U.drew from (Below.refl _ U).drew).trans bb2).alloc bb2.size (.cells #[.int .i64 a1, .int .i64 a2, .int .i64 b1, .int .i64 b2, .slice A1 kz c1] 36))).head)
    | (refine step_append_lies _ (by rfl) _ _ _ (by rfl) 0 36 i0 _ 5 56 Try.underlying27 hi0 hz0 hz1 hz2 (by rfl) (by omega) (.slice A n c) n (pcs _) (by rfl) (HS.out.1.below ((show Below U.heap.size U w2 from (show Below U.heap.size U U.drew from (Below.refl _ U).drew).trans bb2).alloc bb2.size (.cells #[.int .i64 a1, .int .i64 a2, .int .i64 b1, .int .i64 b2, .slice A1 kz c1] 36))).2.1.2.1 ⟨w2.heap.size, 0, none⟩ 1 1 [.int .i64 a1, .int .i64 a2, .int .i64 b1, .int .i64 b2, .slice A1 kz c1] (by rfl) (by rfl) (World.news_of_block (heap_alloc_new w2 _)) (by simp [Value.oneCell']) (by omega) (by unfold maxLen; omega) (by omega) (Nat.zero_le _) (w2.heap.size + 1) (by simp) ?_; intro g7 cap7 w7 o7 gr7 at7 hl7; have hB7 := (HS.out.1.below ((show Below U.heap.size U w2 from (show Below U.heap.size U U.drew from (Below.refl _ U).drew).trans bb2).alloc bb2.size (.cells #[.int .i64 a1, .int .i64 a2, .int .i64 b1, .int .i64 b2, .slice A1 kz c1] 36))); have r0 := (hB7.1.kept gr7 (fun q => own_ne hB7.2.1.2.1 hB7.1 (by decide) q.symm)).cell 0; have r1 := (hB7.1.kept gr7 (fun q => own_ne hB7.2.1.2.1 hB7.1 (by decide) q.symm)).frozen 0; simp only [List.getElem?_cons_zero] at r0))
  all_goals
    have hb2 : Below U.heap.size U w2 := (show Below U.heap.size U U.drew from (Below.refl _ U).drew).trans bb2
    have hP := HS.out.1.push (hb2.alloc hb2.size (.cells #[.int .i64 a1, .int .i64 a2, .int .i64 b1, .int .i64 b2, .slice A1 kz c1] 36)) (((a1, a2), (b1, b2), zs), A1, c1) (by have e := o2.out; have := HS.out.2.2.2; subst this; exact e.alloc _) HS.out.2.2.1 (by have := HS.out.2.2.2; subst this; exact o7) gr7 at7 (by have := hb2.size; omega) hl7
    obtain ⟨X, hX⟩ : ∃ V, w7.setCell ⟨mb, 0, none⟩ (.slice (some ⟨g7, 0, none⟩) (n + 1) cap7) = V := ⟨_, rfl⟩
    rw [hX] at hP
    have HP := Lib.hid hP
    clear hP hb2 o2 o7 gr7 at7 hl7 hB7 bb2
    go_wp2_with fail
    go_ret
    rw [hX]
    exact ⟨rfl, _, _, _, A1, c1, Lib.hid ⟨HP.out.1, (Stp.of_below HS.out.2.1).trans HP.out.2⟩⟩
end
end Net
end Go.Proofs.Ytinbaiblbbfnnaa
