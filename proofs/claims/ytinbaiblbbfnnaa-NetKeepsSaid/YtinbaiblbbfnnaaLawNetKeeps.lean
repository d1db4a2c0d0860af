/-
  NetKeeps (P8.4): what is handed in stays and isn't kept; what is shown is new memory. For every input.
-/
import Derived.Test.YtinbaiblbbfnnaaNetArgs
import Derived.Test.YtinbaiblbbfnnaaFrame
namespace Go.Proofs.Ytinbaiblbbfnnaa
namespace NetKeeps
open Go.ChangeShapes Go.WideShapes Go.ChangeAt Go.RowKit Net Blk
attribute [local go_sem ↓] Go.wp_at_zero Go.wp_at_succ
set_option maxRecDepth 100000 in
set_option maxHeartbeats 2000000 in
theorem walk (w : World) (a1 a2 b1 b2 : Int) (zs : List Int) (A : Option Addr) (c : Nat) (hr : Ns .u8 w w.heap.size A zs) (hok : OkP ((a1, a2), (b1, b2), zs)) (_hlc : zs.length ≤ c) :
    Calls Try.prog 8 #[.agg #[.int .i64 a1, .int .i64 a2, .int .i64 b1, .int .i64 b2, .slice A zs.length c]] w fun e w' => e = .returned (.bool true) ∧ Below w.heap.size w w' := by
  obtain ⟨n, hn⟩ : ∃ n, zs.length = n := ⟨_, rfl⟩
  obtain ⟨i0, hi0, hz0, hz1, hz2⟩ := info_parts Facts.info5
  rw [hn]
  have hbig : n ≤ 140737488351232 := by have := hok.2.1; simp only at this; omega
  obtain ⟨U, hU⟩ : ∃ U, w.alloc (.cells #[.int .i64 a1, .int .i64 a2, .int .i64 b1, .int .i64 b2, .slice A n c] 36) = U := ⟨_, rfl⟩
  have hbU : Below w.heap.size w U := by rw [← hU]; exact (Below.refl _ w).alloc (Nat.le_refl _) _
  have hPU : Bn w.heap.size 36 [.int .i64 a1, .int .i64 a2, .int .i64 b1, .int .i64 b2, .slice A n c] U := by rw [← hU]; exact heap_alloc_new w _
  have HZ := Lib.hid (And.intro hr (And.intro hn (And.intro hok (And.intro hbU hPU))))
  have HA := Lib.hid (awake_any U)
  clear hr hn hok hbU hPU _hlc
  go_enter Try.func8, Try.ntmps8
  go_wp2_with fail
  refine HA.out.mono ?_
  rintro e0 w0 ⟨rfl, b0⟩
  have hB0 := HZ.out.2.2.2.1.trans (b0.mono HZ.out.2.2.2.1.size)
  have hP0 := HZ.out.2.2.2.2.same (b0.block _ HZ.out.2.2.2.2.lt)
  have x0 := hP0.cell 0
  have x1 := hP0.cell 1
  have x2 := hP0.cell 2
  have x3 := hP0.cell 3
  have x4 := hP0.cell 4
  simp only [List.getElem?_cons_zero, List.getElem?_cons_succ] at x0 x1 x2 x3 x4
  -- q
  obtain ⟨U1, hU1⟩ : ∃ U1, w0.alloc (.cells #[.int .i64 a1, .int .i64 a2, .int .i64 b1, .int .i64 b2, .slice A n c] 36) = U1 := ⟨_, rfl⟩
  have hb1 : Below w0.heap.size w0 U1 := by rw [← hU1]; exact (Below.refl _ w0).alloc (Nat.le_refl _) _
  have hQ1 : Bn w0.heap.size 36 [.int .i64 a1, .int .i64 a2, .int .i64 b1, .int .i64 b2, .slice A n c] U1 := by rw [← hU1]; exact heap_alloc_new w0 _
  have hP1 := hP0.same (hb1.block _ hP0.lt)
  have HB1 := Lib.hid (And.intro (hB0.trans (hb1.mono hB0.size)) (And.intro hQ1.lt (And.intro hP1.lt (And.intro hP0.lt hB0.size))))
  -- the empty row, and what is appended to it
  obtain ⟨U2, hU2⟩ : ∃ U2, U1.alloc (.cells #[] 5) = U2 := ⟨_, rfl⟩
  have hb2 : Below U1.heap.size U1 U2 := by rw [← hU2]; exact (Below.refl _ U1).alloc (Nat.le_refl _) _
  have hrow := World.ownsRow_lit (base := U1.heap.size) (e := 5) (size := 1) U1 #[] 0 (Nat.le_refl _) (by unfold maxLen; omega) rfl
  rw [hU2] at hrow
  have hP2 := hP1.same (hb2.block _ hP1.lt)
  have y4 := hP2.cell 4
  simp only [List.getElem?_cons_zero, List.getElem?_cons_succ] at y4
  have hB2 := HB1.out.1.trans (hb2.mono HB1.out.1.size)
  have hr2 := (HZ.out.1.below hB2).more hB2.size
  have HB2 := Lib.hid (And.intro hB2 (And.intro (hQ1.same (hb2.block _ hQ1.lt)) (And.intro hP2 (And.intro hrow hr2))))
  clear hb1 hQ1 hP1 hb2 hrow hP2 hB2 hr2 hB0 hP0 b0
  go_wp2_with (at_builtin; refine wpList_append_ns _ rfl (.tmp 17) (.tmp 19) 34 rfl U1.heap.size 5 i0 (.int .u8 0) 1 Try.underlying34 hi0 hz0 hz1 hz2 rfl _ 0 [] rfl HB2.out.2.2.2.1 .u8 U2.heap.size A n c zs HZ.out.2.1 rfl HB2.out.2.2.2.2 (by omega) (by omega) (by have := HB2.out.1.size; rw [← hU2]; simp) ?_; intro v3 w3 o3 g3 at3; rw [Nat.zero_add, List.nil_append] at o3; obtain ⟨A3, c3, rfl⟩ := own_form o3; have hQ3 := HB2.out.2.1.kept g3 (fun q => by injection q with q; have := HB1.out.2.1; simp only at q; omega); have q4 := hQ3.cell 4; have f4 := hQ3.frozen 4; simp only [List.getElem?_cons_zero, List.getElem?_cons_succ] at q4)
  have hP3 := HB2.out.2.2.1.kept g3 (fun q => by injection q with q; have := HB1.out.2.2.1; simp only at q; omega)
  have hB3 : Below w.heap.size w w3 := HB2.out.1.grown g3 HB2.out.1.size (fun j hj => by injection hj with hj; have := HB1.out.1.size; simp only at hj; omega)
  have hg4 := gset w3 w0.heap.size 4 (.slice A3 n c3)
  have hQ4 := hQ3.set 4 (.slice A3 n c3)
  have hP4 := hP3.kept hg4 (fun q => by injection q with q; have := HB1.out.2.2.2.1; omega)
  have o4 := own_keep o3 fun g hg => hg4.block g (o3.lt g hg).2 fun q => own_ne o3 hQ3 (by decide) (by rw [hg, q])
  have hB4 := hB3.grown hg4 hB3.size (fun j hj => by injection hj with hj; have := HB1.out.2.2.2.1; omega)
  obtain ⟨W4, hW4⟩ : ∃ W, w3.setCell ⟨w0.heap.size, 4, none⟩ (.slice A3 n c3) = W := ⟨_, rfl⟩
  rw [hW4] at hQ4 hP4 o4 hB4
  simp only [List.set_cons_zero, List.set_cons_succ] at hQ4
  have H5 := Lib.hid (new_any W4)
  have HV4 := Lib.hid (And.intro hQ4 (And.intro hP4 (And.intro o4 hB4)))
  clear hQ3 hP3 hB3 hg4 hQ4 hP4 o4 hB4 o3 g3 at3
  rw [hW4]
  refine H5.out.mono ?_
  rintro e5 w5 ⟨F5, nb, rfl, h5⟩
  obtain ⟨qb, hqb⟩ : ∃ b, w0.heap.size = b := ⟨_, rfl⟩
  obtain ⟨pb, hpb⟩ : ∃ b, w.heap.size = b := ⟨_, rfl⟩
  have S5 : Hid (Sit w nb [] 0 0 0 (fun _ _ => false) 0 F5 w5) := Lib.hid ⟨h5.out.1, HV4.out.2.2.2.trans (h5.out.2.2.mono HV4.out.2.2.2.size), fun k hk => Nat.le_trans HV4.out.2.2.2.size (h5.out.2.1 k hk)⟩
  have V5 : Hid (Vars w F5 [(qb, [.int .i64 a1, .int .i64 a2, .int .i64 b1, .int .i64 b2, .slice A3 n c3]), (pb, [.int .i64 a1, .int .i64 a2, .int .i64 b1, .int .i64 b2, .slice A n c])] w5) := Lib.hid fun e he => by
    simp only [List.mem_cons, List.not_mem_nil, or_false] at he
    rcases he with rfl | rfl
    · subst hqb
      exact ⟨HV4.out.1.same (h5.out.2.2.block _ HV4.out.1.lt), by have := HB1.out.2.2.2.2; omega, fun hf => by have := h5.out.2.1 _ hf; have := HV4.out.1.lt; simp only at *; omega⟩
    · subst hpb
      exact ⟨HV4.out.2.1.same (h5.out.2.2.block _ HV4.out.2.1.lt), Nat.le_refl _, fun hf => by have := h5.out.2.1 _ hf; have := HV4.out.2.1.lt; simp only at *; omega⟩
  have o5 := own_keep HV4.out.2.2.1 fun g hg => h5.out.2.2.block g (HV4.out.2.2.1.lt g hg).2
  have R5 : Hid (Bes w F5 A3 n w5) := Lib.hid (bes_of o5 HZ.out.2.1 fun g hg => ⟨by have := (o5.lt g hg).1; have := HB1.out.1.size; omega, fun hf => by have := h5.out.2.1 _ hf; have := (HV4.out.2.2.1.lt g hg).2; omega⟩)
  have z0 := V5.out.at0.cell 0
  have z1 := V5.out.at0.cell 1
  have z2 := V5.out.at0.cell 2
  have z3 := V5.out.at0.cell 3
  have z4 := V5.out.at0.cell 4
  simp only [List.getElem?_cons_zero, List.getElem?_cons_succ] at z0 z1 z2 z3 z4
  have H6 := Lib.hid (send_more S5.out.1 (by simp) a1 a2 b1 b2 zs n HZ.out.2.1 A3 c3 (own_ns (c := c3) (n := n) (by rw [HZ.out.2.1]; exact o5)) HZ.out.2.2.1)
  clear h5 o5
  go_wp2_with fail
  refine H6.out.mono ?_
  rintro e6 w6 ⟨rfl, F6, h6⟩
  have S6 : Hid (All w nb [((a1, a2), (b1, b2), zs)] (IntKind.i64.wrap (0 + 1)) 0 0 (fun _ _ => false) 0 F6 [(qb, [.int .i64 a1, .int .i64 a2, .int .i64 b1, .int .i64 b2, .slice A3 n c3]), (pb, [.int .i64 a1, .int .i64 a2, .int .i64 b1, .int .i64 b2, .slice A n c])] A3 n w6) := Lib.hid ⟨S5.out.step h6.out.1 h6.out.2, V5.out.step h6.out.2, R5.out.step h6.out.2⟩
  clear h6 S5 V5 R5 z0 z1 z2 z3 z4 x0 x1 x2 x3 x4 y4 q4 f4
  go_wp2_with fail
  go_loopw [5] (fun q wr => ∃ k : Nat, k ≤ n ∧ q = .int .i64 k ∧ Hid (All w nb [((a1, a2), (b1, b2), zs)] (IntKind.i64.wrap (0 + 1)) 0 0 (fun _ _ => false) 0 F6 [(qb, [.int .i64 a1, .int .i64 a2, .int .i64 b1, .int .i64 b2, .slice A3 n c3]), (pb, [.int .i64 a1, .int .i64 a2, .int .i64 b1, .int .i64 b2, .slice A n c])] A3 n wr)) (fun q _ => n - (intOf q).toNat)
  case atStart => exact ⟨0, by omega, rfl, S6⟩
  case round =>
    obtain ⟨k, hk, rfl, hst⟩ := hrel
    have z4 := hst.out.2.1.at0.cell 4
    simp only [List.getElem?_cons_zero, List.getElem?_cons_succ] at z4
    by_cases hlt : k < n
    · obtain ⟨g, rfl, hg⟩ := hst.out.spoil (by omega)
      obtain ⟨⟨z, hz⟩, hfz, hnx⟩ := hg k hlt
      have z1 : (0 : Int) ≤ (k : Int) := by omega
      have z2 : (k : Int) < (n : Int) := by omega
      have HNX := Lib.hid hnx
      clear hnx hg hst
      go_wp2_with fail
      exact ⟨⟨k + 1, by omega, rfl, Lib.hid (HNX.out _)⟩, by simp only [intOf]; omega⟩
    · have hkn : k = n := by omega
      subst hkn
      have S7 := Lib.hid hst.out.1
      have V7 := Lib.hid hst.out.2.1.tail
      have H7 := Lib.hid (look_in S7.out.1 (i := 0) (a1 := a1) (a2 := a2) (b1 := b1) (b2 := b2) (zs := zs) rfl k HZ.out.2.1)
      clear hst
      go_wp2_with fail
      refine H7.out.mono ?_
      rintro e7 w7 ⟨A7, c7, rfl, h7⟩
      have V8 := Lib.hid (V7.out.below h7.out.2)
      have S8 := Lib.hid (S7.out.below h7.out.2)
      obtain ⟨U7, hU7⟩ : ∃ U, w7.alloc (.cells #[.int .i64 a1, .int .i64 a2, .int .i64 b1, .int .i64 b2, .slice A7 k c7] 36) = U := ⟨_, rfl⟩
      have hv8 := V8.out.var S8.out [.int .i64 a1, .int .i64 a2, .int .i64 b1, .int .i64 b2, .slice A7 k c7] hU7
      have hb7 : Below w7.heap.size w7 U7 := by rw [← hU7]; exact (Below.refl _ w7).alloc (Nat.le_refl _) _
      have o7 := own_below h7.out.1 hb7 (Nat.le_refl _)
      have R8 : Bes w F6 A7 k U7 := bes_of o7 HZ.out.2.1 fun g hg => ⟨Nat.le_trans S7.out.2.1.size (h7.out.1.lt g hg).1, fun hf => by have := S7.out.1.lt g hf; have := (h7.out.1.lt g hg).1; omega⟩
      obtain ⟨ab, hab⟩ : ∃ b, w7.heap.size = b := ⟨_, rfl⟩
      rw [hab] at hv8
      have S9 : Hid (All w nb [((a1, a2), (b1, b2), zs)] (IntKind.i64.wrap (0 + 1)) 0 0 (fun _ _ => false) 0 F6 [(ab, [.int .i64 a1, .int .i64 a2, .int .i64 b1, .int .i64 b2, .slice A7 k c7]), (pb, [.int .i64 a1, .int .i64 a2, .int .i64 b1, .int .i64 b2, .slice A k c])] A7 k U7) := Lib.hid ⟨hv8.2, hv8.1, R8⟩
      clear h7 V7 S7 V8 S8 hv8 hb7 o7 R8 H7
      go_wp2_with fail
      go_loopw [8] (fun q wr => ∃ i : Nat, i ≤ k ∧ q = .int .i64 i ∧ Hid (All w nb [((a1, a2), (b1, b2), zs)] (IntKind.i64.wrap (0 + 1)) 0 0 (fun _ _ => false) 0 F6 [(ab, [.int .i64 a1, .int .i64 a2, .int .i64 b1, .int .i64 b2, .slice A7 k c7]), (pb, [.int .i64 a1, .int .i64 a2, .int .i64 b1, .int .i64 b2, .slice A k c])] A7 k wr)) (fun q _ => k - (intOf q).toNat)
      case atStart => exact ⟨0, by omega, rfl, S9⟩
      case round =>
        obtain ⟨i, hi, rfl, hst⟩ := hrel
        have z4 := hst.out.2.1.at0.cell 4
        simp only [List.getElem?_cons_zero, List.getElem?_cons_succ] at z4
        by_cases hlt : i < k
        · obtain ⟨g, rfl, hg⟩ := hst.out.spoil (by omega)
          obtain ⟨⟨z, hz⟩, hfz, hnx⟩ := hg i hlt
          have z1 : (0 : Int) ≤ (i : Int) := by omega
          have z2 : (i : Int) < (k : Int) := by omega
          have HNX := Lib.hid hnx
          clear hnx hg hst
          go_wp2_with fail
          exact ⟨⟨i + 1, by omega, rfl, Lib.hid (HNX.out _)⟩, by simp only [intOf]; omega⟩
        · have hik : i = k := by omega
          subst hik
          have S10 := Lib.hid hst.out.1
          have V10 := Lib.hid hst.out.2.1.tail
          have H10 := Lib.hid (copy_in S10.out.1 (i := 0) (a1 := a1) (a2 := a2) (b1 := b1) (b2 := b2) (zs := zs) rfl (by simp))
          clear hst S9
          go_wp2_with fail
          refine H10.out.mono ?_
          rintro e10 w10 ⟨rfl, F10, h10⟩
          have S11 := Lib.hid (S10.out.step h10.out.1 h10.out.2)
          have V11 := Lib.hid (V10.out.step h10.out.2)
          have H11 := Lib.hid (take_in S11.out.1 (i := 1) (a1 := a1) (a2 := a2) (b1 := b1) (b2 := b2) (zs := zs) rfl)
          clear h10 S10 V10 H10
          go_wp2_with fail
          refine H11.out.mono ?_
          rintro e11 w11 (⟨hc, _⟩ | ⟨_, A11, c11, rfl, F11, hN11, hS11, hD11, hF11, _⟩)
          · cases hc
          rw [HZ.out.2.1] at hD11 hF11 ⊢
          have S12 := Lib.hid (S11.out.step hN11 hS11)
          have V12 := Lib.hid (V11.out.step hS11)
          obtain ⟨U11, hU11⟩ : ∃ U, w11.alloc (.cells #[.int .i64 a1, .int .i64 a2, .int .i64 b1, .int .i64 b2, .slice A11 i c11] 36) = U := ⟨_, rfl⟩
          have hv12 := V12.out.var S12.out [.int .i64 a1, .int .i64 a2, .int .i64 b1, .int .i64 b2, .slice A11 i c11] hU11
          have hb11 : Below w11.heap.size w11 U11 := by rw [← hU11]; exact (Below.refl _ w11).alloc (Nat.le_refl _) _
          have o11 := own_below hD11 hb11 (Nat.le_refl _)
          have R12 : Bes w F11 A11 i U11 := bes_of o11 HZ.out.2.1 fun g hg => ⟨S11.out.2.2 g (hF11 g hg).1, (hF11 g hg).2⟩
          obtain ⟨bb, hbb⟩ : ∃ b, w11.heap.size = b := ⟨_, rfl⟩
          rw [hbb] at hv12
          have S13 : Hid (All w nb [((a1, a2), (b1, b2), zs)] (IntKind.i64.wrap (0 + 1)) (IntKind.i64.wrap (0 + 1)) 0 (fun _ _ => false) 0 F11 [(bb, [.int .i64 a1, .int .i64 a2, .int .i64 b1, .int .i64 b2, .slice A11 i c11]), (pb, [.int .i64 a1, .int .i64 a2, .int .i64 b1, .int .i64 b2, .slice A i c])] A11 i U11) := Lib.hid ⟨hv12.2, hv12.1, R12⟩
          clear hN11 hS11 hD11 hF11 S11 V11 S12 V12 hv12 hb11 o11 R12 H11
          go_wp2_with fail
          go_loopw [11] (fun q wr => ∃ j : Nat, j ≤ i ∧ q = .int .i64 j ∧ Hid (All w nb [((a1, a2), (b1, b2), zs)] (IntKind.i64.wrap (0 + 1)) (IntKind.i64.wrap (0 + 1)) 0 (fun _ _ => false) 0 F11 [(bb, [.int .i64 a1, .int .i64 a2, .int .i64 b1, .int .i64 b2, .slice A11 i c11]), (pb, [.int .i64 a1, .int .i64 a2, .int .i64 b1, .int .i64 b2, .slice A i c])] A11 i wr)) (fun q _ => i - (intOf q).toNat)
          case atStart => exact ⟨0, by omega, rfl, S13⟩
          case round =>
            obtain ⟨j, hj, rfl, hst⟩ := hrel
            have z4 := hst.out.2.1.at0.cell 4
            simp only [List.getElem?_cons_zero, List.getElem?_cons_succ] at z4
            by_cases hlt : j < i
            · obtain ⟨g, rfl, hg⟩ := hst.out.spoil (by omega)
              obtain ⟨⟨z, hz⟩, hfz, hnx⟩ := hg j hlt
              have z1 : (0 : Int) ≤ (j : Int) := by omega
              have z2 : (j : Int) < (i : Int) := by omega
              have HNX := Lib.hid hnx
              clear hnx hg hst
              go_wp2_with fail
              exact ⟨⟨j + 1, by omega, rfl, Lib.hid (HNX.out _)⟩, by simp only [intOf]; omega⟩
            · have hji : j = i := by omega
              subst hji
              have S14 := Lib.hid hst.out.1
              have V14 := Lib.hid hst.out.2.1.tail
              have H14 := Lib.hid (take_in S14.out.1 (i := 0) (a1 := a1) (a2 := a2) (b1 := b1) (b2 := b2) (zs := zs) rfl)
              clear hst S13
              go_wp2_with fail
              refine H14.out.mono ?_
              rintro e14 w14 (⟨hc, _⟩ | ⟨_, A14, c14, rfl, F14, hN14, hS14, hD14, hF14, _⟩)
              · cases hc
              rw [HZ.out.2.1] at hD14 hF14 ⊢
              have S15 := Lib.hid (S14.out.step hN14 hS14)
              have V15 := Lib.hid (V14.out.step hS14)
              obtain ⟨U14, hU14⟩ : ∃ U, w14.alloc (.cells #[.int .i64 a1, .int .i64 a2, .int .i64 b1, .int .i64 b2, .slice A14 j c14] 36) = U := ⟨_, rfl⟩
              have hv15 := V15.out.var S15.out [.int .i64 a1, .int .i64 a2, .int .i64 b1, .int .i64 b2, .slice A14 j c14] hU14
              have hb14 : Below w14.heap.size w14 U14 := by rw [← hU14]; exact (Below.refl _ w14).alloc (Nat.le_refl _) _
              have o14 := own_below hD14 hb14 (Nat.le_refl _)
              obtain ⟨cb, hcb⟩ : ∃ b, w14.heap.size = b := ⟨_, rfl⟩
              rw [hcb] at hv15
              have z0 := hv15.1.at0.cell 0
              have z1 := hv15.1.at0.cell 1
              have z2 := hv15.1.at0.cell 2
              have z3 := hv15.1.at0.cell 3
              have z4 := hv15.1.at0.cell 4
              have y0 := hv15.1.tail.at0.cell 0
              have y1 := hv15.1.tail.at0.cell 1
              have y2 := hv15.1.tail.at0.cell 2
              have y3 := hv15.1.tail.at0.cell 3
              have y4 := hv15.1.tail.at0.cell 4
              simp only [List.getElem?_cons_zero, List.getElem?_cons_succ] at z0 z1 z2 z3 z4 y0 y1 y2 y3 y4
              have H15 := Lib.hid (same_yes U14 a1 a2 b1 b2 zs j HZ.out.2.1 A14 A c14 c (own_ns (c := c14) (n := j) (by rw [HZ.out.2.1]; exact o14)) ((HZ.out.1.below hv15.2.2.1).more hv15.2.2.1.size))
              have HE := Lib.hid hv15.2.2.1
              clear hN14 hS14 hD14 hF14 S14 V14 S15 V15 hv15 hb14 o14 H14
              go_wp2_with fail
              refine H15.out.mono ?_
              rintro e15 w15 ⟨rfl, b15⟩
              have HF := Lib.hid (HE.out.trans (b15.mono HE.out.size))
              clear b15
              go_wp2_with fail
              go_ret
              exact ⟨rfl, HF.out⟩
-- ROW BEGIN
set_option maxRecDepth 100000 in
/-- What the walk gives, shut again. -/
theorem contract (H : Type) (enc : TypeId × Value → H) (W : World) (base : Nat) (args : Array Value) (ds gs : List (DataW H)) (before : List MemPlace)
    (hval : ∀ (j : Nat) t v, Try.f8.params[j]? = some t → args[j]? = some v → Value.okWide Try.prog W .any base t v)
    (hW : DataW.Whole enc Try.prog Try.f8.params.toList Rows.netKeepsSpec.vars false W args.toList ds gs before)
    (hsz : (DataW.weightsEach Try.prog (Try.f8.params.toList ++ Rows.netKeepsSpec.plain.varTypes Try.prog) (ds ++ gs)).all (· ≤ reachBytes) = true) :
    Calls Try.prog 8 args W fun e W' => ∃ v, e = .returned v ∧ Rows.netKeepsSpec.post enc Try.prog Try.f8 false true false false W args v W' := by
  have hW' := hW
  obtain ⟨p, q, hA0, hV, hbef, _, _⟩ := hW
  have hA : DataW.TrodAll enc Try.prog W 0 (fun _ => true) true Try.f8.params.toList args.toList ds p := hA0
  have hA1 := hA
  rw [Try.params8] at hA hval hsz
  obtain ⟨v0, vs0, d0, ds0, p0, q0, hargs, rfl, rfl, h0, r0⟩ := trodAll_cons hA
  obtain ⟨rfl, rfl, rfl⟩ := trodAll_nil r0
  obtain rfl : args = #[v0] := by cases args; simp_all
  obtain ⟨rfl, rfl⟩ := trodVars_none hV
  clear hA hargs
  obtain ⟨a0, s0, e0, g0, y0, A0, c0, rfl, n0, k0, l0⟩ := Net.arg_pkt (hval 0 36 v0 rfl rfl) h0 (Wgt.wt_arg hsz (j := 0) rfl rfl)
  refine (walk W a0 s0 e0 g0 y0 A0 c0 n0 k0 l0).mono fun e W' ⟨he, hb⟩ => ?_
  subst he
  exact ⟨_, rfl, law_post Facts.laid (by rfl) Try.underlying4 (by rw [Try.params8]; decide +kernel) hW' hA1 rfl hbef rfl rfl rfl hb⟩

set_option maxRecDepth 100000 in
theorem lifted (os : Os) (started : os.Started) (H : Type) (enc : TypeId × Value → H) :
    ReturnsInHanded {} Try.checked os 8 .any (Rows.netKeepsSpec.pre6 enc Try.prog Try.f8 Rows.netKeepsRow.domain false) (Rows.netKeepsSpec.post enc Try.prog Try.f8 false true false false) := by
  refine returnsInHanded_of_change_sized (C := Try.checked) Facts.own started (by kernel_rfl) Try.func8
    (ChangeSpec.witness6 (enc := enc) (C := Try.checked) false ⟨#[], #[.agg #[.int .i64 0, .int .i64 0, .int .i64 0, .int .i64 0, .slice none 0 0]], []⟩ 8 (by kernel_rfl) (by kernel_rfl) (by kernel_rfl) (by kernel_rfl)) ?_
  intro W base args ds gs before hval hW _ hsz _
  exact contract H enc W base args ds gs before hval hW hsz

theorem holds : Rows.NetKeepsSaid :=
  OpenClaim.holds_of_wide 8 Try.f8 rfl rfl rfl rfl rfl rfl rfl ⟨rfl, rfl, rfl, rfl, rfl⟩ rfl rfl rfl rfl rfl (by kernel_rfl) Try.func8 (by kernel_rfl)
    (of_decide_eq_true (by kernel_rfl)) (by unfold Func.isWrapper; first | (rw [if_pos (by decide +kernel)]; kernel_rfl) | (rw [if_neg (by decide +kernel)]; exact ⟨rfl, rfl⟩))
    (fun os started H enc _ => lifted os started H enc)
-- ROW END
end NetKeeps
end Go.Proofs.Ytinbaiblbbfnnaa
