/-
  firthlaw06.awake answers true.
-/
import Derived.Test.YtegiigeelcnemaaGreatCodeMsgLaw
import Derived.Test.YtegiigeelcnemaaGreatCodeMsgSame
import Derived.Test.YtegiigeelcnemaaGreatGCodeB
namespace Go.Proofs.YtegiigeelcnemaaGreat
namespace Code
open Go.RowKit Num Span Vers
attribute [local go_sem ↓] Go.wp_at_zero Go.wp_at_succ

def h0 : Ms := (3, (1, 0), (2, 8), 0, 0, 0, 0, ⟨#[107]⟩, [], [], [], [], [])
theorem hello_ok : okM h0 ∧ tyM h0 := by
  unfold h0 okM okA tyM
  simp [ByteArray.size]
theorem hello_len : (msgL h0).length ≤ 1048576 := by decide
theorem awake_set : Right [(1, 1, 3)] ∧ setL [(1, 1, 3)] = [1, 1, 1, 2] := ⟨by decide, by decide⟩
theorem hello_msgI (w : World) (L B : Nat) (a : Pl) : MsgI w L B h0 a := by
  obtain ⟨a8, a9, a10, a11, a12⟩ := a
  exact ⟨Rs.nil _, fun h => absurd h (by simp), fun h => absurd h (by simp), fun h => absurd h (by simp), fun h => absurd h (by simp)⟩

set_option maxRecDepth 100000 in
theorem hello_any (w : World) : Calls Tryz.prog 28 #[] w fun e w' => e = .returned (.agg #[.int .i64 3, .int .i64 1, .int .i64 0, .int .i64 2, .int .i64 8, .int .i64 0, .int .i64 0, .int .i64 0, .int .i64 0, .string ⟨#[107]⟩, .slice none 0 0, .slice none 0 0, .slice none 0 0, .slice none 0 0, .slice none 0 0]) ∧ Below w.heap.size w w' := by
  obtain ⟨W, hW⟩ : ∃ W, w.alloc (.cells #[.int .i64 0, .int .i64 0, .int .i64 0, .int .i64 0, .int .i64 0, .int .i64 0, .int .i64 0, .int .i64 0, .int .i64 0, .string ⟨#[]⟩, .slice none 0 0, .slice none 0 0, .slice none 0 0, .slice none 0 0, .slice none 0 0] 45) = W := ⟨_, rfl⟩
  obtain ⟨B, hB⟩ : ∃ B, w.heap.size = B := ⟨_, rfl⟩
  have x1 : Bn B 45 [.int .i64 0, .int .i64 0, .int .i64 0, .int .i64 0, .int .i64 0, .int .i64 0, .int .i64 0, .int .i64 0, .int .i64 0, .string ⟨#[]⟩, .slice none 0 0, .slice none 0 0, .slice none 0 0, .slice none 0 0, .slice none 0 0] W := by rw [← hW, ← hB]; exact heap_alloc_new _ _
  have hbW : Below B w W := by rw [← hW, ← hB]; exact (Below.refl _ w).alloc (Nat.le_refl _) _
  obtain ⟨X, hX⟩ : ∃ X, W.setCells B 0 [.int .i64 3, .int .i64 1, .int .i64 0, .int .i64 2, .int .i64 8, .int .i64 0, .int .i64 0, .int .i64 0, .int .i64 0, .string ⟨#[107]⟩, .slice none 0 0, .slice none 0 0, .slice none 0 0, .slice none 0 0, .slice none 0 0] = X := ⟨_, rfl⟩
  have hgX : W.grownBy X (some B) := by rw [← hX]; exact setCells_grown _ _ _ _
  have y1 : Bn B 45 [.int .i64 3, .int .i64 1, .int .i64 0, .int .i64 2, .int .i64 8, .int .i64 0, .int .i64 0, .int .i64 0, .int .i64 0, .string ⟨#[107]⟩, .slice none 0 0, .slice none 0 0, .slice none 0 0, .slice none 0 0, .slice none 0 0] X := by rw [← hX]; exact setCells_all (old := [.int .i64 0, .int .i64 0, .int .i64 0, .int .i64 0, .int .i64 0, .int .i64 0, .int .i64 0, .int .i64 0, .int .i64 0, .string ⟨#[]⟩, .slice none 0 0, .slice none 0 0, .slice none 0 0, .slice none 0 0, .slice none 0 0]) rfl x1
  have y4 : Below B w X := hbW.grown hgX (by have := hbW.size; omega) (fun k hk => by injection hk with hk; omega)
  have hX' : ((((((((((((((W.setCell ⟨B, 0, none⟩ (.int .i64 3)).setCell ⟨B, 1, none⟩ (.int .i64 1)).setCell ⟨B, 2, none⟩ (.int .i64 0)).setCell ⟨B, 3, none⟩ (.int .i64 2)).setCell ⟨B, 4, none⟩ (.int .i64 8)).setCell ⟨B, 5, none⟩ (.int .i64 0)).setCell ⟨B, 6, none⟩ (.int .i64 0)).setCell ⟨B, 7, none⟩ (.int .i64 0)).setCell ⟨B, 8, none⟩ (.int .i64 0)).setCell ⟨B, 9, none⟩ (.string ⟨#[107]⟩)).setCell ⟨B, 10, none⟩ (.slice none 0 0)).setCell ⟨B, 11, none⟩ (.slice none 0 0)).setCell ⟨B, 12, none⟩ (.slice none 0 0)).setCell ⟨B, 13, none⟩ (.slice none 0 0)).setCell ⟨B, 14, none⟩ (.slice none 0 0) = X := hX
  rw [hB]
  have k0 := x1.cell 0
  have fr0 := x1.frozen 0
  have k1 := x1.cell 1
  have fr1 := x1.frozen 1
  have k2 := x1.cell 2
  have fr2 := x1.frozen 2
  have k3 := x1.cell 3
  have fr3 := x1.frozen 3
  have k4 := x1.cell 4
  have fr4 := x1.frozen 4
  have k5 := x1.cell 5
  have fr5 := x1.frozen 5
  have k6 := x1.cell 6
  have fr6 := x1.frozen 6
  have k7 := x1.cell 7
  have fr7 := x1.frozen 7
  have k8 := x1.cell 8
  have fr8 := x1.frozen 8
  have k9 := x1.cell 9
  have fr9 := x1.frozen 9
  have k10 := x1.cell 10
  have fr10 := x1.frozen 10
  have k11 := x1.cell 11
  have fr11 := x1.frozen 11
  have k12 := x1.cell 12
  have fr12 := x1.frozen 12
  have k13 := x1.cell 13
  have fr13 := x1.frozen 13
  have k14 := x1.cell 14
  have fr14 := x1.frozen 14
  simp only [List.getElem?_cons_zero, List.getElem?_cons_succ] at k0 k1 k2 k3 k4 k5 k6 k7 k8 k9 k10 k11 k12 k13 k14
  have j0 := y1.cell 0
  have j1 := y1.cell 1
  have j2 := y1.cell 2
  have j3 := y1.cell 3
  have j4 := y1.cell 4
  have j5 := y1.cell 5
  have j6 := y1.cell 6
  have j7 := y1.cell 7
  have j8 := y1.cell 8
  have j9 := y1.cell 9
  have j10 := y1.cell 10
  have j11 := y1.cell 11
  have j12 := y1.cell 12
  have j13 := y1.cell 13
  have j14 := y1.cell 14
  simp only [List.getElem?_cons_zero, List.getElem?_cons_succ] at j0 j1 j2 j3 j4 j5 j6 j7 j8 j9 j10 j11 j12 j13 j14
  have HE := Lib.hid y4
  clear hX hgX x1 y1 y4 hbW
  go_enter Tryz.func28, Tryz.ntmps28
  go_wp2_with fail
  refine bodyPost_ret (v := .agg #[.int .i64 3, .int .i64 1, .int .i64 0, .int .i64 2, .int .i64 8, .int .i64 0, .int .i64 0, .int .i64 0, .int .i64 0, .string ⟨#[107]⟩, .slice none 0 0, .slice none 0 0, .slice none 0 0, .slice none 0 0, .slice none 0 0]) ?_ rfl ?_
  · rw [results_cell1 rfl]
    go_simp
  · exact ⟨rfl, HE.out⟩

theorem ss_lit {w : World} (t : TypeId) (a b c : Int) : Ss (w.alloc (.cells #[.int .i64 a, .int .i64 b, .int .i64 c] t)) (w.heap.size + 1) (some ⟨w.heap.size, 0, none⟩) [(a, b, c)] := fun _ => by
  refine ⟨_, _, rfl, by omega, fun j hj => ?_⟩
  match j, hj with
  | 0, _ => simp
set_option maxRecDepth 100000 in
set_option maxHeartbeats 2000000 in
theorem awake_any (w : World) : Calls Tryz.prog 11 #[] w fun e w' => e = .returned (.bool true) ∧ Below w.heap.size w w' := by
  obtain ⟨hR, hS⟩ := awake_set
  obtain ⟨hok, hty⟩ := hello_ok
  have hlen := hello_len
  have hfine := msgL_fine hok hty
  have hpf : putMsgF h0 = (Frm.frameF (msgL h0), 0) := by unfold putMsgF; rw [if_pos hok, if_pos hlen]
  have hback := msg_back hok hty hlen
  have hffine := Frm.frame_bytes hfine
  have hfl := Frm.frame_len (msgL h0)
  have hpl := putL_len ((msgL h0).length : Int)
  obtain ⟨L, hLe⟩ : ∃ L, Frm.frameF (msgL h0) = L := ⟨_, rfl⟩
  rw [hLe] at hpf hback hffine hfl
  obtain ⟨k, hk⟩ : ∃ k, L.length = k := ⟨_, rfl⟩
  obtain ⟨W, hW⟩ : ∃ W, w.alloc (.cells #[.int .i64 1, .int .i64 1, .int .i64 3] 70) = W := ⟨_, rfl⟩
  have hs0 : Ss W W.heap.size (some ⟨w.heap.size, 0, none⟩) [(1, 1, 3)] := by rw [← hW]; exact (ss_lit 70 1 1 3).more (by simp)
  have hb0 : Below w.heap.size w W := by rw [← hW]; exact (Below.refl _ w).alloc (Nat.le_refl _) _
  have h1 := putset_any (some ⟨w.heap.size, 0, none⟩) 1 1 [(1, 1, 3)] rfl W hs0 (by omega)
  rw [show putSetF [(1, 1, 3)] = (setL [(1, 1, 3)], 0) from if_pos hR, hS] at h1
  have h3 := fun V => putmsg_any 3 1 0 2 8 0 0 0 0 ⟨#[107]⟩ [] [] [] [] [] none none none none none 0 0 0 0 0 0 0 0 0 0 rfl rfl rfl rfl rfl (by omega) (by simp [ByteArray.size]) hty (fun _ => Nat.le_trans hlen (by omega)) V (hello_msgI V 0 V.heap.size _)
  have h3' : ∀ V, Calls Tryz.prog 14 #[.agg #[.int .i64 3, .int .i64 1, .int .i64 0, .int .i64 2, .int .i64 8, .int .i64 0, .int .i64 0, .int .i64 0, .int .i64 0, .string ⟨#[107]⟩, .slice none 0 0, .slice none 0 0, .slice none 0 0, .slice none 0 0, .slice none 0 0]] V (PutOut V.heap.size (L, 0) V) := fun V => by
    have h := h3 V
    rw [show putMsgF (3, (1, 0), (2, 8), 0, 0, 0, 0, ⟨#[107]⟩, [], [], [], [], []) = (L, 0) from hpf] at h
    exact h
  clear h3
  have h4 : ∀ A c V, k ≤ c → Ns .u8 V V.heap.size A L → Calls Tryz.prog 18 #[.slice A k c] V (GotMsg V.heap.size (h0, 0) V) := fun A c V hc hV => by
    have h := msg_any A c k L hk V hV hffine hc (by omega)
    rw [hback] at h
    exact h
  have h5 := fun A8 A9 A10 A11 A12 c8 c9 c10 c11 c12 V => same_any 3 1 0 2 8 0 0 0 0 ⟨#[107]⟩ [] [] [] [] [] A8 A9 A10 A11 A12 none none none none none c8 c9 c10 c11 c12 0 0 0 0 0 0 0 0 0 0 rfl rfl rfl rfl rfl (by omega) (by omega) (by omega) (by omega) (by omega) V (hello_msgI V 0 V.heap.size _) (hello_msgI V 0 V.heap.size _)
  have H1 := Lib.hid h1
  have H3 := Lib.hid h3'
  have H4 := Lib.hid h4
  have H5 := Lib.hid h5
  have HK := Lib.hid hk
  have HB0 := Lib.hid (And.intro hb0 hW)
  clear h1 h3' h4 h5 hk hb0 hs0 hR hS hok hty hlen hfine hpf hback hffine hfl hpl hLe hW
  go_enter Tryz.func11, Tryz.ntmps11
  go_wp2_with fail
  rw [HB0.out.2]
  refine H1.out.mono ?_
  rintro e w1 ⟨A1, c1, rfl, o1, d1⟩
  have n1 := own_ns (zs := [1, 1, 1, 2]) o1
  have b1 := HB0.out.1.trans (d1.mono HB0.out.1.size)
  have HC := Lib.hid (And.intro n1 b1)
  clear o1 d1 n1 b1
  go_wp2_with fail
  refine (hello_any w1).mono ?_
  rintro e w2 ⟨rfl, d2⟩
  have HD := Lib.hid d2
  clear d2
  go_wp2_with fail
  refine (H3.out w2).mono ?_
  rintro e w3 ⟨A3, c3, rfl, o3, d3⟩
  rw [show (L, (0 : Int)).1 = L from rfl, HK.out] at o3 ⊢
  have HF := Lib.hid (And.intro o3 (HD.out.trans (d3.mono HD.out.size)))
  clear o3 d3
  go_wp2_with fail
  refine (H4.out A3 c3 w3 (own_cap HF.out.1) (own_ns (by rw [HK.out]; exact HF.out.1))).mono ?_
  rintro e w4 ⟨⟨⟨A8, c8⟩, ⟨A9, c9⟩, ⟨A10, c10⟩, ⟨A11, c11⟩, ⟨A12, c12⟩⟩, hv, _, d4⟩
  have hv' : e = .returned (.tuple #[.agg #[.int .i64 3, .int .i64 1, .int .i64 0, .int .i64 2, .int .i64 8, .int .i64 0, .int .i64 0, .int .i64 0, .int .i64 0, .string ⟨#[107]⟩, .slice A8 0 c8, .slice A9 0 c9, .slice A10 0 c10, .slice A11 0 c11, .slice A12 0 c12], .int .i64 0]) := hv
  subst hv'
  have b4 := HF.out.2.trans (d4.mono HF.out.2.size)
  obtain ⟨B, hB⟩ : ∃ B, w4.heap.size = B := ⟨_, rfl⟩
  obtain ⟨V, hV⟩ : ∃ V, w4.alloc (.cells #[.int .i64 3, .int .i64 1, .int .i64 0, .int .i64 2, .int .i64 8, .int .i64 0, .int .i64 0, .int .i64 0, .int .i64 0, .string ⟨#[107]⟩, .slice A8 0 c8, .slice A9 0 c9, .slice A10 0 c10, .slice A11 0 c11, .slice A12 0 c12] 45) = V := ⟨_, rfl⟩
  have x1 : Bn B 45 [.int .i64 3, .int .i64 1, .int .i64 0, .int .i64 2, .int .i64 8, .int .i64 0, .int .i64 0, .int .i64 0, .int .i64 0, .string ⟨#[107]⟩, .slice A8 0 c8, .slice A9 0 c9, .slice A10 0 c10, .slice A11 0 c11, .slice A12 0 c12] V := by rw [← hV, ← hB]; exact heap_alloc_new _ _
  have bV : Below w1.heap.size w1 V := by rw [← hV]; exact b4.alloc b4.size _
  have lV : B < V.heap.size := x1.lt
  have hst : strOfNums [1, 1, 1, 2] = ⟨#[1, 1, 1, 2]⟩ := by decide
  have hkx : ∀ U, Below V.heap.size V U → (convert 25 9 (.slice A1 4 c1)).run Tryz.prog U = .ok (.string ⟨#[1, 1, 1, 2]⟩) U ∧ U.cell? ⟨B, 0, none⟩ = some (.int .i64 3) ∧ U.cell? ⟨B, 1, none⟩ = some (.int .i64 1) ∧ U.cell? ⟨B, 2, none⟩ = some (.int .i64 0) ∧ U.cell? ⟨B, 3, none⟩ = some (.int .i64 2) ∧ U.cell? ⟨B, 4, none⟩ = some (.int .i64 8) ∧ U.cell? ⟨B, 5, none⟩ = some (.int .i64 0) ∧ U.cell? ⟨B, 6, none⟩ = some (.int .i64 0) ∧ U.cell? ⟨B, 7, none⟩ = some (.int .i64 0) ∧ U.cell? ⟨B, 8, none⟩ = some (.int .i64 0) ∧ U.cell? ⟨B, 9, none⟩ = some (.string ⟨#[107]⟩) ∧ U.cell? ⟨B, 10, none⟩ = some (.slice A8 0 c8) ∧ U.cell? ⟨B, 11, none⟩ = some (.slice A9 0 c9) ∧ U.cell? ⟨B, 12, none⟩ = some (.slice A10 0 c10) ∧ U.cell? ⟨B, 13, none⟩ = some (.slice A11 0 c11) ∧ U.cell? ⟨B, 14, none⟩ = some (.slice A12 0 c12) := fun U h => by
    have hx := x1.below h lV
    have hc := run_conv_ns (P := Tryz.prog) U 25 5 9 Tryz.underlying25 Tryz.underlying5 Tryz.underlying9 c1 (HC.out.1.below (bV.trans (h.mono bV.size)))
    rw [hst] at hc
    exact ⟨hc, hx.cell 0, hx.cell 1, hx.cell 2, hx.cell 3, hx.cell 4, hx.cell 5, hx.cell 6, hx.cell 7, hx.cell 8, hx.cell 9, hx.cell 10, hx.cell 11, hx.cell 12, hx.cell 13, hx.cell 14⟩
  have hw2 := hkx V.drew ((Below.refl _ V).drew)
  obtain ⟨v0, v1, v2, v3, v4, v5, v6, v7, v8, v9, v10, v11, v12, v13, v14, v15⟩ := hw2
  have he1 : ((⟨#[1, 1, 1, 2]⟩ : ByteArray).toList == (⟨#[1, 1, 1, 2]⟩ : ByteArray).toList) = true := by simp
  have HK2 := Lib.hid hkx
  have HV := Lib.hid (And.intro hV (HC.out.2.trans (bV.mono HC.out.2.size)))
  clear hkx hV x1 bV b4 d4 hst hv
  go_wp2_with fail
  rw [HV.out.1]
  go_region_held (fun U => (convert 25 9 (.slice A1 4 c1)).run Tryz.prog U = .ok (.string ⟨#[1, 1, 1, 2]⟩) U ∧ U.cell? ⟨B, 0, none⟩ = some (.int .i64 3) ∧ U.cell? ⟨B, 1, none⟩ = some (.int .i64 1) ∧ U.cell? ⟨B, 2, none⟩ = some (.int .i64 0) ∧ U.cell? ⟨B, 3, none⟩ = some (.int .i64 2) ∧ U.cell? ⟨B, 4, none⟩ = some (.int .i64 8) ∧ U.cell? ⟨B, 5, none⟩ = some (.int .i64 0) ∧ U.cell? ⟨B, 6, none⟩ = some (.int .i64 0) ∧ U.cell? ⟨B, 7, none⟩ = some (.int .i64 0) ∧ U.cell? ⟨B, 8, none⟩ = some (.int .i64 0) ∧ U.cell? ⟨B, 9, none⟩ = some (.string ⟨#[107]⟩) ∧ U.cell? ⟨B, 10, none⟩ = some (.slice A8 0 c8) ∧ U.cell? ⟨B, 11, none⟩ = some (.slice A9 0 c9) ∧ U.cell? ⟨B, 12, none⟩ = some (.slice A10 0 c10) ∧ U.cell? ⟨B, 13, none⟩ = some (.slice A11 0 c11) ∧ U.cell? ⟨B, 14, none⟩ = some (.slice A12 0 c12))
    (first
      | exact ⟨v0, v1, v2, v3, v4, v5, v6, v7, v8, v9, v10, v11, v12, v13, v14, v15⟩
      | exact ⟨s0, s1, s2, s3, s4, s5, s6, s7, s8, s9, s10, s11, s12, s13, s14, s15⟩
      | exact ⟨r0, r1, r2, r3, r4, r5, r6, r7, r8, r9, r10, r11, r12, r13, r14, r15⟩)
    (first
    | (go_at_call 28; refine (hello_any V.drew).mono ?_; rintro e w5 ⟨rfl, d5⟩; have b5 : Below V.heap.size V w5 := ((Below.refl _ V).drew).trans d5; obtain ⟨s0, s1, s2, s3, s4, s5, s6, s7, s8, s9, s10, s11, s12, s13, s14, s15⟩ := HK2.out w5 b5)
    | (go_at_call 20; refine (H5.out A8 A9 A10 A11 A12 c8 c9 c10 c11 c12 w5).mono ?_; rintro e w6 ⟨rfl, d6⟩; have b6 := b5.trans (d6.mono b5.size); obtain ⟨r0, r1, r2, r3, r4, r5, r6, r7, r8, r9, r10, r11, r12, r13, r14, r15⟩ := HK2.out w6 b6))
  all_goals
    have HZ := Lib.hid (HV.out.2.trans (b6.mono HV.out.2.size))
    clear b5 b6 d5 d6
    go_wp2_with fail
    go_ret
    exact ⟨by simp, HZ.out⟩
end Code
end Go.Proofs.YtegiigeelcnemaaGreat
