/-
  CodeWrites (P6.1): every message is written, or refused, as the document says. Up to a bulk.
-/
import Derived.Test.YtegiigeelcnemaaGreatCodeAwake
import Derived.Test.YtegiigeelcnemaaGreatCodeInner
import Derived.Test.YtegiigeelcnemaaGreatGCodeB
import Derived.Test.YtegiigeelcnemaaGreatGNumA
namespace Go.Proofs.YtegiigeelcnemaaGreat
namespace CodeWrites
open Go.ChangeShapes Go.WideShapes Go.ChangeAt Go.RowKit Num Span Vers Go.Proofs.YtegiigeelcnemaaGreat.Code
attribute [local go_sem ↓] Go.wp_at_zero Go.wp_at_succ

theorem putMsgF_fine {m : Ms} (ht : tyM m) : ∀ z ∈ (putMsgF m).1, 0 ≤ z ∧ z ≤ 255 := by
  unfold putMsgF
  split
  · rename_i h
    split
    · exact Frm.frame_bytes (msgL_fine h ht)
    · simp
  · simp
set_option maxRecDepth 100000 in
set_option maxHeartbeats 4000000 in
theorem walk (w : World) (m : Ms) (a : Pl) (hI : MsgI w 0 w.heap.size m a) (hf : Fit m) (hbulk : m.2.2.2.2.2.2.2.2.1.length ≤ 1048576) :
    Calls Tryz.prog 4 #[.agg (mcc m a).toArray] w fun e w' => e = .returned (.bool true) ∧ Below w.heap.size w w' := by
  obtain ⟨B, hB⟩ : ∃ B, w.heap.size = B := ⟨_, rfl⟩
  rw [hB] at hI ⊢
  have hm : ∀ W, Below B w W → MsgI W 0 W.heap.size m a := fun W h => hI.below h (by have := h.size; omega)
  have c1 := fun W (h : Below B w W) => putmsg_at m a hf (fun hk => msgL_short hk hbulk) W (hm W h)
  have c2 := fun W (h : Below B w W) => refputmsg_at m a hf hbulk W (hm W h)
  have c3 := fun W (h : Below B w W) => right_at m a hf W (hm W h)
  have c4 := fun W (h : Below B w W) => refright_at m a hf W (hm W h)
  obtain ⟨⟨x, e⟩, hP⟩ : ∃ r, putMsgF m = r := ⟨_, rfl⟩
  obtain ⟨D, hD⟩ : ∃ D, decide (okM m) = D := ⟨_, rfl⟩
  rw [hP] at c1 c2
  simp only [hD] at c3 c4
  obtain ⟨k, hk⟩ : ∃ k, x.length = k := ⟨_, rfl⟩
  have hmc := mcc_cells m a
  obtain ⟨v0, v1, v2, v3, v4, v5, v6, v7, v8, v9, v10, v11, v12, v13, v14, hL⟩ := hmc
  rw [hL] at c1 c2 c3 c4 ⊢
  have hcv : ∀ (U : World) (A2 : Option Addr) (c2 : Nat), Ns .u8 U U.heap.size A2 x → (convert 25 9 (.slice A2 k c2)).run Tryz.prog U = .ok (.string (strOfNums x)) U := fun U A2 c2 h => by
    have h := run_conv_ns (P := Tryz.prog) U 25 5 9 Tryz.underlying25 Tryz.underlying5 Tryz.underlying9 c2 h
    rwa [hk] at h
  obtain ⟨W, hW⟩ : ∃ W, w.alloc (.cells #[v0, v1, v2, v3, v4, v5, v6, v7, v8, v9, v10, v11, v12, v13, v14] 45) = W := ⟨_, rfl⟩
  have hb0 : Below B w W := by rw [← hW, ← hB]; exact (Below.refl _ w).alloc (Nat.le_refl _) _
  have hbn : Bn B 45 [v0, v1, v2, v3, v4, v5, v6, v7, v8, v9, v10, v11, v12, v13, v14] W := by rw [← hW, ← hB]; exact heap_alloc_new _ _
  have hsB : ∀ V, Below B w V → B ≤ V.heap.size := fun V h => by have := h.size; omega
  have hsz : (Tryz.prog.info? 45).map (·.size) = some (#[v0, v1, v2, v3, v4, v5, v6, v7, v8, v9, v10, v11, v12, v13, v14] : Array Value).size := info_msg
  have hg0 : W.heap[B]? = some (.cells #[v0, v1, v2, v3, v4, v5, v6, v7, v8, v9, v10, v11, v12, v13, v14] 45 (0, 0)) := hbn
  have hBW : B < W.heap.size := hbn.lt
  have H0 := Lib.hid (And.intro hb0 (And.intro hsB hbn))
  have HC := Lib.hid (And.intro c1 (And.intro c2 (And.intro c3 c4)))
  have HV := Lib.hid (And.intro hcv hk)
  clear hm c1 c2 c3 c4 hcv hb0 hsB hbn hP hD hk hI hf hbulk hL
  go_enter Tryz.func4, Tryz.ntmps4
  go_wp2_with (refine wpList_load_row rfl 45 _ rfl _ rfl 45 _ _ _ hg0 Tryz.underlying45 rfl hsz ?_)
  refine (HC.out.1 W H0.out.1).mono ?_
  rintro e1 w1 ⟨A1, c1, rfl, o1, d1⟩
  rw [show (x, e).1 = x from rfl, HV.out.2] at o1 ⊢
  rw [show (x, e).2 = e from rfl]
  have hg1 := (d1.block B hBW).trans hg0
  have HA := Lib.hid (And.intro (H0.out.1.trans (d1.mono (H0.out.2.1 _ H0.out.1))) (And.intro (own_ns (zs := x) (by rw [HV.out.2]; exact o1)) (H0.out.2.2.below d1 hBW)))
  have hBW1 : B < w1.heap.size := by have := d1.size; omega
  clear o1 d1
  go_wp2_with (refine wpList_load_row rfl 45 _ rfl _ rfl 45 _ _ _ hg1 Tryz.underlying45 rfl hsz ?_)
  refine (HC.out.2.1 w1 HA.out.1).mono ?_
  rintro e2 w2 ⟨A2, c2, rfl, o2, d2⟩
  rw [show (x, e).1 = x from rfl, HV.out.2] at o2 ⊢
  rw [show (x, e).2 = e from rfl]
  have n1 : Ns .u8 w2 w2.heap.size A1 x := (HA.out.2.1.below d2).more d2.size
  have n2 : Ns .u8 w2 w2.heap.size A2 x := own_ns (zs := x) (by rw [HV.out.2]; exact o2)
  have b2 := HA.out.1.trans (d2.mono (H0.out.2.1 _ HA.out.1))
  have hb2n := HA.out.2.2.below d2 hBW1
  have hBW2 : B < w2.heap.size := by have := d2.size; omega
  -- what holds in every world behind
  have hS : ∀ U, Below w2.heap.size w2 U → (U.cell? ⟨B, 0, none⟩ = some v0 ∧ U.cell? ⟨B, 1, none⟩ = some v1 ∧ U.cell? ⟨B, 2, none⟩ = some v2 ∧ U.cell? ⟨B, 3, none⟩ = some v3 ∧ U.cell? ⟨B, 4, none⟩ = some v4 ∧ U.cell? ⟨B, 5, none⟩ = some v5 ∧ U.cell? ⟨B, 6, none⟩ = some v6 ∧ U.cell? ⟨B, 7, none⟩ = some v7 ∧ U.cell? ⟨B, 8, none⟩ = some v8 ∧ U.cell? ⟨B, 9, none⟩ = some v9 ∧ U.cell? ⟨B, 10, none⟩ = some v10 ∧ U.cell? ⟨B, 11, none⟩ = some v11 ∧ U.cell? ⟨B, 12, none⟩ = some v12 ∧ U.cell? ⟨B, 13, none⟩ = some v13 ∧ U.cell? ⟨B, 14, none⟩ = some v14) ∧ (convert 25 9 (.slice A1 k c1)).run Tryz.prog U = .ok (.string (strOfNums x)) U ∧ (convert 25 9 (.slice A2 k c2)).run Tryz.prog U = .ok (.string (strOfNums x)) U := fun U h => by
    have hbu := hb2n.below h hBW2
    exact ⟨⟨hbu.cell 0, hbu.cell 1, hbu.cell 2, hbu.cell 3, hbu.cell 4, hbu.cell 5, hbu.cell 6, hbu.cell 7, hbu.cell 8, hbu.cell 9, hbu.cell 10, hbu.cell 11, hbu.cell 12, hbu.cell 13, hbu.cell 14⟩, HV.out.1 U A1 c1 ((n1.below h).more h.size), HV.out.1 U A2 c2 ((n2.below h).more h.size)⟩
  have heq : ((strOfNums x).toList == (strOfNums x).toList) = true := by simp
  have hee : (e == e) = true := by simp
  have hdd : (D == D) = true := by simp
  have HS := Lib.hid hS
  have HB := Lib.hid b2
  have x0 := hS w2.drew (Below.refl _ w2).drew
  clear o2 d2 n1 n2 b2 hb2n hS
  go_wp2_with fail
  go_region_held (fun U => (U.cell? ⟨B, 0, none⟩ = some v0 ∧ U.cell? ⟨B, 1, none⟩ = some v1 ∧ U.cell? ⟨B, 2, none⟩ = some v2 ∧ U.cell? ⟨B, 3, none⟩ = some v3 ∧ U.cell? ⟨B, 4, none⟩ = some v4 ∧ U.cell? ⟨B, 5, none⟩ = some v5 ∧ U.cell? ⟨B, 6, none⟩ = some v6 ∧ U.cell? ⟨B, 7, none⟩ = some v7 ∧ U.cell? ⟨B, 8, none⟩ = some v8 ∧ U.cell? ⟨B, 9, none⟩ = some v9 ∧ U.cell? ⟨B, 10, none⟩ = some v10 ∧ U.cell? ⟨B, 11, none⟩ = some v11 ∧ U.cell? ⟨B, 12, none⟩ = some v12 ∧ U.cell? ⟨B, 13, none⟩ = some v13 ∧ U.cell? ⟨B, 14, none⟩ = some v14) ∧ (convert 25 9 (.slice A1 k c1)).run Tryz.prog U = .ok (.string (strOfNums x)) U ∧ (convert 25 9 (.slice A2 k c2)).run Tryz.prog U = .ok (.string (strOfNums x)) U)
    (first | exact x0 | exact x3 | exact x4 | exact x5)
    (first
    | (go_at_call 11; refine (awake_any _).mono ?_; rintro e3 w3 ⟨rfl, d3⟩; have b3 : Below w2.heap.size w2 w3 := (Below.refl _ w2).drew.trans d3; have x3 := HS.out w3 b3)
    | (go_at_call 16; refine (HC.out.2.2.1 w3 (HB.out.trans (b3.mono (H0.out.2.1 _ HB.out)))).mono ?_; rintro e4 w4 ⟨rfl, d4⟩; have b4 := b3.trans (d4.mono b3.size); have x4 := HS.out w4 b4)
    | (go_at_call 17; refine (HC.out.2.2.2 w4 (HB.out.trans (b4.mono (H0.out.2.1 _ HB.out)))).mono ?_; rintro e5 w5 ⟨rfl, d5⟩; have b5 := b4.trans (d5.mono b4.size); have x5 := HS.out w5 b5))
  all_goals
    have HZ := Lib.hid (HB.out.trans (b5.mono (H0.out.2.1 _ HB.out)))
    clear x3 x4 x5 d3 d4 d5 b3 b4 b5
    go_wp2_with fail
    go_ret
    exact ⟨rfl, HZ.out⟩
-- ROW BEGIN
set_option maxRecDepth 100000 in
/-- What the walk gives, shut again. -/
theorem contract (H : Type) (enc : TypeId × Value → H) (W : World) (base : Nat) (args : Array Value) (ds gs : List (DataW H)) (before : List MemPlace)
    (hval : ∀ (j : Nat) t v, Tryz.f4.params[j]? = some t → args[j]? = some v → Value.okWide Tryz.prog W .any base t v)
    (hW : DataW.Whole enc Tryz.prog Tryz.f4.params.toList Rows.codeWritesSpec.vars false W args.toList ds gs before)
    (hsz : (DataW.weightsEach Tryz.prog (Tryz.f4.params.toList ++ Rows.codeWritesSpec.plain.varTypes Tryz.prog) (ds ++ gs)).all (· ≤ reachBytes) = true) (hk : Rows.uptoSmall H (ds ++ gs) = true) :
    Calls Tryz.prog 4 args W fun e W' => ∃ v, e = .returned v ∧ Rows.codeWritesSpec.post enc Tryz.prog Tryz.f4 false true false false W args v W' := by
  have hW' := hW
  obtain ⟨p, q, hA0, hV, hbef, _, _⟩ := hW
  have hA : DataW.TrodAll enc Tryz.prog W 0 (fun _ => true) true Tryz.f4.params.toList args.toList ds p := hA0
  have hA1 := hA
  rw [Tryz.params4] at hA hval hsz
  obtain ⟨v0, vs0, d0, ds0, p0, q0, hargs, rfl, rfl, h0, r0⟩ := trodAll_cons hA
  obtain ⟨rfl, rfl, rfl⟩ := trodAll_nil r0
  obtain rfl : args = #[v0] := by cases args; simp_all
  obtain ⟨rfl, rfl⟩ := trodVars_none hV
  clear hA hargs
  obtain ⟨a0, l0, rfl, n0, f0, b0⟩ := Code.arg_msg (hval 0 45 v0 rfl rfl) h0 (Vers.wt_arg hsz (j := 0) rfl rfl)
  have hbulk : a0.2.2.2.2.2.2.2.2.1.length ≤ 1048576 := by
    have h := Bulk.bound hk
    simp only [List.append_nil, Rows.uptoBulkAll] at h
    omega
  refine (walk W a0 l0 n0 f0 hbulk).mono fun e W' ⟨he, hb⟩ => ?_
  subst he
  exact ⟨_, rfl, law_post Facts.laid (by rfl) Tryz.underlying4 (by rw [Tryz.params4]; decide +kernel) hW' hA1 rfl hbef rfl rfl rfl hb⟩

set_option maxRecDepth 100000 in
theorem lifted (os : Os) (started : os.Started) (H : Type) (enc : TypeId × Value → H) (F : Stop.Interp) :
    ReturnsInHanded {} Tryz.checked os 4 .any ((Rows.OpenSpec.upto Rows.codeWritesSpec).pre6 enc Tryz.prog Tryz.f4 Rows.codeWritesUptoRow.domain false) (((Rows.OpenSpec.upto Rows.codeWritesSpec).at F).post enc Tryz.prog Tryz.f4 false true false false) := by
  refine returnsInHanded_of_cond_sized (C := Tryz.checked) (s := Rows.OpenSpec.upto Rows.codeWritesSpec) (k := Rows.uptoSmall) rfl Facts.own started (by kernel_rfl) Tryz.func4
    (OpenSpec.witness (enc := enc) (C := Tryz.checked) (s := Rows.OpenSpec.upto Rows.codeWritesSpec) (k := Rows.uptoSmall) rfl false ⟨#[], #[.agg #[.int .i64 0, .int .i64 0, .int .i64 0, .int .i64 0, .int .i64 0, .int .i64 0, .int .i64 0, .int .i64 0, .int .i64 0, .string ⟨#[]⟩, .slice none 0 0, .slice none 0 0, .slice none 0 0, .slice none 0 0, .slice none 0 0]], []⟩ 8 (by kernel_rfl) (by kernel_rfl) (by kernel_rfl)
      (x := ([.agg [.lit (.int .i64 0), .agg [.lit (.int .i64 0), .lit (.int .i64 0)], .agg [.lit (.int .i64 0), .lit (.int .i64 0)], .lit (.int .i64 0), .lit (.int .i64 0), .lit (.int .i64 0), .lit (.int .i64 0), .lit (.string []), .nil, .nil, .nil, .nil, .nil]], [], [])) (by kernel_rfl) rfl (by kernel_rfl)) ?_
  intro W base args ds gs before hval hW _ hk hsz _
  exact contract H enc W base args ds gs before hval hW hsz hk

theorem holds : Rows.CodeWritesUptoSaid :=
  OpenClaim.holds_of_cond 4 Tryz.f4 rfl rfl rfl rfl rfl rfl rfl ⟨rfl, rfl, rfl, rfl, rfl⟩ rfl rfl rfl rfl rfl (by kernel_rfl) Tryz.func4 (by kernel_rfl)
    (of_decide_eq_true (by kernel_rfl)) (by unfold Func.isWrapper; first | (rw [if_pos (by decide +kernel)]; kernel_rfl) | (rw [if_neg (by decide +kernel)]; exact ⟨rfl, rfl⟩))
    (fun os started H enc _ F => lifted os started H enc F)
-- ROW END
end CodeWrites
end Go.Proofs.YtegiigeelcnemaaGreat
