/-
  SpanLooks (P3.1): of whatever list, whether it is right, which dots it has, and a site's greatest count are the document's. For every input.
-/
import Derived.Test.YtpgpeigaoonpcabSpanAwake
import Derived.Test.YtpgpeigaoonpcabSpanRow
namespace Go.Proofs.Ytpgpeigaoonpcab
namespace SpanLooks
open Go.ChangeShapes Go.WideShapes Go.ChangeAt Go.RowKit Span
attribute [local go_sem ↓] Go.wp_at_zero Go.wp_at_succ

/-- What the law's region holds on to: the dot's box, and all that lay ahead of the call. -/
def Held (w : World) (s n : Int) (W : World) : Prop := W.cell? ⟨w.heap.size, 0, none⟩ = some (.int .i64 s) ∧ W.cell? ⟨w.heap.size, 1, none⟩ = some (.int .i64 n) ∧ Below w.heap.size w W ∧ w.heap.size < W.heap.size
theorem held_keep {w W W' : World} {s n : Int} (hb : Below W.heap.size W W') (h : Held w s n W) : Held w s n W' :=
  ⟨cell_below hb h.2.2.2 h.1, cell_below hb h.2.2.2 h.2.1, h.2.2.1.trans (hb.mono h.2.2.1.size), Nat.lt_of_lt_of_le h.2.2.2 hb.size⟩

theorem held_below {w W : World} {s n : Int} (h : Held w s n W) : Below w.heap.size w W := h.2.2.1

set_option maxHeartbeats 2000000 in
theorem walk (w : World) (A : Option Addr) (c : Nat) (l : List Sp) (hr : Ss w w.heap.size A l) (hbig : l.length ≤ 140737488351232) (_hlc : l.length ≤ c) (s n : Int) (_hs : -9223372036854775808 ≤ s ∧ s ≤ 9223372036854775807) (_hn : -9223372036854775808 ≤ n ∧ n ≤ 9223372036854775807) :
    Calls Try.prog 5 #[.slice A l.length c, .agg #[.int .i64 s, .int .i64 n]] w fun e w' => e = .returned (.bool true) ∧ Below w.heap.size w w' := by
  have hS : ∀ W, Held w s n W → Ss W W.heap.size A l := fun W h => (hr.below h.2.2.1).more h.2.2.1.size
  have h1 := fun W => awake_any W
  have h2 := fun W h => right_any A c l.length l rfl W (hS W h) (by omega)
  have h3 := fun W h => ref_right_any A c l.length l rfl W (hS W h) (by omega)
  have h4 := fun W h => has_any A c l s n W (hS W h) (by omega)
  have h5 := fun W h => ref_has_any A c l.length l rfl s n W (hS W h) (by omega)
  have h6 := fun W h => top_any A c l.length l rfl s W (hS W h) (by omega)
  have h7 := fun W h => ref_top_any A c l.length l rfl s W (hS W h) (by omega)
  obtain ⟨m, hm⟩ : ∃ m, l.length = m := ⟨_, rfl⟩
  obtain ⟨q, hq⟩ : ∃ q, decide (Right l) = q := ⟨_, rfl⟩
  obtain ⟨p, hp⟩ : ∃ p, hasL l s n = p := ⟨_, rfl⟩
  obtain ⟨T, hT⟩ : ∃ T, topF l s = T := ⟨_, rfl⟩
  rw [hm] at h2 h3 h4 h5 h6 h7 ⊢
  rw [hq] at h2 h3
  rw [hp] at h4 h5
  rw [hT] at h6 h7
  have H1 := Lib.hid h1
  have H2 := Lib.hid h2
  have H3 := Lib.hid h3
  have H4 := Lib.hid h4
  have H5 := Lib.hid h5
  have H6 := Lib.hid h6
  have H7 := Lib.hid h7
  have hst : Held w s n (w.alloc (.cells #[.int .i64 s, .int .i64 n] 33)) := ⟨by simp, by simp, (Below.refl _ w).alloc (Nat.le_refl _) _, by simp⟩
  obtain ⟨W, hW⟩ : ∃ W, w.alloc (.cells #[.int .i64 s, .int .i64 n] 33) = W := ⟨_, rfl⟩
  rw [hW] at hst
  have hsd : Held w s n W.drew := ⟨hst.1, hst.2.1, hst.2.2.1.drew, hst.2.2.2⟩
  clear h1 h2 h3 h4 h5 h6 h7 hm hq hp hT hS hr hbig
  go_enter Try.func5, Try.ntmps5
  go_wp2
  go_region_held3 (fun X => X.cell? ⟨w.heap.size, 0, none⟩ = some (.int .i64 s) ∧ X.cell? ⟨w.heap.size, 1, none⟩ = some (.int .i64 n) ∧ Below w.heap.size w X ∧ w.heap.size < X.heap.size) (first
      | exact hsd
      | exact held_keep (by assumption) (by assumption))
    (first
      | (go_at_call 19; refine (H1.out _).mono ?_; rintro e w1 ⟨rfl, b1⟩)
      | (go_at_call 20; refine (H2.out _ (by assumption)).mono ?_; rintro e w1 ⟨rfl, b1⟩)
      | (go_at_call 21; refine (H3.out _ (by assumption)).mono ?_; rintro e w1 ⟨rfl, b1⟩)
      | (go_at_call 22; refine (H4.out _ (by assumption)).mono ?_; rintro e w1 ⟨rfl, b1⟩)
      | (go_at_call 23; refine (H5.out _ (by assumption)).mono ?_; rintro e w1 ⟨rfl, b1⟩)
      | (go_at_call 24; refine (H6.out _ (by assumption)).mono ?_; rintro e w1 ⟨rfl, b1⟩)
      | (go_at_call 25; refine (H7.out _ (by assumption)).mono ?_; rintro e w1 ⟨rfl, b1⟩))
  go_wp2
  go_ret
  exact ⟨rfl, held_below (by assumption)⟩
-- ROW BEGIN
/-- What the walk gives, shut again. -/
theorem contract (H : Type) (enc : TypeId × Value → H) (W : World) (base : Nat) (args : Array Value) (ds gs : List (DataW H)) (before : List MemPlace)
    (hval : ∀ (j : Nat) t v, Try.f5.params[j]? = some t → args[j]? = some v → Value.okWide Try.prog W .any base t v)
    (hW : DataW.Whole enc Try.prog Try.f5.params.toList Rows.spanLooksSpec.vars false W args.toList ds gs before)
    (hsz : (DataW.weightsEach Try.prog (Try.f5.params.toList ++ Rows.spanLooksSpec.plain.varTypes Try.prog) (ds ++ gs)).all (· ≤ reachBytes) = true) :
    Calls Try.prog 5 args W fun e W' => ∃ v, e = .returned v ∧ Rows.spanLooksSpec.post enc Try.prog Try.f5 false true false false W args v W' := by
  have hW' := hW
  obtain ⟨p, q, hA0, hV, hbef, _, _⟩ := hW
  have hA : DataW.TrodAll enc Try.prog W 0 (fun _ => true) true Try.f5.params.toList args.toList ds p := hA0
  have hA1 := hA
  rw [Try.params5] at hA hval hsz
  obtain ⟨v0, vs0, d0, ds0, p0, q0, hargs, rfl, rfl, h0, r0⟩ := trodAll_cons hA
  obtain ⟨v1, vs1, d1, ds1, p1, q1, rfl, rfl, rfl, h1, r1⟩ := trodAll_cons r0
  obtain ⟨rfl, rfl, rfl⟩ := trodAll_nil r1
  obtain rfl : args = #[v0, v1] := by cases args; simp_all
  obtain ⟨rfl, rfl⟩ := trodVars_none hV
  clear hA hargs
  obtain ⟨A0, c0, a0, rfl, n0, l0, o0⟩ := Span.open_ss Try.underlying31 Try.underlying52 (by kernel_rfl) Span.cells_span Try.underlying3 Try.underlying2 Try.underlying2 (hval 0 31 v0 rfl rfl) h0
  have b0 := Span.reach_ss hsz (j := 0) rfl rfl Try.underlying31 Span.bytes_span l0 o0
  obtain ⟨a1, z1, rfl, w1, x1⟩ := Span.open_dot Try.underlying33 (by kernel_rfl) Span.cells_dot Try.underlying3 Try.underlying2 (hval 1 33 v1 rfl rfl) h1
  refine (walk W A0 c0 a0 n0 (by omega) l0 a1 z1 (wf_int w1) (wf_int x1)).mono fun e W' ⟨he, hb⟩ => ?_
  subst he
  exact ⟨_, rfl, law_post Facts.laid (by rfl) Try.underlying4 (by rw [Try.params5]; decide +kernel) hW' hA1 rfl hbef rfl rfl rfl hb⟩

set_option maxRecDepth 100000 in
theorem lifted (os : Os) (started : os.Started) (H : Type) (enc : TypeId × Value → H) :
    ReturnsInHanded {} Try.checked os 5 .any (Rows.spanLooksSpec.pre6 enc Try.prog Try.f5 Rows.spanLooksRow.domain false) (Rows.spanLooksSpec.post enc Try.prog Try.f5 false true false false) := by
  refine returnsInHanded_of_change_sized (C := Try.checked) Facts.own started (by kernel_rfl) Try.func5
    (ChangeSpec.witness6 (enc := enc) (C := Try.checked) false ⟨#[], #[.slice none 0 0, .agg #[.int .i64 0, .int .i64 0]], []⟩ 8 (by kernel_rfl) (by kernel_rfl) (by kernel_rfl) (by kernel_rfl)) ?_
  intro W base args ds gs before hval hW _ hsz _
  exact contract H enc W base args ds gs before hval hW hsz

theorem holds : Rows.SpanLooksSaid :=
  OpenClaim.holds_of_wide 5 Try.f5 rfl rfl rfl rfl rfl rfl rfl ⟨rfl, rfl, rfl, rfl, rfl⟩ rfl rfl rfl rfl rfl (by kernel_rfl) Try.func5 (by kernel_rfl)
    (of_decide_eq_true (by kernel_rfl)) (by unfold Func.isWrapper; first | (rw [if_pos (by decide +kernel)]; kernel_rfl) | (rw [if_neg (by decide +kernel)]; exact ⟨rfl, rfl⟩))
    (fun os started H enc _ => lifted os started H enc)
-- ROW END
end SpanLooks
end Go.Proofs.Ytpgpeigaoonpcab
