/-
  SpanAdds (P3.2): a dot more: the list, or the error, is the document's. For every input.
-/
import Derived.Test.YtpgpeigaoonpcabSpanAwake
import Derived.Test.YtpgpeigaoonpcabSpanRow
namespace Go.Proofs.Ytpgpeigaoonpcab
namespace SpanAdds
open Go.ChangeShapes Go.WideShapes Go.ChangeAt Go.RowKit Span
attribute [local go_sem ↓] Go.wp_at_zero Go.wp_at_succ

set_option maxHeartbeats 1000000 in
theorem walk (w : World) (A : Option Addr) (c : Nat) (l : List Sp) (hr : Ss w w.heap.size A l) (hbig : l.length ≤ 140737488351232) (_hlc : l.length ≤ c) (s n : Int) (_hs : -9223372036854775808 ≤ s ∧ s ≤ 9223372036854775807) (_hn : -9223372036854775808 ≤ n ∧ n ≤ 9223372036854775807) :
    Calls Try.prog 6 #[.slice A l.length c, .agg #[.int .i64 s, .int .i64 n]] w fun e w' => e = .returned (.bool true) ∧ Below w.heap.size w w' := by
  have h1 := fun W h => add_any A c l.length l rfl s n W h (by omega)
  have h2 := fun W h => ref_add_any A c l.length l rfl s n W h (by omega)
  obtain ⟨m, hm⟩ : ∃ m, l.length = m := ⟨_, rfl⟩
  rw [hm] at h1 h2 ⊢
  have hL := addL_len l (s, n)
  obtain ⟨E, hE⟩ : ∃ E, addE l (s, n) = E := ⟨_, rfl⟩
  obtain ⟨L, hL0⟩ : ∃ L, addL l (s, n) = L := ⟨_, rfl⟩
  rw [hE, hL0] at h1 h2
  rw [hL0] at hL
  have h3 := fun A A' c c' W h h' => same_any A A' c c' L.length L.length L L rfl rfl W h h' (by omega) (by omega)
  rw [show decide (L = L) = true from decide_eq_true rfl] at h3
  obtain ⟨k, hk⟩ : ∃ k, L.length = k := ⟨_, rfl⟩
  have HJ : ∀ {w e w'}, JoinPost L E w e w' → ∃ A c, e = .returned (.tuple #[.slice A k c, .int .i64 E]) ∧ Ss w' w'.heap.size A L ∧ Below w.heap.size w w' := by
    rintro w e w' ⟨A, c, rfl, o, b⟩
    exact ⟨A, c, by rw [hk], own_ss o, b⟩
  rw [hk] at h3
  have H1 := Lib.hid h1
  have H2 := Lib.hid h2
  have H3 := Lib.hid h3
  have HJ := Lib.hid (fun w e w' (h : JoinPost L E w e w') => HJ h)
  have hb1 := (Below.refl w.heap.size w).alloc (Nat.le_refl _) (.cells #[.int .i64 s, .int .i64 n] 33)
  have q0 : (w.alloc (.cells #[.int .i64 s, .int .i64 n] 33)).cell? ⟨w.heap.size, 0, none⟩ = some (.int .i64 s) := by simp
  have q1 : (w.alloc (.cells #[.int .i64 s, .int .i64 n] 33)).cell? ⟨w.heap.size, 1, none⟩ = some (.int .i64 n) := by simp
  have sA : w.heap.size < (w.alloc (.cells #[.int .i64 s, .int .i64 n] 33)).heap.size := by simp
  obtain ⟨W, hW⟩ : ∃ W, w.alloc (.cells #[.int .i64 s, .int .i64 n] 33) = W := ⟨_, rfl⟩
  rw [hW] at hb1 q0 q1 sA
  have HR := Lib.hid hr
  clear h1 h2 h3 hm hE hL0 hL hk hr hbig
  go_enter Try.func6, Try.ntmps6
  go_wp2_with fail
  refine (H1.out W ((HR.out.below hb1).more hb1.size)).mono ?_
  intro e w1 hp
  obtain ⟨A1, c1, rfl, n1, b1⟩ := HJ.out _ _ _ hp
  have r0 := cell_below b1 sA q0
  have r1 := cell_below b1 sA q1
  have hb2 := hb1.trans (b1.mono hb1.size)
  clear hp q0 q1 hW b1 sA
  go_wp2_with fail
  refine (H2.out w1 ((HR.out.below hb2).more hb2.size)).mono ?_
  intro e w2 hp
  obtain ⟨A2, c2, rfl, n2, b2⟩ := HJ.out _ _ _ hp
  have n3 := (n1.below b2).more b2.size
  have hb3 := hb2.trans (b2.mono hb2.size)
  clear hp r0 r1 b2 n1 HR hb1 hb2
  go_wp2_with fail
  refine (awake_any w2).mono ?_
  rintro e w3 ⟨rfl, b3⟩
  have n4 := (n3.below b3).more b3.size
  have n5 := (n2.below b3).more b3.size
  have hb4 := hb3.trans (b3.mono hb3.size)
  clear b3 n2 n3 hb3
  go_wp2_with fail
  refine (H3.out A1 A2 c1 c2 w3 n4 n5).mono ?_
  rintro e w4 ⟨rfl, b4⟩
  have hb5 := hb4.trans (b4.mono hb4.size)
  go_wp2
  go_ret
  exact ⟨rfl, hb5⟩
-- ROW BEGIN
/-- What the walk gives, shut again. -/
theorem contract (H : Type) (enc : TypeId × Value → H) (W : World) (base : Nat) (args : Array Value) (ds gs : List (DataW H)) (before : List MemPlace)
    (hval : ∀ (j : Nat) t v, Try.f6.params[j]? = some t → args[j]? = some v → Value.okWide Try.prog W .any base t v)
    (hW : DataW.Whole enc Try.prog Try.f6.params.toList Rows.spanAddsSpec.vars false W args.toList ds gs before)
    (hsz : (DataW.weightsEach Try.prog (Try.f6.params.toList ++ Rows.spanAddsSpec.plain.varTypes Try.prog) (ds ++ gs)).all (· ≤ reachBytes) = true) :
    Calls Try.prog 6 args W fun e W' => ∃ v, e = .returned v ∧ Rows.spanAddsSpec.post enc Try.prog Try.f6 false true false false W args v W' := by
  have hW' := hW
  obtain ⟨p, q, hA0, hV, hbef, _, _⟩ := hW
  have hA : DataW.TrodAll enc Try.prog W 0 (fun _ => true) true Try.f6.params.toList args.toList ds p := hA0
  have hA1 := hA
  rw [Try.params6] at hA hval hsz
  obtain ⟨v0, vs0, d0, ds0, p0, q0, hargs, rfl, rfl, h0, r0⟩ := trodAll_cons hA
  obtain ⟨v1, vs1, d1, ds1, p1, q1, rfl, rfl, rfl, h1, r1⟩ := trodAll_cons r0
  obtain ⟨rfl, rfl, rfl⟩ := trodAll_nil r1
  obtain rfl : args = #[v0, v1] := by cases args; simp_all
  obtain ⟨rfl, rfl⟩ := trodVars_none hV
  clear hA hargs
  obtain ⟨A0, c0, a0, rfl, n0, l0, o0⟩ := Span.open_ss Try.underlying31 Try.underlying52 (by kernel_rfl) Span.cells_span Try.underlying3 Try.underlying2 Try.underlying2 (hval 0 31 v0 rfl rfl) h0
  have b0 := Span.reach_ss hsz (j := 0) rfl rfl Try.underlying31 Span.bytes_span l0 o0
  obtain ⟨a1, z1, rfl, w1, x1⟩ := Span.open_dot Try.underlying33 (by kernel_rfl) Span.cells_dot Try.underlying3 Try.underlying2 (hval 1 33 v1 rfl rfl) h1
  refine (walk W A0 c0 a0 n0 (by omega) l0 a1 z1 (wf_int w1) (wf_int x1)).mono fun e W' ⟨he, hb⟩ => ?_
  subst he
  exact ⟨_, rfl, law_post Facts.laid (by rfl) Try.underlying4 (by rw [Try.params6]; decide +kernel) hW' hA1 rfl hbef rfl rfl rfl hb⟩

set_option maxRecDepth 100000 in
theorem lifted (os : Os) (started : os.Started) (H : Type) (enc : TypeId × Value → H) :
    ReturnsInHanded {} Try.checked os 6 .any (Rows.spanAddsSpec.pre6 enc Try.prog Try.f6 Rows.spanAddsRow.domain false) (Rows.spanAddsSpec.post enc Try.prog Try.f6 false true false false) := by
  refine returnsInHanded_of_change_sized (C := Try.checked) Facts.own started (by kernel_rfl) Try.func6
    (ChangeSpec.witness6 (enc := enc) (C := Try.checked) false ⟨#[], #[.slice none 0 0, .agg #[.int .i64 0, .int .i64 0]], []⟩ 8 (by kernel_rfl) (by kernel_rfl) (by kernel_rfl) (by kernel_rfl)) ?_
  intro W base args ds gs before hval hW _ hsz _
  exact contract H enc W base args ds gs before hval hW hsz

theorem holds : Rows.SpanAddsSaid :=
  OpenClaim.holds_of_wide 6 Try.f6 rfl rfl rfl rfl rfl rfl rfl ⟨rfl, rfl, rfl, rfl, rfl⟩ rfl rfl rfl rfl rfl (by kernel_rfl) Try.func6 (by kernel_rfl)
    (of_decide_eq_true (by kernel_rfl)) (by unfold Func.isWrapper; first | (rw [if_pos (by decide +kernel)]; kernel_rfl) | (rw [if_neg (by decide +kernel)]; exact ⟨rfl, rfl⟩))
    (fun os started H enc _ => lifted os started H enc)
-- ROW END
end SpanAdds
end Go.Proofs.Ytpgpeigaoonpcab
