/-
  VectLooks (P4.1): of whatever list, whether it is right, a site's count, and what it covers are the document's. For every input.
-/
import Derived.Test.YtpgpeigaoonpcabVectAwake
import Derived.Test.YtpgpeigaoonpcabVectRow
namespace Go.Proofs.Ytpgpeigaoonpcab
namespace VectLooks
open Go.ChangeShapes Go.WideShapes Go.ChangeAt Go.RowKit Span Vect
attribute [local go_sem ↓] Go.wp_at_zero Go.wp_at_succ

/-- What the law's region holds on to: the dot's box, and all that lay ahead of the call. -/
def Held (w : World) (s n : Int) (W : World) : Prop := W.cell? ⟨w.heap.size, 0, none⟩ = some (.int .i64 s) ∧ W.cell? ⟨w.heap.size, 1, none⟩ = some (.int .i64 n) ∧ Below w.heap.size w W ∧ w.heap.size < W.heap.size
theorem held_keep {w W W' : World} {s n : Int} (hb : Below W.heap.size W W') (h : Held w s n W) : Held w s n W' :=
  ⟨cell_below hb h.2.2.2 h.1, cell_below hb h.2.2.2 h.2.1, h.2.2.1.trans (hb.mono h.2.2.1.size), Nat.lt_of_lt_of_le h.2.2.2 hb.size⟩
theorem held_below {w W : World} {s n : Int} (h : Held w s n W) : Below w.heap.size w W := h.2.2.1

set_option maxHeartbeats 4000000 in
theorem walk (w : World) (A : Option Addr) (c : Nat) (v : List Int) (hr : Ns .i64 w w.heap.size A v) (_hwf : ∀ z ∈ v, -9223372036854775808 ≤ z ∧ z ≤ 9223372036854775807) (hbig : v.length * 8 ≤ 140737488351232) (_hlc : v.length ≤ c)
    (s n : Int) (hs : -9223372036854775808 ≤ s ∧ s ≤ 9223372036854775807) (_hn : -9223372036854775808 ≤ n ∧ n ≤ 9223372036854775807)
    (A' : Option Addr) (c' : Nat) (l : List Sp) (hr' : Ss w w.heap.size A' l) (hbig' : l.length * 24 ≤ 140737488351232) (_hlc' : l.length ≤ c') (hx : ∀ x ∈ l, (Lit.int .i64 x.1).wf = true) :
    Calls Try.prog 12 #[.slice A v.length c, .agg #[.int .i64 s, .int .i64 n], .slice A' l.length c'] w fun e w' => e = .returned (.bool true) ∧ Below w.heap.size w w' := by
  have hS : ∀ W, Held w s n W → Ns .i64 W W.heap.size A v ∧ Ss W W.heap.size A' l := fun W h => ⟨(hr.below h.2.2.1).more h.2.2.1.size, (hr'.below h.2.2.1).more h.2.2.1.size⟩
  have h1 := fun W => awake_v W
  have h2 := fun W h => right_v A c v.length v rfl W (hS W h).1 (by omega)
  have h3 := fun W h => ref_right_v A c v.length v rfl W (hS W h).1 (by omega)
  have h4 := fun W h => at_any A c v.length v rfl s hs W (hS W h).1 (by omega)
  have h5 := fun W h => ref_at_any A c v.length v rfl s hs W (hS W h).1 (by omega)
  have h6 := fun W h => covers_any A c v.length v rfl s n W (hS W h).1 (by omega)
  have h7 := fun W h => ref_covers_any A c v.length v rfl s n hs W (hS W h).1 (by omega)
  have h8 := fun W h => holds_any A A' c c' v.length l.length v l rfl rfl W (hS W h).1 (hS W h).2 (by omega) (by omega)
  have h9 := fun W h => ref_holds_any A A' c c' v.length l.length v l rfl rfl (fun x hm => wf_int (hx x hm)) W (hS W h).1 (hS W h).2 (by omega) (by omega)
  obtain ⟨m, hm⟩ : ∃ m, v.length = m := ⟨_, rfl⟩
  obtain ⟨m', hm'⟩ : ∃ m, l.length = m := ⟨_, rfl⟩
  obtain ⟨q, hq⟩ : ∃ q, decide (RightV v) = q := ⟨_, rfl⟩
  obtain ⟨T, hT⟩ : ∃ T, atV v s = T := ⟨_, rfl⟩
  obtain ⟨p, hp⟩ : ∃ p, decide (CoversV v s n) = p := ⟨_, rfl⟩
  obtain ⟨o, ho⟩ : ∃ p, decide (HoldsV v l) = p := ⟨_, rfl⟩
  rw [hm] at h2 h3 h4 h5 h6 h7 h8 h9 ⊢
  rw [hm'] at h8 h9 ⊢
  rw [hq] at h2 h3
  rw [hT] at h4 h5
  rw [hp] at h6 h7
  rw [ho] at h8 h9
  have H1 := Lib.hid h1
  have H2 := Lib.hid h2
  have H3 := Lib.hid h3
  have H4 := Lib.hid h4
  have H5 := Lib.hid h5
  have H6 := Lib.hid h6
  have H7 := Lib.hid h7
  have H8 := Lib.hid h8
  have H9 := Lib.hid h9
  have hst : Held w s n (w.alloc (.cells #[.int .i64 s, .int .i64 n] 33)) := ⟨by simp, by simp, (Below.refl _ w).alloc (Nat.le_refl _) _, by simp⟩
  obtain ⟨W, hW⟩ : ∃ W, w.alloc (.cells #[.int .i64 s, .int .i64 n] 33) = W := ⟨_, rfl⟩
  rw [hW] at hst
  have hsd : Held w s n W.drew := ⟨hst.1, hst.2.1, hst.2.2.1.drew, hst.2.2.2⟩
  clear h1 h2 h3 h4 h5 h6 h7 h8 h9 hm hm' hq hp hT ho hS hr hr' hbig hbig' hs hx
  go_enter Try.func12, Try.ntmps12
  go_wp2
  go_region_held3 (fun X => X.cell? ⟨w.heap.size, 0, none⟩ = some (.int .i64 s) ∧ X.cell? ⟨w.heap.size, 1, none⟩ = some (.int .i64 n) ∧ Below w.heap.size w X ∧ w.heap.size < X.heap.size) (first
      | exact hsd
      | exact held_keep (by assumption) (by assumption))
    (first
      | (go_at_call 36; refine (H1.out _).mono ?_; rintro e w1 ⟨rfl, b1⟩)
      | (go_at_call 37; refine (H2.out _ (by assumption)).mono ?_; rintro e w1 ⟨rfl, b1⟩)
      | (go_at_call 38; refine (H3.out _ (by assumption)).mono ?_; rintro e w1 ⟨rfl, b1⟩)
      | (go_at_call 39; refine (H4.out _ (by assumption)).mono ?_; rintro e w1 ⟨rfl, b1⟩)
      | (go_at_call 40; refine (H5.out _ (by assumption)).mono ?_; rintro e w1 ⟨rfl, b1⟩)
      | (go_at_call 41; refine (H6.out _ (by assumption)).mono ?_; rintro e w1 ⟨rfl, b1⟩)
      | (go_at_call 42; refine (H7.out _ (by assumption)).mono ?_; rintro e w1 ⟨rfl, b1⟩)
      | (go_at_call 43; refine (H8.out _ (by assumption)).mono ?_; rintro e w1 ⟨rfl, b1⟩)
      | (go_at_call 44; refine (H9.out _ (by assumption)).mono ?_; rintro e w1 ⟨rfl, b1⟩))
  go_wp2
  go_ret
  exact ⟨rfl, held_below (by assumption)⟩
-- ROW BEGIN
/-- What the walk gives, shut again. -/
theorem contract (H : Type) (enc : TypeId × Value → H) (W : World) (base : Nat) (args : Array Value) (ds gs : List (DataW H)) (before : List MemPlace)
    (hval : ∀ (j : Nat) t v, Try.f12.params[j]? = some t → args[j]? = some v → Value.okWide Try.prog W .any base t v)
    (hW : DataW.Whole enc Try.prog Try.f12.params.toList Rows.vectLooksSpec.vars false W args.toList ds gs before)
    (hsz : (DataW.weightsEach Try.prog (Try.f12.params.toList ++ Rows.vectLooksSpec.plain.varTypes Try.prog) (ds ++ gs)).all (· ≤ reachBytes) = true) :
    Calls Try.prog 12 args W fun e W' => ∃ v, e = .returned v ∧ Rows.vectLooksSpec.post enc Try.prog Try.f12 false true false false W args v W' := by
  have hW' := hW
  obtain ⟨p, q, hA0, hV, hbef, _, _⟩ := hW
  have hA : DataW.TrodAll enc Try.prog W 0 (fun _ => true) true Try.f12.params.toList args.toList ds p := hA0
  have hA1 := hA
  rw [Try.params12] at hA hval hsz
  obtain ⟨v0, vs0, d0, ds0, p0, q0, hargs, rfl, rfl, h0, r0⟩ := trodAll_cons hA
  obtain ⟨v1, vs1, d1, ds1, p1, q1, rfl, rfl, rfl, h1, r1⟩ := trodAll_cons r0
  obtain ⟨v2, vs2, d2, ds2, p2, q2, rfl, rfl, rfl, h2, r2⟩ := trodAll_cons r1
  obtain ⟨rfl, rfl, rfl⟩ := trodAll_nil r2
  obtain rfl : args = #[v0, v1, v2] := by cases args; simp_all
  obtain ⟨rfl, rfl⟩ := trodVars_none hV
  clear hA hargs
  obtain ⟨A0, c0, a0, rfl, n0, w0, l0, _, o0⟩ := open_ns Try.underlying54 Try.underlying2 Facts.cells2 (hval 0 54 v0 rfl rfl) h0
  have b0 := reach_ns hsz (j := 0) rfl rfl Try.underlying54 Facts.bytes2 l0 o0
  obtain ⟨a1, z1, rfl, w1, x1⟩ := Span.open_dot Try.underlying33 (by kernel_rfl) Span.cells_dot Try.underlying3 Try.underlying2 (hval 1 33 v1 rfl rfl) h1
  obtain ⟨A2, c2, a2, rfl, n2, x2, l2, o2⟩ := Span.open_sw Try.underlying31 Try.underlying52 (by kernel_rfl) Span.cells_span Try.underlying3 Try.underlying2 Try.underlying2 (hval 2 31 v2 rfl rfl) h2
  have b2 := Span.reach_ss hsz (j := 2) rfl rfl Try.underlying31 Span.bytes_span l2 o2
  refine (walk W A0 c0 a0 n0 (fun z hz => wf_int (w0 z hz)) (by omega) l0 a1 z1 (wf_int w1) (wf_int x1) A2 c2 a2 n2 (by omega) l2 x2).mono fun e W' ⟨he, hb⟩ => ?_
  subst he
  exact ⟨_, rfl, law_post Facts.laid (by rfl) Try.underlying4 (by rw [Try.params12]; decide +kernel) hW' hA1 rfl hbef rfl rfl rfl hb⟩

set_option maxRecDepth 100000 in
theorem lifted (os : Os) (started : os.Started) (H : Type) (enc : TypeId × Value → H) :
    ReturnsInHanded {} Try.checked os 12 .any (Rows.vectLooksSpec.pre6 enc Try.prog Try.f12 Rows.vectLooksRow.domain false) (Rows.vectLooksSpec.post enc Try.prog Try.f12 false true false false) := by
  refine returnsInHanded_of_change_sized (C := Try.checked) Facts.own started (by kernel_rfl) Try.func12
    (ChangeSpec.witness6 (enc := enc) (C := Try.checked) false ⟨#[], #[.slice none 0 0, .agg #[.int .i64 0, .int .i64 0], .slice none 0 0], []⟩ 8 (by kernel_rfl) (by kernel_rfl) (by kernel_rfl) (by kernel_rfl)) ?_
  intro W base args ds gs before hval hW _ hsz _
  exact contract H enc W base args ds gs before hval hW hsz

theorem holds : Rows.VectLooksSaid :=
  OpenClaim.holds_of_wide 12 Try.f12 rfl rfl rfl rfl rfl rfl rfl ⟨rfl, rfl, rfl, rfl, rfl⟩ rfl rfl rfl rfl rfl (by kernel_rfl) Try.func12 (by kernel_rfl)
    (of_decide_eq_true (by kernel_rfl)) (by unfold Func.isWrapper; first | (rw [if_pos (by decide +kernel)]; kernel_rfl) | (rw [if_neg (by decide +kernel)]; exact ⟨rfl, rfl⟩))
    (fun os started H enc _ => lifted os started H enc)
-- ROW END
end VectLooks
end Go.Proofs.Ytpgpeigaoonpcab
