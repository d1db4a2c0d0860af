/-
  VersJoins (P5.2, P5.3): what comes of two sets, and whether one lacks something of the other, are the document's. For every input.
-/
import Derived.Test.YthiiganfoecmnaaVersAwake
import Derived.Test.YthiiganfoecmnaaVersArgs
namespace Go.Proofs.Ythiiganfoecmnaa
namespace VersJoins
open Go.ChangeShapes Go.WideShapes Go.ChangeAt Go.RowKit Span Vers
attribute [local go_sem ↓] Go.wp_at_zero Go.wp_at_succ

/-- An answer of Merge, read: n is how long it is. -/
theorem post_read {B : Nat} {L : List Vr} {E : Int} {k : Nat} (hk : L.length = k) (w : World) (e : Ending) (w' : World) (h : Merged B (L, E) w e w') :
    ∃ A c, e = .returned (.tuple #[.slice A k c, .int .i64 E]) ∧ Vs w' 0 w'.heap.size A L ∧ Below w.heap.size w w' := by
  obtain ⟨A, c, rfl, _, o, b⟩ := h
  exact ⟨A, c, by rw [← hk], o.less (Nat.zero_le _), b⟩

set_option maxRecDepth 100000 in
set_option maxHeartbeats 2000000 in
theorem walk (w : World) (A : Option Addr) (c : Nat) (a : List Vr) (hr : Vs w 0 w.heap.size A a) (hbig : a.length * 64 ≤ 140737488351232) (hlc : a.length ≤ c)
    (A' : Option Addr) (c' : Nat) (b : List Vr) (hr' : Vs w 0 w.heap.size A' b) (hbig' : b.length * 64 ≤ 140737488351232) (hlc' : b.length ≤ c') :
    Calls Try.prog 4 #[.slice A a.length c, .slice A' b.length c'] w fun e w' => e = .returned (.bool true) ∧ Below w.heap.size w w' := by
  have hS : ∀ W, Below w.heap.size w W → Vs W 0 W.heap.size A a ∧ Vs W 0 W.heap.size A' b := fun W h => ⟨(hr.below h).more h.size, (hr'.below h).more h.size⟩
  have h1 := fun W h => merge_any A A' c c' a.length b.length a b rfl rfl hlc hlc' W (hS W h).1 (hS W h).2 (by omega) (by omega)
  have h2 := fun W h => ref_merge_any A A' c c' a.length b.length a b rfl rfl W (hS W h).1 (hS W h).2 (by omega) (by omega)
  have h4 := fun W h => lacks_any A A' c c' a.length b.length a b rfl rfl hlc hlc' W (hS W h).1 (hS W h).2 (by omega) (by omega)
  have h5 := fun W h => ref_lacks_any A A' c c' a.length b.length a b rfl rfl hlc hlc' W (hS W h).1 (hS W h).2 (by omega) (by omega)
  obtain ⟨m, hm⟩ : ∃ m, a.length = m := ⟨_, rfl⟩
  obtain ⟨m', hm'⟩ : ∃ m', b.length = m' := ⟨_, rfl⟩
  rw [hm, hm'] at h1 h2 h4 h5 ⊢
  have hL := merge_len a b
  obtain ⟨⟨L, E⟩, hR⟩ : ∃ R, mergeF a b = R := ⟨_, rfl⟩
  obtain ⟨Q, hQ⟩ : ∃ Q, lacksF a b = Q := ⟨_, rfl⟩
  rw [hR] at h1 h2 hL
  simp only at hL
  rw [hQ] at h4 h5
  have h3 := fun A A' c c' W h h' => ref_sameV_any A A' c c' L.length L.length L L rfl rfl W h h' (by omega) (by omega)
  rw [show decide (L = L) = true from decide_eq_true rfl] at h3
  obtain ⟨k, hk⟩ : ∃ k, L.length = k := ⟨_, rfl⟩
  have HJ := Lib.hid (fun B => post_read (B := B) (E := E) hk)
  rw [hk] at h3
  have H1 := Lib.hid h1
  have H2 := Lib.hid h2
  have H3 := Lib.hid h3
  have H4 := Lib.hid h4
  have H5 := Lib.hid h5
  clear h1 h2 h3 h4 h5 hm hm' hR hL hk hQ hr hr' hbig hbig' hS hlc hlc'
  go_enter Try.func4, Try.ntmps4
  go_wp2_with fail
  refine (H1.out w (Below.refl _ _)).mono ?_
  intro e w1 hp
  obtain ⟨A1, c1, rfl, n1, hb1⟩ := HJ.out _ _ _ _ hp
  clear hp
  go_wp2_with fail
  refine (H2.out w1 hb1).mono ?_
  intro e w2 hp
  obtain ⟨A2, c2, rfl, n2, b2⟩ := HJ.out _ _ _ _ hp
  have n3 := (n1.below b2).more b2.size
  have hb2 := hb1.trans (b2.mono hb1.size)
  clear hp b2 n1 hb1
  go_wp2_with fail
  refine (awake_any w2).mono ?_
  rintro e w3 ⟨rfl, b3⟩
  have n4 := (n3.below b3).more b3.size
  have n5 := (n2.below b3).more b3.size
  have hb3 := hb2.trans (b3.mono hb2.size)
  clear b3 n2 n3 hb2
  go_wp2_with fail
  refine (H3.out A1 A2 c1 c2 w3 n4 n5).mono ?_
  rintro e w4 ⟨rfl, b4⟩
  have hb4 := hb3.trans (b4.mono hb3.size)
  clear b4 n4 n5 hb3
  go_wp2_with fail
  refine (H4.out w4 hb4).mono ?_
  rintro e w5 ⟨rfl, b5⟩
  have hb5 := hb4.trans (b5.mono hb4.size)
  clear b5 hb4
  go_wp2_with fail
  refine (H5.out w5 hb5).mono ?_
  rintro e w6 ⟨rfl, b6⟩
  have hb6 := hb5.trans (b6.mono hb5.size)
  clear b6 hb5
  go_wp2
  go_ret
  exact ⟨rfl, hb6⟩
-- ROW BEGIN
/-- What the walk gives, shut again. -/
theorem contract (H : Type) (enc : TypeId × Value → H) (W : World) (base : Nat) (args : Array Value) (ds gs : List (DataW H)) (before : List MemPlace)
    (hval : ∀ (j : Nat) t v, Try.f4.params[j]? = some t → args[j]? = some v → Value.okWide Try.prog W .any base t v)
    (hW : DataW.Whole enc Try.prog Try.f4.params.toList Rows.versJoinsSpec.vars false W args.toList ds gs before)
    (hsz : (DataW.weightsEach Try.prog (Try.f4.params.toList ++ Rows.versJoinsSpec.plain.varTypes Try.prog) (ds ++ gs)).all (· ≤ reachBytes) = true) :
    Calls Try.prog 4 args W fun e W' => ∃ v, e = .returned v ∧ Rows.versJoinsSpec.post enc Try.prog Try.f4 false true false false W args v W' := by
  have hW' := hW
  obtain ⟨p, q, hA0, hV, hbef, _, _⟩ := hW
  have hA : DataW.TrodAll enc Try.prog W 0 (fun _ => true) true Try.f4.params.toList args.toList ds p := hA0
  have hA1 := hA
  rw [Try.params4] at hA hval hsz
  obtain ⟨v0, vs0, d0, ds0, p0, q0, hargs, rfl, rfl, h0, r0⟩ := trodAll_cons hA
  obtain ⟨v1, vs1, d1, ds1, p1, q1, rfl, rfl, rfl, h1, r1⟩ := trodAll_cons r0
  obtain ⟨rfl, rfl, rfl⟩ := trodAll_nil r1
  obtain rfl : args = #[v0, v1] := by cases args; simp_all
  obtain ⟨rfl, rfl⟩ := trodVars_none hV
  clear hA hargs
  obtain ⟨A0, c0, a0, rfl, n0, l0, b0⟩ := Vers.open_vs (hval 0 22 v0 rfl rfl) h0 (Vers.wt_arg hsz (j := 0) rfl rfl)
  obtain ⟨A1, c1, a1, rfl, n1, l1, b1⟩ := Vers.open_vs (hval 1 22 v1 rfl rfl) h1 (Vers.wt_arg hsz (j := 1) rfl rfl)
  refine (walk W A0 c0 a0 n0 b0 l0 A1 c1 a1 n1 b1 l1).mono fun e W' ⟨he, hb⟩ => ?_
  subst he
  exact ⟨_, rfl, law_post Facts.laid (by rfl) Try.underlying4 (by rw [Try.params4]; decide +kernel) hW' hA1 rfl hbef rfl rfl rfl hb⟩

set_option maxRecDepth 100000 in
theorem lifted (os : Os) (started : os.Started) (H : Type) (enc : TypeId × Value → H) :
    ReturnsInHanded {} Try.checked os 4 .any (Rows.versJoinsSpec.pre6 enc Try.prog Try.f4 Rows.versJoinsRow.domain false) (Rows.versJoinsSpec.post enc Try.prog Try.f4 false true false false) := by
  refine returnsInHanded_of_change_sized (C := Try.checked) Facts.own started (by kernel_rfl) Try.func4
    (ChangeSpec.witness6 (enc := enc) (C := Try.checked) false ⟨#[], #[.slice none 0 0, .slice none 0 0], []⟩ 8 (by kernel_rfl) (by kernel_rfl) (by kernel_rfl) (by kernel_rfl)) ?_
  intro W base args ds gs before hval hW _ hsz _
  exact contract H enc W base args ds gs before hval hW hsz

theorem holds : Rows.VersJoinsSaid :=
  OpenClaim.holds_of_wide 4 Try.f4 rfl rfl rfl rfl rfl rfl rfl ⟨rfl, rfl, rfl, rfl, rfl⟩ rfl rfl rfl rfl rfl (by kernel_rfl) Try.func4 (by kernel_rfl)
    (of_decide_eq_true (by kernel_rfl)) (by unfold Func.isWrapper; first | (rw [if_pos (by decide +kernel)]; kernel_rfl) | (rw [if_neg (by decide +kernel)]; exact ⟨rfl, rfl⟩))
    (fun os started H enc _ => lifted os started H enc)
-- ROW END
end VersJoins
end Go.Proofs.Ythiiganfoecmnaa
