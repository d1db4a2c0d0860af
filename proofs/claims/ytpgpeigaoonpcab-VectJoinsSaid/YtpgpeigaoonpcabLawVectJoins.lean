/-
  VectJoins (P4.2): two vectors joined, and whether one is below the other, are the document's. For every input.
-/
import Derived.Test.YtpgpeigaoonpcabVectAwake
import Derived.Test.YtpgpeigaoonpcabVectRow
namespace Go.Proofs.Ytpgpeigaoonpcab
namespace VectJoins
open Go.ChangeShapes Go.WideShapes Go.ChangeAt Go.RowKit Span Vect
attribute [local go_sem ↓] Go.wp_at_zero Go.wp_at_succ

set_option maxHeartbeats 1000000 in
theorem walk (w : World) (A : Option Addr) (c : Nat) (a : List Int) (hr : Ns .i64 w w.heap.size A a) (_hwf : ∀ z ∈ a, -9223372036854775808 ≤ z ∧ z ≤ 9223372036854775807) (hbig : a.length * 8 ≤ 140737488351232) (_hlc : a.length ≤ c)
    (A' : Option Addr) (c' : Nat) (b : List Int) (hr' : Ns .i64 w w.heap.size A' b) (_hwf' : ∀ z ∈ b, -9223372036854775808 ≤ z ∧ z ≤ 9223372036854775807) (hbig' : b.length * 8 ≤ 140737488351232) (_hlc' : b.length ≤ c') :
    Calls Try.prog 13 #[.slice A a.length c, .slice A' b.length c'] w fun e w' => e = .returned (.bool true) ∧ Below w.heap.size w w' := by
  have hS : ∀ W, Below w.heap.size w W → Ns .i64 W W.heap.size A a ∧ Ns .i64 W W.heap.size A' b := fun W h => ⟨(hr.below h).more h.size, (hr'.below h).more h.size⟩
  have h1 := fun W h => vjoin_any A A' c c' a.length b.length a b rfl rfl W (hS W h).1 (hS W h).2 (by omega) (by omega)
  have h2 := fun W h => ref_vjoin_any A A' c c' a.length b.length a b rfl rfl W (hS W h).1 (hS W h).2 (by omega) (by omega)
  have h4 := fun W h => vbelow_any A A' c c' a.length b.length a b rfl rfl W (hS W h).1 (hS W h).2 (by omega) (by omega)
  have h5 := fun W h => ref_vbelow_any A A' c c' a.length b.length a b rfl rfl W (hS W h).1 (hS W h).2 (by omega) (by omega)
  have hlen : (vjL a b).length ≤ a.length := by
    unfold vjL
    split
    · rw [max_len]; exact Nat.le_refl _
    · simp
  obtain ⟨m, hm⟩ : ∃ m, a.length = m := ⟨_, rfl⟩
  obtain ⟨m', hm'⟩ : ∃ m', b.length = m' := ⟨_, rfl⟩
  rw [hm, hm'] at h1 h2 h4 h5 ⊢
  rw [hm] at hlen hbig
  obtain ⟨E, hE⟩ : ∃ E, vjE a b = E := ⟨_, rfl⟩
  obtain ⟨L, hL0⟩ : ∃ L, vjL a b = L := ⟨_, rfl⟩
  obtain ⟨Q, hQ⟩ : ∃ Q, decide (BelowV a b) = Q := ⟨_, rfl⟩
  rw [hE, hL0] at h1 h2
  rw [hL0] at hlen
  rw [hQ] at h4 h5
  have h3 := fun A A' c c' W h h' => vsame_any A A' c c' L.length L.length L L rfl rfl W h h' (by omega) (by omega)
  rw [show decide (L = L) = true from decide_eq_true rfl] at h3
  obtain ⟨k, hk⟩ : ∃ k, L.length = k := ⟨_, rfl⟩
  have HJ := Lib.hid (vpost_read (E := E) hk)
  rw [hk] at h3
  have H1 := Lib.hid h1
  have H2 := Lib.hid h2
  have H3 := Lib.hid h3
  have H4 := Lib.hid h4
  have H5 := Lib.hid h5
  clear h1 h2 h3 h4 h5 hm hm' hE hL0 hk hQ hr hr' hbig hbig' hS hlen
  go_enter Try.func13, Try.ntmps13
  go_wp2_with fail
  refine (H1.out w (Below.refl _ _)).mono ?_
  intro e w1 hp
  obtain ⟨A1, c1, rfl, n1, hb1⟩ := HJ.out _ _ _ hp
  clear hp
  go_wp2_with fail
  refine (H2.out w1 hb1).mono ?_
  intro e w2 hp
  obtain ⟨A2, c2, rfl, n2, b2⟩ := HJ.out _ _ _ hp
  have n3 := (n1.below b2).more b2.size
  have hb2 := hb1.trans (b2.mono hb1.size)
  clear hp b2 n1 hb1
  go_wp2_with fail
  refine (awake_v w2).mono ?_
  rintro e w3 ⟨rfl, b3⟩
  have n4 := (n3.below b3).more b3.size
  have n5 := (n2.below b3).more b3.size
  have hb3 := hb2.trans (b3.mono hb2.size)
  clear b3 n2 n3 hb2
  go_wp2_with fail
  refine (H3.out A1 A2 c1 c2 w3 n4 n5).mono ?_
  rintro e w4 ⟨rfl, b4⟩
  have hb4 := hb3.trans (b4.mono hb3.size)
  clear b4 n4 n5 hb3
  go_wp2_with fail
  refine (H4.out w4 hb4).mono ?_
  rintro e w5 ⟨rfl, b5⟩
  have hb5 := hb4.trans (b5.mono hb4.size)
  clear b5 hb4
  go_wp2_with fail
  refine (H5.out w5 hb5).mono ?_
  rintro e w6 ⟨rfl, b6⟩
  have hb6 := hb5.trans (b6.mono hb5.size)
  clear b6 hb5
  go_wp2
  go_ret
  exact ⟨rfl, hb6⟩
-- ROW BEGIN
/-- What the walk gives, shut again. -/
theorem contract (H : Type) (enc : TypeId × Value → H) (W : World) (base : Nat) (args : Array Value) (ds gs : List (DataW H)) (before : List MemPlace)
    (hval : ∀ (j : Nat) t v, Try.f13.params[j]? = some t → args[j]? = some v → Value.okWide Try.prog W .any base t v)
    (hW : DataW.Whole enc Try.prog Try.f13.params.toList Rows.vectJoinsSpec.vars false W args.toList ds gs before)
    (hsz : (DataW.weightsEach Try.prog (Try.f13.params.toList ++ Rows.vectJoinsSpec.plain.varTypes Try.prog) (ds ++ gs)).all (· ≤ reachBytes) = true) :
    Calls Try.prog 13 args W fun e W' => ∃ v, e = .returned v ∧ Rows.vectJoinsSpec.post enc Try.prog Try.f13 false true false false W args v W' := by
  have hW' := hW
  obtain ⟨p, q, hA0, hV, hbef, _, _⟩ := hW
  have hA : DataW.TrodAll enc Try.prog W 0 (fun _ => true) true Try.f13.params.toList args.toList ds p := hA0
  have hA1 := hA
  rw [Try.params13] at hA hval hsz
  obtain ⟨v0, vs0, d0, ds0, p0, q0, hargs, rfl, rfl, h0, r0⟩ := trodAll_cons hA
  obtain ⟨v1, vs1, d1, ds1, p1, q1, rfl, rfl, rfl, h1, r1⟩ := trodAll_cons r0
  obtain ⟨rfl, rfl, rfl⟩ := trodAll_nil r1
  obtain rfl : args = #[v0, v1] := by cases args; simp_all
  obtain ⟨rfl, rfl⟩ := trodVars_none hV
  clear hA hargs
  obtain ⟨A0, c0, a0, rfl, n0, w0, l0, _, o0⟩ := open_ns Try.underlying54 Try.underlying2 Facts.cells2 (hval 0 54 v0 rfl rfl) h0
  have b0 := reach_ns hsz (j := 0) rfl rfl Try.underlying54 Facts.bytes2 l0 o0
  obtain ⟨A1, c1, a1, rfl, n1, w1, l1, _, o1⟩ := open_ns Try.underlying54 Try.underlying2 Facts.cells2 (hval 1 54 v1 rfl rfl) h1
  have b1 := reach_ns hsz (j := 1) rfl rfl Try.underlying54 Facts.bytes2 l1 o1
  refine (walk W A0 c0 a0 n0 (fun z hz => wf_int (w0 z hz)) (by omega) l0 A1 c1 a1 n1 (fun z hz => wf_int (w1 z hz)) (by omega) l1).mono fun e W' ⟨he, hb⟩ => ?_
  subst he
  exact ⟨_, rfl, law_post Facts.laid (by rfl) Try.underlying4 (by rw [Try.params13]; decide +kernel) hW' hA1 rfl hbef rfl rfl rfl hb⟩

set_option maxRecDepth 100000 in
theorem lifted (os : Os) (started : os.Started) (H : Type) (enc : TypeId × Value → H) :
    ReturnsInHanded {} Try.checked os 13 .any (Rows.vectJoinsSpec.pre6 enc Try.prog Try.f13 Rows.vectJoinsRow.domain false) (Rows.vectJoinsSpec.post enc Try.prog Try.f13 false true false false) := by
  refine returnsInHanded_of_change_sized (C := Try.checked) Facts.own started (by kernel_rfl) Try.func13
    (ChangeSpec.witness6 (enc := enc) (C := Try.checked) false ⟨#[], #[.slice none 0 0, .slice none 0 0], []⟩ 8 (by kernel_rfl) (by kernel_rfl) (by kernel_rfl) (by kernel_rfl)) ?_
  intro W base args ds gs before hval hW _ hsz _
  exact contract H enc W base args ds gs before hval hW hsz

theorem holds : Rows.VectJoinsSaid :=
  OpenClaim.holds_of_wide 13 Try.f13 rfl rfl rfl rfl rfl rfl rfl ⟨rfl, rfl, rfl, rfl, rfl⟩ rfl rfl rfl rfl rfl (by kernel_rfl) Try.func13 (by kernel_rfl)
    (of_decide_eq_true (by kernel_rfl)) (by unfold Func.isWrapper; first | (rw [if_pos (by decide +kernel)]; kernel_rfl) | (rw [if_neg (by decide +kernel)]; exact ⟨rfl, rfl⟩))
    (fun os started H enc _ => lifted os started H enc)
-- ROW END
end VectJoins
end Go.Proofs.Ytpgpeigaoonpcab
