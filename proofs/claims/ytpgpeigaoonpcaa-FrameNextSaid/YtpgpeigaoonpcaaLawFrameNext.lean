/-
  FrameNext (P2.2): whatever bytes stand wherever, what is framed, or the first fault, is the document's. For every input.
-/
import Derived.Test.YtpgpeigaoonpcaaNextRef
import Derived.Test.YtpgpeigaoonpcaaSameTwo
namespace Go.Proofs.Ytpgpeigaoonpcaa
namespace FrameNext
open Go.ChangeShapes Go.WideShapes Go.ChangeAt Go.RowKit Num Frm

/-- At a place that is out of the bytes frame.Next says so. -/
theorem next_out (A : Option Addr) (c n : Nat) (i : Int) (w : World) (hi : i < 0 ∨ (n : Int) < i) :
    Calls Try.prog 33 #[.slice A n c, .int .i64 i] w fun e w' => e = .returned (.tuple #[.slice none 0 0, .int .i64 0, .int .i64 1]) ∧ w = w' := by
  have H1 := Lib.hid (num_out A c n i w hi)
  clear hi
  go_enter Try.func33, Try.ntmps33
  go_wp2_with fail
  refine H1.out.mono ?_
  rintro e w1 ⟨rfl, rfl⟩
  go_wp2
  go_ret3
  exact ⟨rfl, rfl⟩

theorem walk (w : World) (A : Option Addr) (c : Nat) (zs : List Int) (hr : Ns .u8 w w.heap.size A zs) (hby : ∀ z ∈ zs, 0 ≤ z ∧ z ≤ 255) (hbig : zs.length ≤ 140737488351232) (hlc : zs.length ≤ c)
    (i : Int) (hi64 : -9223372036854775808 ≤ i ∧ i ≤ 9223372036854775807) :
    Calls Try.prog 12 #[.slice A zs.length c, .int .i64 i] w fun e w' => e = .returned (.bool true) ∧ Below w.heap.size w w' := by
  by_cases hi : i < 0 ∨ (zs.length : Int) < i
  · have h1 := Lib.hid (next_out A c zs.length i w hi)
    by_cases h0 : i < 0
    · go_enter Try.func12, Try.ntmps12
      go_wp2_with fail
      refine h1.out.mono ?_
      rintro e w' ⟨rfl, rfl⟩
      go_wp2_with fail
      go_ret
      exact ⟨rfl, Below.refl _ _⟩
    · have h2 : (zs.length : Int) < i := by omega
      clear hi
      go_enter Try.func12, Try.ntmps12
      go_wp2_with fail
      refine h1.out.mono ?_
      rintro e w' ⟨rfl, rfl⟩
      go_wp2_with fail
      go_ret
      exact ⟨rfl, Below.refl _ _⟩
  · obtain ⟨k, rfl⟩ := Int.eq_ofNat_of_zero_le (show 0 ≤ i by omega)
    have hk : k ≤ zs.length := by omega
    clear hi
    have h1 := next_any A c zs k w hr hby hlc hbig hk
    have h2 := fun W hr' => ref_next_any A c zs k W hr' hby hlc hbig hk
    obtain ⟨⟨Y, q, f⟩, hF⟩ : ∃ r, nextF zs k = r := ⟨_, rfl⟩
    rw [hF] at h1 h2
    have H1 := Lib.hid h1
    have H2 := Lib.hid h2
    have HR := Lib.hid hr
    clear h1 h2 hF hr hby
    go_enter Try.func12, Try.ntmps12
    go_wp2_with fail
    refine H1.out.mono ?_
    rintro e w1 ⟨A1, c1, rfl, o1, b1⟩
    have n1 := own_ns o1
    have hr1 := (HR.out.below b1).more b1.size
    have hsz1 := b1.size
    clear o1
    go_wp2_with fail
    refine (H2.out _ hr1).mono ?_
    rintro e w2 ⟨A2, c2, rfl, o2, b2⟩
    have n2 := own_ns o2
    have n12 := n1.below b2
    have hsz2 := b2.size
    clear o2
    go_wp2_with fail
    refine Calls.mono (Frm.same2_yes A1 A2 c1 c2 Y.length Y.length Y rfl rfl _ _ w2 n12 n2) ?_
    rintro e w3 ⟨rfl, rfl⟩
    go_wp2_with fail
    go_ret
    exact ⟨rfl, b1.trans (b2.mono hsz1)⟩
-- ROW BEGIN
/-- What the walk gives, shut again. -/
theorem contract (H : Type) (enc : TypeId × Value → H) (W : World) (base : Nat) (args : Array Value) (ds gs : List (DataW H)) (before : List MemPlace)
    (hval : ∀ (j : Nat) t v, Try.f12.params[j]? = some t → args[j]? = some v → Value.okWide Try.prog W .any base t v)
    (hW : DataW.Whole enc Try.prog Try.f12.params.toList Rows.frameNextSpec.vars false W args.toList ds gs before)
    (hsz : (DataW.weightsEach Try.prog (Try.f12.params.toList ++ Rows.frameNextSpec.plain.varTypes Try.prog) (ds ++ gs)).all (· ≤ reachBytes) = true) :
    Calls Try.prog 12 args W fun e W' => ∃ v, e = .returned v ∧ Rows.frameNextSpec.post enc Try.prog Try.f12 false true false false W args v W' := by
  have hW' := hW
  obtain ⟨p, q, hA0, hV, hbef, _, _⟩ := hW
  have hA : DataW.TrodAll enc Try.prog W 0 (fun _ => true) true Try.f12.params.toList args.toList ds p := hA0
  have hA1 := hA
  rw [Try.params12] at hA hval hsz
  obtain ⟨v0, vs0, d0, ds0, p0, q0, hargs, rfl, rfl, h0, r0⟩ := trodAll_cons hA
  obtain ⟨v1, vs1, d1, ds1, p1, q1, rfl, rfl, rfl, h1, r1⟩ := trodAll_cons r0
  obtain ⟨rfl, rfl, rfl⟩ := trodAll_nil r1
  obtain rfl : args = #[v0, v1] := by cases args; simp_all
  obtain ⟨rfl, rfl⟩ := trodVars_none hV
  clear hA hargs
  obtain ⟨A0, c0, a0, rfl, n0, w0, l0, _, o0⟩ := open_ns Try.underlying23 Try.underlying5 Facts.cells5 (hval 0 23 v0 rfl rfl) h0
  have b0 := reach_ns hsz (j := 0) rfl rfl Try.underlying23 Facts.bytes5 l0 o0
  obtain ⟨a1, rfl, rfl, _, w1⟩ := open_int Try.underlying3 (hval 1 3 v1 rfl rfl) h1
  refine (walk W A0 c0 a0 n0 (fun z hz => wf_byte (w0 z hz)) (by omega) l0 a1 (wf_int w1)).mono fun e W' ⟨he, hb⟩ => ?_
  subst he
  exact ⟨_, rfl, law_post Facts.laid (by rfl) Try.underlying4 (by rw [Try.params12]; decide +kernel) hW' hA1 rfl hbef rfl rfl rfl hb⟩

set_option maxRecDepth 100000 in
theorem lifted (os : Os) (started : os.Started) (H : Type) (enc : TypeId × Value → H) :
    ReturnsInHanded {} Try.checked os 12 .any (Rows.frameNextSpec.pre6 enc Try.prog Try.f12 Rows.frameNextRow.domain false) (Rows.frameNextSpec.post enc Try.prog Try.f12 false true false false) := by
  refine returnsInHanded_of_change_sized (C := Try.checked) Facts.own started (by kernel_rfl) Try.func12
    (ChangeSpec.witness6 (enc := enc) (C := Try.checked) false ⟨#[], #[.slice none 0 0, .int .i64 0], []⟩ 8 (by kernel_rfl) (by kernel_rfl) (by kernel_rfl) (by kernel_rfl)) ?_
  intro W base args ds gs before hval hW _ hsz _
  exact contract H enc W base args ds gs before hval hW hsz

theorem holds : Rows.FrameNextSaid :=
  OpenClaim.holds_of_wide 12 Try.f12 rfl rfl rfl rfl rfl rfl rfl ⟨rfl, rfl, rfl, rfl, rfl⟩ rfl rfl rfl rfl rfl (by kernel_rfl) Try.func12 (by kernel_rfl)
    (of_decide_eq_true (by kernel_rfl)) (by unfold Func.isWrapper; first | (rw [if_pos (by decide +kernel)]; kernel_rfl) | (rw [if_neg (by decide +kernel)]; exact ⟨rfl, rfl⟩))
    (fun os started H enc _ => lifted os started H enc)
-- ROW END
end FrameNext
end Go.Proofs.Ytpgpeigaoonpcaa
