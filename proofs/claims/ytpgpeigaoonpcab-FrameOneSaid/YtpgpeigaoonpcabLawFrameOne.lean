/-
  FrameOne (P2.4): what is taken out of bytes as a frame has just those bytes as its frame. For every input.
-/
import Derived.Test.YtpgpeigaoonpcabNext
import Derived.Test.YtpgpeigaoonpcabNextFacts
import Derived.Test.YtpgpeigaoonpcabSameTwo
namespace Go.Proofs.Ytpgpeigaoonpcab
namespace FrameOne
open Go.ChangeShapes Go.WideShapes Go.ChangeAt Go.RowKit Num Frm

set_option maxRecDepth 100000 in
theorem walk (w : World) (A : Option Addr) (c : Nat) (zs : List Int) (hr : Ns .u8 w w.heap.size A zs) (hby : ∀ z ∈ zs, 0 ≤ z ∧ z ≤ 255) (hbig : zs.length ≤ 140737488351232) (hlc : zs.length ≤ c) :
    Calls Try.prog 3 #[.slice A zs.length c] w fun e w' => e = .returned (.bool true) ∧ Below w.heap.size w w' := by
  have h1 := next_any A c zs 0 w hr hby hlc hbig (by omega)
  have herr := fun Y q e (h : nextF zs 0 = (Y, q, e)) => next_err h
  have hok := fun Y q (h : nextF zs 0 = (Y, q, 0)) => next_ok hby h
  obtain ⟨⟨Y, q, f⟩, hF⟩ : ∃ r, nextF zs 0 = r := ⟨_, rfl⟩
  rw [hF] at h1
  by_cases hf : f = 0
  · subst hf
    obtain ⟨g1, g2, g3, g4, g5⟩ := hok _ _ hF
    obtain ⟨b, off, rfl, hb, hc⟩ := hr (by omega)
    have ht := hr.take q
    have hlt : (zs.take q).length = q := by rw [List.length_take]; omega
    have hZ : frameF Y = zs.take q := by rw [g1]; unfold cutF; simp
    have hlF : (frameF Y).length = q := by rw [hZ, hlt]
    rw [← hZ] at ht
    have hput := fun A c W hr' hlc' => put_any A c Y W hr' g5 hlc' g4
    obtain ⟨F, hFr⟩ : ∃ F, frameF Y = F := ⟨_, rfl⟩
    rw [hFr] at ht hput hlF
    have H1 := Lib.hid h1
    have H2 := Lib.hid hput
    have d1 : decide ((4 : Int) < (q : Int)) = true := decide_eq_true (by omega)
    have d2 : decide (4 < q) = true := decide_eq_true (by omega)
    have d3 : decide (q ≤ zs.length) = true := decide_eq_true (by omega)
    have d4 : decide ((q : Int) ≤ (zs.length : Int)) = true := decide_eq_true (by omega)
    clear h1 herr hok hF hr hby hc g1 g5 hZ hFr hput
    go_enter Try.func3, Try.ntmps3
    go_wp2_with fail
    refine H1.out.mono ?_
    rintro e w1 ⟨A1, c1, rfl, o1, b1⟩
    have n1 := own_ns o1
    have ht1 := ht.below b1
    have hsz1 := b1.size
    have hlc1 := (own_len o1).2
    clear o1
    go_wp2_with fail
    refine (H2.out _ _ _ n1 hlc1).mono ?_
    rintro e w2 ⟨A2, c2, rfl, o2, b2⟩
    have n2 := own_ns o2
    have ht2 := (ht1.more hsz1).below b2
    have hsz2 := b2.size
    clear o2
    go_wp2_with fail
    refine Calls.mono (Frm.same2_yes _ _ _ _ q q F hlF hlF _ _ w2 n2 ht2) ?_
    rintro e w3 ⟨rfl, rfl⟩
    go_wp2_with fail
    go_ret
    exact ⟨rfl, b1.trans (b2.mono hsz1)⟩
  · obtain ⟨rfl, rfl⟩ := herr _ _ _ hF hf
    have hb : (f == 0) = false := by simpa using hf
    have H1 := Lib.hid h1
    clear h1 herr hok hF hr hby hf
    go_enter Try.func3, Try.ntmps3
    go_wp2_with fail
    refine H1.out.mono ?_
    rintro e w1 ⟨A1, c1, rfl, o1, b1⟩
    clear o1
    go_wp2_with fail
    go_ret
    exact ⟨rfl, b1⟩
-- ROW BEGIN
/-- What the walk gives, shut again. -/
theorem contract (H : Type) (enc : TypeId × Value → H) (W : World) (base : Nat) (args : Array Value) (ds gs : List (DataW H)) (before : List MemPlace)
    (hval : ∀ (j : Nat) t v, Try.f3.params[j]? = some t → args[j]? = some v → Value.okWide Try.prog W .any base t v)
    (hW : DataW.Whole enc Try.prog Try.f3.params.toList Rows.frameOneSpec.vars false W args.toList ds gs before)
    (hsz : (DataW.weightsEach Try.prog (Try.f3.params.toList ++ Rows.frameOneSpec.plain.varTypes Try.prog) (ds ++ gs)).all (· ≤ reachBytes) = true) :
    Calls Try.prog 3 args W fun e W' => ∃ v, e = .returned v ∧ Rows.frameOneSpec.post enc Try.prog Try.f3 false true false false W args v W' := by
  have hW' := hW
  obtain ⟨p, q, hA0, hV, hbef, _, _⟩ := hW
  have hA : DataW.TrodAll enc Try.prog W 0 (fun _ => true) true Try.f3.params.toList args.toList ds p := hA0
  have hA1 := hA
  rw [Try.params3] at hA hval hsz
  obtain ⟨v0, vs0, d0, ds0, p0, q0, hargs, rfl, rfl, h0, r0⟩ := trodAll_cons hA
  obtain ⟨rfl, rfl, rfl⟩ := trodAll_nil r0
  obtain rfl : args = #[v0] := by cases args; simp_all
  obtain ⟨rfl, rfl⟩ := trodVars_none hV
  clear hA hargs
  obtain ⟨A0, c0, a0, rfl, n0, w0, l0, _, o0⟩ := open_ns Try.underlying22 Try.underlying5 Facts.cells5 (hval 0 22 v0 rfl rfl) h0
  have b0 := reach_ns hsz (j := 0) rfl rfl Try.underlying22 Facts.bytes5 l0 o0
  refine (walk W A0 c0 a0 n0 (fun z hz => wf_byte (w0 z hz)) (by omega) l0).mono fun e W' ⟨he, hb⟩ => ?_
  subst he
  exact ⟨_, rfl, law_post Facts.laid (by rfl) Try.underlying4 (by rw [Try.params3]; decide +kernel) hW' hA1 rfl hbef rfl rfl rfl hb⟩

set_option maxRecDepth 100000 in
theorem lifted (os : Os) (started : os.Started) (H : Type) (enc : TypeId × Value → H) :
    ReturnsInHanded {} Try.checked os 3 .any (Rows.frameOneSpec.pre6 enc Try.prog Try.f3 Rows.frameOneRow.domain false) (Rows.frameOneSpec.post enc Try.prog Try.f3 false true false false) := by
  refine returnsInHanded_of_change_sized (C := Try.checked) Facts.own started (by kernel_rfl) Try.func3
    (ChangeSpec.witness6 (enc := enc) (C := Try.checked) false ⟨#[], #[.slice none 0 0], []⟩ 8 (by kernel_rfl) (by kernel_rfl) (by kernel_rfl) (by kernel_rfl)) ?_
  intro W base args ds gs before hval hW _ hsz _
  exact contract H enc W base args ds gs before hval hW hsz

theorem holds : Rows.FrameOneSaid :=
  OpenClaim.holds_of_wide 3 Try.f3 rfl rfl rfl rfl rfl rfl rfl ⟨rfl, rfl, rfl, rfl, rfl⟩ rfl rfl rfl rfl rfl (by kernel_rfl) Try.func3 (by kernel_rfl)
    (of_decide_eq_true (by kernel_rfl)) (by unfold Func.isWrapper; first | (rw [if_pos (by decide +kernel)]; kernel_rfl) | (rw [if_neg (by decide +kernel)]; exact ⟨rfl, rfl⟩))
    (fun os started H enc _ => lifted os started H enc)
-- ROW END
end FrameOne
end Go.Proofs.Ytpgpeigaoonpcab
