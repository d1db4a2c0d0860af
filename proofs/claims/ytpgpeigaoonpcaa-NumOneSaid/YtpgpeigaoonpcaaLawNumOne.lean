/-
  NumOne (P1.5): bytes that are read as a number are just those that it is written as. For every input.
-/
import Derived.Test.YtpgpeigaoonpcaaPutNum
import Derived.Test.YtpgpeigaoonpcaaNumWalk
import Derived.Test.YtpgpeigaoonpcaaSame
import Derived.Deep.RegionHeld3
import Derived.Deep.DrawnRows
namespace Go.Proofs.Ytpgpeigaoonpcaa
namespace NumOne
open Go.ChangeShapes Go.WideShapes Go.ChangeAt Go.RowKit Num

attribute [local go_sem ↓] Go.wp_at_zero Go.wp_at_succ

theorem walk_no (w : World) (A : Option Addr) (c : Nat) (zs : List Int) (hr : Ns .u8 w w.heap.size A zs) (hby : ∀ z ∈ zs, 0 ≤ z ∧ z ≤ 255) (hbig : zs.length ≤ 140737488351232) (e : Int) (he : e ≠ 0) (hF : numF zs 0 = (0, 0, e)) :
    Calls Try.prog 6 #[.slice A zs.length c] w fun e w' => e = .returned (.bool true) ∧ Below w.heap.size w w' := by
  have h1 := num_in A c zs 0 _ w hr hby (by omega) (by omega)
  rw [hF] at h1
  have hne : putL 0 ≠ zs := by
    rintro rfl
    have h0 : numF [0] 0 = (0, 1, 0) := rfl
    have hp : putL 0 = [0] := rfl
    rw [hp, h0] at hF
    simp only [Prod.mk.injEq] at hF
    omega
  have H1 := Lib.hid h1
  have H2 := Lib.hid (fun W => putnum_pos 0 (by omega) W)
  have heb : (e == 0) = false := by simpa using he
  have heb2 : (e != 0) = true := by simpa using he
  have hp9 : ∀ z ∈ putL 0, 0 ≤ z ∧ z ≤ 255 := putF_bytes 9 0 (by omega)
  obtain ⟨L, hL⟩ : ∃ L, putL 0 = L := ⟨_, rfl⟩
  rw [hL] at H2 hne hp9
  have H3 := Lib.hid (And.intro hne (And.intro hp9 (And.intro hr hby)))
  clear h1 hL hne hp9 hr hby hF he
  go_enter Try.func6, Try.ntmps6
  go_wp2_with fail
  refine H1.out.mono ?_
  rintro e' w' ⟨rfl, rfl⟩
  go_wp2_with fail
  refine (H2.out _).mono ?_
  rintro e' w1 ⟨A1, c1, rfl, o1, b1⟩
  go_wp2_with fail
  refine (same_no A1 A c1 c _ _ L zs rfl rfl _ _ w1 (own_ns o1) (H3.out.2.2.1.below b1) H3.out.2.1 H3.out.2.2.2 H3.out.1).mono ?_
  rintro e w' ⟨rfl, rfl⟩
  go_wp2_with fail
  go_ret
  exact ⟨rfl, b1⟩

set_option maxHeartbeats 400000 in
theorem walk_yes (w : World) (A : Option Addr) (c : Nat) (zs : List Int) (hr : Ns .u8 w w.heap.size A zs) (hby : ∀ z ∈ zs, 0 ≤ z ∧ z ≤ 255) (hbig : zs.length ≤ 140737488351232) (hc : zs.length ≤ c) (n : Int) (p : Nat) (hF : numF zs 0 = (n, p, 0)) :
    Calls Try.prog 6 #[.slice A zs.length c] w fun e w' => e = .returned (.bool true) ∧ Below w.heap.size w w' := by
  have h1 := num_in A c zs 0 _ w hr hby (by omega) (by omega)
  rw [hF] at h1
  obtain ⟨m, k, g1, g2, g3, g4, g5, g6, g7, g8⟩ := numR_ok zs 0 0 0 n p hby (by omega) hF
  obtain rfl : m = n := by rw [g4]; simp
  obtain rfl : p = k := by omega
  have H1 := Lib.hid h1
  have hm : m ≤ 9223372036854775807 := by have : m < 128 ^ 9 := g2; omega
  have H2 := Lib.hid (fun W => putnum_pos m ⟨g1, hm⟩ W)
  have g8' : zs.take p = putL m := g8
  have hlen : (zs.take p).length = p := by rw [List.length_take]; omega
  have hrt := hr.take p
  obtain ⟨L, hL⟩ : ∃ L, zs.take p = L := ⟨_, rfl⟩
  rw [hL] at g8' hlen hrt
  rw [← g8'] at H2
  have H3 := Lib.hid (And.intro hrt hlen)
  clear h1 hr hby hF g2 g3 g4 g5 g8 g8' hlen hL hrt
  go_enter Try.func6, Try.ntmps6
  go_wp2_with fail
  refine H1.out.mono ?_
  rintro e' w' ⟨rfl, rfl⟩
  go_wp2_with fail
  have d1 : decide ((1 : Int) ≤ (p : Int)) = true := decide_eq_true (by omega)
  have d2 : decide (1 ≤ p) = true := decide_eq_true (by omega)
  have d3 : decide (p ≤ zs.length) = true := decide_eq_true (by omega)
  have d4 : decide (0 ≤ m) = true := decide_eq_true (by omega)
  have d5 : (0 : Int) ≤ (p : Int) := by omega
  have d6 : (p : Int) ≤ (c : Int) := by omega
  go_region_held3 (fun _ => True) (trivial) (first
    | (go_at_call 16; refine (H2.out _).mono ?_; rintro e w1 ⟨A1, c1, rfl, o1, b1⟩)
    | (go_at_call 15; refine (same_yes _ _ _ _ _ _ L rfl H3.out.2 _ _ _ (own_ns (by assumption)) (Ns.below (w := w.drew) H3.out.1 (by assumption))).mono ?_; rintro e w' ⟨rfl, rfl⟩))
  go_wp2_with fail
  go_ret
  exact ⟨rfl, Below.trans (Below.refl _ _).drew (by assumption)⟩

theorem walk (w : World) (A : Option Addr) (c : Nat) (zs : List Int) (hr : Ns .u8 w w.heap.size A zs) (hby : ∀ z ∈ zs, 0 ≤ z ∧ z ≤ 255) (hbig : zs.length ≤ 140737488351232) (hc : zs.length ≤ c) :
    Calls Try.prog 6 #[.slice A zs.length c] w fun e w' => e = .returned (.bool true) ∧ Below w.heap.size w w' := by
  obtain ⟨⟨n, p, e⟩, hF⟩ : ∃ r, numF zs 0 = r := ⟨_, rfl⟩
  by_cases he : e = 0
  · subst he
    exact walk_yes w A c zs hr hby hbig hc n p hF
  · obtain ⟨rfl, rfl⟩ := numR_err _ _ _ _ _ _ _ hF he
    exact walk_no w A c zs hr hby hbig e he hF

-- ROW BEGIN
/-- What the walk gives, shut again. -/
theorem contract (H : Type) (enc : TypeId × Value → H) (W : World) (base : Nat) (args : Array Value) (ds gs : List (DataW H)) (before : List MemPlace)
    (hval : ∀ (j : Nat) t v, Try.f6.params[j]? = some t → args[j]? = some v → Value.okWide Try.prog W .any base t v)
    (hW : DataW.Whole enc Try.prog Try.f6.params.toList Rows.numOneSpec.vars false W args.toList ds gs before)
    (hsz : (DataW.weightsEach Try.prog (Try.f6.params.toList ++ Rows.numOneSpec.plain.varTypes Try.prog) (ds ++ gs)).all (· ≤ reachBytes) = true) :
    Calls Try.prog 6 args W fun e W' => ∃ v, e = .returned v ∧ Rows.numOneSpec.post enc Try.prog Try.f6 false true false false W args v W' := by
  have hW' := hW
  obtain ⟨p, q, hA0, hV, hbef, _, _⟩ := hW
  have hA : DataW.TrodAll enc Try.prog W 0 (fun _ => true) true Try.f6.params.toList args.toList ds p := hA0
  have hA1 := hA
  rw [Try.params6] at hA hval hsz
  obtain ⟨v0, vs0, d0, ds0, p0, q0, hargs, rfl, rfl, h0, r0⟩ := trodAll_cons hA
  obtain ⟨rfl, rfl, rfl⟩ := trodAll_nil r0
  obtain rfl : args = #[v0] := by cases args; simp_all
  obtain ⟨rfl, rfl⟩ := trodVars_none hV
  clear hA hargs
  obtain ⟨A0, c0, a0, rfl, n0, w0, l0, _, o0⟩ := open_ns Try.underlying23 Try.underlying5 Facts.cells5 (hval 0 23 v0 rfl rfl) h0
  have b0 := reach_ns hsz (j := 0) rfl rfl Try.underlying23 Facts.bytes5 l0 o0
  refine (walk W A0 c0 a0 n0 (fun z hz => wf_byte (w0 z hz)) (by omega) l0).mono fun e W' ⟨he, hb⟩ => ?_
  subst he
  exact ⟨_, rfl, law_post Facts.laid (by rfl) Try.underlying4 (by rw [Try.params6]; decide +kernel) hW' hA1 rfl hbef rfl rfl rfl hb⟩

set_option maxRecDepth 100000 in
theorem lifted (os : Os) (started : os.Started) (H : Type) (enc : TypeId × Value → H) :
    ReturnsInHanded {} Try.checked os 6 .any (Rows.numOneSpec.pre6 enc Try.prog Try.f6 Rows.numOneRow.domain false) (Rows.numOneSpec.post enc Try.prog Try.f6 false true false false) := by
  refine returnsInHanded_of_change_sized (C := Try.checked) Facts.own started (by kernel_rfl) Try.func6
    (ChangeSpec.witness6 (enc := enc) (C := Try.checked) false ⟨#[], #[.slice none 0 0], []⟩ 8 (by kernel_rfl) (by kernel_rfl) (by kernel_rfl) (by kernel_rfl)) ?_
  intro W base args ds gs before hval hW _ hsz _
  exact contract H enc W base args ds gs before hval hW hsz

theorem holds : Rows.NumOneSaid :=
  OpenClaim.holds_of_wide 6 Try.f6 rfl rfl rfl rfl rfl rfl rfl ⟨rfl, rfl, rfl, rfl, rfl⟩ rfl rfl rfl rfl rfl (by kernel_rfl) Try.func6 (by kernel_rfl)
    (of_decide_eq_true (by kernel_rfl)) (by unfold Func.isWrapper; first | (rw [if_pos (by decide +kernel)]; kernel_rfl) | (rw [if_neg (by decide +kernel)]; exact ⟨rfl, rfl⟩))
    (fun os started H enc _ => lifted os started H enc)
-- ROW END
end NumOne
end Go.Proofs.Ytpgpeigaoonpcaa
