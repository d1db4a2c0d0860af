/-
  CodeSets (P6.1, P6.2): sets are written, or refused, and read, or refused, as the document says. Up to a bulk.
-/
import Derived.Test.YtlmjknadaegkoaaCodeAwake
import Derived.Test.YtlmjknadaegkoaaGCodeB
import Derived.Test.YtlmjknadaegkoaaGSpanB
import Derived.Test.YtlmjknadaegkoaaGNumA
namespace Go.Proofs.Ytlmjknadaegkoaa
namespace CodeSets
open Go.ChangeShapes Go.WideShapes Go.ChangeAt Go.RowKit Num Span Go.Proofs.Ytlmjknadaegkoaa.Code
attribute [local go_sem ↓] Go.wp_at_zero Go.wp_at_succ

theorem set_small {zs : List Int} (hby : ∀ z ∈ zs, 0 ≤ z ∧ z ≤ 255) : (setF zs).1.length ≤ 1024 := by
  obtain ⟨⟨l, e⟩, h⟩ : ∃ r, setF zs = r := ⟨_, rfl⟩
  rw [h]
  by_cases he : e = 0
  · subst he
    exact (setF_right hby h).1.1
  · rw [(setF_err h he).1]
    simp
set_option maxRecDepth 100000 in
set_option maxHeartbeats 2000000 in
theorem walk (w : World) (A : Option Addr) (c : Nat) (l : List Sp) (hs : Ss w w.heap.size A l) (hbl : l.length ≤ 140737488355328) (_hlc : l.length ≤ c) (A' : Option Addr) (c' : Nat) (zs : List Int) (hr : Ns .u8 w w.heap.size A' zs) (hby : ∀ z ∈ zs, 0 ≤ z ∧ z ≤ 255) (_hbig : zs.length ≤ 140737488355328) (hlc' : zs.length ≤ c') (hbulk : zs.length ≤ 1048576) :
    Calls Try.prog 3 #[.slice A l.length c, .slice A' zs.length c'] w fun e w' => e = .returned (.bool true) ∧ Below w.heap.size w w' := by
  have h1 := fun W (hW : Ss W W.heap.size A l) => putset_any A c l.length l rfl W hW hbl
  have h2 := fun W (hW : Ss W W.heap.size A l) => ref_right_any A c l.length l rfl W hW hbl
  have h4 := fun W (hW : Ns .u8 W W.heap.size A' zs) => set_any A' c' zs.length zs rfl W hW hby hlc' (by omega)
  have h5 := fun W (hW : Ns .u8 W W.heap.size A' zs) => refset_any A' c' zs.length zs rfl W hW hby hlc' (by omega)
  have h7 := fun (hR : Right l) W (hW : Ss W W.heap.size A l) => ref_putset_any A c l.length l rfl hR.2.1 W hW (by have := hR.1; omega)
  have hsm := set_small hby
  obtain ⟨⟨y, E⟩, hY⟩ : ∃ r, setF zs = r := ⟨_, rfl⟩
  rw [hY] at h4 h5 hsm
  simp only at hsm
  obtain ⟨n, hn⟩ : ∃ n, zs.length = n := ⟨_, rfl⟩
  obtain ⟨m, hm⟩ : ∃ m, l.length = m := ⟨_, rfl⟩
  obtain ⟨k, hk⟩ : ∃ k, y.length = k := ⟨_, rfl⟩
  rw [hn] at h4 h5 ⊢
  rw [hm] at h1 h2 h7 ⊢
  rw [hk] at hsm
  have h6 := fun A A' c c' W h h' => Span.same_any A A' c c' k k y y hk hk W h h' (by omega) (by omega)
  rw [show decide (y = y) = true from decide_eq_true rfl] at h6
  have hS : ∀ W, Below w.heap.size w W → Ss W W.heap.size A l ∧ Ns .u8 W W.heap.size A' zs := fun W h => ⟨(hs.below h).more h.size, (hr.below h).more h.size⟩
  have H0 := Lib.hid (And.intro hS hk)
  have H1 := Lib.hid (And.intro h1 h2)
  have H4 := Lib.hid (And.intro h4 (And.intro h5 h6))
  have H7 := Lib.hid h7
  have HE := Lib.hid (show (E == E) = true by simp)
  clear h1 h2 h4 h5 h6 h7 hS hr hs hby hY hk hn hm hlc' hbl hbulk _hbig _hlc
  go_enter Try.func3, Try.ntmps3
  go_wp2_with fail
  refine (H1.out.1 w (H0.out.1 w (Below.refl _ _)).1).mono ?_
  rintro e w1 ⟨A1, c1, rfl, o1, d1⟩
  by_cases hR : Right l
  · rw [show putSetF l = (setL l, 0) from if_pos hR] at o1 ⊢
    have h7 := H7.out hR
    have h2 := H1.out.2 w1 (H0.out.1 w1 d1).1
    rw [decide_eq_true hR] at h2
    obtain ⟨Z, hZ⟩ : ∃ Z, setL l = Z := ⟨_, rfl⟩
    rw [hZ] at o1 h7 ⊢
    have n1 := own_ns o1
    obtain ⟨z, hz⟩ : ∃ z, Z.length = z := ⟨_, rfl⟩
    have H2 := Lib.hid h2
    have H8 := Lib.hid h7
    have HA := Lib.hid (And.intro d1 (And.intro n1 hz))
    rw [show (Z, (0 : Int)).1 = Z from rfl, hz]
    clear h2 h7 hZ n1 o1 d1 hR H7 hz
    go_wp2_with fail
    refine H2.out.mono ?_
    rintro e w2 ⟨rfl, d2⟩
    have b2 := HA.out.1.trans (d2.mono HA.out.1.size)
    have hcv : ∀ U A2 c2, Ns .u8 U U.heap.size A2 Z → (convert 23 9 (.slice A2 z c2)).run Try.prog U = .ok (.string (strOfNums Z)) U := fun U A2 c2 h => by
      have h := run_conv_ns (P := Try.prog) U 23 5 9 Try.underlying23 Try.underlying5 Try.underlying9 c2 h
      rwa [HA.out.2.2] at h
    have hk1 : ∀ U, Below w2.heap.size w2 U → (convert 23 9 (.slice A1 z c1)).run Try.prog U = .ok (.string (strOfNums Z)) U := fun U h => hcv U A1 c1 (((HA.out.2.1.below d2).more d2.size |>.below h).more h.size)
    have x0 := hk1 w2.drew ((Below.refl _ w2).drew)
    have he1 : ((strOfNums Z).toList == (strOfNums Z).toList) = true := by simp
    have HC := Lib.hid (And.intro hcv hk1)
    have HB := Lib.hid b2
    clear hcv hk1 d2 b2 H2
    go_wp2_with fail
    go_region_held (fun U => (convert 23 9 (.slice A1 z c1)).run Try.prog U = .ok (.string (strOfNums Z)) U)
      (first | exact x0 | exact x3)
      (first
      | (go_at_call 9; refine (H8.out w2.drew (H0.out.1 w2.drew HB.out.drew).1).mono ?_; rintro e w3 ⟨A3, c3, rfl, o3, d3⟩; rw [HA.out.2.2]; have b3 : Below w2.heap.size w2 w3 := ((Below.refl _ w2).drew).trans d3; have x3 := HC.out.2 w3 b3; have y3 := HC.out.1 w3 A3 c3 (own_ns o3)))
    all_goals
      have b3' := HB.out.trans (b3.mono HB.out.size)
      have HD := Lib.hid b3'
      clear b3 b3' d3 o3 x3 y3
      go_wp2_with fail
      refine (H4.out.1 w3 (H0.out.1 w3 HD.out).2).mono ?_
      rintro e w4 ⟨A4, c4, rfl, o4, d4⟩
      have b4 := HD.out.trans (d4.mono HD.out.size)
      rw [show (y, E).1 = y from rfl, H0.out.2] at o4 ⊢
      have s4 := own_ss (l := y) (by rw [H0.out.2]; exact o4)
      have HF := Lib.hid (And.intro b4 s4)
      clear b4 s4 o4 d4
      go_wp2_with fail
      refine (H4.out.2.1 w4 (H0.out.1 w4 HF.out.1).2).mono ?_
      rintro e w5 ⟨A5, c5, rfl, o5, d5⟩
      have b5 := HF.out.1.trans (d5.mono HF.out.1.size)
      rw [show (y, E).1 = y from rfl, H0.out.2] at o5 ⊢
      have s5 := own_ss (l := y) (by rw [H0.out.2]; exact o5)
      have HG := Lib.hid (And.intro b5 (And.intro s5 ((HF.out.2.below d5).more d5.size)))
      clear b5 s5 o5 d5
      go_wp2_with fail
      refine (awake_any w5).mono ?_
      rintro e w6 ⟨rfl, d6⟩
      have HI := Lib.hid (And.intro (HG.out.1.trans (d6.mono HG.out.1.size)) (And.intro ((HG.out.2.1.below d6).more d6.size) ((HG.out.2.2.below d6).more d6.size)))
      clear d6
      go_wp2_with fail
      refine (H4.out.2.2 A4 A5 c4 c5 w6 HI.out.2.2 HI.out.2.1).mono ?_
      rintro e w7 ⟨rfl, d7⟩
      have HJ := Lib.hid (HI.out.1.trans (d7.mono HI.out.1.size))
      have he2 := HE.out
      clear d7
      go_wp2_with fail
      go_ret
      exact ⟨by simp, HJ.out⟩
  · rw [show putSetF l = ([], 1) from if_neg hR] at o1 ⊢
    have h2 := H1.out.2 w1 (H0.out.1 w1 d1).1
    rw [decide_eq_false hR] at h2
    have H2 := Lib.hid h2
    have HA := Lib.hid d1
    clear h2 o1 d1 hR H7
    go_wp2_with fail
    refine H2.out.mono ?_
    rintro e w3 ⟨rfl, d2⟩
    have HD := Lib.hid (HA.out.trans (d2.mono HA.out.size))
    clear d2
    go_wp2_with fail
    refine (H4.out.1 w3 (H0.out.1 w3 HD.out).2).mono ?_
    rintro e w4 ⟨A4, c4, rfl, o4, d4⟩
    have b4 := HD.out.trans (d4.mono HD.out.size)
    rw [show (y, E).1 = y from rfl, H0.out.2] at o4 ⊢
    have s4 := own_ss (l := y) (by rw [H0.out.2]; exact o4)
    have HF := Lib.hid (And.intro b4 s4)
    clear b4 s4 o4 d4
    go_wp2_with fail
    refine (H4.out.2.1 w4 (H0.out.1 w4 HF.out.1).2).mono ?_
    rintro e w5 ⟨A5, c5, rfl, o5, d5⟩
    have b5 := HF.out.1.trans (d5.mono HF.out.1.size)
    rw [show (y, E).1 = y from rfl, H0.out.2] at o5 ⊢
    have s5 := own_ss (l := y) (by rw [H0.out.2]; exact o5)
    have HG := Lib.hid (And.intro b5 (And.intro s5 ((HF.out.2.below d5).more d5.size)))
    clear b5 s5 o5 d5
    go_wp2_with fail
    refine (awake_any w5).mono ?_
    rintro e w6 ⟨rfl, d6⟩
    have HI := Lib.hid (And.intro (HG.out.1.trans (d6.mono HG.out.1.size)) (And.intro ((HG.out.2.1.below d6).more d6.size) ((HG.out.2.2.below d6).more d6.size)))
    clear d6
    go_wp2_with fail
    refine (H4.out.2.2 A4 A5 c4 c5 w6 HI.out.2.2 HI.out.2.1).mono ?_
    rintro e w7 ⟨rfl, d7⟩
    have HJ := Lib.hid (HI.out.1.trans (d7.mono HI.out.1.size))
    have he2 := HE.out
    clear d7
    go_wp2_with fail
    go_ret
    exact ⟨by simp, HJ.out⟩
-- ROW BEGIN
set_option maxRecDepth 100000 in
/-- What the walk gives, shut again. -/
theorem contract (H : Type) (enc : TypeId × Value → H) (W : World) (base : Nat) (args : Array Value) (ds gs : List (DataW H)) (before : List MemPlace)
    (hval : ∀ (j : Nat) t v, Try.f3.params[j]? = some t → args[j]? = some v → Value.okWide Try.prog W .any base t v)
    (hW : DataW.Whole enc Try.prog Try.f3.params.toList Rows.codeSetsSpec.vars false W args.toList ds gs before)
    (hsz : (DataW.weightsEach Try.prog (Try.f3.params.toList ++ Rows.codeSetsSpec.plain.varTypes Try.prog) (ds ++ gs)).all (· ≤ reachBytes) = true) (hk : Rows.uptoSmall H (ds ++ gs) = true) :
    Calls Try.prog 3 args W fun e W' => ∃ v, e = .returned v ∧ Rows.codeSetsSpec.post enc Try.prog Try.f3 false true false false W args v W' := by
  have hW' := hW
  obtain ⟨p, q, hA0, hV, hbef, _, _⟩ := hW
  have hA : DataW.TrodAll enc Try.prog W 0 (fun _ => true) true Try.f3.params.toList args.toList ds p := hA0
  have hA1 := hA
  rw [Try.params3] at hA hval hsz
  obtain ⟨v0, vs0, d0, ds0, p0, q0, hargs, rfl, rfl, h0, r0⟩ := trodAll_cons hA
  obtain ⟨v1, vs1, d1, ds1, p1, q1, rfl, rfl, rfl, h1, r1⟩ := trodAll_cons r0
  obtain ⟨rfl, rfl, rfl⟩ := trodAll_nil r1
  obtain rfl : args = #[v0, v1] := by cases args; simp_all
  obtain ⟨rfl, rfl⟩ := trodVars_none hV
  clear hA hargs
  obtain ⟨A0, c0, a0, rfl, n0, l0, o0⟩ := Span.open_ss Try.underlying22 Try.underlying58 (by kernel_rfl) Span.cells_span Try.underlying3 Try.underlying2 Try.underlying2 (hval 0 22 v0 rfl rfl) h0
  have b0 := Span.reach_ss hsz (j := 0) rfl rfl Try.underlying22 Span.bytes_span l0 o0
  obtain ⟨A1, c1, a1, rfl, n1, w1, l1, _, o1⟩ := open_ns Try.underlying23 Try.underlying5 Facts.cells5 (hval 1 23 v1 rfl rfl) h1
  have b1 := reach_ns hsz (j := 1) rfl rfl Try.underlying23 Facts.bytes5 l1 o1
  have hbulk : a1.length ≤ 1048576 := by
    have h := Bulk.bound hk
    have e1 := Bulk.ns_le (H := H) o1 l1
    simp only [List.append_nil, Rows.uptoBulkAll] at h
    omega
  refine (walk W A0 c0 a0 n0 (by omega) l0 A1 c1 a1 n1 (fun z hz => wf_byte (w1 z hz)) (by omega) l1 hbulk).mono fun e W' ⟨he, hb⟩ => ?_
  subst he
  exact ⟨_, rfl, law_post Facts.laid (by rfl) Try.underlying4 (by rw [Try.params3]; decide +kernel) hW' hA1 rfl hbef rfl rfl rfl hb⟩

set_option maxRecDepth 100000 in
theorem lifted (os : Os) (started : os.Started) (H : Type) (enc : TypeId × Value → H) (F : Stop.Interp) :
    ReturnsInHanded {} Try.checked os 3 .any ((Rows.OpenSpec.upto Rows.codeSetsSpec).pre6 enc Try.prog Try.f3 Rows.codeSetsUptoRow.domain false) (((Rows.OpenSpec.upto Rows.codeSetsSpec).at F).post enc Try.prog Try.f3 false true false false) := by
  refine returnsInHanded_of_cond_sized (C := Try.checked) (s := Rows.OpenSpec.upto Rows.codeSetsSpec) (k := Rows.uptoSmall) rfl Facts.own started (by kernel_rfl) Try.func3
    (OpenSpec.witness (enc := enc) (C := Try.checked) (s := Rows.OpenSpec.upto Rows.codeSetsSpec) (k := Rows.uptoSmall) rfl false ⟨#[], #[.slice none 0 0, .slice none 0 0], []⟩ 8 (by kernel_rfl) (by kernel_rfl) (by kernel_rfl)
      (x := ([.nil, .nil], [], [])) (by kernel_rfl) rfl (by kernel_rfl)) ?_
  intro W base args ds gs before hval hW _ hk hsz _
  exact contract H enc W base args ds gs before hval hW hsz hk

theorem holds : Rows.CodeSetsUptoSaid :=
  OpenClaim.holds_of_cond 3 Try.f3 rfl rfl rfl rfl rfl rfl rfl ⟨rfl, rfl, rfl, rfl, rfl⟩ rfl rfl rfl rfl rfl (by kernel_rfl) Try.func3 (by kernel_rfl)
    (of_decide_eq_true (by kernel_rfl)) (by unfold Func.isWrapper; first | (rw [if_pos (by decide +kernel)]; kernel_rfl) | (rw [if_neg (by decide +kernel)]; exact ⟨rfl, rfl⟩))
    (fun os started H enc _ F => lifted os started H enc F)
-- ROW END
end CodeSets
end Go.Proofs.Ytlmjknadaegkoaa
