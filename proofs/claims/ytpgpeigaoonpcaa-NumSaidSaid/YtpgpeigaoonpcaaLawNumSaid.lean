/-
  NumSaid (P1.3): a number is read from its own digits; digits that are read are the number's own. For every input.
-/
import Derived.Test.YtpgpeigaoonpcaaDigits
import Derived.Test.YtpgpeigaoonpcaaRead
import Derived.Test.YtpgpeigaoonpcaaDigPlain
namespace Go.Proofs.Ytpgpeigaoonpcaa
namespace NumSaid
open Go.ChangeShapes Go.WideShapes Go.ChangeAt Go.RowKit Num

theorem walk (w : World) (n : Int) (hn : -9223372036854775808 ≤ n ∧ n ≤ 9223372036854775807) (s : ByteArray) (hs : s.size ≤ 140737488351232) :
    Calls Try.prog 9 #[.int .i64 n, .string s] w fun e w' => e = .returned (.bool true) ∧ Below w.heap.size w w' := by
  have h1 := fun W => digits_any n hn W
  have h2 : ∀ W, Calls Try.prog 24 #[.string (strOfNums (digL n))] W (Tells2 (readF (digL n)) W) := fun W => by
    have h := read_any (strOfNums (digL n)) (by rw [strOfNums_size]; have := decF_len 19 (-n) []; have := decF_len 19 n []; unfold digL; split <;> simp at * <;> omega) W
    rw [strNums_of _ (digL_bytes n)] at h
    exact h
  have h3 := fun W => read_any s (by omega) W
  have hG : ∀ k, readF (strNums s) = (k, 0) → digL k = strNums s ∧ 0 ≤ k ∧ k ≤ 9223372036854775807 := fun k => dig_read _ k
  obtain ⟨⟨k, e⟩, hF⟩ : ∃ r, readF (strNums s) = r := ⟨_, rfl⟩
  rw [hF] at h3 hG
  have h4 : e = 0 → ∀ W, Calls Try.prog 26 #[.int .i64 k] W (fun r W' => r = .returned (.string s) ∧ Below W.heap.size W W') := by
    rintro rfl W
    obtain ⟨g1, g2, g3⟩ := hG k rfl
    have h := digits_any k (by omega) W
    rw [g1] at h
    unfold MadeStr at h
    rw [strOf_nums] at h
    exact h
  have H3 := Lib.hid h3
  clear h3 hF hG
  by_cases h0 : n < 0
  · rw [read_neg n h0] at h2
    obtain ⟨L, hL⟩ : ∃ L, digL n = L := ⟨_, rfl⟩
    rw [hL] at h1 h2
    have H1 := Lib.hid h1
    have H2 := Lib.hid h2
    clear h1 h2 hL
    by_cases he : e = 0
    · subst he
      have H4 := Lib.hid (h4 rfl)
      clear h4
      go_enter Try.func9, Try.ntmps9
      go_wp2_with fail
      refine (H1.out _).mono ?_
      rintro e1 w1 ⟨rfl, b1⟩
      go_wp2_with fail
      refine (H2.out _).mono ?_
      rintro e1 w2 ⟨rfl, rfl⟩
      go_wp2_with fail
      refine (H3.out _).mono ?_
      rintro e1 w2 ⟨rfl, rfl⟩
      go_wp2_with fail
      refine (H4.out _).mono ?_
      rintro e1 w2 ⟨rfl, b2⟩
      go_wp2_with fail
      go_ret
      exact ⟨rfl, b1.trans (b2.mono b1.size)⟩
    · have heb : (e == 0) = false := by simpa using he
      have heb2 : (e != 0) = true := by simpa using he
      clear h4 he
      go_enter Try.func9, Try.ntmps9
      go_wp2_with fail
      refine (H1.out _).mono ?_
      rintro e1 w1 ⟨rfl, b1⟩
      go_wp2_with fail
      refine (H2.out _).mono ?_
      rintro e1 w2 ⟨rfl, rfl⟩
      go_wp2_with fail
      refine (H3.out _).mono ?_
      rintro e1 w2 ⟨rfl, rfl⟩
      go_wp2_with fail
      go_ret
      exact ⟨rfl, b1⟩
  · rw [read_dig n (by omega) hn.2] at h2
    have h0' : 0 ≤ n := by omega
    clear h0
    obtain ⟨L, hL⟩ : ∃ L, digL n = L := ⟨_, rfl⟩
    rw [hL] at h1 h2
    have H1 := Lib.hid h1
    have H2 := Lib.hid h2
    clear h1 h2 hL
    by_cases he : e = 0
    · subst he
      have H4 := Lib.hid (h4 rfl)
      clear h4
      go_enter Try.func9, Try.ntmps9
      go_wp2_with fail
      refine (H1.out _).mono ?_
      rintro e1 w1 ⟨rfl, b1⟩
      go_wp2_with fail
      refine (H2.out _).mono ?_
      rintro e1 w2 ⟨rfl, rfl⟩
      go_wp2_with fail
      refine (H3.out _).mono ?_
      rintro e1 w2 ⟨rfl, rfl⟩
      go_wp2_with fail
      refine (H4.out _).mono ?_
      rintro e1 w2 ⟨rfl, b2⟩
      go_wp2_with fail
      go_ret
      exact ⟨rfl, b1.trans (b2.mono b1.size)⟩
    · have heb : (e == 0) = false := by simpa using he
      have heb2 : (e != 0) = true := by simpa using he
      clear h4 he
      go_enter Try.func9, Try.ntmps9
      go_wp2_with fail
      refine (H1.out _).mono ?_
      rintro e1 w1 ⟨rfl, b1⟩
      go_wp2_with fail
      refine (H2.out _).mono ?_
      rintro e1 w2 ⟨rfl, rfl⟩
      go_wp2_with fail
      refine (H3.out _).mono ?_
      rintro e1 w2 ⟨rfl, rfl⟩
      go_wp2_with fail
      go_ret
      exact ⟨rfl, b1⟩

-- ROW BEGIN
/-- What the walk gives, shut again. -/
theorem contract (H : Type) (enc : TypeId × Value → H) (W : World) (base : Nat) (args : Array Value) (ds gs : List (DataW H)) (before : List MemPlace)
    (hval : ∀ (j : Nat) t v, Try.f9.params[j]? = some t → args[j]? = some v → Value.okWide Try.prog W .any base t v)
    (hW : DataW.Whole enc Try.prog Try.f9.params.toList Rows.numSaidSpec.vars false W args.toList ds gs before)
    (hsz : (DataW.weightsEach Try.prog (Try.f9.params.toList ++ Rows.numSaidSpec.plain.varTypes Try.prog) (ds ++ gs)).all (· ≤ reachBytes) = true) :
    Calls Try.prog 9 args W fun e W' => ∃ v, e = .returned v ∧ Rows.numSaidSpec.post enc Try.prog Try.f9 false true false false W args v W' := by
  have hW' := hW
  obtain ⟨p, q, hA0, hV, hbef, _, _⟩ := hW
  have hA : DataW.TrodAll enc Try.prog W 0 (fun _ => true) true Try.f9.params.toList args.toList ds p := hA0
  have hA1 := hA
  rw [Try.params9] at hA hval hsz
  obtain ⟨v0, vs0, d0, ds0, p0, q0, hargs, rfl, rfl, h0, r0⟩ := trodAll_cons hA
  obtain ⟨v1, vs1, d1, ds1, p1, q1, rfl, rfl, rfl, h1, r1⟩ := trodAll_cons r0
  obtain ⟨rfl, rfl, rfl⟩ := trodAll_nil r1
  obtain rfl : args = #[v0, v1] := by cases args; simp_all
  obtain ⟨rfl, rfl⟩ := trodVars_none hV
  clear hA hargs
  obtain ⟨a0, rfl, rfl, _, w0⟩ := open_int Try.underlying2 (hval 0 2 v0 rfl rfl) h0
  obtain ⟨a1, rfl, rfl, _, w1⟩ := Go.ChangeMaps.open_string Try.underlying9 (hval 1 9 v1 rfl rfl) h1
  have b1 : a1.size ≤ 140737488351232 := by
    have h9 := sized_string hsz (j := 1) rfl rfl
    have h3 : reachBytes = 140737488351232 := by decide
    have h4 : a1.data.toList.length = a1.size := by rw [Array.length_toList]; rfl
    omega
  refine (walk W a0 (wf_int w0) a1 (by omega)).mono fun e W' ⟨he, hb⟩ => ?_
  subst he
  exact ⟨_, rfl, law_post Facts.laid (by rfl) Try.underlying4 (by rw [Try.params9]; decide +kernel) hW' hA1 rfl hbef rfl rfl rfl hb⟩

set_option maxRecDepth 100000 in
theorem lifted (os : Os) (started : os.Started) (H : Type) (enc : TypeId × Value → H) :
    ReturnsInHanded {} Try.checked os 9 .any (Rows.numSaidSpec.pre6 enc Try.prog Try.f9 Rows.numSaidRow.domain false) (Rows.numSaidSpec.post enc Try.prog Try.f9 false true false false) := by
  refine returnsInHanded_of_change_sized (C := Try.checked) Facts.own started (by kernel_rfl) Try.func9
    (ChangeSpec.witness6 (enc := enc) (C := Try.checked) false ⟨#[], #[.int .i64 0, .string ⟨#[]⟩], []⟩ 8 (by kernel_rfl) (by kernel_rfl) (by kernel_rfl) (by kernel_rfl)) ?_
  intro W base args ds gs before hval hW _ hsz _
  exact contract H enc W base args ds gs before hval hW hsz

theorem holds : Rows.NumSaidSaid :=
  OpenClaim.holds_of_wide 9 Try.f9 rfl rfl rfl rfl rfl rfl rfl ⟨rfl, rfl, rfl, rfl, rfl⟩ rfl rfl rfl rfl rfl (by kernel_rfl) Try.func9 (by kernel_rfl)
    (of_decide_eq_true (by kernel_rfl)) (by unfold Func.isWrapper; first | (rw [if_pos (by decide +kernel)]; kernel_rfl) | (rw [if_neg (by decide +kernel)]; exact ⟨rfl, rfl⟩))
    (fun os started H enc _ => lifted os started H enc)
-- ROW END
end NumSaid
end Go.Proofs.Ytpgpeigaoonpcaa
