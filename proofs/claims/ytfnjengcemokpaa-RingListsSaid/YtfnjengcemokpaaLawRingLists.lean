/-
  RingLists (P12.1, P12.2): who keeps a partition, in which order, and who is left, are the document's. For every input.
-/
import Derived.Test.YtfnjengcemokpaaRingAwake
namespace Go.Proofs.Ytfnjengcemokpaa
namespace RingLists
open Go.ChangeShapes Go.WideShapes Go.ChangeAt Go.RowKit Ring
attribute [local go_sem ↓] Go.wp_at_zero Go.wp_at_succ

set_option maxRecDepth 100000 in
set_option maxHeartbeats 1000000 in
theorem walk (w : World) (A : Option Addr) (c : Nat) (ms : List Int) (hr : Ns .i64 w w.heap.size A ms) (_hm : ∀ z ∈ ms, -9223372036854775808 ≤ z ∧ z ≤ 9223372036854775807) (hbig : ms.length ≤ 140737488351232) (_hlc : ms.length ≤ c) (part : Int) (_hp : -9223372036854775808 ≤ part ∧ part ≤ 9223372036854775807) (x : Int) (_hx : -9223372036854775808 ≤ x ∧ x ≤ 9223372036854775807) :
    Calls Try.prog 3 #[.slice A ms.length c, .int .i64 part, .int .i64 x] w fun e w' => e = .returned (.bool true) ∧ Below w.heap.size w w' := by
  have hS : ∀ W, Below w.heap.size w W → Ns .i64 W W.heap.size A ms := fun W h => (hr.below h).more h.size
  have h1 := fun W h => rightM_any A c ms.length ms rfl W (hS W h) (by omega)
  have h2 := fun W h => ref_rightM_any A c ms.length ms rfl W (hS W h) (by omega)
  have h3 := fun W h => list_any A c ms.length ms rfl part x W (hS W h) (by omega)
  have h4 := fun W h => ref_list_any A c ms.length ms rfl part x W (hS W h) (by omega)
  have h5 := fun W h => rest_any A c ms.length ms rfl part x W (hS W h) (by omega)
  have h6 := fun W h => ref_rest_any A c ms.length ms rfl part x W (hS W h) (by omega)
  obtain ⟨Q, hQ⟩ : ∃ Q, decide (RightM ms) = Q := ⟨_, rfl⟩
  rw [hQ] at h1 h2
  obtain ⟨n, hn⟩ : ∃ n, ms.length = n := ⟨_, rfl⟩
  rw [hn] at h1 h2 h3 h4 h5 h6 hbig
  rw [hn]
  obtain ⟨L, hL⟩ : ∃ L, listF ms part x = L := ⟨_, rfl⟩
  obtain ⟨R, hR⟩ : ∃ R, restF ms part x = R := ⟨_, rfl⟩
  obtain ⟨k, hk⟩ : ∃ k, L.length = k := ⟨_, rfl⟩
  obtain ⟨l, hl⟩ : ∃ l, R.length = l := ⟨_, rfl⟩
  have HL := Lib.hid (list_got hL hk)
  have HR := Lib.hid (rest_got hR hl)
  have h7 := fun A A' c c' W h h' (hs : k ≤ 8) => ints_any A A' c c' k k L L hk hk W h h' (by omega) (by omega)
  have h8 := fun A A' c c' W h h' (hs : l ≤ 8) => ints_any A A' c c' l l R R hl hl W h h' (by omega) (by omega)
  rw [show decide (L = L) = true from decide_eq_true rfl] at h7
  rw [show decide (R = R) = true from decide_eq_true rfl] at h8
  have H1 := Lib.hid h1
  have H2 := Lib.hid h2
  have H3 := Lib.hid h3
  have H4 := Lib.hid h4
  have H5 := Lib.hid h5
  have H6 := Lib.hid h6
  have H7 := Lib.hid h7
  have H8 := Lib.hid h8
  clear h1 h2 h3 h4 h5 h6 h7 h8 hS hr hn hQ hL hR hk hl
  go_enter Try.func3, Try.ntmps3
  go_wp2_with fail
  refine (awake_any w).mono ?_
  rintro e w0 ⟨rfl, b0⟩
  have B0 := Lib.hid b0
  clear b0
  go_wp2_with fail
  refine (H1.out w0 B0.out).mono ?_
  rintro e w1 ⟨rfl, b1⟩
  have B1 := Lib.hid (B0.out.trans (b1.mono B0.out.size))
  clear b1
  go_wp2_with fail
  refine (H2.out w1 B1.out).mono ?_
  rintro e w2 ⟨rfl, b2⟩
  have B2 := Lib.hid (B1.out.trans (b2.mono B1.out.size))
  clear b2
  have g : (Q == Q) = true := by simp
  go_wp2_with fail
  refine (H3.out w2 B2.out).mono ?_
  rintro e w3 hl
  obtain ⟨A3, c3, rfl, hc3, hk8, o3, b3⟩ := HL.out _ _ _ hl
  have B3 := Lib.hid (B2.out.trans (b3.mono B2.out.size))
  clear b3 hl
  go_wp2_with fail
  refine (H4.out w3 B3.out).mono ?_
  rintro e w4 hl
  obtain ⟨A4, c4, rfl, hc4, _, o4, b4⟩ := HL.out _ _ _ hl
  have B4 := Lib.hid (B3.out.trans (b4.mono B3.out.size))
  have O4 := Lib.hid (And.intro ((o3.below b4).more b4.size) o4)
  clear b4 o3 o4 hl
  go_wp2_with fail
  refine (H7.out A3 A4 c3 c4 w4 O4.out.1 O4.out.2 hk8).mono ?_
  rintro e w5 ⟨rfl, b5⟩
  have B5 := Lib.hid (B4.out.trans (b5.mono B4.out.size))
  clear b5
  go_wp2_with fail
  refine (H5.out w5 B5.out).mono ?_
  rintro e w6 hl
  obtain ⟨A6, c6, rfl, hc6, hl8, o6, b6⟩ := HR.out _ _ _ hl
  have B6 := Lib.hid (B5.out.trans (b6.mono B5.out.size))
  clear b6 hl
  go_wp2_with fail
  refine (H6.out w6 B6.out).mono ?_
  rintro e w7 hl
  obtain ⟨A7, c7, rfl, hc7, _, o7, b7⟩ := HR.out _ _ _ hl
  have B7 := Lib.hid (B6.out.trans (b7.mono B6.out.size))
  have O7 := Lib.hid (And.intro ((o6.below b7).more b7.size) o7)
  clear b7 o6 o7 hl
  go_wp2_with fail
  refine (H8.out A6 A7 c6 c7 w7 O7.out.1 O7.out.2 hl8).mono ?_
  rintro e w8 ⟨rfl, b8⟩
  have B8 := Lib.hid (B7.out.trans (b8.mono B7.out.size))
  clear b8
  go_wp2_with fail
  go_ret
  exact ⟨rfl, B8.out⟩

-- ROW BEGIN
/-- What the walk gives, shut again. -/
theorem contract (H : Type) (enc : TypeId × Value → H) (W : World) (base : Nat) (args : Array Value) (ds gs : List (DataW H)) (before : List MemPlace)
    (hval : ∀ (j : Nat) t v, Try.f3.params[j]? = some t → args[j]? = some v → Value.okWide Try.prog W .any base t v)
    (hW : DataW.Whole enc Try.prog Try.f3.params.toList Rows.ringListsSpec.vars false W args.toList ds gs before)
    (hsz : (DataW.weightsEach Try.prog (Try.f3.params.toList ++ Rows.ringListsSpec.plain.varTypes Try.prog) (ds ++ gs)).all (· ≤ reachBytes) = true) :
    Calls Try.prog 3 args W fun e W' => ∃ v, e = .returned v ∧ Rows.ringListsSpec.post enc Try.prog Try.f3 false true false false W args v W' := by
  have hW' := hW
  obtain ⟨p, q, hA0, hV, hbef, _, _⟩ := hW
  have hA : DataW.TrodAll enc Try.prog W 0 (fun _ => true) true Try.f3.params.toList args.toList ds p := hA0
  have hA1 := hA
  rw [Try.params3] at hA hval hsz
  obtain ⟨v0, vs0, d0, ds0, p0, q0, hargs, rfl, rfl, h0, r0⟩ := trodAll_cons hA
  obtain ⟨v1, vs1, d1, ds1, p1, q1, rfl, rfl, rfl, h1, r1⟩ := trodAll_cons r0
  obtain ⟨v2, vs2, d2, ds2, p2, q2, rfl, rfl, rfl, h2, r2⟩ := trodAll_cons r1
  obtain ⟨rfl, rfl, rfl⟩ := trodAll_nil r2
  obtain rfl : args = #[v0, v1, v2] := by cases args; simp_all
  obtain ⟨rfl, rfl⟩ := trodVars_none hV
  clear hA hargs
  obtain ⟨A0, c0, a0, rfl, n0, w0, l0, _, o0⟩ := open_ns Try.underlying22 Try.underlying3 Facts.cells3 (hval 0 22 v0 rfl rfl) h0
  have b0 := reach_ns hsz (j := 0) rfl rfl Try.underlying22 Facts.bytes3 l0 o0
  obtain ⟨a1, rfl, rfl, _, w1⟩ := open_int Try.underlying3 (hval 1 3 v1 rfl rfl) h1
  obtain ⟨a2, rfl, rfl, _, w2⟩ := open_int Try.underlying3 (hval 2 3 v2 rfl rfl) h2
  refine (walk W A0 c0 a0 n0 (fun z hz => wf_int (w0 z hz)) (by omega) l0 a1 (wf_int w1) a2 (wf_int w2)).mono fun e W' ⟨he, hb⟩ => ?_
  subst he
  exact ⟨_, rfl, law_post Facts.laid (by rfl) Try.underlying4 (by rw [Try.params3]; decide +kernel) hW' hA1 rfl hbef rfl rfl rfl hb⟩

set_option maxRecDepth 100000 in
theorem lifted (os : Os) (started : os.Started) (H : Type) (enc : TypeId × Value → H) :
    ReturnsInHanded {} Try.checked os 3 .any (Rows.ringListsSpec.pre6 enc Try.prog Try.f3 Rows.ringListsRow.domain false) (Rows.ringListsSpec.post enc Try.prog Try.f3 false true false false) := by
  refine returnsInHanded_of_change_sized (C := Try.checked) Facts.own started (by kernel_rfl) Try.func3
    (ChangeSpec.witness6 (enc := enc) (C := Try.checked) false ⟨#[], #[.slice none 0 0, .int .i64 0, .int .i64 0], []⟩ 8 (by kernel_rfl) (by kernel_rfl) (by kernel_rfl) (by kernel_rfl)) ?_
  intro W base args ds gs before hval hW _ hsz _
  exact contract H enc W base args ds gs before hval hW hsz

theorem holds : Rows.RingListsSaid :=
  OpenClaim.holds_of_wide 3 Try.f3 rfl rfl rfl rfl rfl rfl rfl ⟨rfl, rfl, rfl, rfl, rfl⟩ rfl rfl rfl rfl rfl (by kernel_rfl) Try.func3 (by kernel_rfl)
    (of_decide_eq_true (by kernel_rfl)) (by unfold Func.isWrapper; first | (rw [if_pos (by decide +kernel)]; kernel_rfl) | (rw [if_neg (by decide +kernel)]; exact ⟨rfl, rfl⟩))
    (fun os started H enc _ => lifted os started H enc)
-- ROW END
end RingLists
end Go.Proofs.Ytfnjengcemokpaa
