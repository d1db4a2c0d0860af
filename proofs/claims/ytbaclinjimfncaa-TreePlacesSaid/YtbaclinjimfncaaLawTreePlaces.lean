/-
  TreePlaces (P11.1, P11.3): a key's place, and where two lists of hashes differ, are the document's. For every input.
-/
import Derived.Test.YtbaclinjimfncaaTreeAwake
import Derived.Test.YtbaclinjimfncaaTreeDiffer
import Derived.Test.YtbaclinjimfncaaTreeArgs
import Derived.Test.YtbaclinjimfncaaGCode
namespace Go.Proofs.Ytbaclinjimfncaa
theorem Facts.cells833 : Try.prog.cellsOf 33 = 1 := by kernel_rfl
theorem Facts.bytes833 : Try.prog.bytesOf 33 = 8 := by kernel_rfl
namespace TreePlaces
open Go.ChangeShapes Go.WideShapes Go.ChangeAt Go.RowKit Vers Num Ring Disk Blk Tree
open Go.Proofs.Ytbaclinjimfncaa.Code hiding Bn
attribute [local go_sem ↓] Go.wp_at_zero Go.wp_at_succ
theorem diff_len (a b : List Int) : (diffF a b).length ≤ 16 := by
  have := dk_len a b 16
  rwa [dk_full] at this
theorem ints_same {A A' : Option Addr} (c c' n n' : Nat) (l : List Int) (hn : l.length = n) (hn' : l.length = n') (hb : l.length ≤ 16) (w : World) (hr : Ns .i64 w w.heap.size A l) (hr' : Ns .i64 w w.heap.size A' l) :
    Calls Try.prog 5 #[.slice A n c, .slice A' n' c'] w fun e w' => e = .returned (.bool true) ∧ Below w.heap.size w w' := by
  have h := sints_any A A' c c' n n' l l hn hn' w hr hr' (by omega) (by omega)
  rwa [decide_eq_true rfl] at h
set_option maxRecDepth 100000 in
set_option maxHeartbeats 8000000 in
theorem walk (w : World) (key : Nm) (hk : key.size ≤ 140737488355328) (A : Option Addr) (c : Nat) (a : List Int) (ha : Ns .u64 w w.heap.size A a) (_hwa : ∀ z ∈ a, (Lit.int .u64 z).wf = true) (_hab : a.length * 8 ≤ 140737488351232) (_hac : a.length ≤ c) (A' : Option Addr) (c' : Nat) (b : List Int) (hb : Ns .u64 w w.heap.size A' b) (_hwb : ∀ z ∈ b, (Lit.int .u64 z).wf = true) (_hbb : b.length * 8 ≤ 140737488351232) (_hbc : b.length ≤ c') :
    Calls Try.prog 3 #[.string key, .slice A a.length c, .slice A' b.length c'] w fun e w' => e = .returned (.bool true) ∧ Below w.heap.size w w' := by
  obtain ⟨n, hn⟩ : ∃ n, a.length = n := ⟨_, rfl⟩
  obtain ⟨m, hm⟩ : ∃ m, b.length = m := ⟨_, rfl⟩
  rw [hn, hm]
  have HZ := Lib.hid (And.intro ha (And.intro hn (And.intro hb hm)))
  have H0 := Lib.hid (awake_any w)
  clear ha hn hb hm _hwa _hab _hac _hwb _hbb _hbc
  go_enter Try.func3, Try.ntmps3
  go_wp2_with fail
  refine H0.out.mono ?_
  rintro e1 w1 ⟨rfl, b1⟩
  have H1 := Lib.hid (place_any key w1 hk)
  have B1 := Lib.hid b1
  clear b1 H0
  go_wp2_with fail
  refine H1.out.mono ?_
  rintro e2 w2 ⟨g2, rfl, h2, b2⟩
  have H2 := Lib.hid (ref_place_any key w2 hk)
  have HN2 := Lib.hid h2.out.1
  have B2 := Lib.hid (B1.out.trans (b2.mono B1.out.size))
  clear h2 b2 H1 B1
  go_wp2_with fail
  refine H2.out.mono ?_
  rintro e3 w3 ⟨g3, rfl, h3, b3⟩
  have H3 := Lib.hid (ints_same 2 2 2 2 [dig0 key, dig1 key] rfl rfl (by simp) w3 ((HN2.out.below b3).more b3.size) h3.out.1)
  have B3 := Lib.hid (B2.out.trans (b3.mono B2.out.size))
  clear h3 b3 H2 B2 HN2
  go_wp2_with fail
  refine H3.out.mono ?_
  rintro e4 w4 ⟨rfl, b4⟩
  have b4' := B3.out.trans (b4.mono B3.out.size)
  have H4 := Lib.hid (differ_any A A' c c' n m a b HZ.out.2.1 HZ.out.2.2.2 w4 ((HZ.out.1.below b4').more b4'.size) ((HZ.out.2.2.1.below b4').more b4'.size))
  have B4 := Lib.hid b4'
  clear b4 b4' H3 B3
  go_wp2_with fail
  refine H4.out.mono ?_
  rintro e5 w5 ⟨A5, m5, c5, rfl, h5, b5⟩
  have b5' := B4.out.trans (b5.mono B4.out.size)
  have H5 := Lib.hid (ref_differ_any A A' c c' n m a b HZ.out.2.1 HZ.out.2.2.2 w5 ((HZ.out.1.below b5').more b5'.size) ((HZ.out.2.2.1.below b5').more b5'.size))
  have HN5 : Hid ((diffF a b).length = m5 ∧ Ns .i64 w5 w5.heap.size A5 (diffF a b)) := Lib.hid ⟨h5.out.1, own_ns (c := c5) (n := m5) (by rw [h5.out.1]; exact h5.out.2.2)⟩
  have B5 := Lib.hid b5'
  clear h5 b5 b5' H4 B4
  go_wp2_with fail
  refine H5.out.mono ?_
  rintro e6 w6 ⟨A6, m6, c6, rfl, h6, b6⟩
  have H6 := Lib.hid (ints_same c5 c6 m5 m6 (diffF a b) HN5.out.1 h6.out.1 (diff_len a b) w6 ((HN5.out.2.below b6).more b6.size) (own_ns (c := c6) (n := m6) (by rw [h6.out.1]; exact h6.out.2.2)))
  have B6 := Lib.hid (B5.out.trans (b6.mono B5.out.size))
  clear h6 b6 H5 B5 HN5
  go_wp2_with fail
  refine H6.out.mono ?_
  rintro e7 w7 ⟨rfl, b7⟩
  have HE := Lib.hid (B6.out.trans (b7.mono B6.out.size))
  clear b7 H6 B6
  go_wp2_with fail
  go_ret
  exact ⟨rfl, HE.out⟩
-- ROW BEGIN
set_option maxRecDepth 100000 in
/-- What the walk gives, shut again. -/
theorem contract (H : Type) (enc : TypeId × Value → H) (W : World) (base : Nat) (args : Array Value) (ds gs : List (DataW H)) (before : List MemPlace)
    (hval : ∀ (j : Nat) t v, Try.f3.params[j]? = some t → args[j]? = some v → Value.okWide Try.prog W .any base t v)
    (hW : DataW.Whole enc Try.prog Try.f3.params.toList Rows.treePlacesSpec.vars false W args.toList ds gs before)
    (hsz : (DataW.weightsEach Try.prog (Try.f3.params.toList ++ Rows.treePlacesSpec.plain.varTypes Try.prog) (ds ++ gs)).all (· ≤ reachBytes) = true) :
    Calls Try.prog 3 args W fun e W' => ∃ v, e = .returned v ∧ Rows.treePlacesSpec.post enc Try.prog Try.f3 false true false false W args v W' := by
  have hW' := hW
  obtain ⟨p, q, hA0, hV, hbef, _, _⟩ := hW
  have hA : DataW.TrodAll enc Try.prog W 0 (fun _ => true) true Try.f3.params.toList args.toList ds p := hA0
  have hA1 := hA
  rw [Try.params3] at hA hval hsz
  obtain ⟨v0, vs0, d0, ds0, p0, q0, hargs, rfl, rfl, h0, r0⟩ := trodAll_cons hA
  obtain ⟨v1, vs1, d1, ds1, p1, q1, rfl, rfl, rfl, h1, r1⟩ := trodAll_cons r0
  obtain ⟨v2, vs2, d2, ds2, p2, q2, rfl, rfl, rfl, h2, r2⟩ := trodAll_cons r1
  obtain ⟨rfl, rfl, rfl⟩ := trodAll_nil r2
  obtain rfl : args = #[v0, v1, v2] := by cases args; simp_all
  obtain ⟨rfl, rfl⟩ := trodVars_none hV
  clear hA hargs
  obtain ⟨a0, rfl, rfl, _, w0⟩ := Go.ChangeMaps.open_string Try.underlying9 (hval 0 9 v0 rfl rfl) h0
  have b0 : a0.size ≤ 140737488351232 := by
    have h9 := sized_string hsz (j := 0) rfl rfl
    have h3 : reachBytes = 140737488351232 := by decide
    have h4 : a0.data.toList.length = a0.size := by rw [Array.length_toList]; rfl
    omega
  obtain ⟨A1, c1, a1, rfl, n1, w1, l1, _, o1⟩ := open_ns Try.underlying22 Try.underlying33 Facts.cells833 (hval 1 22 v1 rfl rfl) h1
  have b1 := reach_ns hsz (j := 1) rfl rfl Try.underlying22 Facts.bytes833 l1 o1
  obtain ⟨A2, c2, a2, rfl, n2, w2, l2, _, o2⟩ := open_ns Try.underlying22 Try.underlying33 Facts.cells833 (hval 2 22 v2 rfl rfl) h2
  have b2 := reach_ns hsz (j := 2) rfl rfl Try.underlying22 Facts.bytes833 l2 o2
  refine (walk W a0 (by omega) A1 c1 a1 n1 w1 (by omega) l1 A2 c2 a2 n2 w2 (by omega) l2).mono fun e W' ⟨he, hb⟩ => ?_
  subst he
  exact ⟨_, rfl, law_post Facts.laid (by rfl) Try.underlying4 (by rw [Try.params3]; decide +kernel) hW' hA1 rfl hbef rfl rfl rfl hb⟩

set_option maxRecDepth 100000 in
theorem lifted (os : Os) (started : os.Started) (H : Type) (enc : TypeId × Value → H) :
    ReturnsInHanded {} Try.checked os 3 .any (Rows.treePlacesSpec.pre6 enc Try.prog Try.f3 Rows.treePlacesRow.domain false) (Rows.treePlacesSpec.post enc Try.prog Try.f3 false true false false) := by
  refine returnsInHanded_of_change_sized (C := Try.checked) Facts.own started (by kernel_rfl) Try.func3
    (ChangeSpec.witness6 (enc := enc) (C := Try.checked) false ⟨#[], #[.string ⟨#[]⟩, .slice none 0 0, .slice none 0 0], []⟩ 8 (by kernel_rfl) (by kernel_rfl) (by kernel_rfl) (by kernel_rfl)) ?_
  intro W base args ds gs before hval hW _ hsz _
  exact contract H enc W base args ds gs before hval hW hsz

theorem holds : Rows.TreePlacesSaid :=
  OpenClaim.holds_of_wide 3 Try.f3 rfl rfl rfl rfl rfl rfl rfl ⟨rfl, rfl, rfl, rfl, rfl⟩ rfl rfl rfl rfl rfl (by kernel_rfl) Try.func3 (by kernel_rfl)
    (of_decide_eq_true (by kernel_rfl)) (by unfold Func.isWrapper; first | (rw [if_pos (by decide +kernel)]; kernel_rfl) | (rw [if_neg (by decide +kernel)]; exact ⟨rfl, rfl⟩))
    (fun os started H enc _ => lifted os started H enc)
-- ROW END
end TreePlaces
end Go.Proofs.Ytbaclinjimfncaa
