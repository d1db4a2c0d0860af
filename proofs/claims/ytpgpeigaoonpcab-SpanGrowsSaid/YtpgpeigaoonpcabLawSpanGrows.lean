/-
  SpanGrows (P3.2, P3.4): joining is without order and brackets, and doing it twice is doing it once. For every input.
-/
import Derived.Test.YtpgpeigaoonpcabSpanAwake
import Derived.Test.YtpgpeigaoonpcabSpanRow
namespace Go.Proofs.Ytpgpeigaoonpcab
namespace SpanGrows
open Go.ChangeShapes Go.WideShapes Go.ChangeAt Go.RowKit Span
attribute [local go_sem ↓] Go.wp_at_zero Go.wp_at_succ

/-- An answer of Join, read: k is how long it is. -/
theorem post_read {L : List Sp} {E : Int} {k : Nat} (hk : L.length = k) (w : World) (e : Ending) (w' : World) (h : JoinPost L E w e w') :
    ∃ A c, e = .returned (.tuple #[.slice A k c, .int .i64 E]) ∧ Ss w' w'.heap.size A L ∧ Below w.heap.size w w' := by
  obtain ⟨A, c, rfl, o, b⟩ := h
  exact ⟨A, c, by rw [hk], own_ss o, b⟩

theorem join_none {a b : List Sp} (h : ¬ joinE a b = 0) : joinL a b = [] := if_neg h
theorem join_assoc {a b c X Y : List Sp} (ha : Right a) (hc : Right c) (hX : Right X) (hY : Right Y) (h1 : IsJoin a b X) (h2 : IsJoin b c Y) : joinE X c = joinE a Y ∧ joinL X c = joinL a Y ∧ (joinE X c = 0 ∨ joinE X c = 30) := by
  obtain ⟨hr, _⟩ := joinOf_is hX.2 hc.2.1
  obtain ⟨r, hR⟩ : ∃ r, joinOf X c = r := ⟨_, rfl⟩
  rw [hR] at hr
  have hr' : IsJoin a Y r := ⟨hr.1, fun s n => by rw [hr.2, h1.2, h2.2, or_assoc]⟩
  by_cases hl : r.length ≤ 1024
  · obtain ⟨e1, l1⟩ := join_good hX hc hr hl
    obtain ⟨e2, l2⟩ := join_good ha hY hr' hl
    exact ⟨by rw [e1, e2], by rw [l1, l2], .inl e1⟩
  · obtain ⟨e1, l1⟩ := join_long hX hc hr (by omega)
    obtain ⟨e2, l2⟩ := join_long ha hY hr' (by omega)
    exact ⟨by rw [e1, e2], by rw [l1, l2], .inr e1⟩
theorem join_again {a b X : List Sp} (hb : Right b) (hX : Right X) (h1 : IsJoin a b X) : joinE X b = 0 ∧ joinL X b = X :=
  join_good hX hb ⟨hX.2, fun s n => ⟨.inl, fun h => h.elim id fun h => (h1.2 s n).2 (.inr h)⟩⟩ hX.1

set_option maxHeartbeats 2000000 in
theorem walk (w : World) (A : Option Addr) (c : Nat) (a : List Sp) (hr : Ss w w.heap.size A a) (hbig : a.length ≤ 140737488351232) (_hlc : a.length ≤ c)
    (A' : Option Addr) (c' : Nat) (b : List Sp) (hr' : Ss w w.heap.size A' b) (hbig' : b.length ≤ 140737488351232) (_hlc' : b.length ≤ c')
    (A'' : Option Addr) (c'' : Nat) (d : List Sp) (hr'' : Ss w w.heap.size A'' d) (hbig'' : d.length ≤ 140737488351232) (_hlc'' : d.length ≤ c'') :
    Calls Try.prog 9 #[.slice A a.length c, .slice A' b.length c', .slice A'' d.length c''] w fun e w' => e = .returned (.bool true) ∧ Below w.heap.size w w' := by
  have hS : ∀ W, Below w.heap.size w W → Ss W W.heap.size A a ∧ Ss W W.heap.size A' b ∧ Ss W W.heap.size A'' d := fun W h => ⟨(hr.below h).more h.size, (hr'.below h).more h.size, (hr''.below h).more h.size⟩
  have h1 := fun W h => join_any A A' c c' a.length b.length a b rfl rfl W (hS W h).1 (hS W h).2.1 (by omega) (by omega)
  have h2 := fun W h => join_any A' A'' c' c'' b.length d.length b d rfl rfl W (hS W h).2.1 (hS W h).2.2 (by omega) (by omega)
  have h3 := fun AX cX W h hx => join_any AX A'' cX c'' (joinL a b).length d.length (joinL a b) d rfl rfl W hx (hS W h).2.2 (by have := joinL_len a b; omega) (by omega)
  have h4 := fun AY cY W h hy => join_any A AY c cY a.length (joinL b d).length a (joinL b d) rfl rfl W (hS W h).1 hy (by omega) (by have := joinL_len b d; omega)
  have h5 := fun AX cX W h hx => join_any AX A' cX c' (joinL a b).length b.length (joinL a b) b rfl rfl W hx (hS W h).2.1 (by have := joinL_len a b; omega) (by omega)
  have hX := joinL_len a b
  have hY := joinL_len b d
  have hn1 := @join_none a b
  have hn2 := @join_none b d
  have hgood : joinE a b = 0 → joinE b d = 0 → (joinE (joinL a b) d = joinE a (joinL b d) ∧ joinL (joinL a b) d = joinL a (joinL b d) ∧ (joinE (joinL a b) d = 0 ∨ joinE (joinL a b) d = 30)) ∧ joinE (joinL a b) b = 0 ∧ joinL (joinL a b) b = joinL a b := by
    intro e1 e2
    obtain ⟨p1, p2, p3, p4⟩ := joinE_zero e1
    obtain ⟨q1, q2, q3, q4⟩ := joinE_zero e2
    exact ⟨join_assoc p1 q2 p4 q4 p3 q3, join_again p2 p4 p3⟩
  have hU := joinL_len a (joinL b d)
  obtain ⟨m, hm⟩ : ∃ m, a.length = m := ⟨_, rfl⟩
  obtain ⟨m', hm'⟩ : ∃ m', b.length = m' := ⟨_, rfl⟩
  obtain ⟨m'', hm''⟩ : ∃ m'', d.length = m'' := ⟨_, rfl⟩
  rw [hm, hm'] at h1
  rw [hm', hm''] at h2
  rw [hm''] at h3
  rw [hm] at h4
  rw [hm'] at h5
  rw [hm, hm', hm'']
  obtain ⟨E1, hE1⟩ : ∃ E, joinE a b = E := ⟨_, rfl⟩
  obtain ⟨X, hX0⟩ : ∃ L, joinL a b = L := ⟨_, rfl⟩
  obtain ⟨E2, hE2⟩ : ∃ E, joinE b d = E := ⟨_, rfl⟩
  obtain ⟨Y, hY0⟩ : ∃ L, joinL b d = L := ⟨_, rfl⟩
  rw [hE1, hX0] at h1 hn1
  rw [hE2, hY0] at h2 hn2
  rw [hX0] at h3 h5 hX
  rw [hY0] at h4 hY hU
  rw [hE1, hE2, hX0, hY0] at hgood
  have H1 := Lib.hid h1
  have H2 := Lib.hid h2
  have HA := Lib.hid (fun W => awake_any W)
  by_cases e1 : E1 = 0
  · by_cases e2 : E2 = 0
    · obtain ⟨⟨g1, g2, g3⟩, g4, g5⟩ := hgood e1 e2
      rw [g4, g5] at h5
      rw [g1] at h3 g3
      rw [g2] at h3
      obtain ⟨F, hF⟩ : ∃ F, joinE a Y = F := ⟨_, rfl⟩
      obtain ⟨U, hU0⟩ : ∃ U, joinL a Y = U := ⟨_, rfl⟩
      rw [hF, hU0] at h3 h4
      rw [hF] at g3
      rw [hU0] at hU
      have h6 := fun A A' c c' W h h' => same_any A A' c c' U.length U.length U U rfl rfl W h h' (by omega) (by omega)
      have h7 := fun A A' c c' W h h' => same_any A A' c c' X.length X.length X X rfl rfl W h h' (by omega) (by omega)
      rw [show decide (U = U) = true from decide_eq_true rfl] at h6
      rw [show decide (X = X) = true from decide_eq_true rfl] at h7
      obtain ⟨kx, hkx⟩ : ∃ k, X.length = k := ⟨_, rfl⟩
      obtain ⟨ky, hky⟩ : ∃ k, Y.length = k := ⟨_, rfl⟩
      obtain ⟨ku, hku⟩ : ∃ k, U.length = k := ⟨_, rfl⟩
      have HJ1 := Lib.hid (post_read (E := E1) hkx)
      have HJ2 := Lib.hid (post_read (E := E2) hky)
      have HJ3 := Lib.hid (post_read (E := F) hku)
      have HJ5 := Lib.hid (post_read (E := 0) hkx)
      rw [hkx] at h3 h5 h7
      rw [hky] at h4
      rw [hku] at h6
      have H3 := Lib.hid h3
      have H4 := Lib.hid h4
      have H5 := Lib.hid h5
      have H6 := Lib.hid h6
      have H7 := Lib.hid h7
      have HS := Lib.hid hS
      clear h1 h2 h3 h4 h5 h6 h7 hX hY hn1 hn2 hgood hU hm hm' hm'' hE1 hX0 hE2 hY0 hF hU0 hkx hky hku g1 g2 g4 g5 hr hr' hr'' hbig hbig' hbig'' hS
      go_enter Try.func9, Try.ntmps9
      go_wp2_with fail
      refine (HA.out w).mono ?_
      rintro e w0 ⟨rfl, hb0⟩
      go_wp2_with fail
      refine (H1.out w0 hb0).mono ?_
      intro e w1 hp
      obtain ⟨A1, c1, rfl, n1, b1⟩ := HJ1.out _ _ _ hp
      have hb1 := hb0.trans (b1.mono hb0.size)
      clear hp b1 hb0
      go_wp2_with fail
      refine (H2.out w1 hb1).mono ?_
      intro e w2 hp
      obtain ⟨A2, c2, rfl, n2, b2⟩ := HJ2.out _ _ _ hp
      have n1b := (n1.below b2).more b2.size
      have hb2 := hb1.trans (b2.mono hb1.size)
      clear hp b2 hb1 n1
      go_wp2_with fail
      refine (H3.out A1 c1 w2 hb2 n1b).mono ?_
      intro e w3 hp
      obtain ⟨A3, c3, rfl, n3, b3⟩ := HJ3.out _ _ _ hp
      have n1c := (n1b.below b3).more b3.size
      have n2c := (n2.below b3).more b3.size
      have hb3 := hb2.trans (b3.mono hb2.size)
      clear hp b3 hb2 n1b n2
      go_wp2_with fail
      refine (H4.out A2 c2 w3 hb3 n2c).mono ?_
      intro e w4 hp
      obtain ⟨A4, c4, rfl, n4, b4⟩ := HJ3.out _ _ _ hp
      have n1d := (n1c.below b4).more b4.size
      have n3d := (n3.below b4).more b4.size
      have hb4 := hb3.trans (b4.mono hb3.size)
      clear hp b4 hb3 n1c n2c n3
      go_wp2_with fail
      refine (H5.out A1 c1 w4 hb4 n1d).mono ?_
      intro e w5 hp
      obtain ⟨A5, c5, rfl, n5, b5⟩ := HJ5.out _ _ _ hp
      have n1e := (n1d.below b5).more b5.size
      have n3e := (n3d.below b5).more b5.size
      have n4e := (n4.below b5).more b5.size
      have hb5 := hb4.trans (b5.mono hb4.size)
      clear hp b5 hb4 n1d n3d n4
      go_wp2_with fail
      refine (H6.out A3 A4 c3 c4 w5 n3e n4e).mono ?_
      rintro e w6 ⟨rfl, b6⟩
      have n1f := (n1e.below b6).more b6.size
      have n5f := (n5.below b6).more b6.size
      have hb6 := hb5.trans (b6.mono hb5.size)
      clear b6 hb5 n1e n3e n4e n5
      go_wp2_with fail
      refine (H7.out A5 A1 c5 c1 w6 n5f n1f).mono ?_
      rintro e w7 ⟨rfl, b7⟩
      have hb7 := hb6.trans (b7.mono hb6.size)
      clear b7 hb6 n1f n5f
      rcases g3 with rfl | rfl
      · go_wp2
        go_ret
        exact ⟨rfl, hb7⟩
      · go_wp2
        go_ret
        exact ⟨rfl, hb7⟩
    · have hk : Y.length = 0 := by rw [hn2 e2]; rfl
      obtain ⟨kx, hkx⟩ : ∃ k, X.length = k := ⟨_, rfl⟩
      have HJ1 := Lib.hid (post_read (E := E1) hkx)
      have HJ2 := Lib.hid (post_read (E := E2) hk)
      clear h1 h2 h3 h4 h5 hX hY hn1 hn2 hgood hU hm hm' hm'' hE1 hX0 hE2 hY0 hkx hk hr hr' hr'' hbig hbig' hbig'' hS
      go_enter Try.func9, Try.ntmps9
      go_wp2_with fail
      refine (HA.out w).mono ?_
      rintro e w0 ⟨rfl, hb0⟩
      go_wp2_with fail
      refine (H1.out w0 hb0).mono ?_
      intro e w1 hp
      obtain ⟨A1, c1, rfl, n1, b1⟩ := HJ1.out _ _ _ hp
      have hb1 := hb0.trans (b1.mono hb0.size)
      clear hp b1 hb0 n1
      go_wp2_with fail
      refine (H2.out w1 hb1).mono ?_
      intro e w2 hp
      obtain ⟨A2, c2, rfl, n2, b2⟩ := HJ2.out _ _ _ hp
      have hb2 := hb1.trans (b2.mono hb1.size)
      clear hp b2 hb1 n2
      by_cases hz : (kx : Int) = 0
      · go_wp2
        all_goals go_ret
        all_goals exact ⟨rfl, hb2⟩
      · go_wp2
        all_goals go_ret
        all_goals exact ⟨rfl, hb2⟩
  · have hk : X.length = 0 := by rw [hn1 e1]; rfl
    obtain ⟨ky, hky⟩ : ∃ k, Y.length = k := ⟨_, rfl⟩
    have HJ1 := Lib.hid (post_read (E := E1) hk)
    have HJ2 := Lib.hid (post_read (E := E2) hky)
    clear h1 h2 h3 h4 h5 hX hY hn1 hn2 hgood hU hm hm' hm'' hE1 hX0 hE2 hY0 hky hk hr hr' hr'' hbig hbig' hbig'' hS
    go_enter Try.func9, Try.ntmps9
    go_wp2_with fail
    refine (HA.out w).mono ?_
    rintro e w0 ⟨rfl, hb0⟩
    go_wp2_with fail
    refine (H1.out w0 hb0).mono ?_
    intro e w1 hp
    obtain ⟨A1, c1, rfl, n1, b1⟩ := HJ1.out _ _ _ hp
    have hb1 := hb0.trans (b1.mono hb0.size)
    clear hp b1 hb0 n1
    go_wp2_with fail
    refine (H2.out w1 hb1).mono ?_
    intro e w2 hp
    obtain ⟨A2, c2, rfl, n2, b2⟩ := HJ2.out _ _ _ hp
    have hb2 := hb1.trans (b2.mono hb1.size)
    clear hp b2 hb1 n2
    go_wp2
    all_goals go_ret
    all_goals exact ⟨rfl, hb2⟩
-- ROW BEGIN
/-- What the walk gives, shut again. -/
theorem contract (H : Type) (enc : TypeId × Value → H) (W : World) (base : Nat) (args : Array Value) (ds gs : List (DataW H)) (before : List MemPlace)
    (hval : ∀ (j : Nat) t v, Try.f9.params[j]? = some t → args[j]? = some v → Value.okWide Try.prog W .any base t v)
    (hW : DataW.Whole enc Try.prog Try.f9.params.toList Rows.spanGrowsSpec.vars false W args.toList ds gs before)
    (hsz : (DataW.weightsEach Try.prog (Try.f9.params.toList ++ Rows.spanGrowsSpec.plain.varTypes Try.prog) (ds ++ gs)).all (· ≤ reachBytes) = true) :
    Calls Try.prog 9 args W fun e W' => ∃ v, e = .returned v ∧ Rows.spanGrowsSpec.post enc Try.prog Try.f9 false true false false W args v W' := by
  have hW' := hW
  obtain ⟨p, q, hA0, hV, hbef, _, _⟩ := hW
  have hA : DataW.TrodAll enc Try.prog W 0 (fun _ => true) true Try.f9.params.toList args.toList ds p := hA0
  have hA1 := hA
  rw [Try.params9] at hA hval hsz
  obtain ⟨v0, vs0, d0, ds0, p0, q0, hargs, rfl, rfl, h0, r0⟩ := trodAll_cons hA
  obtain ⟨v1, vs1, d1, ds1, p1, q1, rfl, rfl, rfl, h1, r1⟩ := trodAll_cons r0
  obtain ⟨v2, vs2, d2, ds2, p2, q2, rfl, rfl, rfl, h2, r2⟩ := trodAll_cons r1
  obtain ⟨rfl, rfl, rfl⟩ := trodAll_nil r2
  obtain rfl : args = #[v0, v1, v2] := by cases args; simp_all
  obtain ⟨rfl, rfl⟩ := trodVars_none hV
  clear hA hargs
  obtain ⟨A0, c0, a0, rfl, n0, l0, o0⟩ := Span.open_ss Try.underlying31 Try.underlying52 (by kernel_rfl) Span.cells_span Try.underlying3 Try.underlying2 Try.underlying2 (hval 0 31 v0 rfl rfl) h0
  have b0 := Span.reach_ss hsz (j := 0) rfl rfl Try.underlying31 Span.bytes_span l0 o0
  obtain ⟨A1, c1, a1, rfl, n1, l1, o1⟩ := Span.open_ss Try.underlying31 Try.underlying52 (by kernel_rfl) Span.cells_span Try.underlying3 Try.underlying2 Try.underlying2 (hval 1 31 v1 rfl rfl) h1
  have b1 := Span.reach_ss hsz (j := 1) rfl rfl Try.underlying31 Span.bytes_span l1 o1
  obtain ⟨A2, c2, a2, rfl, n2, l2, o2⟩ := Span.open_ss Try.underlying31 Try.underlying52 (by kernel_rfl) Span.cells_span Try.underlying3 Try.underlying2 Try.underlying2 (hval 2 31 v2 rfl rfl) h2
  have b2 := Span.reach_ss hsz (j := 2) rfl rfl Try.underlying31 Span.bytes_span l2 o2
  refine (walk W A0 c0 a0 n0 (by omega) l0 A1 c1 a1 n1 (by omega) l1 A2 c2 a2 n2 (by omega) l2).mono fun e W' ⟨he, hb⟩ => ?_
  subst he
  exact ⟨_, rfl, law_post Facts.laid (by rfl) Try.underlying4 (by rw [Try.params9]; decide +kernel) hW' hA1 rfl hbef rfl rfl rfl hb⟩

set_option maxRecDepth 100000 in
theorem lifted (os : Os) (started : os.Started) (H : Type) (enc : TypeId × Value → H) :
    ReturnsInHanded {} Try.checked os 9 .any (Rows.spanGrowsSpec.pre6 enc Try.prog Try.f9 Rows.spanGrowsRow.domain false) (Rows.spanGrowsSpec.post enc Try.prog Try.f9 false true false false) := by
  refine returnsInHanded_of_change_sized (C := Try.checked) Facts.own started (by kernel_rfl) Try.func9
    (ChangeSpec.witness6 (enc := enc) (C := Try.checked) false ⟨#[], #[.slice none 0 0, .slice none 0 0, .slice none 0 0], []⟩ 8 (by kernel_rfl) (by kernel_rfl) (by kernel_rfl) (by kernel_rfl)) ?_
  intro W base args ds gs before hval hW _ hsz _
  exact contract H enc W base args ds gs before hval hW hsz

theorem holds : Rows.SpanGrowsSaid :=
  OpenClaim.holds_of_wide 9 Try.f9 rfl rfl rfl rfl rfl rfl rfl ⟨rfl, rfl, rfl, rfl, rfl⟩ rfl rfl rfl rfl rfl (by kernel_rfl) Try.func9 (by kernel_rfl)
    (of_decide_eq_true (by kernel_rfl)) (by unfold Func.isWrapper; first | (rw [if_pos (by decide +kernel)]; kernel_rfl) | (rw [if_neg (by decide +kernel)]; exact ⟨rfl, rfl⟩))
    (fun os started H enc _ => lifted os started H enc)
-- ROW END
end SpanGrows
end Go.Proofs.Ytpgpeigaoonpcab
