/-
  MendAnswers: what one says first, and what one answers whatever hashes, are the document's.
-/
import Derived.Test.YtekhaejhmlebbaaGreatPMendAwake
import Derived.Test.YtekhaejhmlebbaaGreatPHTreeD
namespace Go.Proofs.YtekhaejhmlebbaaGreat
theorem Facts.cells67 : Tryz.prog.cellsOf 67 = 1 := by kernel_rfl
theorem Facts.bytes67 : Tryz.prog.bytesOf 67 = 8 := by kernel_rfl
namespace MendAnswers
open Go.ChangeShapes Go.WideShapes Go.ChangeAt Go.RowKit Vers Num Ring Disk Blk Tree Mend
open Go.Proofs.YtekhaejhmlebbaaGreat.Code hiding Bn
attribute [local go_sem ↓] Go.wp_at_zero Go.wp_at_succ
theorem openF_len (l : List Rc) : (openF l).length ≤ 16 := by
  unfold openF
  split
  · unfold kidsF
    split
    · simp
    · simp
  · simp
set_option maxRecDepth 100000 in
set_option maxHeartbeats 4000000 in
theorem walk (w : World) (A : Option Addr) (c : Nat) (l : List Rc) (hl : Rs w 0 w.heap.size A l) (hb : l.length * 40 ≤ 140737488351232) (_hlc : l.length ≤ c) (Ap : Option Addr) (cp : Nat) (p : List Int) (hp : Ns .i64 w w.heap.size Ap p) (_hwf : ∀ z ∈ p, -9223372036854775808 ≤ z ∧ z ≤ 9223372036854775807) (hpb : p.length * 8 ≤ 140737488351232) (_hpc : p.length ≤ cp)
    (Ah : Option Addr) (ch : Nat) (hs : List Int) (hh : Ns .u64 w w.heap.size Ah hs) (_hhw : ∀ z ∈ hs, (Lit.int .u64 z).wf = true) (_hhb : hs.length * 8 ≤ 140737488351232) (_hhc : hs.length ≤ ch) :
    Calls Tryz.prog 3 #[.slice A l.length c, .slice Ap p.length cp, .slice Ah hs.length ch] w fun e w' => e = .returned (.bool true) ∧ Below w.heap.size w w' := by
  obtain ⟨n, hn⟩ : ∃ n, l.length = n := ⟨_, rfl⟩
  obtain ⟨np, hnp⟩ : ∃ n, p.length = n := ⟨_, rfl⟩
  obtain ⟨nh, hnh⟩ : ∃ n, hs.length = n := ⟨_, rfl⟩
  rw [hn] at hb ⊢
  rw [hnp] at hpb ⊢
  rw [hnh]
  have hlW : ∀ W, Below w.heap.size w W → Rs W 0 W.heap.size A l := fun W h => (hl.below h).more h.size
  have hpW : ∀ W, Below w.heap.size w W → Ns .i64 W W.heap.size Ap p := fun W h => (hp.below h).more h.size
  have hhW : ∀ W, Below w.heap.size w W → Ns .u64 W W.heap.size Ah hs := fun W h => (hh.below h).more h.size
  have HP := Lib.hid (And.intro hn (And.intro hnp hnh))
  have H0 := Lib.hid (awake_any w)
  clear hl hp hh hn hnp hnh
  go_enter Tryz.func3, Tryz.ntmps3
  go_wp2_with fail
  refine H0.out.mono ?_
  rintro e1 w1 ⟨rfl, b1⟩
  have B1 := Lib.hid b1
  have H1 := Lib.hid (held_any A c n w1.heap.size l HP.out.1 (by omega) w1 (Nat.le_refl _) (rs_rb (hlW _ b1)))
  clear b1 H0
  go_wp2_with fail
  refine H1.out.mono ?_
  rintro e2 w2 (⟨hok, Aa, na, ca, ps, rfl, h2, b2⟩ | ⟨hno, rfl, b2⟩)
  · have B2 := Lib.hid (B1.out.trans (b2.mono B1.out.size))
    have hrA : Rs w2 0 w2.heap.size Aa (heldF l) := by
      have h := h2.out.2.2.2.rb
      rw [h2.out.1] at h
      exact rb_rs h b2.size
    have hla := held_len l
    rw [HP.out.1, h2.out.2.1] at hla
    have hK := ref_kids_tell w2 Aa ca na (heldF l) h2.out.2.1 (by omega) (okL_held hok) hrA none 0 0 [] rfl (by omega) ns_nil
    have e : kidsF (heldF l) [] = openF l := by unfold openF; rw [if_pos hok]
    rw [e] at hK
    have HK := Lib.hid hK
    clear hK e hrA h2 b2 H1 hok hla
    go_wp2_with fail
    refine HK.out.mono ?_
    rintro e3 w3 ⟨A3, m3, c3, rfl, h3, b3⟩
    have B3 := Lib.hid (And.intro h3.out.1 (And.intro (own_ns (c := c3) (n := m3) (by rw [h3.out.1]; exact h3.out.2.2)) (B2.out.trans (b3.mono B2.out.size))))
    clear h3 b3 HK
    · have HO := Lib.hid (open_any A c n l HP.out.1 (by omega) w3 (hlW _ B3.out.2.2))
      go_wp2_with fail
      refine HO.out.mono ?_
      rintro e4 w4 ⟨A4, m4, c4, rfl, h4, b4⟩
      have HH := Code.shashes_any A4 A3 c4 c3 m4 m3 (openF l) (openF l) h4.out.1 B3.out.1 w4 h4.out.2 ((B3.out.2.1.below b4).more b4.size) (by have := openF_len l; have := h4.out.1; omega) (by have := openF_len l; have := B3.out.1; omega)
      rw [decide_eq_true rfl] at HH
      have HH := Lib.hid HH
      have B4 := Lib.hid (B3.out.2.2.trans (b4.mono B3.out.2.2.size))
      clear h4 b4 HO
      go_wp2_with fail
      refine HH.out.mono ?_
      rintro e5 w5 ⟨rfl, b5⟩
      have B5 := Lib.hid (B4.out.trans (b5.mono B4.out.size))
      have HA := Lib.hid (answer_any A Ap Ah c cp ch n np nh l p hs HP.out.1 HP.out.2.1 HP.out.2.2 (by omega) (by omega) w5 (hlW _ B5.out) (hpW _ B5.out) (hhW _ B5.out))
      clear b5 HH
      go_wp2_with fail
      refine HA.out.mono ?_
      rintro e6 w6 ⟨A6, m6, c6, rfl, h6, b6⟩
      have B6 := Lib.hid (And.intro h6.out (B5.out.trans (b6.mono B5.out.size)))
      have HR := Lib.hid (ref_answer_any A Ap Ah c cp ch n np nh l p hs HP.out.1 HP.out.2.1 HP.out.2.2 (by omega) (by omega) w6 (hlW _ B6.out.2) (hpW _ B6.out.2) (hhW _ B6.out.2))
      clear h6 b6 HA
      go_wp2_with fail
      refine HR.out.mono ?_
      rintro e7 w7 ⟨A7, m7, c7, rfl, h7, b7⟩
      obtain rfl : m6 = m7 := B6.out.1.1.symm.trans h7.out.1
      have h16 : m6 ≤ 16 := by
        have h := B6.out.1.1
        unfold answerF at h
        split at h
        · rw [List.length_map] at h
          have h8 := dk_len (kidsF (heldF l) p) hs 16
          rw [dk_full, h] at h8
          exact h8
        · simp at h; omega
      have HS := Lib.hid (steps_same (c := c6) (c' := c7) B6.out.1.1 h16 w7 (B6.out.1.2.2.below b7) h7.out.2.2)
      have B7 := Lib.hid (B6.out.2.trans (b7.mono B6.out.2.size))
      clear h7 b7 HR
      go_wp2_with fail
      refine HS.out.mono ?_
      rintro e8 w8 ⟨rfl, b8⟩
      have HF := Lib.hid (B7.out.trans (b8.mono B7.out.size))
      clear b8 HS
      go_wp2_with fail
      go_ret
      exact ⟨rfl, HF.out⟩
  · have B2 := Lib.hid (B1.out.trans (b2.mono B1.out.size))
    have hoF : Hid ((openF l).length = 0) := Lib.hid (by unfold openF; rw [if_neg hno]; rfl)
    clear b2 H1 hno
    · have HO := Lib.hid (open_any A c n l HP.out.1 (by omega) w2 (hlW _ B2.out))
      go_wp2_with fail
      refine HO.out.mono ?_
      rintro e4 w4 ⟨A4, m4, c4, rfl, h4, b4⟩
      have HH := Code.shashes_any A4 none c4 0 m4 0 (openF l) (openF l) h4.out.1 hoF.out w4 h4.out.2 (by rw [List.eq_nil_of_length_eq_zero hoF.out]; exact ns_nil) (by have := openF_len l; have := h4.out.1; omega) (by have := openF_len l; have := hoF.out; omega)
      rw [decide_eq_true rfl] at HH
      have HH := Lib.hid HH
      have B4 := Lib.hid (B2.out.trans (b4.mono B2.out.size))
      clear h4 b4 HO
      go_wp2_with fail
      refine HH.out.mono ?_
      rintro e5 w5 ⟨rfl, b5⟩
      have B5 := Lib.hid (B4.out.trans (b5.mono B4.out.size))
      have HA := Lib.hid (answer_any A Ap Ah c cp ch n np nh l p hs HP.out.1 HP.out.2.1 HP.out.2.2 (by omega) (by omega) w5 (hlW _ B5.out) (hpW _ B5.out) (hhW _ B5.out))
      clear b5 HH
      go_wp2_with fail
      refine HA.out.mono ?_
      rintro e6 w6 ⟨A6, m6, c6, rfl, h6, b6⟩
      have B6 := Lib.hid (And.intro h6.out (B5.out.trans (b6.mono B5.out.size)))
      have HR := Lib.hid (ref_answer_any A Ap Ah c cp ch n np nh l p hs HP.out.1 HP.out.2.1 HP.out.2.2 (by omega) (by omega) w6 (hlW _ B6.out.2) (hpW _ B6.out.2) (hhW _ B6.out.2))
      clear h6 b6 HA
      go_wp2_with fail
      refine HR.out.mono ?_
      rintro e7 w7 ⟨A7, m7, c7, rfl, h7, b7⟩
      obtain rfl : m6 = m7 := B6.out.1.1.symm.trans h7.out.1
      have h16 : m6 ≤ 16 := by
        have h := B6.out.1.1
        unfold answerF at h
        split at h
        · rw [List.length_map] at h
          have h8 := dk_len (kidsF (heldF l) p) hs 16
          rw [dk_full, h] at h8
          exact h8
        · simp at h; omega
      have HS := Lib.hid (steps_same (c := c6) (c' := c7) B6.out.1.1 h16 w7 (B6.out.1.2.2.below b7) h7.out.2.2)
      have B7 := Lib.hid (B6.out.2.trans (b7.mono B6.out.2.size))
      clear h7 b7 HR
      go_wp2_with fail
      refine HS.out.mono ?_
      rintro e8 w8 ⟨rfl, b8⟩
      have HF := Lib.hid (B7.out.trans (b8.mono B7.out.size))
      clear b8 HS
      go_wp2_with fail
      go_ret
      exact ⟨rfl, HF.out⟩
-- ROW BEGIN
set_option maxRecDepth 100000 in
/-- What the walk gives, shut again. -/
theorem contract (H : Type) (enc : TypeId × Value → H) (W : World) (base : Nat) (args : Array Value) (ds gs : List (DataW H)) (before : List MemPlace)
    (hval : ∀ (j : Nat) t v, Tryz.f3.params[j]? = some t → args[j]? = some v → Value.okWide Tryz.prog W .any base t v)
    (hW : DataW.Whole enc Tryz.prog Tryz.f3.params.toList Rows.mendAnswersSpec.vars false W args.toList ds gs before)
    (hsz : (DataW.weightsEach Tryz.prog (Tryz.f3.params.toList ++ Rows.mendAnswersSpec.plain.varTypes Tryz.prog) (ds ++ gs)).all (· ≤ reachBytes) = true) :
    Calls Tryz.prog 3 args W fun e W' => ∃ v, e = .returned v ∧ Rows.mendAnswersSpec.post enc Tryz.prog Tryz.f3 false true false false W args v W' := by
  have hW' := hW
  obtain ⟨p, q, hA0, hV, hbef, _, _⟩ := hW
  have hA : DataW.TrodAll enc Tryz.prog W 0 (fun _ => true) true Tryz.f3.params.toList args.toList ds p := hA0
  have hA1 := hA
  rw [Tryz.params3] at hA hval hsz
  obtain ⟨v0, vs0, d0, ds0, p0, q0, hargs, rfl, rfl, h0, r0⟩ := trodAll_cons hA
  obtain ⟨v1, vs1, d1, ds1, p1, q1, rfl, rfl, rfl, h1, r1⟩ := trodAll_cons r0
  obtain ⟨v2, vs2, d2, ds2, p2, q2, rfl, rfl, rfl, h2, r2⟩ := trodAll_cons r1
  obtain ⟨rfl, rfl, rfl⟩ := trodAll_nil r2
  obtain rfl : args = #[v0, v1, v2] := by cases args; simp_all
  obtain ⟨rfl, rfl⟩ := trodVars_none hV
  clear hA hargs
  obtain ⟨A0, c0, a0, rfl, n0, l0, b0⟩ := Tree.arg_recs (hval 0 22 v0 rfl rfl) h0 (Vers.wt_arg hsz (j := 0) rfl rfl)
  obtain ⟨A1, c1, a1, rfl, n1, w1, l1, _, o1⟩ := open_ns Tryz.underlying23 Tryz.underlying3 Facts.cells3 (hval 1 23 v1 rfl rfl) h1
  have b1 := reach_ns hsz (j := 1) rfl rfl Tryz.underlying23 Facts.bytes3 l1 o1
  obtain ⟨A2, c2, a2, rfl, n2, w2, l2, _, o2⟩ := open_ns Tryz.underlying24 Tryz.underlying67 Facts.cells67 (hval 2 24 v2 rfl rfl) h2
  have b2 := reach_ns hsz (j := 2) rfl rfl Tryz.underlying24 Facts.bytes67 l2 o2
  refine (walk W A0 c0 a0 n0 b0 l0 A1 c1 a1 n1 (fun z hz => wf_int (w1 z hz)) (by omega) l1 A2 c2 a2 n2 w2 (by omega) l2).mono fun e W' ⟨he, hb⟩ => ?_
  subst he
  exact ⟨_, rfl, law_post Facts.laid (by rfl) Tryz.underlying4 (by rw [Tryz.params3]; decide +kernel) hW' hA1 rfl hbef rfl rfl rfl hb⟩

set_option maxRecDepth 100000 in
theorem lifted (os : Os) (started : os.Started) (H : Type) (enc : TypeId × Value → H) :
    ReturnsInHanded {} Tryz.checked os 3 .any (Rows.mendAnswersSpec.pre6 enc Tryz.prog Tryz.f3 Rows.mendAnswersRow.domain false) (Rows.mendAnswersSpec.post enc Tryz.prog Tryz.f3 false true false false) := by
  refine returnsInHanded_of_change_sized (C := Tryz.checked) Facts.own started (by kernel_rfl) Tryz.func3
    (ChangeSpec.witness6 (enc := enc) (C := Tryz.checked) false ⟨#[], #[.slice none 0 0, .slice none 0 0, .slice none 0 0], []⟩ 8 (by kernel_rfl) (by kernel_rfl) (by kernel_rfl) (by kernel_rfl)) ?_
  intro W base args ds gs before hval hW _ hsz _
  exact contract H enc W base args ds gs before hval hW hsz

theorem holds : Rows.MendAnswersSaid :=
  OpenClaim.holds_of_wide 3 Tryz.f3 rfl rfl rfl rfl rfl rfl rfl ⟨rfl, rfl, rfl, rfl, rfl⟩ rfl rfl rfl rfl rfl (by kernel_rfl) Tryz.func3 (by kernel_rfl)
    (of_decide_eq_true (by kernel_rfl)) (by unfold Func.isWrapper; first | (rw [if_pos (by decide +kernel)]; kernel_rfl) | (rw [if_neg (by decide +kernel)]; exact ⟨rfl, rfl⟩))
    (fun os started H enc _ => lifted os started H enc)
-- ROW END
end MendAnswers
end Go.Proofs.YtekhaejhmlebbaaGreat
