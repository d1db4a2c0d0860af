/-
  MendFew: who holds the same finds nothing to say; who differs under some keys says no more leaves than those keys have. Up to a bulk of the input.
-/
import Derived.Test.YtekhaejhmlebbaaGreatPMendHeldUp
namespace Go.Proofs.YtekhaejhmlebbaaGreat
namespace MendFew
open Go.ChangeShapes Go.WideShapes Go.ChangeAt Go.RowKit Vers Num Ring Disk Blk Tree Mend
open Go.Proofs.YtekhaejhmlebbaaGreat.Code hiding Bn
attribute [local go_sem ↓] Go.wp_at_zero Go.wp_at_succ
/-- What a round looks at: a step's path and hashes. -/
def Two2 (U : World) (g i : Nat) (v1 v2 : Value) (W : World) : Prop := W.cell? ⟨g, i * 3, none⟩ = some v1 ∧ W.cell? ⟨g, i * 3 + 1, none⟩ = some v2 ∧ Below U.heap.size U W ∧ g < U.heap.size
theorem two2_keep {U W W' : World} {g i : Nat} {v1 v2 : Value} (hb : Below W.heap.size W W') (h : Two2 U g i v1 v2 W) : Two2 U g i v1 v2 W' := by
  obtain ⟨h1, h2, h3, h4⟩ := h
  have hs := h3.size
  have c : ∀ (q o : Nat), q < U.heap.size → W'.cell? ⟨q, o, none⟩ = W.cell? ⟨q, o, none⟩ := fun q o hq => hb.cell (p := ⟨q, o, none⟩) (by show q < _; omega)
  exact ⟨(c _ _ h4).trans h1, (c _ _ h4).trans h2, h3.trans (hb.mono hs), h4⟩
set_option maxRecDepth 100000 in
set_option maxHeartbeats 4000000 in
theorem walk (w : World) (A : Option Addr) (c : Nat) (l : List Rc) (hl : Rs w 0 w.heap.size A l) (_hb : l.length * 40 ≤ 140737488351232) (_hlc : l.length ≤ c)
    (A' : Option Addr) (c' : Nat) (l' : List Rc) (hl' : Rs w 0 w.heap.size A' l') (_hb' : l'.length * 40 ≤ 140737488351232) (_hlc' : l'.length ≤ c') (hbulk : l.length + l'.length ≤ 1048576) :
    Calls Tryz.prog 7 #[.slice A l.length c, .slice A' l'.length c'] w fun e w' => e = .returned (.bool true) ∧ Below w.heap.size w w' := by
  obtain ⟨n, hn⟩ : ∃ n, l.length = n := ⟨_, rfl⟩
  obtain ⟨n', hn'⟩ : ∃ n, l'.length = n := ⟨_, rfl⟩
  rw [hn, hn'] at hbulk ⊢
  have hlW : ∀ W, Below w.heap.size w W → Rs W 0 W.heap.size A l := fun W h => (hl.below h).more h.size
  have hlW' : ∀ W, Below w.heap.size w W → Rs W 0 W.heap.size A' l' := fun W h => (hl'.below h).more h.size
  have HP := Lib.hid (And.intro hn (And.intro hn' (And.intro hlW hlW')))
  have H0 := Lib.hid (awake_any w)
  clear hl hl' hn hn' hlW hlW'
  go_enter Tryz.func7, Tryz.ntmps7
  go_wp2_with fail
  refine H0.out.mono ?_
  rintro e1 w1 ⟨rfl, b1⟩
  have B1 := Lib.hid b1
  have H1 := Lib.hid (held_up A c n l HP.out.1 (by omega) w1 (HP.out.2.2.1 _ b1))
  clear b1 H0
  go_wp2_with fail
  refine H1.out.mono ?_
  rintro e2 w2 (⟨hok, Aa, na, ca, rfl, h2, b2⟩ | ⟨_, rfl, b2⟩)
  rotate_left
  · have B2 := Lib.hid (B1.out.trans (b2.mono B1.out.size))
    have H2 := Lib.hid (held_up A' c' n' l' HP.out.2.1 (by omega) w2 (HP.out.2.2.2 _ B2.out))
    clear b2 H1
    go_wp2_with fail
    refine H2.out.mono ?_
    rintro e3 w3 (⟨_, Am, nm, cm, rfl, _, b3⟩ | ⟨_, rfl, b3⟩)
    all_goals
      have HF := Lib.hid (B2.out.trans (b3.mono B2.out.size))
      clear b3 H2
      go_wp2_with fail
      go_ret
      exact ⟨rfl, HF.out⟩
  · have B2 := Lib.hid (And.intro (B1.out.trans (b2.mono B1.out.size)) (And.intro hok h2.out))
    have hna : na ≤ n := h2.out.2.2.1
    have H2 := Lib.hid (held_up A' c' n' l' HP.out.2.1 (by omega) w2 (HP.out.2.2.2 _ B2.out.1))
    clear b2 H1 h2 hok
    go_wp2_with fail
    refine H2.out.mono ?_
    rintro e3 w3 (⟨hok3, Am, nm, cm, rfl, h3, b3⟩ | ⟨_, rfl, b3⟩)
    rotate_left
    · have HF := Lib.hid (B2.out.1.trans (b3.mono B2.out.1.size))
      clear b3 H2
      go_wp2_with fail
      go_ret
      exact ⟨rfl, HF.out⟩
    · have hnm : nm ≤ n' := h3.out.2.2.1
      obtain ⟨a, ha⟩ : ∃ a, heldF l = a := ⟨_, rfl⟩
      obtain ⟨m, hm⟩ : ∃ m, heldF l' = m := ⟨_, rfl⟩
      have La : Lst a := by rw [← ha]; exact Lst.held B2.out.2.1
      have Lm : Lst m := by rw [← hm]; exact Lst.held hok3
      have hra : Rs w3 0 w3.heap.size Aa a := by rw [← ha]; exact (B2.out.2.2.2.2.2.below b3).more b3.size
      have hrm : Rs w3 0 w3.heap.size Am m := by rw [← hm]; exact h3.out.2.2.2
      have hla : a.length = na := by rw [← ha]; exact B2.out.2.2.1
      have hlm : m.length = nm := by rw [← hm]; exact h3.out.1
      have HLaid := Lib.hid (laid_any Aa Am ca cm na nm a m hla B2.out.2.2.2.1 hlm (by omega) w3 hra hrm)
      have B3 := Lib.hid (And.intro (B2.out.1.trans (b3.mono B2.out.1.size)) (And.intro La (And.intro Lm (And.intro hra (And.intro hla hlm)))))
      clear h3 b3 hok3 ha hm La Lm hra hrm hla hlm H2 B2
      go_wp2_with fail
      refine HLaid.out.mono ?_
      rintro e4 w4 ⟨Ab, nb, cb, rfl, h4, b4⟩
      obtain ⟨b, hb⟩ : ∃ b, m.foldl withR a = b := ⟨_, rfl⟩
      rw [hb] at h4
      have Lb : Lst b := by rw [← hb]; exact B3.out.2.1.fold B3.out.2.2.1.2
      have hnb : nb ≤ na + nm := by
        have := Tree.fold_len m a
        rw [hb, h4.out.1, B3.out.2.2.2.2.1, B3.out.2.2.2.2.2] at this
        exact this
      have hra4 : Rs w4 0 w4.heap.size Aa a := (B3.out.2.2.2.1.below b4).more b4.size
      have B4 := Lib.hid (And.intro (B3.out.1.trans (b4.mono B3.out.1.size)) (And.intro Lb (And.intro h4.out (And.intro hra4 hb))))
      have H5 := Lib.hid (open_up Aa ca na a B3.out.2.1 B3.out.2.2.2.2.1 (by omega) w4 hra4)
      clear h4 b4 hb Lb hra4 HLaid
      go_wp2_with fail
      refine H5.out.mono ?_
      rintro e5 w5 ⟨A5, m5, c5, rfl, h5, b5⟩
      have hra5 : Rs w5 0 w5.heap.size Aa a := (B4.out.2.2.2.1.below b5).more b5.size
      have H6 := answer_up Aa none A5 ca 0 c5 na 0 m5 a [] (kidsF a []) B3.out.2.1 B3.out.2.2.2.2.1 rfl h5.out.1 (by omega) ok_zero (by omega) w5 hra5 ns_nil h5.out.2
      rw [diff_self] at H6
      have H6 := Lib.hid H6
      have B5 := Lib.hid (B4.out.1.trans (b5.mono B4.out.1.size))
      have B45 := Lib.hid b5
      clear h5 b5 hra5 H5
      go_wp2_with fail
      refine H6.out.mono ?_
      rintro e6 w6 ⟨A6, m6, c6, rfl, h6, b6⟩
      obtain rfl : 0 = m6 := h6.out.1
      have B6 := Lib.hid (B5.out.trans (b6.mono B5.out.size))
      have B46 := Lib.hid (B45.out.trans (b6.mono B45.out.size))
      have hra6 : Rs w6 0 w6.heap.size Aa a := (B4.out.2.2.2.1.below B46.out).more B46.out.size
      have H7 := Lib.hid (open_up Aa ca na a B3.out.2.1 B3.out.2.2.2.2.1 (by omega) w6 hra6)
      clear h6 b6 hra6 H6
      go_wp2_with fail
      refine H7.out.mono ?_
      rintro e7 w7 ⟨A7, m7, c7, rfl, h7, b7⟩
      have B47 := Lib.hid (B46.out.trans (b7.mono B46.out.size))
      have hrb7 : Rs w7 0 w7.heap.size Ab b := (B4.out.2.2.1.2.2.below B47.out).more B47.out.size
      have H8 := Lib.hid (answer_up Ab none A7 cb 0 c7 nb 0 m7 b [] (kidsF a []) B4.out.2.1 B4.out.2.2.1.1 rfl h7.out.1 (by omega) ok_zero (by omega) w7 hrb7 ns_nil h7.out.2)
      clear h7 b7 hrb7 H7
      go_wp2_with fail
      refine H8.out.mono ?_
      rintro e8 w8 ⟨A8, m8, c8, rfl, h8, b8⟩
      have B48 := Lib.hid (B47.out.trans (b8.mono B47.out.size))
      have B8 := Lib.hid (B4.out.1.trans (B48.out.mono B4.out.1.size))
      have hra8 : Rs w8 0 w8.heap.size Aa a := (B4.out.2.2.2.1.below B48.out).more B48.out.size
      obtain ⟨D, hD⟩ : ∃ D, diffF (kidsF b []) (kidsF a []) = D := ⟨_, rfl⟩
      rw [hD] at h8
      have hm16 : m8 ≤ 16 := by rw [← h8.out.1, ← hD]; exact diff_16 _ _
      have hfl : D.length ≤ m.length := by rw [← hD, ← B4.out.2.2.2.2]; exact first_len B3.out.2.1.1.1
      have hlv : (D.flatMap (leavesF a b)).length ≤ m.length := by rw [← hD, ← B4.out.2.2.2.2]; exact leaves_len B3.out.2.1.1.1
      have hdr : ∀ d ∈ D, 0 ≤ d ∧ d < 16 := fun d hd => by rw [← hD] at hd; exact diff_range hd
      have H9 := Lib.hid (And.intro h8.out (And.intro hra8 (And.intro hfl (And.intro hlv hdr))))
      clear h8 b8 hra8 hD hfl hlv hdr H8
      go_wp2_with fail
      go_loopw [10, 12] (fun v q wr => ∃ (i x : Nat), q = .int .i64 i ∧ i ≤ m8 ∧ v = .int .i64 x ∧ x ≤ i * 16 ∧ Hid (x = ((D.take i).flatMap (leavesF a b)).length ∧ Below w8.heap.size w8 wr)) (fun _ q _ => m8 - (intOf q).toNat)
      case atStart => exact ⟨0, 0, rfl, by omega, rfl, by omega, Lib.hid ⟨rfl, Below.refl _ _⟩⟩
      case round =>
        obtain ⟨i, x, rfl, hi, rfl, hx, hst⟩ := hrel
        by_cases hlt : i < m8
        · have d2 : (0 : Int) ≤ (i : Int) := by omega
          have d3 : (i : Int) < (m8 : Int) := by omega
          have hiD : i < D.length := by rw [H9.out.1.1]; exact hlt
          obtain ⟨d, hd⟩ : ∃ d, D.getD i 0 = d := ⟨_, rfl⟩
          have hdD : D[i] = d := by
            rw [List.getD_eq_getElem?_getD, List.getElem?_eq_getElem hiD] at hd
            exact hd
          have hs : (D.map (stepF b []))[i]? = some (stepF b [] d) := by
            rw [List.getElem?_map, List.getElem?_eq_getElem hiD, hdD]
            rfl
          have hdr := H9.out.2.2.2.2 d (by rw [← hdD]; exact List.getElem_mem _)
          obtain ⟨g, y, rfl, _, hgl, a0, a1, _, ha⟩ := (H9.out.1.2.2.below hst.out.2).at (by rw [List.length_map]; exact H9.out.1.1) hlt hs
          obtain ⟨⟨p1, p2, p3⟩, ⟨p4, p5, p6⟩, p7⟩ := y
          simp only [slV] at a0 a1
          obtain ⟨q, hq⟩ : ∃ q, (diffF (kidsF a [d]) (kidsF b [d])).length = q := ⟨_, rfl⟩
          have hq16 : q ≤ 16 := by rw [← hq]; exact diff_16 _ _
          have hp2 : p2 = 1 := ha.1.1.symm.trans (by show ([] ++ [d]).length = 1; rfl)
          have hT := leaves_take (a := a) (b := b) hiD hd
          rw [hq] at hT
          have hcall : ∀ W, Two2 wr g i (.slice p1 p2 p3) (.slice p4 p5 p6) W → Calls Tryz.prog 16 #[.slice Aa na ca, .slice p1 p2 p3, .slice p4 p5 p6] W (fun e w' => (∃ A c, e = .returned (.slice A q c)) ∧ Below W.heap.size W w') := fun W hW => by
            obtain ⟨_, _, hb2, _⟩ := hW
            have h := answer_up Aa p1 p4 ca p3 p6 na p2 p5 a [d] (kidsF b [d]) B3.out.2.1 B3.out.2.2.2.2.1 (by rw [hp2]; rfl) ha.2.1.1 (by omega) (ok_one.2 hdr) (by omega) W ((H9.out.2.1.below (hst.out.2.trans (hb2.mono hst.out.2.size))).more (Nat.le_trans hst.out.2.size hb2.size)) ((ha.1.2.2.below hb2).more hb2.size) ((ha.2.1.2.2.below hb2).more hb2.size)
            refine h.mono ?_
            rintro e w' ⟨A, mm, cc, rfl, h1, h2⟩
            rw [hq] at h1
            obtain rfl : q = mm := h1.out.1
            exact ⟨⟨A, cc, rfl⟩, h2⟩
          have HC := Lib.hid (And.intro hcall hT)
          have HS : Hid (Two2 wr g i (.slice p1 p2 p3) (.slice p4 p5 p6) wr.drew) := Lib.hid ⟨a0, a1, (Below.refl _ _).drew, hgl⟩
          clear hcall hT hs hdD hd ha hdr hiD hq hp2 a0 a1
          go_wp2_with fail
          go_region_held3 (fun W => W.cell? ⟨g, i * 3, none⟩ = some (.slice p1 p2 p3) ∧ W.cell? ⟨g, i * 3 + 1, none⟩ = some (.slice p4 p5 p6) ∧ Below wr.heap.size wr W ∧ g < wr.heap.size)
            (first
              | exact HS.out
              | exact two2_keep (by assumption) (by assumption))
            (first
              | (go_at_call 16; refine (HC.out.1 _ (by assumption)).mono ?_; rintro e9 w9 ⟨⟨A9, c9, rfl⟩, bb9⟩))
          all_goals
            have hb9 : Below wr.heap.size wr w9 := ((Below.refl _ wr).drew).trans bb9
            have HF : Hid (x + q = ((D.take (i + 1)).flatMap (leavesF a b)).length ∧ Below w8.heap.size w8 w9) := Lib.hid ⟨by rw [HC.out.2, hst.out.1], hst.out.2.trans (hb9.mono hst.out.2.size)⟩
            clear hb9 bb9 HC HS hst
            go_wp2_with fail
            go_roundw
            case rel => exact ⟨i + 1, x + q, by go_num, by omega, by rw [IntWalk.i64_in _ (by omega)]; rfl, by omega, HF⟩
            case measure => simp only [intOf]; omega
        · have him : i = m8 := by omega
          subst him
          have hfull : D.take i = D := List.take_of_length_le (by have := H9.out.1.1; omega)
          have hx9 : x ≤ nm := by
            have h1 := hst.out.1
            rw [hfull] at h1
            have := H9.out.2.2.2.1
            have := B3.out.2.2.2.2.2
            omega
          have hi9 : i ≤ nm := by
            have := H9.out.2.2.1
            have := B3.out.2.2.2.2.2
            have := H9.out.1.1
            omega
          have d1 : decide ((x : Int) ≤ (nm : Int)) = true := decide_eq_true (by omega)
          have d2 : decide ((i : Int) ≤ (nm : Int)) = true := decide_eq_true (by omega)
          have HF := Lib.hid (B8.out.trans (hst.out.2.mono B8.out.size))
          clear hst hfull
          go_wp2_with fail
          go_ret
          exact ⟨rfl, HF.out⟩
-- ROW BEGIN
set_option maxRecDepth 100000 in
/-- What the walk gives, shut again. -/
theorem contract (H : Type) (enc : TypeId × Value → H) (W : World) (base : Nat) (args : Array Value) (ds gs : List (DataW H)) (before : List MemPlace)
    (hval : ∀ (j : Nat) t v, Tryz.f7.params[j]? = some t → args[j]? = some v → Value.okWide Tryz.prog W .any base t v)
    (hW : DataW.Whole enc Tryz.prog Tryz.f7.params.toList Rows.mendFewSpec.vars false W args.toList ds gs before)
    (hsz : (DataW.weightsEach Tryz.prog (Tryz.f7.params.toList ++ Rows.mendFewSpec.plain.varTypes Tryz.prog) (ds ++ gs)).all (· ≤ reachBytes) = true) (hk : Rows.uptoSmall H (ds ++ gs) = true) :
    Calls Tryz.prog 7 args W fun e W' => ∃ v, e = .returned v ∧ Rows.mendFewSpec.post enc Tryz.prog Tryz.f7 false true false false W args v W' := by
  have hW' := hW
  obtain ⟨p, q, hA0, hV, hbef, _, _⟩ := hW
  have hA : DataW.TrodAll enc Tryz.prog W 0 (fun _ => true) true Tryz.f7.params.toList args.toList ds p := hA0
  have hA1 := hA
  rw [Tryz.params7] at hA hval hsz
  obtain ⟨v0, vs0, d0, ds0, p0, q0, hargs, rfl, rfl, h0, r0⟩ := trodAll_cons hA
  obtain ⟨v1, vs1, d1, ds1, p1, q1, rfl, rfl, rfl, h1, r1⟩ := trodAll_cons r0
  obtain ⟨rfl, rfl, rfl⟩ := trodAll_nil r1
  obtain rfl : args = #[v0, v1] := by cases args; simp_all
  obtain ⟨rfl, rfl⟩ := trodVars_none hV
  clear hA hargs
  obtain ⟨A0, c0, a0, rfl, n0, l0, b0⟩ := Tree.arg_recs (hval 0 22 v0 rfl rfl) h0 (Vers.wt_arg hsz (j := 0) rfl rfl)
  obtain ⟨A1, c1, a1, rfl, n1, l1, b1⟩ := Tree.arg_recs (hval 1 22 v1 rfl rfl) h1 (Vers.wt_arg hsz (j := 1) rfl rfl)
  have hbulk : a0.length + a1.length ≤ 1048576 := by
    have h := Bulk.bound hk
    have e0 := Mend.recs_bulk h0
    have e1 := Mend.recs_bulk h1
    simp only [List.append_nil, Rows.uptoBulkAll] at h
    omega
  refine (walk W A0 c0 a0 n0 b0 l0 A1 c1 a1 n1 b1 l1 hbulk).mono fun e W' ⟨he, hb⟩ => ?_
  subst he
  exact ⟨_, rfl, law_post Facts.laid (by rfl) Tryz.underlying4 (by rw [Tryz.params7]; decide +kernel) hW' hA1 rfl hbef rfl rfl rfl hb⟩

set_option maxRecDepth 100000 in
theorem lifted (os : Os) (started : os.Started) (H : Type) (enc : TypeId × Value → H) (F : Stop.Interp) :
    ReturnsInHanded {} Tryz.checked os 7 .any ((Rows.OpenSpec.upto Rows.mendFewSpec).pre6 enc Tryz.prog Tryz.f7 Rows.mendFewUptoRow.domain false) (((Rows.OpenSpec.upto Rows.mendFewSpec).at F).post enc Tryz.prog Tryz.f7 false true false false) := by
  refine returnsInHanded_of_cond_sized (C := Tryz.checked) (s := Rows.OpenSpec.upto Rows.mendFewSpec) (k := Rows.uptoSmall) rfl Facts.own started (by kernel_rfl) Tryz.func7
    (OpenSpec.witness (enc := enc) (C := Tryz.checked) (s := Rows.OpenSpec.upto Rows.mendFewSpec) (k := Rows.uptoSmall) rfl false ⟨#[], #[.slice none 0 0, .slice none 0 0], []⟩ 8 (by kernel_rfl) (by kernel_rfl) (by kernel_rfl)
      (x := ([.nil, .nil], [], [])) (by kernel_rfl) rfl (by kernel_rfl)) ?_
  intro W base args ds gs before hval hW _ hk hsz _
  exact contract H enc W base args ds gs before hval hW hsz hk

theorem holds : Rows.MendFewUptoSaid :=
  OpenClaim.holds_of_cond 7 Tryz.f7 rfl rfl rfl rfl rfl rfl rfl ⟨rfl, rfl, rfl, rfl, rfl⟩ rfl rfl rfl rfl rfl (by kernel_rfl) Tryz.func7 (by kernel_rfl)
    (of_decide_eq_true (by kernel_rfl)) (by unfold Func.isWrapper; first | (rw [if_pos (by decide +kernel)]; kernel_rfl) | (rw [if_neg (by decide +kernel)]; exact ⟨rfl, rfl⟩))
    (fun os started H enc _ F => lifted os started H enc F)
-- ROW END
end MendFew
end Go.Proofs.YtekhaejhmlebbaaGreat
