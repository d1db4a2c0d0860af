/-
  TreeOrder (P11.4): a tree's hashes hang on the records that are there alone: what was there ahead, and the order, leave no trace; asking in between changes nothing. For every input.
-/
import Derived.Test.YtbaclinjimfncaaGreatTreeTwo
import Derived.Test.YtbaclinjimfncaaGreatTreeArgs
namespace Go.Proofs.YtbaclinjimfncaaGreat
namespace TreeOrder
open Go.ChangeShapes Go.WideShapes Go.ChangeAt Go.RowKit Vers Num Ring Disk Blk Tree
open Go.Proofs.YtbaclinjimfncaaGreat.Code hiding Bn
attribute [local go_sem ↓] Go.wp_at_zero Go.wp_at_succ
theorem getD_mem {l : List Rc} {k : Nat} (hk : k < l.length) : l.getD k r0 ∈ l := by
  rw [List.getD_eq_getElem?_getD, List.getElem?_eq_getElem hk]
  exact List.getElem_mem _
/-- How far the laying of the records has come: from the head, or from the end. -/
def laidK (L : List Rc) (b : Bool) (i : Nat) : List Rc := if b = true then L.take i else L.drop (L.length - i)
theorem laid_zero (L : List Rc) (b : Bool) : laidK L b 0 = [] := by unfold laidK; cases b <;> simp
theorem laid_full (L : List Rc) (b : Bool) : laidK L b L.length = L := by unfold laidK; cases b <;> simp
theorem laid_len (L : List Rc) (b : Bool) (i : Nat) : (laidK L b i).length ≤ L.length := by
  unfold laidK
  split
  · rw [List.length_take]; omega
  · rw [List.length_drop]; omega
def idx (n : Nat) (b : Bool) (i : Nat) : Nat := if b = true then i else n - 1 - i
theorem laid_step {L : List Rc} (hs : okAll L) (b : Bool) {i : Nat} (hi : i < L.length) {r : Rc} (hr : L.getD (idx L.length b i) r0 = r) : withR (laidK L b i) r = laidK L b (i + 1) := by
  have hk : idx L.length b i < L.length := by unfold idx; split <;> omega
  have hne : r.2 ≠ [] := by rw [← hr]; exact (hs.2 _ (getD_mem hk)).2
  cases b
  · have e : idx L.length false i = L.length - 1 - i := rfl
    rw [e] at hr hk
    have h := drop_in hs.1 hk hr hne
    unfold laidK
    rw [if_neg (by simp), if_neg (by simp), show L.length - i = L.length - 1 - i + 1 by omega, h, show L.length - 1 - i = L.length - (i + 1) by omega]
  · exact take_in hs.1 hi hr hne
set_option maxRecDepth 100000 in
set_option maxHeartbeats 16000000 in
theorem walk (w : World) (A : Option Addr) (c : Nat) (l : List Rc) (hl : Rs w 0 w.heap.size A l) (hb : l.length * 40 ≤ 140737488351232) (_hlc : l.length ≤ c) (A' : Option Addr) (c' : Nat) (l' : List Rc) (hl' : Rs w 0 w.heap.size A' l') (hb' : l'.length * 40 ≤ 140737488351232) (_hlc' : l'.length ≤ c') (turn : Int) (_ht : -9223372036854775808 ≤ turn ∧ turn ≤ 9223372036854775807) :
    Calls Tryz.prog 5 #[.slice A l.length c, .slice A' l'.length c', .int .i64 turn] w fun e w' => e = .returned (.bool true) ∧ Below w.heap.size w w' := by
  obtain ⟨n, hn⟩ : ∃ n, l.length = n := ⟨_, rfl⟩
  obtain ⟨n', hn'⟩ : ∃ n, l'.length = n := ⟨_, rfl⟩
  rw [hn] at hb ⊢
  rw [hn'] at hb' ⊢
  have HZ := Lib.hid (And.intro hl (And.intro hn (And.intro hl' hn')))
  have H0 := Lib.hid (awake_any w)
  clear hl hn hl' hn' _ht
  go_enter Tryz.func5, Tryz.ntmps5
  go_wp2_with fail
  refine H0.out.mono ?_
  rintro e1 w1 ⟨rfl, b1⟩
  have H1 := Lib.hid (built_tw A c n l HZ.out.2.1 (by omega) w w1 b1 HZ.out.1)
  have HB1 := Lib.hid b1.size
  clear b1 H0
  go_wp2_with fail
  refine H1.out.mono ?_
  rintro e2 w2 ⟨tb1, A1, n1, c1, rfl, hn1, h2⟩
  have H2 := Lib.hid (built_tw A' c' n' l' HZ.out.2.2.2 (by omega) w w2 h2.out.2.1.old HZ.out.2.2.1)
  clear H1
  unfold hd
  go_wp2_with fail
  refine H2.out.mono ?_
  rintro e3 w3 ⟨tb2, A2, n2, c2, rfl, hn2, h3⟩
  obtain ⟨L1, hL1⟩ : ∃ L, layG l = L := ⟨_, rfl⟩
  obtain ⟨L2, hL2⟩ : ∃ L, layG l' = L := ⟨_, rfl⟩
  rw [hL1] at h2
  rw [hL2] at h3
  have HL := Lib.hid (And.intro h2.out.1 h3.out.1)
  have T3 := Lib.hid (Two.start HB1.out h2.out.2.1 h3.out.2.1 h3.out.2.2 h2.out.2.2.size)
  have HOK := Lib.hid (And.intro T3.out.ok1 T3.out.ok2)
  have H3 := Lib.hid (T3.out.hash2 (by have := HL.out.2; omega))
  obtain ⟨B1, hB1⟩ : ∃ B, w1.heap.size = B := ⟨_, rfl⟩
  obtain ⟨B2, hB2⟩ : ∃ B, w2.heap.size = B := ⟨_, rfl⟩
  rw [hB1, hB2] at H3
  clear h2 h3 H2 hL1 hL2 T3 HB1 hB1 hB2
  unfold hd
  go_wp2_with fail
  refine H3.out.mono ?_
  rintro e4 w4 ⟨rfl, h4⟩
  clear H3
  go_wp2_with fail
  go_loopw [12] (fun q wr => ∃ k : Nat, q = .int .i64 k ∧ k ≤ n2 ∧ Hid (Two w B1 tb1 L1 (.slice A1 n1 c1) B2 tb2 (L2.drop k) L2 (.slice A2 n2 c2) wr)) (fun q _ => n2 - (intOf q).toNat)
  case atStart => exact ⟨0, rfl, by omega, Lib.hid h4.out⟩
  case round =>
    clear h4
    obtain ⟨k, rfl, hk, hst⟩ := hrel
    have hbw := hst.out.old
    by_cases hlt : k < n2
    · have d1 : (0 : Int) ≤ (k : Int) := by omega
      have d2 : (k : Int) < (n2 : Int) := by omega
      have hkl : k < L2.length := by have := HL.out.2; omega
      obtain ⟨pb, off, A4, c4, rfl, _, hbB, k0, k1, k2, k3⟩ := hst.out.rs2.at HL.out.2 hbw.size (Below.refl _ _) hlt rfl
      obtain ⟨r, hrr⟩ : ∃ r, L2.getD k r0 = r := ⟨_, rfl⟩
      have hok := (HOK.out.2.2 _ (getD_mem hkl)).1
      rw [hrr] at k0 k1 k2 k3 hok
      obtain ⟨key', lv'⟩ := r
      simp only at k0 k1 k2 k3
      have H5 := Lib.hid (hst.out.set (lv := []) (by rw [List.length_drop]; have := HL.out.2; omega) key' none 0 0 rfl (Vs.nil _) ⟨hok.1, hok.2.1, show RightV [] by decide⟩ (drop_out HOK.out.2.1 hkl hrr))
      have H6 := Lib.hid (fun W (T : Two w B1 tb1 L1 (.slice A1 n1 c1) B2 tb2 (L2.drop (k + 1)) L2 (.slice (some ⟨pb, off, none⟩) n2 c2) W) => T.kids2 (by rw [List.length_drop]; have := HL.out.2; omega) none [] ns_nil (fun a h => by simp at h) none 0 0 [] rfl (by omega) ns_nil)
      clear hst hbw k1 k2 k3 hok hrr hkl
      go_wp2_with fail
      refine H5.out.mono ?_
      rintro e5 w5 ⟨rfl, h5⟩
      go_wp2_with fail
      refine (H6.out _ h5.out).mono ?_
      rintro e6 w6 ⟨A6, m6, c6, rfl, h6⟩
      have HF := Lib.hid h6.out.2.2.2.1
      clear h5 h6 H5
      go_wp2_with fail
      go_roundw
      case rel => exact ⟨k + 1, by go_num, by omega, HF⟩
      case measure => simp only [intOf]; omega
    · have hkm : k = n2 := by omega
      subst hkm
      have hd : L2.drop k = [] := List.drop_eq_nil_of_le (by have := HL.out.2; omega)
      rw [hd] at hst
      clear hd hbw
      obtain ⟨m, hm⟩ : ∃ m, Int.tmod turn 2 = m := ⟨_, rfl⟩
      obtain ⟨b, hbb⟩ : ∃ b, (m == 0) = b := ⟨_, rfl⟩
      have HI : Hid (Two w B1 tb1 L1 (.slice A1 n1 c1) B2 tb2 (laidK L1 b 0) L2 (.slice A2 k c2) wr) := Lib.hid (by rw [laid_zero]; exact hst.out)
      clear hst
      go_wp2_with fail
      go_loopw [14] (fun q wr => ∃ i : Nat, q = .int .i64 i ∧ i ≤ n1 ∧ Hid (Two w B1 tb1 L1 (.slice A1 n1 c1) B2 tb2 (laidK L1 b i) L2 (.slice A2 k c2) wr)) (fun q _ => n1 - (intOf q).toNat)
      case atStart => exact ⟨0, rfl, by omega, HI⟩
      case round =>
        clear HI
        obtain ⟨i, rfl, hi, hst⟩ := hrel
        have hbw := hst.out.old
        by_cases hlt2 : i < n1
        · have f1 : IntKind.i64.wrap ((n1 : Int) - 1) = (n1 : Int) - 1 := Go.IntWalk.i64_in _ (by omega)
          have f2 : IntKind.i64.wrap ((n1 : Int) - 1 - (i : Int)) = ((n1 - 1 - i : Nat) : Int) := (Go.IntWalk.i64_in _ (by omega)).trans (by omega)
          obtain ⟨j, hj⟩ : ∃ j, idx n1 b i = j := ⟨_, rfl⟩
          have hjn : j < n1 := by rw [← hj]; unfold idx; split <;> omega
          have d3 : (0 : Int) ≤ (j : Int) := by omega
          have d4 : (j : Int) < (n1 : Int) := by omega
          obtain ⟨pb, off, A4, c4, rfl, _, hbB, k0, k1, k2, k3⟩ := hst.out.rs1.at HL.out.1 hbw.size (Below.refl _ _) hjn rfl
          obtain ⟨r, hrr⟩ : ∃ r, L1.getD j r0 = r := ⟨_, rfl⟩
          have hok := (HOK.out.1.2 _ (getD_mem (l := L1) (k := j) (by have := HL.out.1; omega))).1
          rw [hrr] at k0 k1 k2 k3 hok
          obtain ⟨key', lv'⟩ := r
          simp only at k0 k1 k2 k3
          obtain ⟨ml, hml⟩ : ∃ ml, lv'.length = ml := ⟨_, rfl⟩
          rw [hml] at k1 k3
          have H5 := Lib.hid (hst.out.set (by have := laid_len L1 b i; have := HL.out.1; omega) key' A4 c4 ml lv' hml (k2.more hbw.size) hok (laid_step HOK.out.1 b (i := i) (by have := HL.out.1; omega) (by rw [HL.out.1, hj]; exact hrr)))
          clear hst hbw k2 k3 hok hrr hml
          cases b
          · have e9 : n1 - 1 - i = j := hj
            rw [e9] at f2
            clear hj e9
            go_wp2_with fail
            refine H5.out.mono ?_
            rintro e5 w5 ⟨rfl, HF⟩
            clear H5
            go_wp2_with fail
            go_roundw
            case rel => exact ⟨i + 1, by go_num, by omega, HF⟩
            case measure => simp only [intOf]; omega
          · have e9 : i = j := hj
            subst e9
            clear hj
            go_wp2_with fail
            refine H5.out.mono ?_
            rintro e5 w5 ⟨rfl, HF⟩
            clear H5
            go_wp2_with fail
            go_roundw
            case rel => exact ⟨i + 1, by go_num, by omega, HF⟩
            case measure => simp only [intOf]; omega
        · have him : i = n1 := by omega
          subst him
          have HI : Hid (Two w B1 tb1 L1 (.slice A1 i c1) B2 tb2 L1 L2 (.slice A2 k c2) wr) := Lib.hid (by have h9 := hst.out; rw [← HL.out.1, laid_full] at h9; rw [← HL.out.1]; exact h9)
          clear hst hbw
          go_wp2_with fail
          go_loopw [16] (fun q wr => ∃ p : Nat, q = .int .i64 p ∧ p ≤ 16 ∧ Hid (Two w B1 tb1 L1 (.slice A1 i c1) B2 tb2 L1 L2 (.slice A2 k c2) wr)) (fun q _ => 16 - (intOf q).toNat)
          case atStart => exact ⟨0, rfl, by omega, HI⟩
          case round =>
            clear HI
            obtain ⟨p, rfl, hp, hst⟩ := hrel
            by_cases hlt3 : p < 16
            · have d5 : (p : Int) < 16 := by omega
              have H7 := Lib.hid ((hst.out.below (W' := wr.alloc (.cells #[.int .i64 p] 3)) ((Below.refl _ _).alloc (Nat.le_refl _) _)).kids1 (by have := HL.out.1; omega) (some ⟨wr.heap.size, 0, none⟩) 1 1 [(p : Int)] rfl (by omega) (ns_row1 wr p))
              clear hst
              go_wp2_with fail
              refine H7.out.mono ?_
              rintro e7 w7 ⟨A7, m7, c7, rfl, h7⟩
              have b8 : Below w7.heap.size w7 (w7.alloc (.cells #[.int .i64 p] 3)) := (Below.refl _ _).alloc (Nat.le_refl _) _
              have H8 := Lib.hid ((h7.out.2.2.2.1.below b8).kids2 (by have := HL.out.1; omega) A7 (kidsF L1 [(p : Int)]) ((h7.out.2.1.below b8).more b8.size) (fun a h0 => h7.out.2.2.1 a (by rw [← h7.out.1]; exact h0)) (some ⟨w7.heap.size, 0, none⟩) 1 1 [(p : Int)] rfl (by omega) (ns_row1 w7 p))
              have HM := Lib.hid h7.out.1
              clear h7 H7 b8
              go_wp2_with fail
              refine H8.out.mono ?_
              rintro e8 w8 ⟨A8, m8, c8, rfl, h8⟩
              have H9 := Lib.hid (same_hashes c7 c8 m7 m8 _ HM.out h8.out.1 (kidsF_len _ _) w8 h8.out.2.2.1 h8.out.2.1)
              have T8 := Lib.hid h8.out.2.2.2.1
              clear h8 H8
              go_wp2_with fail
              refine H9.out.mono ?_
              rintro e9 w9 ⟨rfl, b9⟩
              have HF := Lib.hid (T8.out.below b9)
              clear b9 H9
              go_wp2_with fail
              go_roundw
              case rel => exact ⟨p + 1, by go_num, by omega, HF⟩
              case measure => simp only [intOf]; omega
            · have d5 : ¬ (p : Int) < 16 := by omega
              have H7 := Lib.hid (hst.out.hash1 (by have := HL.out.1; omega))
              clear hst
              go_wp2_with fail
              refine H7.out.mono ?_
              rintro e7 w7 ⟨rfl, T7⟩
              have H8 := Lib.hid (T7.out.hash2 (by have := HL.out.1; omega))
              clear H7 T7
              go_wp2_with fail
              refine H8.out.mono ?_
              rintro e8 w8 ⟨rfl, T8⟩
              have H9 := Lib.hid (T8.out.recs1 (by have := HL.out.1; omega))
              clear H8 T8
              go_wp2_with fail
              refine H9.out.mono ?_
              rintro e9 w9 ⟨A9, m9, c9, rfl, h9⟩
              have Ha := Lib.hid (h9.out.2.2.recs2 (by have := HL.out.1; omega))
              clear H9
              go_wp2_with fail
              refine Ha.out.mono ?_
              rintro ea wa ⟨Aa, ma, ca, rfl, ha⟩
              have ba := ha.out.2.2.2
              have Hb := Lib.hid (same_recs c9 ca m9 ma L1 h9.out.1 ha.out.1 (by have := HL.out.1; omega) wa ((h9.out.2.1.below ba).more ba.size) ha.out.2.1)
              have Ta := Lib.hid ha.out.2.2.1
              clear ha h9 Ha ba
              go_wp2_with fail
              refine Hb.out.mono ?_
              rintro eb wb ⟨rfl, bb⟩
              have HE := Lib.hid (Ta.out.below bb).old
              clear bb Hb
              go_wp2_with fail
              go_ret
              exact ⟨rfl, HE.out⟩
-- ROW BEGIN
set_option maxRecDepth 100000 in
/-- What the walk gives, shut again. -/
theorem contract (H : Type) (enc : TypeId × Value → H) (W : World) (base : Nat) (args : Array Value) (ds gs : List (DataW H)) (before : List MemPlace)
    (hval : ∀ (j : Nat) t v, Tryz.f5.params[j]? = some t → args[j]? = some v → Value.okWide Tryz.prog W .any base t v)
    (hW : DataW.Whole enc Tryz.prog Tryz.f5.params.toList Rows.treeOrderSpec.vars false W args.toList ds gs before)
    (hsz : (DataW.weightsEach Tryz.prog (Tryz.f5.params.toList ++ Rows.treeOrderSpec.plain.varTypes Tryz.prog) (ds ++ gs)).all (· ≤ reachBytes) = true) :
    Calls Tryz.prog 5 args W fun e W' => ∃ v, e = .returned v ∧ Rows.treeOrderSpec.post enc Tryz.prog Tryz.f5 false true false false W args v W' := by
  have hW' := hW
  obtain ⟨p, q, hA0, hV, hbef, _, _⟩ := hW
  have hA : DataW.TrodAll enc Tryz.prog W 0 (fun _ => true) true Tryz.f5.params.toList args.toList ds p := hA0
  have hA1 := hA
  rw [Tryz.params5] at hA hval hsz
  obtain ⟨v0, vs0, d0, ds0, p0, q0, hargs, rfl, rfl, h0, r0⟩ := trodAll_cons hA
  obtain ⟨v1, vs1, d1, ds1, p1, q1, rfl, rfl, rfl, h1, r1⟩ := trodAll_cons r0
  obtain ⟨v2, vs2, d2, ds2, p2, q2, rfl, rfl, rfl, h2, r2⟩ := trodAll_cons r1
  obtain ⟨rfl, rfl, rfl⟩ := trodAll_nil r2
  obtain rfl : args = #[v0, v1, v2] := by cases args; simp_all
  obtain ⟨rfl, rfl⟩ := trodVars_none hV
  clear hA hargs
  obtain ⟨A0, c0, a0, rfl, n0, l0, b0⟩ := Tree.arg_recs (hval 0 22 v0 rfl rfl) h0 (Vers.wt_arg hsz (j := 0) rfl rfl)
  obtain ⟨A1, c1, a1, rfl, n1, l1, b1⟩ := Tree.arg_recs (hval 1 22 v1 rfl rfl) h1 (Vers.wt_arg hsz (j := 1) rfl rfl)
  obtain ⟨a2, rfl, rfl, _, w2⟩ := open_int Tryz.underlying3 (hval 2 3 v2 rfl rfl) h2
  refine (walk W A0 c0 a0 n0 b0 l0 A1 c1 a1 n1 b1 l1 a2 (wf_int w2)).mono fun e W' ⟨he, hb⟩ => ?_
  subst he
  exact ⟨_, rfl, law_post Facts.laid (by rfl) Tryz.underlying4 (by rw [Tryz.params5]; decide +kernel) hW' hA1 rfl hbef rfl rfl rfl hb⟩

set_option maxRecDepth 100000 in
theorem lifted (os : Os) (started : os.Started) (H : Type) (enc : TypeId × Value → H) :
    ReturnsInHanded {} Tryz.checked os 5 .any (Rows.treeOrderSpec.pre6 enc Tryz.prog Tryz.f5 Rows.treeOrderRow.domain false) (Rows.treeOrderSpec.post enc Tryz.prog Tryz.f5 false true false false) := by
  refine returnsInHanded_of_change_sized (C := Tryz.checked) Facts.own started (by kernel_rfl) Tryz.func5
    (ChangeSpec.witness6 (enc := enc) (C := Tryz.checked) false ⟨#[], #[.slice none 0 0, .slice none 0 0, .int .i64 0], []⟩ 8 (by kernel_rfl) (by kernel_rfl) (by kernel_rfl) (by kernel_rfl)) ?_
  intro W base args ds gs before hval hW _ hsz _
  exact contract H enc W base args ds gs before hval hW hsz

theorem holds : Rows.TreeOrderSaid :=
  OpenClaim.holds_of_wide 5 Tryz.f5 rfl rfl rfl rfl rfl rfl rfl ⟨rfl, rfl, rfl, rfl, rfl⟩ rfl rfl rfl rfl rfl (by kernel_rfl) Tryz.func5 (by kernel_rfl)
    (of_decide_eq_true (by kernel_rfl)) (by unfold Func.isWrapper; first | (rw [if_pos (by decide +kernel)]; kernel_rfl) | (rw [if_neg (by decide +kernel)]; exact ⟨rfl, rfl⟩))
    (fun os started H enc _ => lifted os started H enc)
-- ROW END
end TreeOrder
end Go.Proofs.YtbaclinjimfncaaGreat
