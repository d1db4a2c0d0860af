/-
  CodeCuts (P6.3): a message's bytes that are cut off, or have others behind them, are none. Up to a bulk.
-/
import Derived.Test.YtlmjknadaegkoaaCodeAwake
import Derived.Test.YtlmjknadaegkoaaCodeAt
import Derived.Test.YtlmjknadaegkoaaCodeMsgCut
import Derived.Test.YtlmjknadaegkoaaGCodeB
import Derived.Test.YtlmjknadaegkoaaGNumA
namespace Go.Proofs.Ytlmjknadaegkoaa
namespace CodeCuts
open Go.ChangeShapes Go.WideShapes Go.ChangeAt Go.RowKit Num Span Vers Go.Proofs.Ytlmjknadaegkoaa.Code
attribute [local go_sem ↓] Go.wp_at_zero Go.wp_at_succ

set_option maxRecDepth 100000 in
set_option maxHeartbeats 4000000 in
theorem walk (w : World) (m : Ms) (a : Pl) (hI : MsgI w 0 w.heap.size m a) (hf : Fit m) (cut : Int) (_hcut : -9223372036854775808 ≤ cut ∧ cut ≤ 9223372036854775807) (A' : Option Addr) (c' : Nat) (zs : List Int) (hr : Ns .u8 w w.heap.size A' zs) (hby : ∀ z ∈ zs, 0 ≤ z ∧ z ≤ 255) (_hbig : zs.length ≤ 140737488351232) (_hlc' : zs.length ≤ c') (hbulk : m.2.2.2.2.2.2.2.2.1.length + zs.length ≤ 1048576) :
    Calls Try.prog 5 #[.agg (mcc m a).toArray, .int .i64 cut, .slice A' zs.length c'] w fun e w' => e = .returned (.bool true) ∧ Below w.heap.size w w' := by
  obtain ⟨i0, hi0, hz0, hz1, hz2⟩ := info_parts Facts.info5
  obtain ⟨B, hB⟩ : ∃ B, w.heap.size = B := ⟨_, rfl⟩
  rw [hB] at hI hr ⊢
  have hm : ∀ W, Below B w W → MsgI W 0 W.heap.size m a := fun W h => hI.below h (by have := h.size; omega)
  have hz : ∀ W, Below B w W → Ns .u8 W W.heap.size A' zs := fun W h => (hr.below h).more (by have := h.size; omega)
  have c1 := fun W (h : Below B w W) => putmsg_at m a hf (fun hk => msgL_short hk (by omega)) W (hm W h)
  have hla := mv_is m a
  obtain ⟨L, hL⟩ : ∃ L, mcc m a = L := ⟨_, rfl⟩
  rw [hL] at c1 hla ⊢
  obtain ⟨⟨x, e⟩, hP⟩ : ∃ r, putMsgF m = r := ⟨_, rfl⟩
  rw [hP] at c1
  obtain ⟨n, hn⟩ : ∃ n, zs.length = n := ⟨_, rfl⟩
  obtain ⟨k, hk⟩ : ∃ k, x.length = k := ⟨_, rfl⟩
  have hx : e = 0 → okM m ∧ (msgL m).length ≤ 1048576 ∧ x = Frm.frameF (msgL m) ∧ (∀ z ∈ x, 0 ≤ z ∧ z ≤ 255) ∧ k ≤ 1048589 := fun he => by
    subst he
    obtain ⟨o1, o2, o3⟩ := putMsgF_ok hP
    have hfl := Frm.frame_len (msgL m)
    have hpl := putL_len ((msgL m).length : Int)
    rw [← o3, hk] at hfl
    exact ⟨o1, o2, o3, by rw [o3]; exact Frm.frame_bytes (msgL_fine o1 hf.1), by omega⟩
  have hlong : e = 0 → 0 < n → (msgWF (x ++ zs)).2 = 2 := fun he h => by
    obtain ⟨_, o2, o3, _⟩ := hx he
    rw [o3]
    exact msg_more o2 (by omega)
  have hshort : e = 0 → ∀ j, j < k → msgWF (x.take j) = (m0, 4) := fun he j h => by
    obtain ⟨_, o2, o3, _⟩ := hx he
    rw [o3]
    exact msg_cut o2 (by rw [← o3]; omega)
  rw [hn]
  obtain ⟨W, hW⟩ : ∃ W, w.alloc (.cells L.toArray 43) = W := ⟨_, rfl⟩
  have hb0 : Below B w W := by rw [← hW, ← hB]; exact (Below.refl _ w).alloc (Nat.le_refl _) _
  have hg0 : W.heap[B]? = some (.cells L.toArray 43 (0, 0)) := by rw [← hW, ← hB]; exact heap_alloc_new _ _
  have hsB : ∀ V, Below B w V → B ≤ V.heap.size := fun V h => by have := h.size; omega
  have H0 := Lib.hid (And.intro hb0 hsB)
  have HM := Lib.hid (And.intro hz (And.intro hn hk))
  have HC := Lib.hid (And.intro c1 (And.intro hx (And.intro hlong hshort)))
  have HY := Lib.hid hby
  have hn1 : n ≤ 1048576 := by omega
  clear hm hz c1 hx hlong hshort hb0 hsB hP hn hk hI hr hby hbulk _hbig hf hL
  have hsz := hla.1
  go_enter Try.func5, Try.ntmps5
  go_wp2_with (refine wpList_load_row rfl 43 _ rfl _ rfl 43 _ _ _ hg0 Try.underlying43 rfl hsz ?_)
  refine (HC.out.1 W H0.out.1).mono ?_
  rintro e1 w1 ⟨A1, c1, rfl, o1, d1⟩
  have hcap := own_cap o1
  rw [show (x, e).1 = x from rfl, HM.out.2.2] at hcap o1 ⊢
  rw [show (x, e).2 = e from rfl]
  have HA := Lib.hid (And.intro (H0.out.1.trans (d1.mono (H0.out.2 _ H0.out.1))) (own_ns (zs := x) (by rw [HM.out.2.2]; exact o1)))
  clear o1 d1
  go_wp2_with fail
  refine (awake_any w1).mono ?_
  rintro e2 w2 ⟨rfl, d2⟩
  have HB := Lib.hid (And.intro (HA.out.1.trans (d2.mono (H0.out.2 _ HA.out.1))) ((HA.out.2.below d2).more d2.size))
  clear d2
  by_cases he : e = 0
  · subst he
    have hkk := (HC.out.2.1 (by simp)).2.2.2.2
    by_cases h1 : cut < 0
    · have hd1 : decide (cut < 0) = true := decide_eq_true h1
      go_wp2_with fail
      refine (awake_any w2).mono ?_
      rintro e3 w3 ⟨rfl, d3⟩
      have HO := Lib.hid (HB.out.1.trans (d3.mono (H0.out.2 _ HB.out.1)))
      clear d3
      go_wp2_with fail
      go_ret
      exact ⟨rfl, HO.out⟩
    · have hd1 : decide (cut < 0) = false := decide_eq_false h1
      by_cases h2 : (k : Int) ≤ cut
      · have hd2 : decide ((k : Int) ≤ cut) = true := decide_eq_true h2
        go_wp2_with fail
        refine (awake_any w2).mono ?_
        rintro e3 w3 ⟨rfl, d3⟩
        have HO := Lib.hid (HB.out.1.trans (d3.mono (H0.out.2 _ HB.out.1)))
        clear d3
        go_wp2_with fail
        go_ret
        exact ⟨rfl, HO.out⟩
      · have hd2 : decide ((k : Int) ≤ cut) = false := decide_eq_false h2
        by_cases h3 : n = 0
        · have hd3 : ((n : Int) == 0) = true := by simp [h3]
          go_wp2_with fail
          refine (awake_any w2).mono ?_
          rintro e3 w3 ⟨rfl, d3⟩
          have HO := Lib.hid (HB.out.1.trans (d3.mono (H0.out.2 _ HB.out.1)))
          clear d3
          go_wp2_with fail
          go_ret
          exact ⟨rfl, HO.out⟩
        · have hd3 : ((n : Int) == 0) = false := by simp [h3]
          obtain ⟨j, rfl⟩ : ∃ j : Nat, cut = j := ⟨cut.toNat, by omega⟩
          have hjk : j < k := by omega
          have hcut := Cut.cut_h A1 k c1 j (j : Int) rfl (by omega) hcap
          have hxby := (HC.out.2.1 (by simp)).2.2.2.1
          have htl : (x.take j).length = j := by rw [List.length_take, HM.out.2.2]; omega
          have hc4 := msg_any A1 c1 j (x.take j) htl w2 (HB.out.2.take j) (fun z hz => hxby z (List.mem_of_mem_take hz)) (by omega) (by omega)
          rw [HC.out.2.2.2 (by simp) j hjk] at hc4
          have H4 := Lib.hid hc4
          have HP0 : Hid (0 < n) := Lib.hid (by omega)
          clear hc4 hxby htl h1 h2 h3
          go_wp2_with fail
          refine H4.out.mono ?_
          rintro e4 w4 ⟨a4, rfl, _, d4⟩
          have b4 := HB.out.1.trans (d4.mono (H0.out.2 _ HB.out.1))
          rw [show (m0, (4 : Int)).1 = m0 from rfl]
          rw [show (m0, (4 : Int)).2 = 4 from rfl]
          have hla4 := mv_is m0 a4
          obtain ⟨L4, hL4⟩ : ∃ L, mcc m0 a4 = L := ⟨_, rfl⟩
          rw [hL4] at hla4 ⊢
          obtain ⟨W4, hW4⟩ : ∃ W, w4.alloc (.cells L4.toArray 43) = W := ⟨_, rfl⟩
          have b5 : Below B w W4 := by rw [← hW4]; exact b4.alloc (H0.out.2 _ b4) _
          have dd : Below w2.heap.size w2 W4 := by rw [← hW4]; exact d4.alloc d4.size _
          have x5 : Ns .u8 W4 W4.heap.size A1 x := (HB.out.2.below dd).more dd.size
          have y5 : Ns .u8 W4 W4.heap.size A' zs := HM.out.1 W4 b5
          have hsz4 := hla4.1
          have hone4 := hla4.2
          have hl4 := mv_len hla4
          have HB5 := Lib.hid b5
          clear b4 d4 hla4 b5 hL4 dd
          go_wp2_with (first
            | (refine wpList_store_row rfl 43 _ _ rfl _ L4.toArray rfl rfl 43 _ (heap_alloc_new _ _) hsz4 hl4.symm hone4 ?_; simp only [World.setRow_alloc_new])
            | (at_builtin; refine wpList_append_ns _ rfl (.tmp 48) (.tmp 49) 23 rfl W4.heap.size 5 i0 (.int .u8 0) 1 Try.underlying23 hi0 hz0 hz1 hz2 rfl (.slice none 0 0) (0) ([]) rfl (World.ownsRow_nil _ _ _ _) .u8 W4.heap.size A1 k c1 x HM.out.2.2 rfl x5 (by omega) (by omega) (Nat.le_refl _) ?_; intro v6 w6 o6 g6 at6; have b6 : Below W4.heap.size W4 w6 := (Below.refl _ _).grown g6 (Nat.le_refl _) (by simp [Value.ownBlock]); have y6 := y5.below b6)
            | (at_builtin; refine wpList_append_ns _ rfl (.tmp 51) (.tmp 52) 23 rfl W4.heap.size 5 i0 (.int .u8 0) 1 Try.underlying23 hi0 hz0 hz1 hz2 rfl _ (0 + k) ([] ++ nums .u8 x) rfl o6 .u8 W4.heap.size A' n c' zs HM.out.2.1 rfl y6 (by omega) (by omega) b6.size ?_; intro v7 w7 o7 g7 at7; have b7 : Below W4.heap.size W4 w7 := b6.grown g7 b6.size (fun k hk => (o6.lt k hk).1); obtain ⟨N, hN⟩ : ∃ N, 0 + k + n = N := ⟨_, rfl⟩; rw [hN] at o7; obtain ⟨A7, c7, hv7⟩ := own_form o7; have HN := Lib.hid hN; clear hN; subst hv7))
          have hcap7 := own_cap o7
          have hxz : (x ++ zs).length = N := by rw [List.length_append, HM.out.2.1, HM.out.2.2, ← HN.out, Nat.zero_add]
          have o7' : Ns .u8 w7 w7.heap.size A7 (x ++ zs) := own_ns (zs := x ++ zs) (by rw [hxz]; simpa [nums] using o7)
          have hxby := (HC.out.2.1 (by simp)).2.2.2.1
          have hc8 := msg_any A7 c7 N (x ++ zs) hxz w7 o7' (fun z hz => (List.mem_append.1 hz).elim (hxby z) (HY.out z)) hcap7 (by have := HN.out; omega)
          obtain ⟨⟨M8, E8⟩, hE8⟩ : ∃ r, msgWF (x ++ zs) = r := ⟨_, rfl⟩
          have he8 : E8 = 2 := by have := HC.out.2.2.1 (by simp) HP0.out; rwa [hE8] at this
          subst he8
          rw [hE8] at hc8
          clear hxz
          refine hc8.mono ?_
          rintro e8 w8 ⟨a8, rfl, _, d8⟩
          have b8 := HB5.out.trans ((b7.mono (H0.out.2 _ HB5.out)).trans (d8.mono (Nat.le_trans (H0.out.2 _ HB5.out) b7.size)))
          rw [show (M8, (2 : Int)).1 = M8 from rfl]
          rw [show (M8, (2 : Int)).2 = 2 from rfl]
          have hla8 := mv_is M8 a8
          obtain ⟨L8, hL8⟩ : ∃ L, mcc M8 a8 = L := ⟨_, rfl⟩
          rw [hL8] at hla8 ⊢
          have hsz8 := hla8.1
          have hone8 := hla8.2
          have hl8 := mv_len hla8
          have HB9 := Lib.hid (b8.alloc (H0.out.2 _ b8) (.cells L8.toArray 43))
          clear b8 d8 hla8 hL8 o7 o7' g7 at7 b7 o6 g6 at6 b6 x5 y5 y6 hxby hc8 hE8
          go_wp2_with (refine wpList_store_row rfl 43 _ _ rfl _ L8.toArray rfl rfl 43 _ (heap_alloc_new _ _) hsz8 hl8.symm hone8 ?_; simp only [World.setRow_alloc_new])
          go_ret
          exact ⟨rfl, HB9.out⟩
  · have hE1 : (e != 0) = true := by simpa using he
    go_wp2_with fail
    refine (awake_any w2).mono ?_
    rintro e3 w3 ⟨rfl, d3⟩
    have HO := Lib.hid (HB.out.1.trans (d3.mono (H0.out.2 _ HB.out.1)))
    clear d3
    go_wp2_with fail
    go_ret
    exact ⟨rfl, HO.out⟩
-- ROW BEGIN
set_option maxRecDepth 100000 in
/-- What the walk gives, shut again. -/
theorem contract (H : Type) (enc : TypeId × Value → H) (W : World) (base : Nat) (args : Array Value) (ds gs : List (DataW H)) (before : List MemPlace)
    (hval : ∀ (j : Nat) t v, Try.f5.params[j]? = some t → args[j]? = some v → Value.okWide Try.prog W .any base t v)
    (hW : DataW.Whole enc Try.prog Try.f5.params.toList Rows.codeCutsSpec.vars false W args.toList ds gs before)
    (hsz : (DataW.weightsEach Try.prog (Try.f5.params.toList ++ Rows.codeCutsSpec.plain.varTypes Try.prog) (ds ++ gs)).all (· ≤ reachBytes) = true) (hk : Rows.uptoSmall H (ds ++ gs) = true) :
    Calls Try.prog 5 args W fun e W' => ∃ v, e = .returned v ∧ Rows.codeCutsSpec.post enc Try.prog Try.f5 false true false false W args v W' := by
  have hW' := hW
  obtain ⟨p, q, hA0, hV, hbef, _, _⟩ := hW
  have hA : DataW.TrodAll enc Try.prog W 0 (fun _ => true) true Try.f5.params.toList args.toList ds p := hA0
  have hA1 := hA
  rw [Try.params5] at hA hval hsz
  obtain ⟨v0, vs0, d0, ds0, p0, q0, hargs, rfl, rfl, h0, r0⟩ := trodAll_cons hA
  obtain ⟨v1, vs1, d1, ds1, p1, q1, rfl, rfl, rfl, h1, r1⟩ := trodAll_cons r0
  obtain ⟨v2, vs2, d2, ds2, p2, q2, rfl, rfl, rfl, h2, r2⟩ := trodAll_cons r1
  obtain ⟨rfl, rfl, rfl⟩ := trodAll_nil r2
  obtain rfl : args = #[v0, v1, v2] := by cases args; simp_all
  obtain ⟨rfl, rfl⟩ := trodVars_none hV
  clear hA hargs
  obtain ⟨a0, l0, rfl, n0, f0, b0⟩ := Code.arg_msg (hval 0 43 v0 rfl rfl) h0 (Vers.wt_arg hsz (j := 0) rfl rfl)
  obtain ⟨a1, rfl, rfl, _, w1⟩ := open_int Try.underlying3 (hval 1 3 v1 rfl rfl) h1
  obtain ⟨A2, c2, a2, rfl, n2, w2, l2, _, o2⟩ := open_ns Try.underlying23 Try.underlying5 Facts.cells5 (hval 2 23 v2 rfl rfl) h2
  have b2 := reach_ns hsz (j := 2) rfl rfl Try.underlying23 Facts.bytes5 l2 o2
  have hbulk : a0.2.2.2.2.2.2.2.2.1.length + a2.length ≤ 1048576 := by
    have h := Bulk.bound hk
    have e2 := Bulk.ns_le (H := H) o2 l2
    simp only [List.append_nil, Rows.uptoBulkAll] at h
    omega
  refine (walk W a0 l0 n0 f0 a1 (wf_int w1) A2 c2 a2 n2 (fun z hz => wf_byte (w2 z hz)) (by omega) l2 hbulk).mono fun e W' ⟨he, hb⟩ => ?_
  subst he
  exact ⟨_, rfl, law_post Facts.laid (by rfl) Try.underlying4 (by rw [Try.params5]; decide +kernel) hW' hA1 rfl hbef rfl rfl rfl hb⟩

set_option maxRecDepth 100000 in
theorem lifted (os : Os) (started : os.Started) (H : Type) (enc : TypeId × Value → H) (F : Stop.Interp) :
    ReturnsInHanded {} Try.checked os 5 .any ((Rows.OpenSpec.upto Rows.codeCutsSpec).pre6 enc Try.prog Try.f5 Rows.codeCutsUptoRow.domain false) (((Rows.OpenSpec.upto Rows.codeCutsSpec).at F).post enc Try.prog Try.f5 false true false false) := by
  refine returnsInHanded_of_cond_sized (C := Try.checked) (s := Rows.OpenSpec.upto Rows.codeCutsSpec) (k := Rows.uptoSmall) rfl Facts.own started (by kernel_rfl) Try.func5
    (OpenSpec.witness (enc := enc) (C := Try.checked) (s := Rows.OpenSpec.upto Rows.codeCutsSpec) (k := Rows.uptoSmall) rfl false ⟨#[], #[.agg #[.int .i64 0, .int .i64 0, .int .i64 0, .int .i64 0, .int .i64 0, .int .i64 0, .int .i64 0, .int .i64 0, .int .i64 0, .string ⟨#[]⟩, .slice none 0 0, .slice none 0 0, .slice none 0 0, .slice none 0 0, .slice none 0 0], .int .i64 0, .slice none 0 0], []⟩ 8 (by kernel_rfl) (by kernel_rfl) (by kernel_rfl)
      (x := ([.agg [.lit (.int .i64 0), .agg [.lit (.int .i64 0), .lit (.int .i64 0)], .agg [.lit (.int .i64 0), .lit (.int .i64 0)], .lit (.int .i64 0), .lit (.int .i64 0), .lit (.int .i64 0), .lit (.int .i64 0), .lit (.string []), .nil, .nil, .nil, .nil, .nil], .lit (.int .i64 0), .nil], [], [])) (by kernel_rfl) rfl (by kernel_rfl)) ?_
  intro W base args ds gs before hval hW _ hk hsz _
  exact contract H enc W base args ds gs before hval hW hsz hk

theorem holds : Rows.CodeCutsUptoSaid :=
  OpenClaim.holds_of_cond 5 Try.f5 rfl rfl rfl rfl rfl rfl rfl ⟨rfl, rfl, rfl, rfl, rfl⟩ rfl rfl rfl rfl rfl (by kernel_rfl) Try.func5 (by kernel_rfl)
    (of_decide_eq_true (by kernel_rfl)) (by unfold Func.isWrapper; first | (rw [if_pos (by decide +kernel)]; kernel_rfl) | (rw [if_neg (by decide +kernel)]; exact ⟨rfl, rfl⟩))
    (fun os started H enc _ F => lifted os started H enc F)
-- ROW END
end CodeCuts
end Go.Proofs.Ytlmjknadaegkoaa
