/-
  CodeBack (P6.4): every message that may be is read from its bytes as it was, and bytes that are read are the only ones of their message. Up to a bulk.
-/
import Derived.Test.YtlmjknadaegkoaaCodeAwake
import Derived.Test.YtlmjknadaegkoaaCodeAt
import Derived.Test.YtlmjknadaegkoaaGCodeB
import Derived.Test.YtlmjknadaegkoaaGNumA
namespace Go.Proofs.Ytlmjknadaegkoaa
namespace CodeBack
open Go.ChangeShapes Go.WideShapes Go.ChangeAt Go.RowKit Num Span Vers Go.Proofs.Ytlmjknadaegkoaa.Code
attribute [local go_sem ↓] Go.wp_at_zero Go.wp_at_succ

set_option maxRecDepth 100000 in
set_option maxHeartbeats 4000000 in
theorem walk (w : World) (m : Ms) (a : Pl) (hI : MsgI w 0 w.heap.size m a) (hf : Fit m) (A' : Option Addr) (c' : Nat) (zs : List Int) (hr : Ns .u8 w w.heap.size A' zs) (hby : ∀ z ∈ zs, 0 ≤ z ∧ z ≤ 255) (_hbig : zs.length ≤ 140737488351232) (hlc' : zs.length ≤ c') (hbulk : m.2.2.2.2.2.2.2.2.1.length + zs.length ≤ 1048576) :
    Calls Try.prog 4 #[.agg (mcc m a).toArray, .slice A' zs.length c'] w fun e w' => e = .returned (.bool true) ∧ Below w.heap.size w w' := by
  obtain ⟨B, hB⟩ : ∃ B, w.heap.size = B := ⟨_, rfl⟩
  have hm : ∀ W, Below B w W → MsgI W 0 W.heap.size m a := fun W h => hI.below (hB ▸ h) h.size
  have hz : ∀ W, Below B w W → Ns .u8 W W.heap.size A' zs := fun W h => (hr.below (hB ▸ h)).more h.size
  have c1 := fun W (h : Below B w W) => putmsg_at m a hf (fun hk => msgL_short hk (by omega)) W (hm W h)
  have c3 := fun a' W (h : Below B w W) (h' : MsgI W 0 W.heap.size m a') => same_at m a' a hf W h' (hm W h)
  have c4 := fun W (h : Below B w W) => msg_any A' c' zs.length zs rfl W (hz W h) hby hlc' (by omega)
  have hms := fun a' => mv_is m a'
  have hla := hms a
  obtain ⟨L, hL⟩ : ∃ L, mcc m a = L := ⟨_, rfl⟩
  rw [hL] at c1 c3 hla ⊢
  obtain ⟨⟨x, e⟩, hP⟩ : ∃ r, putMsgF m = r := ⟨_, rfl⟩
  obtain ⟨⟨m', er⟩, hR⟩ : ∃ r, msgWF zs = r := ⟨_, rfl⟩
  rw [hP] at c1
  rw [hR] at c4
  have hcv : ∀ (U : World) (A2 : Option Addr) (c2 : Nat), Ns .u8 U U.heap.size A2 zs → (convert 23 9 (.slice A2 zs.length c2)).run Try.prog U = .ok (.string (strOfNums zs)) U := fun U A2 c2 h => run_conv_ns (P := Try.prog) U 23 5 9 Try.underlying23 Try.underlying5 Try.underlying9 c2 h
  have hmo : ∀ a', Mv (mcc m' a') := fun a' => mv_is m' a'
  have c2 : e = 0 → ∀ (A2 : Option Addr) (c2 : Nat) (W : World), x.length ≤ c2 → Ns .u8 W W.heap.size A2 x → Calls Try.prog 15 #[.slice A2 x.length c2] W (GotMsg W.heap.size (m, 0) W) := by
    intro he A2 c2 W hc2 hN
    subst he
    obtain ⟨o1, o2, rfl⟩ := putMsgF_ok hP
    have hfl := Frm.frame_len (msgL m)
    have hpl := putL_len ((msgL m).length : Int)
    have h := msg_any A2 c2 _ (Frm.frameF (msgL m)) rfl W hN (Frm.frame_bytes (msgL_fine o1 hf.1)) hc2 (by omega)
    rwa [msg_back o1 hf.1 o2] at h
  have hkm : e = 0 → okM m := fun he => by subst he; exact (putMsgF_ok hP).1
  have c5 : er = 0 → okM m' ∧ ∀ a' W, MsgI W 0 W.heap.size m' a' → Calls Try.prog 14 #[.agg (mcc m' a').toArray] W (PutOut W.heap.size (zs, 0) W) := by
    intro he
    subst he
    obtain ⟨o1, o2, o3, o4⟩ := msg_only hby hR
    refine ⟨o2, fun a' W h => ?_⟩
    have h := putmsg_at m' a' (fit_ok o2 o3) (fun _ => by omega) W h
    have hq : putMsgF m' = (zs, 0) := by
      unfold putMsgF
      rw [if_pos o2, if_pos o4, ← o1]
    rwa [hq] at h
  have hx0 : e ≠ 0 → x = [] := fun he => putMsgF_err hP he
  obtain ⟨n, hn⟩ : ∃ n, zs.length = n := ⟨_, rfl⟩
  obtain ⟨k, hk⟩ : ∃ k, x.length = k := ⟨_, rfl⟩
  rw [hn] at c4 hcv ⊢
  rw [hk] at c2
  obtain ⟨W, hW⟩ : ∃ W, w.alloc (.cells L.toArray 43) = W := ⟨_, rfl⟩
  have hb0 : Below B w W := by rw [← hW, ← hB]; exact (Below.refl _ w).alloc (Nat.le_refl _) _
  have hbn : Bn B 43 L W := by rw [← hW, ← hB]; exact heap_alloc_new _ _
  have hsB : ∀ V, Below B w V → B ≤ V.heap.size := fun V h => by have := h.size; omega
  have H0 := Lib.hid (And.intro hW (And.intro hb0 (And.intro hbn hsB)))
  have HM := Lib.hid (And.intro hm (And.intro hz (And.intro hn hk)))
  have HC := Lib.hid (And.intro c1 (And.intro c2 (And.intro c3 (And.intro c4 c5))))
  have HV := Lib.hid (And.intro hms (And.intro hmo (And.intro hcv (And.intro hkm hx0))))
  have hg0 : W.heap[B]? = some (.cells L.toArray 43 (0, 0)) := hbn
  rw [hB]
  clear hsB hm hz c1 c2 c3 c4 c5 hms hmo hcv hkm hx0 hb0 hbn hP hR hn hk hI hr hby hlc' hbulk _hbig hf hL
  have hsz := hla.1
  go_enter Try.func4, Try.ntmps4
  go_wp2_with (refine wpList_load_row rfl 43 _ rfl _ rfl 43 _ _ _ hg0 Try.underlying43 rfl hsz ?_)
  refine (HC.out.1 W H0.out.2.1).mono ?_
  rintro e1 w1 ⟨A1, c1, rfl, o1, d1⟩
  have hcap := own_cap o1
  rw [show (x, e).1 = x from rfl, HM.out.2.2.2] at hcap o1 ⊢
  rw [show (x, e).2 = e from rfl]
  have HA := Lib.hid (And.intro (H0.out.2.1.trans (d1.mono (H0.out.2.2.2 _ H0.out.2.1))) (And.intro (H0.out.2.2.1.below d1 H0.out.2.2.1.lt) (own_ns (zs := x) (by rw [HM.out.2.2.2]; exact o1))))
  clear o1 d1
  -- PARTS BEGIN
  by_cases he : e = 0
  · subst he
    have hko := HV.out.2.2.2.1 (by simp)
    go_wp2_with fail
    refine (HC.out.2.1 (by simp) A1 c1 w1 hcap HA.out.2.2).mono ?_
    rintro e2 w2 ⟨a2, rfl, o2, d2⟩
    rw [show (m, (0 : Int)).1 = m from rfl] at o2 ⊢
    have b2 := HA.out.1.trans (d2.mono (H0.out.2.2.2 _ HA.out.1))
    have gm := HA.out.2.1.below d2 HA.out.2.1.lt
    have hla2 := HV.out.1 a2
    obtain ⟨W2, hW2⟩ : ∃ W, w2.alloc (.cells (mcc m a2).toArray 43) = W := ⟨_, rfl⟩
    have g2 : W2.heap[w2.heap.size]? = some (.cells (mcc m a2).toArray 43 (0, 0)) := by rw [← hW2]; exact heap_alloc_new _ _
    have gm2 : W2.heap[B]? = some (.cells L.toArray 43 (0, 0)) := by rw [← hW2]; exact (Below.heap_alloc _ _ _ gm.lt).trans gm
    have b3 : Below B w W2 := by rw [← hW2]; exact b2.alloc (H0.out.2.2.2 _ b2) _
    have i3 : MsgI W2 0 W2.heap.size m a2 := by rw [← hW2]; exact (o2.shown hko).below ((Below.refl _ w2).alloc (Nat.le_refl _) _) (by simp)
    have c3 := HC.out.2.2.1 a2 W2 b3 i3
    obtain ⟨L2, hL2⟩ : ∃ L, mcc m a2 = L := ⟨_, rfl⟩
    rw [hL2] at hla2 g2 hW2 c3 ⊢
    have hsz2 := hla2.1
    have hone2 := hla2.2
    have hl2 := mv_len hla2
    have H3 := Lib.hid c3
    have HB3 := Lib.hid b3
    clear b2 o2 d2 hla2 b3 i3 c3 hL2 gm hko
    go_wp2_with (first
      | (refine wpList_store_row rfl 43 _ _ rfl _ L2.toArray rfl rfl 43 _ (heap_alloc_new _ _) hsz2 hl2.symm hone2 ?_; simp only [World.setRow_alloc_new])
      | (refine load_row_w (by rfl) 43 _ rfl w2.heap.size rfl 43 L2.toArray (0, 0) _ g2 Try.underlying43 rfl hsz2 ?_)
      | (refine load_row_w (by rfl) 43 _ rfl B rfl 43 L.toArray (0, 0) _ gm2 Try.underlying43 rfl hsz ?_))
    refine H3.out.mono ?_
    rintro e3 wq ⟨rfl, d3⟩
    have HQ := Lib.hid (HB3.out.trans (d3.mono (H0.out.2.2.2 _ HB3.out)))
    clear d3 hW2 g2 gm2 hsz2 hone2 hl2
    go_wp2_with fail
    refine (HC.out.2.2.2.1 wq HQ.out).mono ?_
    rintro e4 w4 ⟨a4, rfl, o4, d4⟩
    have b4 := HQ.out.trans (d4.mono (H0.out.2.2.2 _ HQ.out))
    rw [show (m', er).1 = m' from rfl] at o4 ⊢
    rw [show (m', er).2 = er from rfl]
    have hla4 := HV.out.2.1 a4
    obtain ⟨W4, hW4⟩ : ∃ W, w4.alloc (.cells (mcc m' a4).toArray 43) = W := ⟨_, rfl⟩
    have g4 : W4.heap[w4.heap.size]? = some (.cells (mcc m' a4).toArray 43 (0, 0)) := by rw [← hW4]; exact heap_alloc_new _ _
    have b5 : Below B w W4 := by rw [← hW4]; exact b4.alloc (H0.out.2.2.2 _ b4) _
    have hgo : er = 0 → MsgI W4 0 W4.heap.size m' a4 := fun he => by rw [← hW4]; exact (o4.shown (HC.out.2.2.2.2 he).1).below ((Below.refl _ w4).alloc (Nat.le_refl _) _) (by simp)
    have c5 := fun he => (HC.out.2.2.2.2 he).2 a4 W4 (hgo he)
    obtain ⟨L4, hL4⟩ : ∃ L, mcc m' a4 = L := ⟨_, rfl⟩
    rw [hL4] at hla4 g4 hW4 c5 ⊢
    have hsz4 := hla4.1
    have hone4 := hla4.2
    have hl4 := mv_len hla4
    have H5 := Lib.hid c5
    have HB5 := Lib.hid b5
    clear b4 o4 d4 hla4 b5 hgo c5 hL4
    by_cases her : er = 0
    · subst her
      go_wp2_with (first
        | (refine wpList_store_row rfl 43 _ _ rfl _ L4.toArray rfl rfl 43 _ (heap_alloc_new _ _) hsz4 hl4.symm hone4 ?_; simp only [World.setRow_alloc_new])
        | (refine load_row_w (by rfl) 43 _ rfl w4.heap.size rfl 43 L4.toArray (0, 0) _ g4 Try.underlying43 rfl hsz4 ?_))
      refine (H5.out (by simp)).mono ?_
      rintro e6 w6 ⟨A6, c6, rfl, o6, d6⟩
      rw [show (zs, (0 : Int)).1 = zs from rfl, HM.out.2.2.1] at o6 ⊢
      have b6 := HB5.out.trans (d6.mono (H0.out.2.2.2 _ HB5.out))
      have HO6 := Lib.hid (And.intro b6 (own_ns (zs := zs) (by rw [HM.out.2.2.1]; exact o6)))
      clear o6 d6 b6
      go_wp2_with fail
      refine (awake_any w6).mono ?_
      rintro e7 w7 ⟨rfl, d7⟩
      have b7 := HO6.out.1.trans (d7.mono (H0.out.2.2.2 _ HO6.out.1))
      have x7 := HV.out.2.2.1 w7 A6 c6 ((HO6.out.2.below d7).more d7.size)
      have y7 := HV.out.2.2.1 w7 A' c' (HM.out.2.1 w7 b7)
      have heq : ((strOfNums zs).toList == (strOfNums zs).toList) = true := by simp
      have HO7 := Lib.hid b7
      clear d7 b7
      go_wp2_with fail
      go_ret
      exact ⟨rfl, HO7.out⟩
    · have hR1 : (er != 0) = true := by simpa using her
      have hR0 : (er == 0) = false := by simpa using her
      go_wp2_with (refine wpList_store_row rfl 43 _ _ rfl _ L4.toArray rfl rfl 43 _ (heap_alloc_new _ _) hsz4 hl4.symm hone4 ?_; simp only [World.setRow_alloc_new])
      refine (awake_any W4).mono ?_
      rintro e7 w7 ⟨rfl, d7⟩
      have HO7 := Lib.hid (HB5.out.trans (d7.mono (H0.out.2.2.2 _ HB5.out)))
      clear d7
      go_wp2_with fail
      go_ret
      exact ⟨rfl, HO7.out⟩
  · have hE0 : (e == 0) = false := by simpa using he
    obtain ⟨wq, hwq⟩ : ∃ wq, w1 = wq := ⟨_, rfl⟩
    have hk0 : k = 0 := by rw [← HM.out.2.2.2, HV.out.2.2.2.2 he]; rfl
    subst hk0
    subst hwq
    have HQ := Lib.hid HA.out.1
    go_wp2_with fail
    refine (HC.out.2.2.2.1 w1 HQ.out).mono ?_
    rintro e4 w4 ⟨a4, rfl, o4, d4⟩
    have b4 := HQ.out.trans (d4.mono (H0.out.2.2.2 _ HQ.out))
    rw [show (m', er).1 = m' from rfl] at o4 ⊢
    rw [show (m', er).2 = er from rfl]
    have hla4 := HV.out.2.1 a4
    obtain ⟨W4, hW4⟩ : ∃ W, w4.alloc (.cells (mcc m' a4).toArray 43) = W := ⟨_, rfl⟩
    have g4 : W4.heap[w4.heap.size]? = some (.cells (mcc m' a4).toArray 43 (0, 0)) := by rw [← hW4]; exact heap_alloc_new _ _
    have b5 : Below B w W4 := by rw [← hW4]; exact b4.alloc (H0.out.2.2.2 _ b4) _
    have hgo : er = 0 → MsgI W4 0 W4.heap.size m' a4 := fun he => by rw [← hW4]; exact (o4.shown (HC.out.2.2.2.2 he).1).below ((Below.refl _ w4).alloc (Nat.le_refl _) _) (by simp)
    have c5 := fun he => (HC.out.2.2.2.2 he).2 a4 W4 (hgo he)
    obtain ⟨L4, hL4⟩ : ∃ L, mcc m' a4 = L := ⟨_, rfl⟩
    rw [hL4] at hla4 g4 hW4 c5 ⊢
    have hsz4 := hla4.1
    have hone4 := hla4.2
    have hl4 := mv_len hla4
    have H5 := Lib.hid c5
    have HB5 := Lib.hid b5
    clear b4 o4 d4 hla4 b5 hgo c5 hL4
    by_cases her : er = 0
    · subst her
      go_wp2_with (first
        | (refine wpList_store_row rfl 43 _ _ rfl _ L4.toArray rfl rfl 43 _ (heap_alloc_new _ _) hsz4 hl4.symm hone4 ?_; simp only [World.setRow_alloc_new])
        | (refine load_row_w (by rfl) 43 _ rfl w4.heap.size rfl 43 L4.toArray (0, 0) _ g4 Try.underlying43 rfl hsz4 ?_))
      refine (H5.out (by simp)).mono ?_
      rintro e6 w6 ⟨A6, c6, rfl, o6, d6⟩
      rw [show (zs, (0 : Int)).1 = zs from rfl, HM.out.2.2.1] at o6 ⊢
      have b6 := HB5.out.trans (d6.mono (H0.out.2.2.2 _ HB5.out))
      have HO6 := Lib.hid (And.intro b6 (own_ns (zs := zs) (by rw [HM.out.2.2.1]; exact o6)))
      clear o6 d6 b6
      go_wp2_with fail
      refine (awake_any w6).mono ?_
      rintro e7 w7 ⟨rfl, d7⟩
      have b7 := HO6.out.1.trans (d7.mono (H0.out.2.2.2 _ HO6.out.1))
      have x7 := HV.out.2.2.1 w7 A6 c6 ((HO6.out.2.below d7).more d7.size)
      have y7 := HV.out.2.2.1 w7 A' c' (HM.out.2.1 w7 b7)
      have heq : ((strOfNums zs).toList == (strOfNums zs).toList) = true := by simp
      have HO7 := Lib.hid b7
      clear d7 b7
      go_wp2_with fail
      go_ret
      exact ⟨rfl, HO7.out⟩
    · have hR1 : (er != 0) = true := by simpa using her
      have hR0 : (er == 0) = false := by simpa using her
      go_wp2_with (refine wpList_store_row rfl 43 _ _ rfl _ L4.toArray rfl rfl 43 _ (heap_alloc_new _ _) hsz4 hl4.symm hone4 ?_; simp only [World.setRow_alloc_new])
      refine (awake_any W4).mono ?_
      rintro e7 w7 ⟨rfl, d7⟩
      have HO7 := Lib.hid (HB5.out.trans (d7.mono (H0.out.2.2.2 _ HB5.out)))
      clear d7
      go_wp2_with fail
      go_ret
      exact ⟨rfl, HO7.out⟩

-- ROW BEGIN
set_option maxRecDepth 100000 in
/-- What the walk gives, shut again. -/
theorem contract (H : Type) (enc : TypeId × Value → H) (W : World) (base : Nat) (args : Array Value) (ds gs : List (DataW H)) (before : List MemPlace)
    (hval : ∀ (j : Nat) t v, Try.f4.params[j]? = some t → args[j]? = some v → Value.okWide Try.prog W .any base t v)
    (hW : DataW.Whole enc Try.prog Try.f4.params.toList Rows.codeBackSpec.vars false W args.toList ds gs before)
    (hsz : (DataW.weightsEach Try.prog (Try.f4.params.toList ++ Rows.codeBackSpec.plain.varTypes Try.prog) (ds ++ gs)).all (· ≤ reachBytes) = true) (hk : Rows.uptoSmall H (ds ++ gs) = true) :
    Calls Try.prog 4 args W fun e W' => ∃ v, e = .returned v ∧ Rows.codeBackSpec.post enc Try.prog Try.f4 false true false false W args v W' := by
  have hW' := hW
  obtain ⟨p, q, hA0, hV, hbef, _, _⟩ := hW
  have hA : DataW.TrodAll enc Try.prog W 0 (fun _ => true) true Try.f4.params.toList args.toList ds p := hA0
  have hA1 := hA
  rw [Try.params4] at hA hval hsz
  obtain ⟨v0, vs0, d0, ds0, p0, q0, hargs, rfl, rfl, h0, r0⟩ := trodAll_cons hA
  obtain ⟨v1, vs1, d1, ds1, p1, q1, rfl, rfl, rfl, h1, r1⟩ := trodAll_cons r0
  obtain ⟨rfl, rfl, rfl⟩ := trodAll_nil r1
  obtain rfl : args = #[v0, v1] := by cases args; simp_all
  obtain ⟨rfl, rfl⟩ := trodVars_none hV
  clear hA hargs
  obtain ⟨a0, l0, rfl, n0, f0, b0⟩ := Code.arg_msg (hval 0 43 v0 rfl rfl) h0 (Vers.wt_arg hsz (j := 0) rfl rfl)
  obtain ⟨A1, c1, a1, rfl, n1, w1, l1, _, o1⟩ := open_ns Try.underlying23 Try.underlying5 Facts.cells5 (hval 1 23 v1 rfl rfl) h1
  have b1 := reach_ns hsz (j := 1) rfl rfl Try.underlying23 Facts.bytes5 l1 o1
  have hbulk : a0.2.2.2.2.2.2.2.2.1.length + a1.length ≤ 1048576 := by
    have h := Bulk.bound hk
    have e1 := Bulk.ns_le (H := H) o1 l1
    simp only [List.append_nil, Rows.uptoBulkAll] at h
    omega
  refine (walk W a0 l0 n0 f0 A1 c1 a1 n1 (fun z hz => wf_byte (w1 z hz)) (by omega) l1 hbulk).mono fun e W' ⟨he, hb⟩ => ?_
  subst he
  exact ⟨_, rfl, law_post Facts.laid (by rfl) Try.underlying4 (by rw [Try.params4]; decide +kernel) hW' hA1 rfl hbef rfl rfl rfl hb⟩

set_option maxRecDepth 100000 in
theorem lifted (os : Os) (started : os.Started) (H : Type) (enc : TypeId × Value → H) (F : Stop.Interp) :
    ReturnsInHanded {} Try.checked os 4 .any ((Rows.OpenSpec.upto Rows.codeBackSpec).pre6 enc Try.prog Try.f4 Rows.codeBackUptoRow.domain false) (((Rows.OpenSpec.upto Rows.codeBackSpec).at F).post enc Try.prog Try.f4 false true false false) := by
  refine returnsInHanded_of_cond_sized (C := Try.checked) (s := Rows.OpenSpec.upto Rows.codeBackSpec) (k := Rows.uptoSmall) rfl Facts.own started (by kernel_rfl) Try.func4
    (OpenSpec.witness (enc := enc) (C := Try.checked) (s := Rows.OpenSpec.upto Rows.codeBackSpec) (k := Rows.uptoSmall) rfl false ⟨#[], #[.agg #[.int .i64 0, .int .i64 0, .int .i64 0, .int .i64 0, .int .i64 0, .int .i64 0, .int .i64 0, .int .i64 0, .int .i64 0, .string ⟨#[]⟩, .slice none 0 0, .slice none 0 0, .slice none 0 0, .slice none 0 0, .slice none 0 0], .slice none 0 0], []⟩ 8 (by kernel_rfl) (by kernel_rfl) (by kernel_rfl)
      (x := ([.agg [.lit (.int .i64 0), .agg [.lit (.int .i64 0), .lit (.int .i64 0)], .agg [.lit (.int .i64 0), .lit (.int .i64 0)], .lit (.int .i64 0), .lit (.int .i64 0), .lit (.int .i64 0), .lit (.int .i64 0), .lit (.string []), .nil, .nil, .nil, .nil, .nil], .nil], [], [])) (by kernel_rfl) rfl (by kernel_rfl)) ?_
  intro W base args ds gs before hval hW _ hk hsz _
  exact contract H enc W base args ds gs before hval hW hsz hk

theorem holds : Rows.CodeBackUptoSaid :=
  OpenClaim.holds_of_cond 4 Try.f4 rfl rfl rfl rfl rfl rfl rfl ⟨rfl, rfl, rfl, rfl, rfl⟩ rfl rfl rfl rfl rfl (by kernel_rfl) Try.func4 (by kernel_rfl)
    (of_decide_eq_true (by kernel_rfl)) (by unfold Func.isWrapper; first | (rw [if_pos (by decide +kernel)]; kernel_rfl) | (rw [if_neg (by decide +kernel)]; exact ⟨rfl, rfl⟩))
    (fun os started H enc _ F => lifted os started H enc F)
-- ROW END
end CodeBack
end Go.Proofs.Ytlmjknadaegkoaa
