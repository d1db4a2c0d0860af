/-
  NetCopies (P8.1): a packet that is doubled arrives twice, each time as it was; a copy that is spoilt leaves the other one as it was; spoilt twice the same it is itself again. For every input.
-/
import Derived.Test.YtinbaiblbbfnnaaNetFlip
import Derived.Test.YtinbaiblbbfnnaaNetArgs
import Derived.Test.YtinbaiblbbfnnaaFrame
namespace Go.Proofs.Ytinbaiblbbfnnaa
namespace NetCopies
open Go.ChangeShapes Go.WideShapes Go.ChangeAt Go.RowKit Net Blk
attribute [local go_sem ↓] Go.wp_at_zero Go.wp_at_succ
theorem flip_back (x : Pk) (j : Nat) (hj : j < x.2.2.length) (z : Int) : flipP (flipP x j z) j (x.2.2.getD j 0) = x := by
  obtain ⟨a, b, zs⟩ := x
  unfold flipP
  simp only [List.set_set]
  congr 2
  refine List.ext_getElem? fun i => ?_
  by_cases hi : j = i
  · subst hi
    rw [List.getElem?_set_self hj, List.getD_eq_getElem?_getD, List.getElem?_eq_getElem hj]
    rfl
  · rw [List.getElem?_set_ne hi]
theorem flip_pair (x0 : Pk) (n : Nat) (hn : x0.2.2.length = n) (hok : OkP x0) (at_ x : Int) (hx : 0 ≤ x ∧ x ≤ 255) (ok : Bool) (hb : decide (0 ≤ at_ ∧ at_ < n) = ok) :
    ∃ x1 : Pk, ∀ (nb : Nat) (F : Nat → Prop) (w : World) (s t u : Int) (C : Ad → Ad → Bool) (m : Nat), (NI F w nb [x0, x0] s t u C m → Calls Try.prog 22 #[hd nb, .int .i64 1, .int .i64 at_, .int .u8 x] w (fun e w' => e = .returned (.bool ok) ∧ Hid (NI F w' nb [x0, x1] s t u C m ∧ Stp F w F w'))) ∧
      (NI F w nb [x0, x1] s t u C m → Calls Try.prog 22 #[hd nb, .int .i64 1, .int .i64 at_, .int .u8 x] w (fun e w' => e = .returned (.bool ok) ∧ Hid (NI F w' nb [x0, x0] s t u C m ∧ Stp F w F w'))) := by
  subst hb
  by_cases h : 0 ≤ at_ ∧ at_ < n
  · rw [decide_eq_true h]
    obtain ⟨j, rfl⟩ : ∃ j : Nat, (j : Int) = at_ := ⟨at_.toNat, by omega⟩
    have hj : j < n := by omega
    have ha : 0 ≤ x0.2.2.getD j 0 ∧ x0.2.2.getD j 0 ≤ 255 := by
      have hjl : j < x0.2.2.length := by omega
      rw [List.getD_eq_getElem?_getD, List.getElem?_eq_getElem hjl]
      exact hok.2.2 _ (List.getElem_mem _)
    refine ⟨flipP x0 j (bits .xor .u8 (x0.2.2.getD j 0) x), fun nb F w s t u C m => ⟨fun hN => ?_, fun hN => ?_⟩⟩
    · exact flip_yes hN (i := 1) (p := x0) rfl j n hn hj x hx
    · have h1 := flip_yes hN (i := 1) (p := flipP x0 j (bits .xor .u8 (x0.2.2.getD j 0) x)) rfl j n (by simpa [flipP] using hn) hj x hx
      have e1 : (flipP x0 j (bits .xor .u8 (x0.2.2.getD j 0) x)).2.2.getD j 0 = bits .xor .u8 (x0.2.2.getD j 0) x := by
        unfold flipP
        simp only [List.getD_eq_getElem?_getD]
        rw [List.getElem?_set_self (by omega)]
        rfl
      rw [e1, xor_back ha hx, flip_back x0 j (by omega)] at h1
      exact h1
  · rw [decide_eq_false h]
    refine ⟨x0, fun nb F w s t u C m => ⟨fun hN => ?_, fun hN => ?_⟩⟩ <;>
    · refine (flip_no hN (i := 1) (p := x0) rfl at_ x n hn h).mono fun e w' hh => ?_
      obtain ⟨rfl, rfl⟩ := hh
      exact ⟨rfl, Lib.hid ⟨hN, Stp.refl _ _⟩⟩

set_option maxRecDepth 100000 in
set_option maxHeartbeats 2000000 in
theorem walk (w : World) (a1 a2 b1 b2 : Int) (zs : List Int) (A : Option Addr) (c : Nat) (hr : Ns .u8 w w.heap.size A zs) (hok : OkP ((a1, a2), (b1, b2), zs)) (_hlc : zs.length ≤ c) (at_ : Int) (_hat : -9223372036854775808 ≤ at_ ∧ at_ ≤ 9223372036854775807) (x : Int) (hx : 0 ≤ x ∧ x ≤ 255) :
    Calls Try.prog 6 #[.agg #[.int .i64 a1, .int .i64 a2, .int .i64 b1, .int .i64 b2, .slice A zs.length c], .int .i64 at_, .int .u8 x] w fun e w' => e = .returned (.bool true) ∧ Below w.heap.size w w' := by
  obtain ⟨n, hn⟩ : ∃ n, zs.length = n := ⟨_, rfl⟩
  rw [hn]
  obtain ⟨ok, hb, hds⟩ : ∃ ok, decide (0 ≤ at_ ∧ at_ < (n : Int)) = ok ∧ ((ok = true ∧ decide (0 ≤ at_) = true ∧ decide (at_ < (n : Int)) = true) ∨ (ok = false ∧ decide (0 ≤ at_) = true ∧ decide (at_ < (n : Int)) = false) ∨ (ok = false ∧ decide (0 ≤ at_) = false)) := by
    by_cases h1 : 0 ≤ at_
    · by_cases h2 : at_ < (n : Int)
      · exact ⟨true, decide_eq_true ⟨h1, h2⟩, .inl ⟨rfl, decide_eq_true h1, decide_eq_true h2⟩⟩
      · exact ⟨false, decide_eq_false fun h => h2 h.2, .inr (.inl ⟨rfl, decide_eq_true h1, decide_eq_false h2⟩)⟩
    · exact ⟨false, decide_eq_false fun h => h1 h.1, .inr (.inr ⟨rfl, decide_eq_false h1⟩)⟩
  obtain ⟨x1, hfl⟩ := flip_pair ((a1, a2), (b1, b2), zs) n hn hok at_ x hx ok hb
  have HFL := Lib.hid hfl
  obtain ⟨U, hU⟩ : ∃ U, w.alloc (.cells #[.int .i64 a1, .int .i64 a2, .int .i64 b1, .int .i64 b2, .slice A n c] 36) = U := ⟨_, rfl⟩
  have hbU : Below w.heap.size w U := by rw [← hU]; exact (Below.refl _ w).alloc (Nat.le_refl _) _
  have hPU : Bn w.heap.size 36 [.int .i64 a1, .int .i64 a2, .int .i64 b1, .int .i64 b2, .slice A n c] U := by rw [← hU]; exact heap_alloc_new w _
  have HZ := Lib.hid (And.intro hr (And.intro hn (And.intro hok (And.intro hbU hPU))))
  have HA := Lib.hid (awake_any U)
  have HD := Lib.hid hds
  clear hr hn hok hbU hPU _hlc hfl hb hds hx _hat
  go_enter Try.func6, Try.ntmps6
  go_wp2_with fail
  refine HA.out.mono ?_
  rintro e0 w0 ⟨rfl, b0⟩
  have HB0 := Lib.hid (And.intro (HZ.out.2.2.2.1.trans (b0.mono HZ.out.2.2.2.1.size)) (HZ.out.2.2.2.2.same (b0.block _ HZ.out.2.2.2.2.lt)))
  have H1 := Lib.hid (new_any w0)
  clear b0
  go_wp2_with fail
  refine H1.out.mono ?_
  rintro e1 w1 ⟨F1, nb, rfl, h1⟩
  obtain ⟨pb, hpb⟩ : ∃ b, w.heap.size = b := ⟨_, rfl⟩
  have S1 : Hid (Sit w nb [] 0 0 0 (fun _ _ => false) 0 F1 w1) := Lib.hid ⟨h1.out.1, HB0.out.1.trans (h1.out.2.2.mono HB0.out.1.size), fun k hk => Nat.le_trans HB0.out.1.size (h1.out.2.1 k hk)⟩
  have V1 : Hid (Vars w F1 [(pb, [.int .i64 a1, .int .i64 a2, .int .i64 b1, .int .i64 b2, .slice A n c])] w1) := Lib.hid fun e he => by
    rw [List.mem_singleton] at he
    subst he
    subst hpb
    exact ⟨HB0.out.2.same (h1.out.2.2.block _ HB0.out.2.lt), Nat.le_refl _, fun hf => by have := h1.out.2.1 _ hf; have := HB0.out.2.lt; simp only at *; omega⟩
  have y0 := V1.out.at0.cell 0
  have y1 := V1.out.at0.cell 1
  have y2 := V1.out.at0.cell 2
  have y3 := V1.out.at0.cell 3
  have y4 := V1.out.at0.cell 4
  simp only [List.getElem?_cons_zero, List.getElem?_cons_succ] at y0 y1 y2 y3 y4
  have H2 := Lib.hid (send_more S1.out.1 (by simp) a1 a2 b1 b2 zs n HZ.out.2.1 A c ((HZ.out.1.below S1.out.2.1).more S1.out.2.1.size) HZ.out.2.2.1)
  clear h1
  go_wp2_with fail
  refine H2.out.mono ?_
  rintro e2 w2 ⟨rfl, F2, h2⟩
  have S2 := Lib.hid (S1.out.step h2.out.1 h2.out.2)
  have V2 := Lib.hid (V1.out.step h2.out.2)
  have H3 := Lib.hid (copy_in S2.out.1 (i := 0) (a1 := a1) (a2 := a2) (b1 := b1) (b2 := b2) (zs := zs) rfl (by simp))
  clear h2 y0 y1 y2 y3 y4 S1 V1 H2
  go_wp2_with fail
  refine H3.out.mono ?_
  rintro e3 w3 ⟨rfl, F3, h3⟩
  have S3 : Hid (Sit w nb [((a1, a2), (b1, b2), zs), ((a1, a2), (b1, b2), zs)] (IntKind.i64.wrap (0 + 1)) 0 0 (fun _ _ => false) 0 F3 w3) := Lib.hid (S2.out.step h3.out.1 h3.out.2)
  have V3 := Lib.hid (V2.out.step h3.out.2)
  have H4 := Lib.hid (copy_out S3.out.1 2 (by simp))
  clear h3 S2 V2 H3
  go_wp2_with fail
  refine H4.out.mono ?_
  rintro e4 w4 ⟨rfl, rfl⟩
  have H5 := Lib.hid (copy_out S3.out.1 (-1) (by simp))
  go_wp2_with fail
  refine H5.out.mono ?_
  rintro e5 w5 ⟨rfl, rfl⟩
  have H6 := Lib.hid (len_any S3.out.1 2 rfl)
  go_wp2_with fail
  refine H6.out.mono ?_
  rintro e6 w6 ⟨rfl, rfl⟩
  have H7 := Lib.hid ((HFL.out nb F3 w6 _ _ _ _ _).1 S3.out.1)
  go_wp2_with fail
  refine H7.out.mono ?_
  rintro e7 w7 ⟨rfl, h7⟩
  have S7 := Lib.hid (S3.out.step h7.out.1 h7.out.2)
  have V7 := Lib.hid (V3.out.step h7.out.2)
  have H8 := Lib.hid (look_in S7.out.1 (i := 0) (a1 := a1) (a2 := a2) (b1 := b1) (b2 := b2) (zs := zs) rfl n HZ.out.2.1)
  clear h7 S3 V3 H4 H5 H6 H7
  go_wp2_with fail
  refine H8.out.mono ?_
  rintro e8 w8 ⟨A8, c8, rfl, h8⟩
  obtain ⟨U8, hU8⟩ : ∃ U, w8.alloc (.cells #[.int .i64 a1, .int .i64 a2, .int .i64 b1, .int .i64 b2, .slice A8 n c8] 36) = U := ⟨_, rfl⟩
  have hv8 := (V7.out.below h8.out.2).var (S7.out.below h8.out.2) [.int .i64 a1, .int .i64 a2, .int .i64 b1, .int .i64 b2, .slice A8 n c8] hU8
  have hb8 : Below w8.heap.size w8 U8 := by rw [← hU8]; exact (Below.refl _ w8).alloc (Nat.le_refl _) _
  have o8 := own_below h8.out.1 hb8 (Nat.le_refl _)
  obtain ⟨ab, hab⟩ : ∃ b, w8.heap.size = b := ⟨_, rfl⟩
  rw [hab] at hv8
  have S8 := Lib.hid hv8.2
  have V8 := Lib.hid hv8.1
  have hF8 : ∀ g, (Value.slice A8 n c8).ownBlock = some g → ¬ F3 g := fun g hg hf => by have := S7.out.1.lt g hf; have := (h8.out.1.lt g hg).1; omega
  have R8 := Lib.hid (And.intro o8 hF8)
  have H9 := Lib.hid ((HFL.out nb F3 U8 _ _ _ _ _).2 S8.out.1)
  clear h8 hv8 hb8 o8 hF8 S7 V7 H8
  go_wp2_with fail
  refine H9.out.mono ?_
  rintro e9 w9 ⟨rfl, h9⟩
  have S9 := Lib.hid (S8.out.step h9.out.1 h9.out.2)
  have V9 := Lib.hid (V8.out.step h9.out.2)
  have R9 := Lib.hid (own_keep R8.out.1 fun g hg => h9.out.2.1.block g (R8.out.1.lt g hg).2 (R8.out.2 g hg))
  have H10 := Lib.hid (look_in S9.out.1 (i := 1) (a1 := a1) (a2 := a2) (b1 := b1) (b2 := b2) (zs := zs) rfl n HZ.out.2.1)
  clear h9 S8 V8 R8 H9
  go_wp2_with fail
  refine H10.out.mono ?_
  rintro e10 w10 ⟨A10, c10, rfl, h10⟩
  obtain ⟨U10, hU10⟩ : ∃ U, w10.alloc (.cells #[.int .i64 a1, .int .i64 a2, .int .i64 b1, .int .i64 b2, .slice A10 n c10] 36) = U := ⟨_, rfl⟩
  have hv10 := (V9.out.below h10.out.2).var (S9.out.below h10.out.2) [.int .i64 a1, .int .i64 a2, .int .i64 b1, .int .i64 b2, .slice A10 n c10] hU10
  have hb10 : Below w10.heap.size w10 U10 := by rw [← hU10]; exact (Below.refl _ w10).alloc (Nat.le_refl _) _
  have o10 := own_below h10.out.1 hb10 (Nat.le_refl _)
  have r10 := own_below R9.out (h10.out.2.trans (hb10.mono h10.out.2.size)) (Nat.le_refl _)
  obtain ⟨bb, hbb⟩ : ∃ b, w10.heap.size = b := ⟨_, rfl⟩
  rw [hbb] at hv10
  have z0 := hv10.1.at0.cell 0
  have z1 := hv10.1.at0.cell 1
  have z2 := hv10.1.at0.cell 2
  have z3 := hv10.1.at0.cell 3
  have z4 := hv10.1.at0.cell 4
  have q0 := hv10.1.tail.at0.cell 0
  have q1 := hv10.1.tail.at0.cell 1
  have q2 := hv10.1.tail.at0.cell 2
  have q3 := hv10.1.tail.at0.cell 3
  have q4 := hv10.1.tail.at0.cell 4
  have y0 := hv10.1.tail.tail.at0.cell 0
  have y1 := hv10.1.tail.tail.at0.cell 1
  have y2 := hv10.1.tail.tail.at0.cell 2
  have y3 := hv10.1.tail.tail.at0.cell 3
  have y4 := hv10.1.tail.tail.at0.cell 4
  simp only [List.getElem?_cons_zero, List.getElem?_cons_succ] at z0 z1 z2 z3 z4 q0 q1 q2 q3 q4 y0 y1 y2 y3 y4
  have HN := Lib.hid (HZ.out.1.below hv10.2.2.1)
  have H11 := Lib.hid (same_yes U10 a1 a2 b1 b2 zs n HZ.out.2.1 A8 A c8 c (own_ns (c := c8) (n := n) (by rw [HZ.out.2.1]; exact r10)) (HN.out.more hv10.2.2.1.size))
  have HE := Lib.hid (And.intro hv10.2.2.1 (And.intro hv10.1 o10))
  clear h10 hv10 hb10 o10 r10 S9 V9 R9 H10
  rcases HD.out with ⟨rfl, d1, d2⟩ | ⟨rfl, d1, d2⟩ | ⟨rfl, d1⟩
  all_goals
    go_wp2_with fail
    refine H11.out.mono ?_
    rintro e11 w11 ⟨rfl, b11⟩
    have hV11 := HE.out.2.1.below b11
    have o11 := own_below HE.out.2.2 b11 (Nat.le_refl _)
    have z0 := hV11.at0.cell 0
    have z1 := hV11.at0.cell 1
    have z2 := hV11.at0.cell 2
    have z3 := hV11.at0.cell 3
    have z4 := hV11.at0.cell 4
    have y0 := hV11.tail.tail.at0.cell 0
    have y1 := hV11.tail.tail.at0.cell 1
    have y2 := hV11.tail.tail.at0.cell 2
    have y3 := hV11.tail.tail.at0.cell 3
    have y4 := hV11.tail.tail.at0.cell 4
    simp only [List.getElem?_cons_zero, List.getElem?_cons_succ] at z0 z1 z2 z3 z4 y0 y1 y2 y3 y4
    have hb11 := HE.out.1.trans (b11.mono HE.out.1.size)
    have H12 := Lib.hid (same_yes w11 a1 a2 b1 b2 zs n HZ.out.2.1 A10 A c10 c (own_ns (c := c10) (n := n) (by rw [HZ.out.2.1]; exact o11)) ((HZ.out.1.below hb11).more hb11.size))
    have HE2 := Lib.hid hb11
    clear b11 hV11 o11 hb11
    go_wp2_with fail
    refine H12.out.mono ?_
    rintro e12 w12 ⟨rfl, b12⟩
    have HF := Lib.hid (HE2.out.trans (b12.mono HE2.out.size))
    clear b12
    go_wp2_with fail
    go_ret
    exact ⟨rfl, HF.out⟩
-- ROW BEGIN
set_option maxRecDepth 100000 in
/-- What the walk gives, shut again. -/
theorem contract (H : Type) (enc : TypeId × Value → H) (W : World) (base : Nat) (args : Array Value) (ds gs : List (DataW H)) (before : List MemPlace)
    (hval : ∀ (j : Nat) t v, Try.f6.params[j]? = some t → args[j]? = some v → Value.okWide Try.prog W .any base t v)
    (hW : DataW.Whole enc Try.prog Try.f6.params.toList Rows.netCopiesSpec.vars false W args.toList ds gs before)
    (hsz : (DataW.weightsEach Try.prog (Try.f6.params.toList ++ Rows.netCopiesSpec.plain.varTypes Try.prog) (ds ++ gs)).all (· ≤ reachBytes) = true) :
    Calls Try.prog 6 args W fun e W' => ∃ v, e = .returned v ∧ Rows.netCopiesSpec.post enc Try.prog Try.f6 false true false false W args v W' := by
  have hW' := hW
  obtain ⟨p, q, hA0, hV, hbef, _, _⟩ := hW
  have hA : DataW.TrodAll enc Try.prog W 0 (fun _ => true) true Try.f6.params.toList args.toList ds p := hA0
  have hA1 := hA
  rw [Try.params6] at hA hval hsz
  obtain ⟨v0, vs0, d0, ds0, p0, q0, hargs, rfl, rfl, h0, r0⟩ := trodAll_cons hA
  obtain ⟨v1, vs1, d1, ds1, p1, q1, rfl, rfl, rfl, h1, r1⟩ := trodAll_cons r0
  obtain ⟨v2, vs2, d2, ds2, p2, q2, rfl, rfl, rfl, h2, r2⟩ := trodAll_cons r1
  obtain ⟨rfl, rfl, rfl⟩ := trodAll_nil r2
  obtain rfl : args = #[v0, v1, v2] := by cases args; simp_all
  obtain ⟨rfl, rfl⟩ := trodVars_none hV
  clear hA hargs
  obtain ⟨a0, s0, e0, g0, y0, A0, c0, rfl, n0, k0, l0⟩ := Net.arg_pkt (hval 0 36 v0 rfl rfl) h0 (Wgt.wt_arg hsz (j := 0) rfl rfl)
  obtain ⟨a1, rfl, rfl, _, w1⟩ := open_int Try.underlying3 (hval 1 3 v1 rfl rfl) h1
  obtain ⟨a2, rfl, rfl, _, w2⟩ := open_int Try.underlying5 (hval 2 5 v2 rfl rfl) h2
  refine (walk W a0 s0 e0 g0 y0 A0 c0 n0 k0 l0 a1 (wf_int w1) a2 (wf_byte w2)).mono fun e W' ⟨he, hb⟩ => ?_
  subst he
  exact ⟨_, rfl, law_post Facts.laid (by rfl) Try.underlying4 (by rw [Try.params6]; decide +kernel) hW' hA1 rfl hbef rfl rfl rfl hb⟩

set_option maxRecDepth 100000 in
theorem lifted (os : Os) (started : os.Started) (H : Type) (enc : TypeId × Value → H) :
    ReturnsInHanded {} Try.checked os 6 .any (Rows.netCopiesSpec.pre6 enc Try.prog Try.f6 Rows.netCopiesRow.domain false) (Rows.netCopiesSpec.post enc Try.prog Try.f6 false true false false) := by
  refine returnsInHanded_of_change_sized (C := Try.checked) Facts.own started (by kernel_rfl) Try.func6
    (ChangeSpec.witness6 (enc := enc) (C := Try.checked) false ⟨#[], #[.agg #[.int .i64 0, .int .i64 0, .int .i64 0, .int .i64 0, .slice none 0 0], .int .i64 0, .int .u8 0], []⟩ 8 (by kernel_rfl) (by kernel_rfl) (by kernel_rfl) (by kernel_rfl)) ?_
  intro W base args ds gs before hval hW _ hsz _
  exact contract H enc W base args ds gs before hval hW hsz

theorem holds : Rows.NetCopiesSaid :=
  OpenClaim.holds_of_wide 6 Try.f6 rfl rfl rfl rfl rfl rfl rfl ⟨rfl, rfl, rfl, rfl, rfl⟩ rfl rfl rfl rfl rfl (by kernel_rfl) Try.func6 (by kernel_rfl)
    (of_decide_eq_true (by kernel_rfl)) (by unfold Func.isWrapper; first | (rw [if_pos (by decide +kernel)]; kernel_rfl) | (rw [if_neg (by decide +kernel)]; exact ⟨rfl, rfl⟩))
    (fun os started H enc _ => lifted os started H enc)
-- ROW END
end NetCopies
end Go.Proofs.Ytinbaiblbbfnnaa
