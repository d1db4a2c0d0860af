/-
  DiskKeeps (P7.4): what is handed in stays and isn't kept; what is read is new memory. For every input.
-/
import Derived.Test.YtdcppjpjlhbanaaDiskLaw
import Derived.Test.YtdcppjpjlhbanaaRow
import Derived.Test.YtdcppjpjlhbanaaFrame
namespace Go.Proofs.Ytdcppjpjlhbanaa
namespace DiskKeeps
open Go.ChangeShapes Go.WideShapes Go.ChangeAt Go.RowKit Disk Blk
attribute [local go_sem ↓] Go.wp_at_zero Go.wp_at_succ
def na : Nm := ⟨#[97]⟩
theorem na_ok : okNm na := by decide
/-- Rows of the law's own that are turned at will. -/
def Mine (X : Nat → Prop) (V : World) (A : Option Addr) (k : Nat) : Prop := 0 < k → ∃ g, A = some ⟨g, 0, none⟩ ∧ X g ∧ Rw .u8 V g k
theorem crash_last (r : Int) (xs ms : List Int) (k : Nat) (hk : ms.length = k) : (Pd.crash ⟨r, [], [⟨1, na, ⟨#[]⟩, ms, 0⟩, ⟨1, na, ⟨#[]⟩, xs, 0⟩]⟩ 1 k) = ⟨r, [(na, xs ++ ms)], []⟩ := by
  show (⟨r, partP ⟨1, na, ⟨#[]⟩, ms, 0⟩ k (wit [] na (dat [] na ++ xs)), []⟩ : Pd) = _
  congr 1
  rw [wit_nil, dat_nil, List.nil_append]
  by_cases h0 : 0 < k
  · rw [show partP ⟨1, na, ⟨#[]⟩, ms, 0⟩ (k : Int) [(na, xs)] = didP ⟨1, na, ⟨#[]⟩, ms, 0⟩ [(na, xs)] from partP_all rfl (by simp only; omega) (by simp only; omega)]
    unfold didP
    rw [if_pos rfl]
    simp only
    rw [wit_same, dat_one]
  · rw [partP_no (by rintro ⟨_, h, _⟩; omega)]
    rw [List.eq_nil_of_length_eq_zero (show ms.length = 0 by omega), List.append_nil]
set_option maxRecDepth 100000 in
set_option maxHeartbeats 8000000 in
theorem walk (w : World) (A : Option Addr) (c : Nat) (xs : List Int) (hx : Ns .u8 w w.heap.size A xs) (hx8 : ∀ z ∈ xs, 0 ≤ z ∧ z ≤ 255) (hxb : xs.length ≤ 140737488351232) (_hxc : xs.length ≤ c)
    (A' : Option Addr) (c' : Nat) (ms : List Int) (hm : Ns .u8 w w.heap.size A' ms) (hm8 : ∀ z ∈ ms, 0 ≤ z ∧ z ≤ 255) (hmb : ms.length ≤ 140737488351232) (_hmc : ms.length ≤ c') :
    Calls Try.prog 8 #[.slice A xs.length c, .slice A' ms.length c'] w fun e w' => e = .returned (.bool true) ∧ Below w.heap.size w w' := by
  obtain ⟨i0, hi0, hz0, hz1, hz2⟩ := info_parts Facts.info5
  obtain ⟨k, hk⟩ : ∃ n, xs.length = n := ⟨_, rfl⟩
  obtain ⟨k', hk'⟩ : ∃ n, ms.length = n := ⟨_, rfl⟩
  rw [hk] at hxb ⊢
  rw [hk'] at hmb ⊢
  have HZ := Lib.hid (And.intro hx (And.intro hx8 (And.intro hk (And.intro hm (And.intro hm8 hk')))))
  have H0 := Lib.hid (awake_any w)
  clear hx hx8 hk hm hm8 hk' _hxc _hmc
  by_cases hbig : (1048576 : Int) < (k : Int) + (k' : Int)
  · have e1 : IntKind.i64.wrap ((k : Int) + (k' : Int)) = (k : Int) + (k' : Int) := Go.IntWalk.i64_in _ (by omega)
    have d1 : decide ((1048576 : Int) < (k : Int) + (k' : Int)) = true := decide_eq_true hbig
    clear hbig
    go_enter Try.func8, Try.ntmps8
    go_wp2_with fail
    refine H0.out.mono ?_
    rintro e2 w1 ⟨rfl, b1⟩
    have H1 := Lib.hid (awake_any w1)
    have HB := Lib.hid b1
    clear b1
    go_wp2_with fail
    refine H1.out.mono ?_
    rintro e3 w2 ⟨rfl, b2⟩
    have HE := Lib.hid (HB.out.trans (b2.mono HB.out.size))
    clear b2
    go_wp2_with fail
    go_ret
    exact ⟨rfl, HE.out⟩
  have e1 : IntKind.i64.wrap ((k : Int) + (k' : Int)) = (k : Int) + (k' : Int) := Go.IntWalk.i64_in _ (by omega)
  have d1 : decide ((1048576 : Int) < (k : Int) + (k' : Int)) = false := decide_eq_false hbig
  have hkb : k ≤ 1048576 := by omega
  have hkb' : k' ≤ 1048576 := by omega
  have hkk : k + k' ≤ 1048576 := by omega
  clear hbig
  go_enter Try.func8, Try.ntmps8
  go_wp2_with fail
  refine H0.out.mono ?_
  rintro e2 w1 ⟨rfl, b1⟩
  have H1 := Lib.hid (on_new w b1 2097152 100 (by omega))
  rw [show roomOf 2097152 = 2097152 by decide] at H1
  have HB1 := Lib.hid b1
  clear b1 H0 e1 d1
  go_wp2_with fail
  refine H1.out.mono ?_
  rintro e3 w2 ⟨db, rfl, h2⟩
  have S2 := Lib.hid h2.out.1
  clear h2 H1
  go_wp2_with (at_builtin; refine wpList_append_ns _ rfl _ _ 29 rfl w2.heap.size 5 i0 (.int .u8 0) 1 Try.underlying29 hi0 hz0 hz1 hz2 rfl (.slice none 0 0) 0 [] rfl (World.ownsRow_nil _ _ _ _) .u8 w.heap.size A k c xs HZ.out.2.2.1 rfl (HZ.out.1.below S2.out.old) (by omega) (by omega) (Nat.le_refl _) ?_; intro v3 w3 o3 g3 at3; rw [Nat.zero_add, List.nil_append] at o3; obtain ⟨A3, c3, rfl⟩ := own_form o3; have HO3 : Hid (w3.ownsRow w2.heap.size 5 1 (.slice A3 k c3) k (nums .u8 xs) ∧ Below w2.heap.size w2 w3) := Lib.hid ⟨o3, (Below.refl _ _).grown g3 (Nat.le_refl _) (fun j hj => by cases hj)⟩; clear o3 g3 at3; have S3 := Lib.hid (S2.out.hold HO3.out.2); have p3 := push_append (P := ⟨2097152, [], []⟩) (s := na) (d := xs) na_ok (by show ((0 : Nat) : Int) + xs.length ≤ 2097152; rw [HZ.out.2.2.1]; omega); have H4 := S3.out.append (by omega) na xs k HZ.out.2.2.1 A3 c3 (own_ns (A := A3) (c := c3) (n := k) (by rw [HZ.out.2.2.1]; exact HO3.out.1)) HZ.out.2.1 p3.1; rw [p3.2.1] at H4; have H4 := Lib.hid H4; clear p3)
  obtain ⟨X, hX⟩ : ∃ X : Nat → Prop, X = fun j => False ∨ (w2.heap.size ≤ j ∧ j < w3.heap.size) := ⟨_, rfl⟩
  rw [← hX] at S3 H4
  have HM3 : Hid (Mine X w3 A3 k) := Lib.hid fun h0 => by
    obtain ⟨g, q1, q2, q3, q4⟩ := own_rw (zs := xs) (by rw [HZ.out.2.2.1]; exact HO3.out.1) (by rw [HZ.out.2.2.1]; exact h0)
    rw [HZ.out.2.2.1] at q4
    exact ⟨g, q1, by rw [hX]; exact .inr ⟨q2, q3⟩, q4⟩
  have hXw : Hid (∀ j, X j → w.heap.size ≤ j) := Lib.hid fun j hj => by
    rw [hX] at hj
    rcases hj with hj | hj
    · exact hj.elim
    · exact Nat.le_trans S2.out.old.size hj.1
  clear hX
  refine H4.out.mono ?_
  rintro e4 w4 ⟨rfl, h4⟩
  have S4 := Lib.hid h4.out.1
  have HM4 : Hid (Mine X w4 A3 k) := Lib.hid fun h0 => by
    obtain ⟨g, q1, q2, q3⟩ := HM3.out h0
    exact ⟨g, q1, q2, q3.keep (h4.out.2.2 g q2)⟩
  clear h4 HM3 HO3 S3
  go_wp2_with fail
  go_loopw [8] (fun q wr => ∃ i : Nat, q = .int .i64 i ∧ i ≤ k ∧ Hid (On X w wr db 101 ⟨2097152, [], [⟨1, na, ⟨#[]⟩, xs, 0⟩]⟩ ∧ Mine X wr A3 k)) (fun q _ => k - (intOf q).toNat)
  case atStart => exact ⟨0, rfl, by omega, Lib.hid ⟨S4.out, HM4.out⟩⟩
  case round =>
    obtain ⟨i, rfl, hi, hst⟩ := hrel
    by_cases hlt : i < k
    · obtain ⟨g, rfl, hXg, hrw⟩ := hst.out.2 (by omega)
      obtain ⟨z, hz⟩ := hrw.cell i hlt
      have hfz := hrw.frozen i
      obtain ⟨z', hz'⟩ : ∃ z', IntKind.u8.wrap (z + 1) = z' := ⟨_, rfl⟩
      have hg := gset wr g i (.int .u8 z')
      have HE : Hid (On X w (wr.setCell ⟨g, i, none⟩ (.int .u8 z')) db 101 ⟨2097152, [], [⟨1, na, ⟨#[]⟩, xs, 0⟩]⟩ ∧ Mine X (wr.setCell ⟨g, i, none⟩ (.int .u8 z')) (some ⟨g, 0, none⟩) k) := Lib.hid ⟨hst.out.1.turn (Chg.of_grown hg fun j hj => by injection hj with hj; subst hj; exact hXg) (hst.out.1.old.grown hg hst.out.1.old.size fun j hj => by
          injection hj with hj
          subst hj
          exact hXw.out g hXg), fun _ => ⟨g, rfl, hXg, hrw.set i z'⟩⟩
      have q1 : (0 : Int) ≤ (i : Int) := by omega
      have q2 : (i : Int) < (k : Int) := by omega
      clear hst hrw hg
      go_wp2_with fail
      go_roundw
      case rel => exact ⟨i + 1, rfl, by omega, HE⟩
      case measure => simp only [intOf]; omega
    · have S5 := Lib.hid hst.out.1
      have H6 := S5.out.read na (ok_of na_ok.2) k (by show (dat (wit [] na (dat [] na ++ xs)) na).length = k; rw [wit_nil, dat_one, dat_nil, List.nil_append]; exact HZ.out.2.2.1)
      have HF : (⟨2097152, [], [⟨1, na, ⟨#[]⟩, xs, 0⟩]⟩ : Pd).files = [(na, xs)] := by
        show wit [] na (dat [] na ++ xs) = _
        rw [wit_nil, dat_nil, List.nil_append]
      rw [HF, find_one, dat_one] at H6
      have H6 := Lib.hid H6
      have HF := Lib.hid HF
      clear hst
      go_wp2_with fail
      refine H6.out.mono ?_
      rintro e6 w6 ⟨A6, c6, rfl, h6⟩
      have S6 := Lib.hid (S5.out.hold h6.out.2)
      obtain ⟨Y, hY⟩ : ∃ Y : Nat → Prop, Y = fun j => X j ∨ (wr.heap.size ≤ j ∧ j < w6.heap.size) := ⟨_, rfl⟩
      rw [← hY] at S6
      have HM6 : Hid (Mine Y w6 A6 k) := Lib.hid fun h0 => by
        obtain ⟨g, q1, q2, q3, q4⟩ := own_rw (zs := xs) (by rw [HZ.out.2.2.1]; exact h6.out.1) (by rw [HZ.out.2.2.1]; exact h0)
        rw [HZ.out.2.2.1] at q4
        exact ⟨g, q1, by rw [hY]; exact .inr ⟨q2, q3⟩, q4⟩
      have hYw : Hid (∀ j, Y j → w.heap.size ≤ j) := Lib.hid fun j hj => by
        rw [hY] at hj
        rcases hj with hj | hj
        · exact hXw.out j hj
        · exact Nat.le_trans S5.out.old.size hj.1
      clear hY h6
      go_wp2_with fail
      go_loopw [11] (fun q wq => ∃ i : Nat, q = .int .i64 i ∧ i ≤ k ∧ Hid (On Y w wq db 101 ⟨2097152, [], [⟨1, na, ⟨#[]⟩, xs, 0⟩]⟩ ∧ Mine Y wq A6 k)) (fun q _ => k - (intOf q).toNat)
      case atStart => exact ⟨0, rfl, by omega, Lib.hid ⟨S6.out, HM6.out⟩⟩
      case round =>
        obtain ⟨i2, rfl, hi2, hst⟩ := hrel
        by_cases hlt2 : i2 < k
        · obtain ⟨g, rfl, hXg, hrw⟩ := hst.out.2 (by omega)
          obtain ⟨z, hz⟩ := hrw.cell i2 hlt2
          have hfz := hrw.frozen i2
          obtain ⟨z', hz'⟩ : ∃ z', IntKind.u8.wrap (z + 1) = z' := ⟨_, rfl⟩
          have hg := gset wr g i2 (.int .u8 z')
          have HE : Hid (On Y w (wr.setCell ⟨g, i2, none⟩ (.int .u8 z')) db 101 ⟨2097152, [], [⟨1, na, ⟨#[]⟩, xs, 0⟩]⟩ ∧ Mine Y (wr.setCell ⟨g, i2, none⟩ (.int .u8 z')) (some ⟨g, 0, none⟩) k) := Lib.hid ⟨hst.out.1.turn (Chg.of_grown hg fun j hj => by injection hj with hj; subst hj; exact hXg) (hst.out.1.old.grown hg hst.out.1.old.size fun j hj => by
              injection hj with hj
              subst hj
              exact hYw.out g hXg), fun _ => ⟨g, rfl, hXg, hrw.set i2 z'⟩⟩
          have q1 : (0 : Int) ≤ (i2 : Int) := by omega
          have q2 : (i2 : Int) < (k : Int) := by omega
          clear hst hrw hg
          go_wp2_with fail
          go_roundw
          case rel => exact ⟨i2 + 1, rfl, by omega, HE⟩
          case measure => simp only [intOf]; omega
        · have S7 := Lib.hid hst.out.1
          have p7 := push_append (P := ⟨2097152, [], [⟨1, na, ⟨#[]⟩, xs, 0⟩]⟩) (s := na) (d := ms) na_ok (by rw [HF.out, used_one, HZ.out.2.2.2.2.2, HZ.out.2.2.1]; simp only; omega)
          have H8 := S7.out.append (by omega) na ms k' HZ.out.2.2.2.2.2 A' c' ((HZ.out.2.2.2.1.below S7.out.old).more S7.out.old.size) HZ.out.2.2.2.2.1 p7.1
          rw [p7.2.1] at H8
          have H8 := Lib.hid H8
          clear hst p7
          go_wp2_with fail
          refine H8.out.mono ?_
          rintro e8 w8 ⟨rfl, h8⟩
          have S8 := Lib.hid h8.out.1
          have H9 := h8.out.1.crash 1 k'
          rw [crash_last _ xs ms k' HZ.out.2.2.2.2.2] at H9
          have H9 := Lib.hid H9
          clear h8
          go_wp2_with fail
          refine H9.out.mono ?_
          rintro e9 w9 ⟨rfl, h9⟩
          have S9 := Lib.hid h9.out.1
          have HL : Hid ((xs ++ ms).length = k + k') := Lib.hid (by rw [List.length_append, HZ.out.2.2.1, HZ.out.2.2.2.2.2])
          have H10 := S9.out.read na (ok_of na_ok.2) (k + k') (by show (dat [(na, xs ++ ms)] na).length = _; rw [dat_one]; exact HL.out)
          rw [show find (⟨2097152, [(na, xs ++ ms)], []⟩ : Pd).files na = some (xs ++ ms) from find_one, show dat (⟨2097152, [(na, xs ++ ms)], []⟩ : Pd).files na = xs ++ ms from dat_one] at H10
          have H10 := Lib.hid H10
          clear h9
          go_wp2_with fail
          refine H10.out.mono ?_
          rintro e10 wa ⟨Aa, ca, rfl, ha⟩
          have Sa := Lib.hid (S9.out.below ha.out.2)
          have k1 := run_conv_ns (P := Try.prog) wa 29 5 9 Try.underlying29 Try.underlying5 Try.underlying9 ca (own_ns (A := Aa) (c := ca) (n := k + k') (zs := xs ++ ms) (by rw [HL.out]; exact ha.out.1))
          have k2 := run_conv_ns (P := Try.prog) wa 29 5 9 Try.underlying29 Try.underlying5 Try.underlying9 c (HZ.out.1.below Sa.out.old)
          have k3 := run_conv_ns (P := Try.prog) wa 29 5 9 Try.underlying29 Try.underlying5 Try.underlying9 c' (HZ.out.2.2.2.1.below Sa.out.old)
          rw [HL.out] at k1
          rw [HZ.out.2.2.1] at k2
          rw [HZ.out.2.2.2.2.2] at k3
          obtain ⟨Sx, hSx⟩ : ∃ S, strOfNums xs = S := ⟨_, rfl⟩
          obtain ⟨Sm, hSm⟩ : ∃ S, strOfNums ms = S := ⟨_, rfl⟩
          have hSS : strOfNums (xs ++ ms) = Sx ++ Sm := by
            rw [← hSx, ← hSm]
            apply ByteArray.ext
            apply Array.toList_inj.1
            rw [strOfNums_data]
            simp [strOfNums_data]
          have hl1 : ∀ zs : List Int, (strOfNums zs).size = zs.length := fun zs => by
            have h1 := congrArg List.length (strOfNums_data zs)
            rw [List.length_map, Array.length_toList] at h1
            exact h1
          have hlong : ¬ 9223372036854775807 < Sx.size + Sm.size := by
            have h1 := hl1 xs
            have h2 := hl1 ms
            rw [hSx, HZ.out.2.2.1] at h1
            rw [hSm, HZ.out.2.2.2.2.2] at h2
            omega
          rw [hSS] at k1
          rw [hSx] at k2
          rw [hSm] at k3
          clear ha hSx hSm hSS hl1
          go_wp2_with fail
          go_ret
          exact ⟨rfl, Sa.out.old⟩
-- ROW BEGIN
set_option maxRecDepth 100000 in
/-- What the walk gives, shut again. -/
theorem contract (H : Type) (enc : TypeId × Value → H) (W : World) (base : Nat) (args : Array Value) (ds gs : List (DataW H)) (before : List MemPlace)
    (hval : ∀ (j : Nat) t v, Try.f8.params[j]? = some t → args[j]? = some v → Value.okWide Try.prog W .any base t v)
    (hW : DataW.Whole enc Try.prog Try.f8.params.toList Rows.diskKeepsSpec.vars false W args.toList ds gs before)
    (hsz : (DataW.weightsEach Try.prog (Try.f8.params.toList ++ Rows.diskKeepsSpec.plain.varTypes Try.prog) (ds ++ gs)).all (· ≤ reachBytes) = true) :
    Calls Try.prog 8 args W fun e W' => ∃ v, e = .returned v ∧ Rows.diskKeepsSpec.post enc Try.prog Try.f8 false true false false W args v W' := by
  have hW' := hW
  obtain ⟨p, q, hA0, hV, hbef, _, _⟩ := hW
  have hA : DataW.TrodAll enc Try.prog W 0 (fun _ => true) true Try.f8.params.toList args.toList ds p := hA0
  have hA1 := hA
  rw [Try.params8] at hA hval hsz
  obtain ⟨v0, vs0, d0, ds0, p0, q0, hargs, rfl, rfl, h0, r0⟩ := trodAll_cons hA
  obtain ⟨v1, vs1, d1, ds1, p1, q1, rfl, rfl, rfl, h1, r1⟩ := trodAll_cons r0
  obtain ⟨rfl, rfl, rfl⟩ := trodAll_nil r1
  obtain rfl : args = #[v0, v1] := by cases args; simp_all
  obtain ⟨rfl, rfl⟩ := trodVars_none hV
  clear hA hargs
  obtain ⟨A0, c0, a0, rfl, n0, w0, l0, _, o0⟩ := open_ns Try.underlying29 Try.underlying5 Facts.cells5 (hval 0 29 v0 rfl rfl) h0
  have b0 := reach_ns hsz (j := 0) rfl rfl Try.underlying29 Facts.bytes5 l0 o0
  obtain ⟨A1, c1, a1, rfl, n1, w1, l1, _, o1⟩ := open_ns Try.underlying29 Try.underlying5 Facts.cells5 (hval 1 29 v1 rfl rfl) h1
  have b1 := reach_ns hsz (j := 1) rfl rfl Try.underlying29 Facts.bytes5 l1 o1
  refine (walk W A0 c0 a0 n0 (fun z hz => wf_byte (w0 z hz)) (by omega) l0 A1 c1 a1 n1 (fun z hz => wf_byte (w1 z hz)) (by omega) l1).mono fun e W' ⟨he, hb⟩ => ?_
  subst he
  exact ⟨_, rfl, law_post Facts.laid (by rfl) Try.underlying4 (by rw [Try.params8]; decide +kernel) hW' hA1 rfl hbef rfl rfl rfl hb⟩

set_option maxRecDepth 100000 in
theorem lifted (os : Os) (started : os.Started) (H : Type) (enc : TypeId × Value → H) :
    ReturnsInHanded {} Try.checked os 8 .any (Rows.diskKeepsSpec.pre6 enc Try.prog Try.f8 Rows.diskKeepsRow.domain false) (Rows.diskKeepsSpec.post enc Try.prog Try.f8 false true false false) := by
  refine returnsInHanded_of_change_sized (C := Try.checked) Facts.own started (by kernel_rfl) Try.func8
    (ChangeSpec.witness6 (enc := enc) (C := Try.checked) false ⟨#[], #[.slice none 0 0, .slice none 0 0], []⟩ 8 (by kernel_rfl) (by kernel_rfl) (by kernel_rfl) (by kernel_rfl)) ?_
  intro W base args ds gs before hval hW _ hsz _
  exact contract H enc W base args ds gs before hval hW hsz

theorem holds : Rows.DiskKeepsSaid :=
  OpenClaim.holds_of_wide 8 Try.f8 rfl rfl rfl rfl rfl rfl rfl ⟨rfl, rfl, rfl, rfl, rfl⟩ rfl rfl rfl rfl rfl (by kernel_rfl) Try.func8 (by kernel_rfl)
    (of_decide_eq_true (by kernel_rfl)) (by unfold Func.isWrapper; first | (rw [if_pos (by decide +kernel)]; kernel_rfl) | (rw [if_neg (by decide +kernel)]; exact ⟨rfl, rfl⟩))
    (fun os started H enc _ => lifted os started H enc)
-- ROW END
end DiskKeeps
end Go.Proofs.Ytdcppjpjlhbanaa
