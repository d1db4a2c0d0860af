/-
  DiskSafe (P7.2, P7.3): what was made safe is there behind every crash, though it was cut, renamed or removed since, where none of that stays. For every input up to a bulk.
-/
import Derived.Test.YtdcppjpjlhbanaaDiskLaw
import Derived.Test.YtdcppjpjlhbanaaFrame
namespace Go.Proofs.Ytdcppjpjlhbanaa
namespace DiskSafe
open Go.ChangeShapes Go.WideShapes Go.ChangeAt Go.RowKit Disk Blk
attribute [local go_sem ↓] Go.wp_at_zero Go.wp_at_succ
/-- Changes alone leave what is safe. -/
theorem push_safe (P : Pd) (c : Cp) : (P.push c).safe = P.safe ∧ (P.push c).room = P.room := by
  unfold Pd.push
  split <;> exact ⟨rfl, rfl⟩
theorem run_safe {P : Pd} {o : Oq} (h : 1 ≤ o.kd ∧ o.kd ≤ 4) : (P.run o).safe = P.safe := by
  unfold Pd.run
  rw [if_pos h]
  exact (push_safe P o.C).1
theorem part_zero (c : Cp) (l : Fs) : partP c 0 l = l := partP_zero c l
/-- A crash of which nothing stays. -/
theorem crash_zero (P : Pd) : (P.crash 0 0).files = P.safe := by
  show (P.crash 0 0).safe = P.safe
  have hk : P.kept 0 = 0 := by unfold Pd.kept; omega
  simp only [Pd.crash, hk]
  split
  · rename_i c hc
    rw [if_pos (by have := (List.getElem?_eq_some_iff.1 hc).1; omega), partP_zero, Nat.sub_zero, List.drop_length]
    rfl
  · rename_i hc
    have h0 : P.q.length = 0 := by
      rw [List.getElem?_eq_none_iff] at hc
      omega
    show fR P.safe P.q = P.safe
    rw [List.eq_nil_of_length_eq_zero h0]
    rfl
theorem crash_none (P : Pd) (h : P.q = []) (a b : Int) : (P.crash a b).files = P.safe := by
  show (P.crash a b).safe = P.safe
  simp only [Pd.crash, h]
  simp only [List.length_nil, List.getElem?_nil]
  show fR P.safe P.q = P.safe
  rw [h]
  rfl
set_option maxRecDepth 100000 in
set_option maxHeartbeats 8000000 in
theorem walk (w : World) (A : Option Addr) (c : Nat) (l : List Oe) (hp : Ops w w.heap.size A l) (_hb : l.length * 80 ≤ 140737488351232) (hq : ∀ x ∈ l, OkO x)
    (A' : Option Addr) (c' : Nat) (l' : List Oe) (hp' : Ops w w.heap.size A' l') (_hb' : l'.length * 80 ≤ 140737488351232) (hq' : ∀ x ∈ l', OkO x) (hbulk : l.length + l'.length ≤ 1048576) :
    Calls Try.prog 5 #[.slice A l.length c, .slice A' l'.length c'] w fun e w' => e = .returned (.bool true) ∧ Below w.heap.size w w' := by
  obtain ⟨n, hn⟩ : ∃ n, l.length = n := ⟨_, rfl⟩
  obtain ⟨n', hn'⟩ : ∃ n, l'.length = n := ⟨_, rfl⟩
  rw [hn, hn'] at hbulk ⊢
  have HZ := Lib.hid (And.intro hp (And.intro hn hq))
  have HY := Lib.hid (And.intro hp' (And.intro hn' hq'))
  have H0 := Lib.hid (awake_any w)
  clear hp hn hq hp' hn' hq' _hb _hb'
  go_enter Try.func5, Try.ntmps5
  go_wp2_with fail
  refine H0.out.mono ?_
  rintro e1 w1 ⟨rfl, b1⟩
  have H1 := Lib.hid (pd_new w1 2048 0 (by omega))
  have HB1 := Lib.hid b1
  clear b1 H0
  go_wp2_with fail
  refine H1.out.mono ?_
  rintro e2 w2 ⟨db, rfl, h2⟩
  have H2 := Lib.hid (doc_new w2 2048)
  go_wp2_with fail
  refine H2.out.mono ?_
  rintro e3 w3 ⟨mb, rfl, h3⟩
  have HS : Hid (Bo (fun _ => False) w w3 db mb 0 0 ⟨roomOf 2048, [], []⟩ ⟨roomD 2048, [], []⟩) := Lib.hid (bo_start h2.out.1 (new_ok 0 (room_ok 2048)) (HB1.out.trans (h2.out.2.mono HB1.out.size)) (fun j hj => Nat.le_trans HB1.out.size hj.1) h3.out.1 (new_ok 0 (room_ok 2048)) h3.out.2 fun j hj => hj.1)
  clear h2 h3 H1 H2 HB1
  go_wp2_with fail
  go_loopw [7] (fun q wr => ∃ (k : Nat) (P Q : Pd), q = .int .i64 k ∧ k ≤ n ∧ Hid (Bo (fun _ => False) w wr db mb k k P Q)) (fun q _ => n - (intOf q).toNat)
  case atStart => exact ⟨0, _, _, rfl, by omega, HS⟩
  case round =>
    obtain ⟨k, P, Q, rfl, hk, hst⟩ := hrel
    by_cases hlt : k < n
    · have hkl : k < l.length := by have := HZ.out.2.1; omega
      obtain ⟨⟨o, Ad, cd⟩, hx⟩ : ∃ x, l.getD k o0 = x := ⟨_, rfl⟩
      obtain ⟨b, off, rfl, hbB, hcell⟩ := op_cells HZ.out.1 hkl hx
      have hmem := op_mem hkl hx
      have hok := HZ.out.2.2 _ hmem
      obtain ⟨kz, hkz⟩ : ∃ k, o.d.length = k := ⟨_, rfl⟩
      obtain ⟨kd, hkd⟩ : ∃ z, o.kd = z := ⟨_, rfl⟩
      obtain ⟨s, hs⟩ : ∃ z, o.s = z := ⟨_, rfl⟩
      obtain ⟨t, ht⟩ : ∃ z, o.t = z := ⟨_, rfl⟩
      obtain ⟨nn, hnn⟩ : ∃ z, o.n = z := ⟨_, rfl⟩
      obtain ⟨torn, htn⟩ : ∃ z, o.torn = z := ⟨_, rfl⟩
      have H2 := does_any hst.out (by omega) (by omega) o kz hkz (by have := hok.2.1; simp only at this; omega) Ad cd (HZ.out.1.1 _ hmem) hok.1
      rw [hkd, hs, ht, hnn, htn] at H2
      have H2 := Lib.hid H2
      simp only [hkz, hkd, hs, ht, hnn, htn] at hcell
      obtain ⟨s0, s1, s2, s3, s4, s5⟩ := hcell wr hst.out.old
      have z1 : (0 : Int) ≤ (k : Int) := by omega
      have z2 : (k : Int) < (n : Int) := by omega
      clear hkl hmem hx hkz hok hst hkd hs ht hnn htn hcell
      go_wp2_with fail
      refine H2.out.mono ?_
      rintro e3 w3 ⟨b3, rfl, h3⟩
      have HE := Lib.hid h3.out.2.1
      clear h3
      go_wp2_with fail
      go_roundw
      case rel => exact ⟨k + 1, P.run o, Q.run o, rfl, by omega, HE⟩
      case measure => simp only [intOf]; omega
    · obtain rfl : k = n := by omega
      have H3 := Lib.hid hst.out.sync
      clear hst
      go_wp2_with fail
      refine H3.out.mono ?_
      rintro e4 w4 ⟨rfl, h4⟩
      have HS4 := Lib.hid h4.out.1
      have H5 := Lib.hid (h4.out.1.files (by omega))
      clear h4
      go_wp2_with fail
      refine H5.out.mono ?_
      rintro e5 w5 ⟨A5, n5, c5, rfl, h5⟩
      obtain ⟨l5, hf5, hs5, bb5⟩ := id h5.out
      have HB5 := Lib.hid (HS4.out.hold bb5)
      obtain ⟨S, hS⟩ : ∃ S, P.files = S := ⟨_, rfl⟩
      have HF5 : Hid (Fr (fun j => False ∨ (w4.heap.size ≤ j ∧ j < w5.heap.size)) w5 A5 n5 c5 l5 ∧ fsR l5 = S) := Lib.hid ⟨⟨hf5.1, hf5.2.1, fun g hg => .inr ⟨hf5.2.2.1 g hg, (hf5.2.1.lt g hg).2⟩, fun x hx => ⟨(hf5.2.2.2.1 x hx).1, fun g hg => .inr ⟨(hf5.2.2.2.1 x hx).2.1 g hg, ((hf5.2.2.2.1 x hx).1.lt g hg).2⟩, (hf5.2.2.2.1 x hx).2.2⟩, hf5.2.2.2.2⟩, by rw [hs5]; exact hS⟩
      obtain ⟨X, hX⟩ : ∃ X : Nat → Prop, X = fun j => False ∨ (w4.heap.size ≤ j ∧ j < w5.heap.size) := ⟨_, rfl⟩
      rw [← hX] at HB5 HF5
      have HSf : Hid (P.sync.safe = S) := Lib.hid hS
      clear hf5 hs5 bb5 h5 HS4 H5 hX hS
      go_wp2_with fail
      go_loopw [9] (fun q wr => ∃ (j : Nat) (P' Q' : Pd), q = .int .i64 j ∧ j ≤ n' ∧ Hid (Bo X w wr db mb (k + j) (k + j) P' Q' ∧ P'.safe = S ∧ Fr X wr A5 n5 c5 l5)) (fun q _ => n' - (intOf q).toNat)
      case atStart => exact ⟨0, _, _, rfl, by omega, Lib.hid ⟨HB5.out, HSf.out, HF5.out.1⟩⟩
      case round =>
        obtain ⟨j, P', Q', rfl, hj, hst⟩ := hrel
        by_cases hjl : j < n'
        · have hkl : j < l'.length := by have := HY.out.2.1; omega
          obtain ⟨⟨o, Ad, cd⟩, hx⟩ : ∃ x, l'.getD j o0 = x := ⟨_, rfl⟩
          obtain ⟨b, off, rfl, hbB, hcell⟩ := op_cells HY.out.1 hkl hx
          have hmem := op_mem hkl hx
          have hok := HY.out.2.2 _ hmem
          obtain ⟨kz, hkz⟩ : ∃ k, o.d.length = k := ⟨_, rfl⟩
          obtain ⟨kd, hkd⟩ : ∃ z, o.kd = z := ⟨_, rfl⟩
          obtain ⟨s, hs⟩ : ∃ z, o.s = z := ⟨_, rfl⟩
          obtain ⟨t, ht⟩ : ∃ z, o.t = z := ⟨_, rfl⟩
          obtain ⟨nn, hnn⟩ : ∃ z, o.n = z := ⟨_, rfl⟩
          obtain ⟨torn, htn⟩ : ∃ z, o.torn = z := ⟨_, rfl⟩
          have H2 := does_any hst.out.1 (by omega) (by omega) o kz hkz (by have := hok.2.1; simp only at this; omega) Ad cd (HY.out.1.1 _ hmem) hok.1
          rw [hkd, hs, ht, hnn, htn] at H2
          have H2 := Lib.hid H2
          simp only [hkz, hkd, hs, ht, hnn, htn] at hcell
          obtain ⟨s0, s1, s2, s3, s4, s5⟩ := hcell wr hst.out.1.old
          have z1 : (0 : Int) ≤ (j : Int) := by omega
          have z2 : (j : Int) < (n' : Int) := by omega
          have HO := Lib.hid hkd
          by_cases hk1 : 1 ≤ kd
          · have q1 : decide (1 ≤ kd) = true := decide_eq_true hk1
            by_cases hk4 : kd ≤ 4
            · have q2 : decide (kd ≤ 4) = true := decide_eq_true hk4
              have HT := Lib.hid (And.intro hst.out.2.1 hst.out.2.2)
              clear hkl hmem hx hkz hok hst hkd hs ht hnn htn hcell
              go_wp2_with fail
              refine H2.out.mono ?_
              rintro e3 w3 ⟨b3, rfl, h3⟩
              have HE : Hid (Bo X w w3 db mb (k + j + 1) (k + j + 1) (P'.run o) (Q'.run o) ∧ (P'.run o).safe = S ∧ Fr X w3 A5 n5 c5 l5) := Lib.hid ⟨h3.out.2.1, by rw [run_safe ⟨by rw [HO.out]; exact hk1, by rw [HO.out]; exact hk4⟩]; exact HT.out.1, HT.out.2.keep (fun i hi _ => h3.out.2.2.2 i hi) fun _ => id⟩
              clear h3
              go_wp2_with fail
              go_roundw
              case rel => exact ⟨j + 1, P'.run o, Q'.run o, rfl, by omega, HE⟩
              case measure => simp only [intOf]; omega
            · have q2 : decide (kd ≤ 4) = false := decide_eq_false hk4
              have HE : Hid (Bo X w wr db mb (k + j + 1) (k + j + 1) P' Q' ∧ P'.safe = S ∧ Fr X wr A5 n5 c5 l5) := Lib.hid ⟨hst.out.1.mono (by omega) (by omega) (by omega), hst.out.2⟩
              clear hkl hmem hx hkz hok hst hkd hs ht hnn htn hcell
              go_wp2_with fail
              go_roundw
              case rel => exact ⟨j + 1, P', Q', rfl, by omega, HE⟩
              case measure => simp only [intOf]; omega
          · have q1 : decide (1 ≤ kd) = false := decide_eq_false hk1
            have HE : Hid (Bo X w wr db mb (k + j + 1) (k + j + 1) P' Q' ∧ P'.safe = S ∧ Fr X wr A5 n5 c5 l5) := Lib.hid ⟨hst.out.1.mono (by omega) (by omega) (by omega), hst.out.2⟩
            clear hkl hmem hx hkz hok hst hkd hs ht hnn htn hcell
            go_wp2_with fail
            go_roundw
            case rel => exact ⟨j + 1, P', Q', rfl, by omega, HE⟩
            case measure => simp only [intOf]; omega
        · have H6 := Lib.hid (hst.out.1.crash 0 0)
          have HT := Lib.hid hst.out.2
          clear hst
          go_wp2_with fail
          refine H6.out.mono ?_
          rintro e6 w6 ⟨rfl, h6⟩
          have HT6 : Hid (Fr X w6 A5 n5 c5 l5) := Lib.hid (HT.out.2.keep (fun i hi _ => h6.out.2.2 i hi) fun _ => id)
          have HB6 := Lib.hid h6.out.1
          have H7 := Lib.hid (h6.out.1.files (by omega))
          clear h6
          go_wp2_with fail
          refine H7.out.mono ?_
          rintro e7 w7 ⟨A7, n7, c7, rfl, h7⟩
          obtain ⟨l7, hf7, hs7, bb7⟩ := id h7.out
          have HB7 := Lib.hid (HB6.out.below bb7)
          have HT7 : Hid (Fr X w7 A5 n5 c5 l5) := Lib.hid (HT6.out.below bb7 (Nat.le_refl _))
          have H8 := Lib.hid (same_yes hf7 HT7.out (by rw [hs7, crash_zero, HT.out.1, HF5.out.2]))
          clear hf7 hs7 bb7 h7
          go_wp2_with fail
          refine H8.out.mono ?_
          rintro e8 w8 ⟨rfl, bb8⟩
          have HB8 := Lib.hid (HB7.out.below bb8)
          have HT8 : Hid (Fr X w8 A5 n5 c5 l5) := Lib.hid (HT7.out.below bb8 (Nat.le_refl _))
          have H9 := Lib.hid (HB8.out.crash 5 5)
          clear bb8
          go_wp2_with fail
          refine H9.out.mono ?_
          rintro e9 w9 ⟨rfl, h9⟩
          have HT9 : Hid (Fr X w9 A5 n5 c5 l5) := Lib.hid (HT8.out.keep (fun i hi _ => h9.out.2.2 i hi) fun _ => id)
          have HB9 := Lib.hid h9.out.1
          have H10 := Lib.hid (h9.out.1.files (by omega))
          clear h9
          go_wp2_with fail
          refine H10.out.mono ?_
          rintro e10 wa ⟨Aa, na, ca, rfl, ha⟩
          obtain ⟨la, hfa, hsa, bba⟩ := id ha.out
          have HBa := Lib.hid (HB9.out.below bba)
          have H11 := Lib.hid (same_yes hfa (HT9.out.below bba (Nat.le_refl _)) (by
            rw [hsa, crash_none _ rfl]
            show (P'.crash 0 0).files = _
            rw [crash_zero, HT.out.1, HF5.out.2]))
          clear hfa hsa bba ha
          go_wp2_with fail
          refine H11.out.mono ?_
          rintro e11 wb ⟨rfl, bbb⟩
          have HE := Lib.hid (HBa.out.below bbb).old
          clear bbb
          go_wp2_with fail
          go_ret
          exact ⟨rfl, HE.out⟩
-- ROW BEGIN
set_option maxRecDepth 100000 in
/-- What the walk gives, shut again. -/
theorem contract (H : Type) (enc : TypeId × Value → H) (W : World) (base : Nat) (args : Array Value) (ds gs : List (DataW H)) (before : List MemPlace)
    (hval : ∀ (j : Nat) t v, Try.f5.params[j]? = some t → args[j]? = some v → Value.okWide Try.prog W .any base t v)
    (hW : DataW.Whole enc Try.prog Try.f5.params.toList Rows.diskSafeSpec.vars false W args.toList ds gs before)
    (hsz : (DataW.weightsEach Try.prog (Try.f5.params.toList ++ Rows.diskSafeSpec.plain.varTypes Try.prog) (ds ++ gs)).all (· ≤ reachBytes) = true) (hk : Rows.uptoSmall H (ds ++ gs) = true) :
    Calls Try.prog 5 args W fun e W' => ∃ v, e = .returned v ∧ Rows.diskSafeSpec.post enc Try.prog Try.f5 false true false false W args v W' := by
  have hW' := hW
  obtain ⟨p, q, hA0, hV, hbef, _, _⟩ := hW
  have hA : DataW.TrodAll enc Try.prog W 0 (fun _ => true) true Try.f5.params.toList args.toList ds p := hA0
  have hA1 := hA
  rw [Try.params5] at hA hval hsz
  obtain ⟨v0, vs0, d0, ds0, p0, q0, hargs, rfl, rfl, h0, r0⟩ := trodAll_cons hA
  obtain ⟨v1, vs1, d1, ds1, p1, q1, rfl, rfl, rfl, h1, r1⟩ := trodAll_cons r0
  obtain ⟨rfl, rfl, rfl⟩ := trodAll_nil r1
  obtain rfl : args = #[v0, v1] := by cases args; simp_all
  obtain ⟨rfl, rfl⟩ := trodVars_none hV
  clear hA hargs
  obtain ⟨A0, c0, a0, rfl, n0, l0, b0⟩ := Disk.arg_ops (hval 0 22 v0 rfl rfl) h0 (Wgt.wt_arg hsz (j := 0) rfl rfl)
  obtain ⟨A1, c1, a1, rfl, n1, l1, b1⟩ := Disk.arg_ops (hval 1 22 v1 rfl rfl) h1 (Wgt.wt_arg hsz (j := 1) rfl rfl)
  have hbulk : a0.length + a1.length ≤ 1048576 := by
    have h := Bulk.bound hk
    have e0 := Disk.ops_bulk h0
    have e1 := Disk.ops_bulk h1
    simp only [List.append_nil, Rows.uptoBulkAll] at h
    omega
  refine (walk W A0 c0 a0 n0 b0 l0 A1 c1 a1 n1 b1 l1 hbulk).mono fun e W' ⟨he, hb⟩ => ?_
  subst he
  exact ⟨_, rfl, law_post Facts.laid (by rfl) Try.underlying4 (by rw [Try.params5]; decide +kernel) hW' hA1 rfl hbef rfl rfl rfl hb⟩

set_option maxRecDepth 100000 in
theorem lifted (os : Os) (started : os.Started) (H : Type) (enc : TypeId × Value → H) (F : Stop.Interp) :
    ReturnsInHanded {} Try.checked os 5 .any ((Rows.OpenSpec.upto Rows.diskSafeSpec).pre6 enc Try.prog Try.f5 Rows.diskSafeUptoRow.domain false) (((Rows.OpenSpec.upto Rows.diskSafeSpec).at F).post enc Try.prog Try.f5 false true false false) := by
  refine returnsInHanded_of_cond_sized (C := Try.checked) (s := Rows.OpenSpec.upto Rows.diskSafeSpec) (k := Rows.uptoSmall) rfl Facts.own started (by kernel_rfl) Try.func5
    (OpenSpec.witness (enc := enc) (C := Try.checked) (s := Rows.OpenSpec.upto Rows.diskSafeSpec) (k := Rows.uptoSmall) rfl false ⟨#[], #[.slice none 0 0, .slice none 0 0], []⟩ 8 (by kernel_rfl) (by kernel_rfl) (by kernel_rfl)
      (x := ([.nil, .nil], [], [])) (by kernel_rfl) rfl (by kernel_rfl)) ?_
  intro W base args ds gs before hval hW _ hk hsz _
  exact contract H enc W base args ds gs before hval hW hsz hk

theorem holds : Rows.DiskSafeUptoSaid :=
  OpenClaim.holds_of_cond 5 Try.f5 rfl rfl rfl rfl rfl rfl rfl ⟨rfl, rfl, rfl, rfl, rfl⟩ rfl rfl rfl rfl rfl (by kernel_rfl) Try.func5 (by kernel_rfl)
    (of_decide_eq_true (by kernel_rfl)) (by unfold Func.isWrapper; first | (rw [if_pos (by decide +kernel)]; kernel_rfl) | (rw [if_neg (by decide +kernel)]; exact ⟨rfl, rfl⟩))
    (fun os started H enc _ F => lifted os started H enc F)
-- ROW END
end DiskSafe
end Go.Proofs.Ytdcppjpjlhbanaa
