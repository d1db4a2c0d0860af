/-
  DiskPlays (P7.1 to P7.3): whatever is done, in whatever order, crashes among it: every answer and all files are the document's. For every input.
-/
import Derived.Test.YtdcppjpjlhbanaaDiskLaw
import Derived.Test.YtdcppjpjlhbanaaFrame
namespace Go.Proofs.Ytdcppjpjlhbanaa
namespace DiskPlays
open Go.ChangeShapes Go.WideShapes Go.ChangeAt Go.RowKit Disk Blk
attribute [local go_sem ↓] Go.wp_at_zero Go.wp_at_succ
set_option maxRecDepth 100000 in
set_option maxHeartbeats 8000000 in
theorem walk (w : World) (room : Int) (_hr : -9223372036854775808 ≤ room ∧ room ≤ 9223372036854775807) (A : Option Addr) (c : Nat) (l : List Oe) (hp : Ops w w.heap.size A l) (hb : l.length * 80 ≤ 140737488351232) (hq : ∀ x ∈ l, OkO x) :
    Calls Try.prog 3 #[.int .i64 room, .slice A l.length c] w fun e w' => e = .returned (.bool true) ∧ Below w.heap.size w w' := by
  obtain ⟨n, hn⟩ : ∃ n, l.length = n := ⟨_, rfl⟩
  rw [hn] at hb ⊢
  have HZ := Lib.hid (And.intro hp (And.intro hn hq))
  have H0 := Lib.hid (awake_any w)
  clear hp hn hq
  go_enter Try.func3, Try.ntmps3
  go_wp2_with fail
  refine H0.out.mono ?_
  rintro e1 w1 ⟨rfl, b1⟩
  have H1 := Lib.hid (pd_new w1 room 0 (by omega))
  have HB1 := Lib.hid b1
  clear b1 H0
  go_wp2_with fail
  refine H1.out.mono ?_
  rintro e2 w2 ⟨db, rfl, h2⟩
  have H2 := Lib.hid (doc_new w2 room)
  go_wp2_with fail
  refine H2.out.mono ?_
  rintro e3 w3 ⟨mb, rfl, h3⟩
  have HS : Hid (Bo (fun _ => False) w w3 db mb 0 0 ⟨roomOf room, [], []⟩ ⟨roomOf room, [], []⟩) := Lib.hid (bo_start h2.out.1 (new_ok 0 (room_ok room)) (HB1.out.trans (h2.out.2.mono HB1.out.size)) (fun j hj => Nat.le_trans HB1.out.size hj.1) h3.out.1 (new_ok 0 (room_ok room)) h3.out.2 fun j hj => hj.1)
  clear h2 h3 H1 H2 HB1
  go_wp2_with fail
  go_loopw [7] (fun q wr => ∃ (k : Nat) (P : Pd), q = .int .i64 k ∧ k ≤ n ∧ Hid (Bo (fun _ => False) w wr db mb k k P P)) (fun q _ => n - (intOf q).toNat)
  case atStart => exact ⟨0, _, rfl, by omega, HS⟩
  case round =>
    obtain ⟨k, P, rfl, hk, hst⟩ := hrel
    by_cases hlt : k < n
    · have hkl : k < l.length := by have := HZ.out.2.1; omega
      obtain ⟨⟨o, Ad, cd⟩, hx⟩ : ∃ x, l.getD k o0 = x := ⟨_, rfl⟩
      obtain ⟨b, off, rfl, hbB, hcell⟩ := op_cells HZ.out.1 hkl hx
      have hmem := op_mem hkl hx
      have hok := HZ.out.2.2 _ hmem
      obtain ⟨kz, hkz⟩ : ∃ k, o.d.length = k := ⟨_, rfl⟩
      obtain ⟨kd, hkd⟩ : ∃ z, o.kd = z := ⟨_, rfl⟩
      obtain ⟨s, hs⟩ : ∃ z, o.s = z := ⟨_, rfl⟩
      obtain ⟨t, ht⟩ : ∃ z, o.t = z := ⟨_, rfl⟩
      obtain ⟨nn, hnn⟩ : ∃ z, o.n = z := ⟨_, rfl⟩
      obtain ⟨torn, htn⟩ : ∃ z, o.torn = z := ⟨_, rfl⟩
      have H2 := does_any (hst.out.below (Below.refl _ wr).drew) (by omega) (by omega) o kz hkz (by have := hok.2.1; simp only at this; omega) Ad cd (HZ.out.1.1 _ hmem) hok.1
      rw [hkd, hs, ht, hnn, htn] at H2
      have H2 := Lib.hid H2
      simp only [hkz, hkd, hs, ht, hnn, htn] at hcell
      have HC := Lib.hid (And.intro hcell (And.intro hbB hst.out))
      obtain ⟨s0, s1, s2, s3, s4, s5⟩ := hcell wr.drew hst.out.old.drew
      have z1 : (0 : Int) ≤ (k : Int) := by omega
      have z2 : (k : Int) < (n : Int) := by omega
      have hc0 : ∀ (a : Array Value) (w : World), (callFunc 12 a).run Try.prog w = .ok (.enter 12 a) w := fun a w => by simp [go_sem]
      have hc1 : ∀ (a : Array Value) (w : World), (callFunc 13 a).run Try.prog w = .ok (.enter 13 a) w := fun a w => by simp [go_sem]
      have hc2 : ∀ (a : Array Value) (w : World), (callFunc 14 a).run Try.prog w = .ok (.enter 14 a) w := fun a w => by simp [go_sem]
      have hc3 : ∀ (a : Array Value) (w : World), (callFunc 15 a).run Try.prog w = .ok (.enter 15 a) w := fun a w => by simp [go_sem]
      have hc4 : ∀ (a : Array Value) (w : World), (callFunc 17 a).run Try.prog w = .ok (.enter 17 a) w := fun a w => by simp [go_sem]
      have hc5 : ∀ (a : Array Value) (w : World), (callFunc 18 a).run Try.prog w = .ok (.enter 18 a) w := fun a w => by simp [go_sem]
      have hc6 : ∀ (a : Array Value) (w : World), (callFunc 16 a).run Try.prog w = .ok (.enter 16 a) w := fun a w => by simp [go_sem]
      clear hkl hmem hx hkz hok hst hkd hs ht hnn htn hcell
      go_wp2_with fail
      go_region_law (first
        | (refine step_call_w (by rfl) 12 _ _ (by rfl) (hc0 _ _) #[hd db, .pointer (some ⟨mb, 0, none⟩), .agg #[.int .i64 kd, .string s, .string t, .slice Ad kz cd, .int .i64 nn, .int .i64 torn]] (by first | rfl | (simp [Act.eval]; done) | simp [Act.eval, Act.put]) H2.out (fun e w' h => by obtain ⟨_, rfl, _⟩ := h; exact ⟨_, rfl⟩) ?_; rintro v3 w3 ⟨b3, hv3, h3⟩; injection hv3 with hv3; subst hv3; obtain rfl : b3 = true := h3.out.1.trans (ans_same P o); obtain ⟨nl, hnl⟩ : ∃ n, (P.run o).q.length = n := ⟨_, rfl⟩; obtain ⟨At, ct, m2, hml⟩ := h3.out.2.1.todo nl hnl; obtain ⟨u, hu⟩ : ∃ u, used (P.run o).files = u := ⟨_, rfl⟩; have H3 := Lib.hid (h3.out.2.1.loose nl hnl); have H4 := Lib.hid (h3.out.2.1.used u hu); have H5 := Lib.hid (h3.out.2.1.rused (by omega) u hu); clear hnl)
        | (refine step_call_w (by rfl) 13 _ _ (by rfl) (hc1 _ _) #[hd db] (by first | rfl | (simp [Act.eval]; done) | simp [Act.eval, Act.put]) H3.out (fun e w' h => by obtain ⟨rfl, _⟩ := h; exact ⟨_, rfl⟩) ?_; rintro v4 w4 ⟨hv4, hw4⟩; injection hv4 with hv4; subst hv4; obtain rfl := hw4.symm)
        | (refine step_call_w (by rfl) 14 _ _ (by rfl) (hc2 _ _) #[hd db] (by first | rfl | (simp [Act.eval]; done) | simp [Act.eval, Act.put]) H4.out (fun e w' h => by obtain ⟨rfl, _⟩ := h; exact ⟨_, rfl⟩) ?_; rintro v5 w5 ⟨hv5, hw5⟩; injection hv5 with hv5; subst hv5; obtain rfl := hw5.symm)
        | (refine step_call_w (by rfl) 15 _ _ (by rfl) (hc3 _ _) #[.pointer (some ⟨mb, 0, none⟩)] (by first | rfl | (simp [Act.eval]; done) | simp [Act.eval, Act.put]) H5.out (fun e w' h => by obtain ⟨rfl, _⟩ := h; exact ⟨_, rfl⟩) ?_; rintro v6 w6 ⟨hv6, bb6⟩; injection hv6 with hv6; subst hv6; have hB6 := h3.out.2.1.below bb6; have H6 := Lib.hid (hB6.files (by omega)))
        | (refine step_call_w (by rfl) 17 _ _ (by rfl) (hc4 _ _) #[hd db] (by first | rfl | (simp [Act.eval]; done) | simp [Act.eval, Act.put]) H6.out (fun e w' h => by obtain ⟨_, _, _, rfl, _⟩ := h; exact ⟨_, rfl⟩) ?_; rintro v7 w7 ⟨A7, n7, c7, hv7, h7⟩; injection hv7 with hv7; subst hv7; obtain ⟨l7, hf7, hs7, bb7⟩ := id h7.out; have hB7 := hB6.below bb7; have H7 := Lib.hid (hB7.rfiles (by omega)))
        | (refine step_call_w (by rfl) 18 _ _ (by rfl) (hc5 _ _) #[.pointer (some ⟨mb, 0, none⟩)] (by first | rfl | (simp [Act.eval]; done) | simp [Act.eval, Act.put]) H7.out (fun e w' h => by obtain ⟨_, _, _, rfl, _⟩ := h; exact ⟨_, rfl⟩) ?_; rintro v8 w8 ⟨A8, n8, c8, hv8, h8⟩; injection hv8 with hv8; subst hv8; obtain ⟨G8, l8, hf8, hs8, bb8⟩ := id h8.out; have hB8 := hB7.below bb8; have H8 := Lib.hid (same_yes (hf7.below bb8 (Nat.le_refl _)) hf8 (by rw [hs7, hs8])))
        | (refine step_call_w (by rfl) 16 _ _ (by rfl) (hc6 _ _) #[.slice A7 n7 c7, .slice A8 n8 c8] (by first | rfl | (simp [Act.eval]; done) | simp [Act.eval, Act.put]) H8.out (fun e w' h => by obtain ⟨rfl, _⟩ := h; exact ⟨_, rfl⟩) ?_; rintro v9 w9 ⟨hv9, bb9⟩; injection hv9 with hv9; subst hv9; have hB9 := hB8.below bb9))
      all_goals
        have HE := Lib.hid hB9
        clear hB9 hB8 hB7 hB6 h3
        go_wp2_with fail
        go_roundw
        case rel => exact ⟨k + 1, P.run o, rfl, by omega, HE⟩
        case measure => simp only [intOf]; omega
    · have hoe : okN ⟨#[]⟩ := by unfold okN maxLen; decide
      have hne : find P.files ⟨#[]⟩ = none := find_none.2 fun x hx e => by
        have h1 := hst.out.oks.1.files.2.1 x hx
        rw [e] at h1
        exact absurd h1.1 (by decide)
      have H9 := hst.out.read ⟨#[]⟩ hoe 0 (by unfold dat; rw [hne]; rfl)
      rw [hne] at H9
      have H9 := Lib.hid H9
      have HB := Lib.hid hst.out.old
      clear hoe hne hst
      go_wp2_with fail
      refine H9.out.mono ?_
      rintro e9 w9 ⟨A9, c9, rfl, h9⟩
      have HE := Lib.hid (HB.out.trans (h9.out.2.mono HB.out.size))
      clear h9
      go_wp2_with fail
      go_ret
      exact ⟨rfl, HE.out⟩
-- ROW BEGIN
set_option maxRecDepth 100000 in
/-- What the walk gives, shut again. -/
theorem contract (H : Type) (enc : TypeId × Value → H) (W : World) (base : Nat) (args : Array Value) (ds gs : List (DataW H)) (before : List MemPlace)
    (hval : ∀ (j : Nat) t v, Try.f3.params[j]? = some t → args[j]? = some v → Value.okWide Try.prog W .any base t v)
    (hW : DataW.Whole enc Try.prog Try.f3.params.toList Rows.diskPlaysSpec.vars false W args.toList ds gs before)
    (hsz : (DataW.weightsEach Try.prog (Try.f3.params.toList ++ Rows.diskPlaysSpec.plain.varTypes Try.prog) (ds ++ gs)).all (· ≤ reachBytes) = true) :
    Calls Try.prog 3 args W fun e W' => ∃ v, e = .returned v ∧ Rows.diskPlaysSpec.post enc Try.prog Try.f3 false true false false W args v W' := by
  have hW' := hW
  obtain ⟨p, q, hA0, hV, hbef, _, _⟩ := hW
  have hA : DataW.TrodAll enc Try.prog W 0 (fun _ => true) true Try.f3.params.toList args.toList ds p := hA0
  have hA1 := hA
  rw [Try.params3] at hA hval hsz
  obtain ⟨v0, vs0, d0, ds0, p0, q0, hargs, rfl, rfl, h0, r0⟩ := trodAll_cons hA
  obtain ⟨v1, vs1, d1, ds1, p1, q1, rfl, rfl, rfl, h1, r1⟩ := trodAll_cons r0
  obtain ⟨rfl, rfl, rfl⟩ := trodAll_nil r1
  obtain rfl : args = #[v0, v1] := by cases args; simp_all
  obtain ⟨rfl, rfl⟩ := trodVars_none hV
  clear hA hargs
  obtain ⟨a0, rfl, rfl, _, w0⟩ := open_int Try.underlying3 (hval 0 3 v0 rfl rfl) h0
  obtain ⟨A1, c1, a1, rfl, n1, l1, b1⟩ := Disk.arg_ops (hval 1 22 v1 rfl rfl) h1 (Wgt.wt_arg hsz (j := 1) rfl rfl)
  refine (walk W a0 (wf_int w0) A1 c1 a1 n1 b1 l1).mono fun e W' ⟨he, hb⟩ => ?_
  subst he
  exact ⟨_, rfl, law_post Facts.laid (by rfl) Try.underlying4 (by rw [Try.params3]; decide +kernel) hW' hA1 rfl hbef rfl rfl rfl hb⟩

set_option maxRecDepth 100000 in
theorem lifted (os : Os) (started : os.Started) (H : Type) (enc : TypeId × Value → H) :
    ReturnsInHanded {} Try.checked os 3 .any (Rows.diskPlaysSpec.pre6 enc Try.prog Try.f3 Rows.diskPlaysRow.domain false) (Rows.diskPlaysSpec.post enc Try.prog Try.f3 false true false false) := by
  refine returnsInHanded_of_change_sized (C := Try.checked) Facts.own started (by kernel_rfl) Try.func3
    (ChangeSpec.witness6 (enc := enc) (C := Try.checked) false ⟨#[], #[.int .i64 0, .slice none 0 0], []⟩ 8 (by kernel_rfl) (by kernel_rfl) (by kernel_rfl) (by kernel_rfl)) ?_
  intro W base args ds gs before hval hW _ hsz _
  exact contract H enc W base args ds gs before hval hW hsz

theorem holds : Rows.DiskPlaysSaid :=
  OpenClaim.holds_of_wide 3 Try.f3 rfl rfl rfl rfl rfl rfl rfl ⟨rfl, rfl, rfl, rfl, rfl⟩ rfl rfl rfl rfl rfl (by kernel_rfl) Try.func3 (by kernel_rfl)
    (of_decide_eq_true (by kernel_rfl)) (by unfold Func.isWrapper; first | (rw [if_pos (by decide +kernel)]; kernel_rfl) | (rw [if_neg (by decide +kernel)]; exact ⟨rfl, rfl⟩))
    (fun os started H enc _ => lifted os started H enc)
-- ROW END
end DiskPlays
end Go.Proofs.Ytdcppjpjlhbanaa
