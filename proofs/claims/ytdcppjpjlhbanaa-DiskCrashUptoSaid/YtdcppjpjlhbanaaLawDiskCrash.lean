/-
  DiskCrash (P7.3): behind a crash stands what was safe, then the first of what wasn't, in order, and a beginning of the next: a second disk that was told no more has the same files. For every input up to a bulk. Written by wip/gen7/lcrash.py.
-/
import Derived.Test.YtdcppjpjlhbanaaDiskTri
import Derived.Test.YtdcppjpjlhbanaaFrame
namespace Go.Proofs.Ytdcppjpjlhbanaa
namespace DiskCrash
set_option linter.unusedVariables false
set_option linter.unusedSimpArgs false
open Go.ChangeShapes Go.WideShapes Go.ChangeAt Go.RowKit Disk Blk
attribute [local go_sem ↓] Go.wp_at_zero Go.wp_at_succ
/-- The second disk has what a crash of the first one would leave. -/
def Like (P U : Pd) (keep torn : Int) : Prop := U.room = P.room ∧ U.files = (P.crash keep torn).files
theorem like_start {P : Pd} (h : P.q = []) (keep torn : Int) : Like P P keep torn := ⟨rfl, (crash_all (n := 0) (by rw [h]; rfl) (by omega)).symm⟩
theorem like_no {P U : Pd} {c : Cp} {keep torn : Int} (h : Like P U keep torn) (hc : P.code c ≠ 0) : Like (P.push c) U keep torn := by rw [push_not hc]; exact h
/-- It stays. -/
theorem like_keep {P U : Pd} {c : Cp} {keep torn : Int} {n : Nat} (h : Like P U keep torn) (hn : P.q.length = n) (hc : P.code c = 0) (hl : (n : Int) < max keep 0) : Like (P.push c) (U.push c) keep torn := by
  have hf : U.files = P.files := by rw [h.2, crash_all hn (by omega)]
  have hcu : U.code c = 0 := by rw [code_same h.1 hf]; exact hc
  rw [push_yes hc, push_yes hcu]
  refine ⟨h.1, ?_⟩
  rw [crash_all (n := n + 1) (by simp [hn]) (by omega)]
  show didP c U.files = didP c P.files
  rw [hf]
/-- It is the first one that is lost. -/
theorem like_torn {P U : Pd} {c : Cp} {keep torn : Int} {n : Nat} (h : Like P U keep torn) (hn : P.q.length = n) (hc : P.code c = 0) (hl : (n : Int) = max keep 0) {N : Nat} (_hok : P.ok N) (hs : okNm c.s) (h1 : c.k = 1) (h2 : 0 < torn) (h3 : 0 < c.d.length) {T : Nat} (hT : min torn (c.d.length : Int) = (T : Int)) :
    Like (P.push c) (U.push ⟨1, c.s, ⟨#[]⟩, c.d.take T, 0⟩) keep torn := by
  have hf : U.files = P.files := by rw [h.2, crash_all hn (by omega)]
  have hfit : ¬ P.room - used P.files < c.d.length := by
    intro e
    unfold Pd.code at hc
    rw [if_neg (fun q => q.elim (fun q => q hs) fun q => absurd q.1 (by rw [h1]; omega)), if_pos h1, if_pos e] at hc
    cases hc
  have hp := push_append (P := U) (s := c.s) (d := c.d.take T) hs (by rw [hf, h.1, List.length_take]; omega)
  rw [push_yes hc]
  refine ⟨by rw [hp.2.1]; exact h.1, ?_⟩
  rw [crash_push_at hn hl, hp.2.2, hf]
  have e : tor torn c.d.length = T := by unfold tor; omega
  unfold partP
  rw [if_pos ⟨h1, by rw [e]; omega⟩, e]
  unfold didP
  rw [if_pos h1]
theorem like_lost {P U : Pd} {c : Cp} {keep torn : Int} {n : Nat} (h : Like P U keep torn) (hn : P.q.length = n) (hc : P.code c = 0) (hl : (n : Int) = max keep 0) (h1 : ¬ (c.k = 1 ∧ 0 < torn ∧ 0 < c.d.length)) : Like (P.push c) U keep torn := by
  have hf : U.files = P.files := by rw [h.2, crash_all hn (by omega)]
  rw [push_yes hc]
  refine ⟨h.1, ?_⟩
  rw [crash_push_at hn hl, hf, partP_no h1]
theorem like_more {P U : Pd} {c : Cp} {keep torn : Int} {n : Nat} (h : Like P U keep torn) (hn : P.q.length = n) (hc : P.code c = 0) (hl : max keep 0 < (n : Int)) : Like (P.push c) U keep torn := by
  rw [push_yes hc]
  exact ⟨h.1, by rw [crash_push_more hn hl]; exact h.2⟩
theorem C_one {o : Oq} (h : o.kd = 1) : o.C = ⟨1, o.s, ⟨#[]⟩, o.d, 0⟩ := by unfold Oq.C; rw [if_pos h]
theorem C_other {o : Oq} (h : o.kd ≠ 1) : o.C.k ≠ 1 := by
  unfold Oq.C
  rw [if_neg h]
  split
  · simp only; omega
  · split
    · simp only; omega
    · simp only; omega
theorem code_ok {P : Pd} {c : Cp} (h : P.code c = 0) : okNm c.s := Decidable.byContradiction fun e => by
  unfold Pd.code at h
  rw [if_pos (.inl e)] at h
  cases h
set_option maxRecDepth 100000 in
set_option maxHeartbeats 16000000 in
theorem walk (w : World) (A : Option Addr) (c : Nat) (l : List Oe) (hp : Ops w w.heap.size A l) (_hb : l.length * 80 ≤ 140737488351232) (hq : ∀ x ∈ l, OkO x)
    (A' : Option Addr) (c' : Nat) (l' : List Oe) (hp' : Ops w w.heap.size A' l') (_hb' : l'.length * 80 ≤ 140737488351232) (hq' : ∀ x ∈ l', OkO x) (keep torn : Int) (hbulk : l.length + l'.length ≤ 1048576) :
    Calls Try.prog 4 #[.slice A l.length c, .slice A' l'.length c', .agg #[.int .i64 keep, .int .i64 torn]] w fun e w' => e = .returned (.bool true) ∧ Below w.heap.size w w' := by
  obtain ⟨n, hn⟩ : ∃ n, l.length = n := ⟨_, rfl⟩
  obtain ⟨n', hn'⟩ : ∃ n, l'.length = n := ⟨_, rfl⟩
  rw [hn, hn'] at hbulk ⊢
  have HZ := Lib.hid (And.intro hp (And.intro hn hq))
  have HY := Lib.hid (And.intro hp' (And.intro hn' hq'))
  obtain ⟨U0, hU0⟩ : ∃ U, w.alloc (.cells #[.int .i64 keep, .int .i64 torn] 43) = U := ⟨_, rfl⟩
  have b0 : Below w.heap.size w U0 := by rw [← hU0]; exact (Below.refl _ w).alloc (Nat.le_refl _) _
  have B0 : Bn w.heap.size 43 [.int .i64 keep, .int .i64 torn] U0 := by rw [← hU0]; exact heap_alloc_new w _
  have H0 := Lib.hid (awake_any U0)
  have HU0 := Lib.hid (And.intro b0 B0)
  clear hp hn hq hp' hn' hq' _hb _hb' b0 B0
  go_enter Try.func4, Try.ntmps4
  go_wp2_with fail
  refine H0.out.mono ?_
  rintro e1 w1 ⟨rfl, b1⟩
  have HB1 := Lib.hid (HU0.out.1.trans (b1.mono HU0.out.1.size))
  have f0 := ((HU0.out.2.same (b1.block w.heap.size HU0.out.2.lt)).cell 0).trans rfl
  have f1 := ((HU0.out.2.same (b1.block w.heap.size HU0.out.2.lt)).cell 1).trans rfl
  have H1 := Lib.hid (pd_new w1 4096 0 (by omega))
  clear b1 H0 hU0
  go_wp2_with fail
  refine H1.out.mono ?_
  rintro e2 w2 ⟨db, rfl, h2⟩
  have H2 := Lib.hid (pd_new w2 4096 0 (by omega))
  clear f0 f1
  go_wp2_with fail
  refine H2.out.mono ?_
  rintro e3 w3 ⟨ub, rfl, h3⟩
  have H3 := Lib.hid (doc_new w3 4096)
  go_wp2_with fail
  refine H3.out.mono ?_
  rintro e4 w4 ⟨mb, rfl, h4⟩
  have HS : Hid (Tri (fun _ => False) w w4 db ub mb 0 0 ⟨roomOf 4096, [], []⟩ ⟨roomOf 4096, [], []⟩ ⟨roomD 4096, [], []⟩) := Lib.hid (tri_start h2.out.1 (new_ok 0 (room_ok 4096)) (HB1.out.trans (h2.out.2.mono HB1.out.size)) (fun j hj => Nat.le_trans HB1.out.size hj.1) h3.out.1 (new_ok 0 (room_ok 4096)) h3.out.2 (fun j hj => hj.1) h4.out.1 (new_ok 0 (room_ok 4096)) h4.out.2 fun j hj => hj.1)
  clear h2 h3 h4 H1 H2 H3 HB1
  go_wp2_with fail
  go_loopw [12] (fun q wr => ∃ (k : Nat) (P Q : Pd), q = .int .i64 k ∧ k ≤ n ∧ Hid (Tri (fun _ => False) w wr db ub mb (2 * k) (2 * k) P P Q)) (fun q _ => n - (intOf q).toNat)
  case atStart => exact ⟨0, _, _, rfl, by omega, HS⟩
  case round =>
    obtain ⟨k, P, Q, rfl, hk, hst⟩ := hrel
    by_cases hlt : k < n
    · have hkl : k < l.length := by have := HZ.out.2.1; omega
      obtain ⟨⟨o, Ad, cd⟩, hx⟩ : ∃ x, l.getD k o0 = x := ⟨_, rfl⟩
      obtain ⟨b, off, rfl, hbB, hcell⟩ := op_cells HZ.out.1 hkl hx
      have hmem := op_mem hkl hx
      have hok := HZ.out.2.2 _ hmem
      obtain ⟨kz, hkz⟩ : ∃ k, o.d.length = k := ⟨_, rfl⟩
      obtain ⟨kd, hkd⟩ : ∃ z, o.kd = z := ⟨_, rfl⟩
      obtain ⟨s, hs⟩ : ∃ z, o.s = z := ⟨_, rfl⟩
      obtain ⟨t, ht⟩ : ∃ z, o.t = z := ⟨_, rfl⟩
      obtain ⟨nn, hnn⟩ : ∃ z, o.n = z := ⟨_, rfl⟩
      obtain ⟨tn, htn⟩ : ∃ z, o.torn = z := ⟨_, rfl⟩
      have hns := HZ.out.1.1 _ hmem
      have hkzb : kz ≤ 140737488351232 := by have := hok.2.1; simp only at this; omega
      have hkzc : kz ≤ cd := by have := hok.2.2; simp only at this; omega
      simp only [hkz, hkd, hs, ht, hnn, htn] at hcell
      have HOk := Lib.hid (And.intro hok.1 (And.intro hns (And.intro hkz (And.intro hkd (And.intro hs (And.intro ht (And.intro hnn htn)))))))
      have z1 : (0 : Int) ≤ (k : Int) := by omega
      have z2 : (k : Int) < (n : Int) := by omega
      have H2 := hst.out.does (by omega) (by omega) o kz HOk.out.2.2.1 (by omega) Ad cd HOk.out.2.1 HOk.out.1
      rw [HOk.out.2.2.2.1, HOk.out.2.2.2.2.1, HOk.out.2.2.2.2.2.1, HOk.out.2.2.2.2.2.2.1, HOk.out.2.2.2.2.2.2.2] at H2
      have H2 := Lib.hid H2
      obtain ⟨s0, s1, s2, s3, s4, s5⟩ := hcell wr hst.out.old
      have HC := Lib.hid hcell
      clear hkl hmem hx hkz hok hst hkd hs ht hnn htn hcell hns
      go_wp2_with fail
      refine H2.out.mono ?_
      rintro e3 w3 ⟨b3, rfl, h3⟩
      have H3 := h3.out.1.swap.does (by omega) (by omega) o kz HOk.out.2.2.1 (by omega) Ad cd HOk.out.2.1 HOk.out.1
      rw [HOk.out.2.2.2.1, HOk.out.2.2.2.2.1, HOk.out.2.2.2.2.2.1, HOk.out.2.2.2.2.2.2.1, HOk.out.2.2.2.2.2.2.2] at H3
      have H3 := Lib.hid H3
      clear s0 s1 s2 s3 s4 s5
      obtain ⟨s0, s1, s2, s3, s4, s5⟩ := HC.out w3 h3.out.1.old
      clear h3
      go_wp2_with fail
      refine H3.out.mono ?_
      rintro e4 w4 ⟨b4, rfl, h4⟩
      have HE := Lib.hid (h4.out.1.swap)
      clear h4 s0 s1 s2 s3 s4 s5
      go_wp2_with fail
      go_roundw
      case rel => exact ⟨k + 1, P.run o, (Q.run o).run o, rfl, by omega, HE⟩
      case measure => simp only [intOf]; omega
    · obtain rfl : k = n := by omega
      have H4 := Lib.hid (hst.out.sync (by omega))
      clear hst
      go_wp2_with fail
      refine H4.out.mono ?_
      rintro e4 w4 ⟨rfl, h4⟩
      have H5 := Lib.hid (h4.out.1.swap.sync (by omega))
      clear h4
      go_wp2_with fail
      refine H5.out.mono ?_
      rintro e5 w5 ⟨rfl, h5⟩
      have HT5 : Hid (Tri (fun _ => False) w w5 db ub mb (2 * k) (2 * k) P.sync P.sync Q) := Lib.hid h5.out.1.swap
      have HL5 : Hid (Like P.sync P.sync keep torn) := Lib.hid (like_start rfl keep torn)
      clear h5
      go_wp2_with fail
      go_loopw [13] (fun q wr => ∃ (j : Nat) (P1 U1 Q1 : Pd), q = .int .i64 j ∧ j ≤ n' ∧ Hid (Tri (fun _ => False) w wr db ub mb (2 * k + 3 * j) (2 * k + 3 * j) P1 U1 Q1 ∧ Like P1 U1 keep torn)) (fun q _ => n' - (intOf q).toNat)
      case atStart => exact ⟨0, _, _, _, rfl, by omega, Lib.hid ⟨HT5.out, HL5.out⟩⟩
      case round =>
        obtain ⟨j, P1, U1, Q1, rfl, hj, hst⟩ := hrel
        by_cases hjl : j < n'
        · have hkl : j < l'.length := by have := HY.out.2.1; omega
          obtain ⟨⟨o, Ad, cd⟩, hx⟩ : ∃ x, l'.getD j o0 = x := ⟨_, rfl⟩
          obtain ⟨b, off, rfl, hbB, hcell⟩ := op_cells HY.out.1 hkl hx
          have hmem := op_mem hkl hx
          have hok := HY.out.2.2 _ hmem
          obtain ⟨kz, hkz⟩ : ∃ k, o.d.length = k := ⟨_, rfl⟩
          obtain ⟨kd, hkd⟩ : ∃ z, o.kd = z := ⟨_, rfl⟩
          obtain ⟨s, hs⟩ : ∃ z, o.s = z := ⟨_, rfl⟩
          obtain ⟨t, ht⟩ : ∃ z, o.t = z := ⟨_, rfl⟩
          obtain ⟨nn, hnn⟩ : ∃ z, o.n = z := ⟨_, rfl⟩
          obtain ⟨tn, htn⟩ : ∃ z, o.torn = z := ⟨_, rfl⟩
          have hns := HY.out.1.1 _ hmem
          have hkzb : kz ≤ 140737488351232 := by have := hok.2.1; simp only at this; omega
          have hkzc : kz ≤ cd := by have := hok.2.2; simp only at this; omega
          simp only [hkz, hkd, hs, ht, hnn, htn] at hcell
          have HOk := Lib.hid (And.intro hok.1 (And.intro hns (And.intro hkz (And.intro hkd (And.intro hs (And.intro ht (And.intro hnn htn)))))))
          have z1 : (0 : Int) ≤ (j : Int) := by omega
          have z2 : (j : Int) < (n' : Int) := by omega
          obtain ⟨s0, s1, s2, s3, s4, s5⟩ := hcell wr hst.out.1.old
          obtain ⟨bx, hbx⟩ : ∃ b, wr.heap.size = b := ⟨_, rfl⟩
          obtain ⟨U, hU⟩ : ∃ V, wr.alloc (.cells #[.int .i64 kd, .string s, .string t, .slice Ad kz cd, .int .i64 nn, .int .i64 tn] 31) = V := ⟨_, rfl⟩
          have bU : Below wr.heap.size wr U := by rw [← hU]; exact (Below.refl _ wr).alloc (Nat.le_refl _) _
          have BU : Bn bx 31 [.int .i64 kd, .string s, .string t, .slice Ad kz cd, .int .i64 nn, .int .i64 tn] U := by rw [← hU, ← hbx]; exact heap_alloc_new wr _
          have hT := hst.out.1.hold bU
          obtain ⟨X, hX⟩ : ∃ X : Nat → Prop, X = fun i => False ∨ (wr.heap.size ≤ i ∧ i < U.heap.size) := ⟨_, rfl⟩
          rw [← hX] at hT
          have hXb : X bx := by rw [hX]; exact .inr ⟨by omega, BU.lt⟩
          have x0 := (BU.cell 0).trans rfl
          have x1 := (BU.cell 1).trans rfl
          have x2 := (BU.cell 2).trans rfl
          have x3 := (BU.cell 3).trans rfl
          have x4 := (BU.cell 4).trans rfl
          have x5 := (BU.cell 5).trans rfl
          have HS5 := Lib.hid (And.intro hT (And.intro BU (And.intro hXb hst.out.2)))
          have fin : ∀ (W : World) (N' M' : Nat) (P2 U2 Q2 : Pd), Tri X w W db ub mb N' M' P2 U2 Q2 → N' ≤ 2 * k + 3 * (j + 1) → M' ≤ 2 * k + 3 * (j + 1) → Like P2 U2 keep torn → Hid (∃ P2 U2 Q2, Tri (fun _ => False) w W db ub mb (2 * k + 3 * (j + 1)) (2 * k + 3 * (j + 1)) P2 U2 Q2 ∧ Like P2 U2 keep torn) := fun W N' M' P2 U2 Q2 q1 q2 q3 q4 => Lib.hid ⟨P2, U2, Q2, (q1.less fun _ q => q.elim).mono q2 q3 (by omega), q4⟩
          have HFin := Lib.hid fin
          clear hkl hmem hx hkz hok hkd hs ht hnn htn hcell hns hst bU BU hT hXb hX fin
          by_cases hk1 : kd < 1
          · have q1 : decide (kd < 1) = true := decide_eq_true hk1
            have HE := HFin.out U _ _ _ _ _ HS5.out.1 (by omega) (by omega) HS5.out.2.2.2
            clear hk1
            go_wp2_with fail
            go_roundw
            case rel =>
              obtain ⟨P2, U2, Q2, q⟩ := HE.out
              exact ⟨j + 1, P2, U2, Q2, rfl, by omega, Lib.hid q⟩
            case measure => simp only [intOf]; omega
          have q1 : decide (kd < 1) = false := decide_eq_false hk1
          by_cases hk4 : 4 < kd
          · have q2 : decide (4 < kd) = true := decide_eq_true hk4
            have HE := HFin.out U _ _ _ _ _ HS5.out.1 (by omega) (by omega) HS5.out.2.2.2
            clear hk1 hk4
            go_wp2_with fail
            go_roundw
            case rel =>
              obtain ⟨P2, U2, Q2, q⟩ := HE.out
              exact ⟨j + 1, P2, U2, Q2, rfl, by omega, Lib.hid q⟩
            case measure => simp only [intOf]; omega
          have q2 : decide (4 < kd) = false := decide_eq_false hk4
          have HKd : Hid (1 ≤ o.kd ∧ o.kd ≤ 4) := Lib.hid ⟨by rw [HOk.out.2.2.2.1]; omega, by rw [HOk.out.2.2.2.1]; omega⟩
          clear hk1 hk4
          obtain ⟨m, hm⟩ : ∃ m, P1.q.length = m := ⟨_, rfl⟩
          have H6 := Lib.hid (HS5.out.1.loose m hm)
          have H7 := HS5.out.1.does (by omega) (by omega) o kz HOk.out.2.2.1 (by omega) Ad cd HOk.out.2.1 HOk.out.1
          rw [HOk.out.2.2.2.1, HOk.out.2.2.2.2.1, HOk.out.2.2.2.2.2.1, HOk.out.2.2.2.2.2.2.1, HOk.out.2.2.2.2.2.2.2] at H7
          rw [run_push HKd.out] at H7
          have H7 := Lib.hid H7
          have HM : Hid (P1.q.length = m) := Lib.hid hm
          have hmb : m ≤ 100000000 := by have := HS5.out.1.oks.1.2.2.1; omega
          by_cases hc : P1.code o.C = 0
          case neg =>
            have hl : (P1.push o.C).q.length = m := by rw [push_not hc]; exact hm
            have HL := Lib.hid hl
            have HCn := Lib.hid hc
            clear hm hc hl
            go_wp2_with fail
            refine H6.out.mono ?_
            rintro e6 w6 ⟨rfl, hw6⟩
            obtain rfl := hw6.symm
            go_wp2_with fail
            refine H7.out.mono ?_
            rintro e7 w7 ⟨b7, rfl, h7⟩
            have hK7 := h7.out.2
            have y0 := ((HS5.out.2.1.same (hK7.2 bx HS5.out.2.2.1)).cell 0).trans rfl
            have y1 := ((HS5.out.2.1.same (hK7.2 bx HS5.out.2.2.1)).cell 1).trans rfl
            have y2 := ((HS5.out.2.1.same (hK7.2 bx HS5.out.2.2.1)).cell 2).trans rfl
            have y3 := ((HS5.out.2.1.same (hK7.2 bx HS5.out.2.2.1)).cell 3).trans rfl
            have y4 := ((HS5.out.2.1.same (hK7.2 bx HS5.out.2.2.1)).cell 4).trans rfl
            have y5 := ((HS5.out.2.1.same (hK7.2 bx HS5.out.2.2.1)).cell 5).trans rfl
            clear hK7
            have H8 := Lib.hid (h7.out.1.loose m HL.out)
            have HE := HFin.out w7 _ _ _ _ _ h7.out.1 (by omega) (by omega) (like_no HS5.out.2.2.2 HCn.out)
            clear h7
            go_wp2_with fail
            refine H8.out.mono ?_
            rintro e8 w8 ⟨rfl, hw8⟩
            obtain rfl := hw8.symm
            go_wp2_with fail
            go_roundw
            case rel =>
              obtain ⟨P2, U2, Q2, q⟩ := HE.out
              exact ⟨j + 1, P2, U2, Q2, rfl, by omega, Lib.hid q⟩
            case measure => simp only [intOf]; omega
          have hl : (P1.push o.C).q.length = m + 1 := by rw [push_yes hc]; simp [hm]
          have HL := Lib.hid hl
          have HCy := Lib.hid hc
          obtain ⟨m1, hm1⟩ : ∃ m1, m + 1 = m1 := ⟨_, rfl⟩
          have r1 : ((m1 : Int) == (m : Int)) = false := by rw [beq_eq_false_iff_ne]; omega
          have r2 : ¬ (m1 : Int) = (m : Int) := by omega
          have HM1 := Lib.hid hm1
          clear hm hc hl hm1
          go_wp2_with fail
          refine H6.out.mono ?_
          rintro e6 w6 ⟨rfl, hw6⟩
          obtain rfl := hw6.symm
          go_wp2_with fail
          refine H7.out.mono ?_
          rintro e7 w7 ⟨b7, rfl, h7⟩
          have hK7 := h7.out.2
          have y0 := ((HS5.out.2.1.same (hK7.2 bx HS5.out.2.2.1)).cell 0).trans rfl
          have y1 := ((HS5.out.2.1.same (hK7.2 bx HS5.out.2.2.1)).cell 1).trans rfl
          have y2 := ((HS5.out.2.1.same (hK7.2 bx HS5.out.2.2.1)).cell 2).trans rfl
          have y3 := ((HS5.out.2.1.same (hK7.2 bx HS5.out.2.2.1)).cell 3).trans rfl
          have y4 := ((HS5.out.2.1.same (hK7.2 bx HS5.out.2.2.1)).cell 4).trans rfl
          have y5 := ((HS5.out.2.1.same (hK7.2 bx HS5.out.2.2.1)).cell 5).trans rfl
          clear hK7
          have H8 := Lib.hid (h7.out.1.loose m1 (by rw [HL.out]; exact HM1.out))
          by_cases hA : (m : Int) < keep
          · have a1 : decide ((m : Int) < keep) = true := decide_eq_true hA
            have a2 : ((m : Int) == keep) = false := by rw [beq_eq_false_iff_ne]; omega
            have a4 : decide (keep < 0) = false := decide_eq_false (by omega)
            by_cases h0 : m = 0
            · subst h0
              have H9 := h7.out.1.swap.does (by omega) (by omega) o kz HOk.out.2.2.1 (by omega) Ad cd HOk.out.2.1 HOk.out.1
              rw [HOk.out.2.2.2.1, HOk.out.2.2.2.2.1, HOk.out.2.2.2.2.2.1, HOk.out.2.2.2.2.2.2.1, HOk.out.2.2.2.2.2.2.2] at H9
              rw [run_push HKd.out] at H9
              have H9 := Lib.hid H9
              clear h7
              go_wp2_with fail
              refine H8.out.mono ?_
              rintro e8 w8 ⟨rfl, hw8⟩
              obtain rfl := hw8.symm
              go_wp2_with fail
              refine H9.out.mono ?_
              rintro e9 w9 ⟨b9, rfl, h9⟩
              have HE := HFin.out w9 _ _ _ _ _ h9.out.1.swap (by omega) (by omega) (like_keep HS5.out.2.2.2 HM.out HCy.out (by omega))
              clear h9
              go_wp2_with fail
              go_roundw
              case rel =>
                obtain ⟨P2, U2, Q2, q⟩ := HE.out
                exact ⟨j + 1, P2, U2, Q2, rfl, by omega, Lib.hid q⟩
              case measure => simp only [intOf]; omega
            · have a3 : ((m : Int) == 0) = false := by rw [beq_eq_false_iff_ne]; omega
              have a31 : ¬ m = 0 := h0
              have H9 := h7.out.1.swap.does (by omega) (by omega) o kz HOk.out.2.2.1 (by omega) Ad cd HOk.out.2.1 HOk.out.1
              rw [HOk.out.2.2.2.1, HOk.out.2.2.2.2.1, HOk.out.2.2.2.2.2.1, HOk.out.2.2.2.2.2.2.1, HOk.out.2.2.2.2.2.2.2] at H9
              rw [run_push HKd.out] at H9
              have H9 := Lib.hid H9
              clear h7
              go_wp2_with fail
              refine H8.out.mono ?_
              rintro e8 w8 ⟨rfl, hw8⟩
              obtain rfl := hw8.symm
              go_wp2_with fail
              refine H9.out.mono ?_
              rintro e9 w9 ⟨b9, rfl, h9⟩
              have HE := HFin.out w9 _ _ _ _ _ h9.out.1.swap (by omega) (by omega) (like_keep HS5.out.2.2.2 HM.out HCy.out (by omega))
              clear h9
              go_wp2_with fail
              go_roundw
              case rel =>
                obtain ⟨P2, U2, Q2, q⟩ := HE.out
                exact ⟨j + 1, P2, U2, Q2, rfl, by omega, Lib.hid q⟩
              case measure => simp only [intOf]; omega
          · have a1 : decide ((m : Int) < keep) = false := decide_eq_false hA
            by_cases hE : (m : Int) = keep
            · have a2 : ((m : Int) == keep) = true := by rw [hE]; simp
              have HKp : Hid ((m : Int) = max keep 0) := Lib.hid (by omega)
              clear hE
              by_cases h5 : kd = 1
              · subst h5
                by_cases h6 : 0 < torn
                · have a6 : decide (0 < torn) = true := decide_eq_true h6
                  by_cases hz7 : 0 < kz
                  · have a7 : decide ((0 : Int) < (kz : Int)) = true := decide_eq_true (by omega)
                    obtain ⟨T, hT⟩ : ∃ T : Nat, min torn (kz : Int) = (T : Int) := ⟨(min torn kz).toNat, by omega⟩
                    have hTk : T ≤ kz := by omega
                    have hcut := Cut.cut_h Ad kz cd T (T : Int) rfl hTk hkzc
                    have HCC : Hid (o.C = ⟨1, s, ⟨#[]⟩, o.d, 0⟩) := Lib.hid (by rw [C_one HOk.out.2.2.2.1, HOk.out.2.2.2.2.1])
                    have hTr := h7.out.1.swap.below (Below.refl _ w7).drew
                    have H9 := Lib.hid (hTr.append (by omega) s (o.d.take T) T (by rw [List.length_take, HOk.out.2.2.1]; omega) Ad cd (((HOk.out.2.1.below hTr.old).more hTr.old.size).take T) (fun z hz => HOk.out.1 z (List.mem_of_mem_take hz)))
                    have hcf : ∀ (a : Array Value) (w : World), (callFunc 21 a).run Try.prog w = .ok (.enter 21 a) w := fun a w => by simp [go_sem]
                    have v1 : w7.drew.cell? ⟨bx, 1, none⟩ = some (.string s) := y1
                    have v3 : w7.drew.cell? ⟨bx, 3, none⟩ = some (.slice Ad kz cd) := y3
                    obtain ⟨V7, hV7⟩ : ∃ V, V = w7 := ⟨_, rfl⟩
                    subst hV7
                    clear h7 hTr
                    go_wp2_with fail
                    refine H8.out.mono ?_
                    rintro e8 w8 ⟨rfl, hw8⟩
                    obtain rfl := hw8.symm
                    go_wp2_with fail
                    go_region_law (refine step_call (by rfl) 21 _ _ (by rfl) (hcf _ _) #[hd ub, .string s, .slice Ad T cd] (by first | rfl | (simp [Act.eval]; done) | simp [Act.eval, Act.put]) H9.out (fun e w' h => by obtain ⟨_, rfl, _⟩ := h; exact ⟨_, rfl⟩) ?_; rintro v9 w9 ⟨cd9, hv9, h9⟩; injection hv9 with hv9; subst hv9)
                    all_goals
                      have HE := HFin.out w9 _ _ _ _ _ h9.out.1.swap (by omega) (by omega) (by
                        have q := like_torn (T := T) (torn := torn) HS5.out.2.2.2 HM.out HCy.out HKp.out HS5.out.1.oks.1 (code_ok HCy.out) (by rw [HCC.out]) (by omega) (by rw [HCC.out]; simp only; rw [HOk.out.2.2.1]; omega) (by rw [HCC.out]; simp only; rw [HOk.out.2.2.1]; exact hT)
                        rw [HCC.out] at q ⊢
                        exact q)
                      clear h9
                      go_wp2_with fail
                      go_roundw
                      case rel =>
                        obtain ⟨P2, U2, Q2, q⟩ := HE.out
                        exact ⟨j + 1, P2, U2, Q2, rfl, by omega, Lib.hid q⟩
                      case measure => simp only [intOf]; omega
                  · obtain rfl : kz = 0 := by omega
                    have HE := HFin.out w7 _ _ _ _ _ h7.out.1 (by omega) (by omega) (like_lost HS5.out.2.2.2 HM.out HCy.out HKp.out (fun q => by have h1 := q.2.2; rw [C_one HOk.out.2.2.2.1] at h1; simp only at h1; have := HOk.out.2.2.1; omega))
                    clear h7
                    go_wp2_with fail
                    refine H8.out.mono ?_
                    rintro e8 w8 ⟨rfl, hw8⟩
                    obtain rfl := hw8.symm
                    go_wp2_with fail
                    go_roundw
                    case rel =>
                      obtain ⟨P2, U2, Q2, q⟩ := HE.out
                      exact ⟨j + 1, P2, U2, Q2, rfl, by omega, Lib.hid q⟩
                    case measure => simp only [intOf]; omega
                · have a6 : decide (0 < torn) = false := decide_eq_false h6
                  have HE := HFin.out w7 _ _ _ _ _ h7.out.1 (by omega) (by omega) (like_lost HS5.out.2.2.2 HM.out HCy.out HKp.out (fun q => h6 q.2.1))
                  clear h7
                  go_wp2_with fail
                  refine H8.out.mono ?_
                  rintro e8 w8 ⟨rfl, hw8⟩
                  obtain rfl := hw8.symm
                  go_wp2_with fail
                  go_roundw
                  case rel =>
                    obtain ⟨P2, U2, Q2, q⟩ := HE.out
                    exact ⟨j + 1, P2, U2, Q2, rfl, by omega, Lib.hid q⟩
                  case measure => simp only [intOf]; omega
              · have a5 : (kd == 1) = false := by rw [beq_eq_false_iff_ne]; exact h5
                have HE := HFin.out w7 _ _ _ _ _ h7.out.1 (by omega) (by omega) (like_lost HS5.out.2.2.2 HM.out HCy.out HKp.out (fun q => C_other (by rw [HOk.out.2.2.2.1]; exact h5) q.1))
                clear h7
                go_wp2_with fail
                refine H8.out.mono ?_
                rintro e8 w8 ⟨rfl, hw8⟩
                obtain rfl := hw8.symm
                go_wp2_with fail
                go_roundw
                case rel =>
                  obtain ⟨P2, U2, Q2, q⟩ := HE.out
                  exact ⟨j + 1, P2, U2, Q2, rfl, by omega, Lib.hid q⟩
                case measure => simp only [intOf]; omega
            · have a2 : ((m : Int) == keep) = false := by rw [beq_eq_false_iff_ne]; exact hE
              by_cases h0 : m = 0
              · by_cases hk0 : keep < 0
                · have a4 : decide (keep < 0) = true := decide_eq_true hk0
                  have HKp : Hid ((m : Int) = max keep 0) := Lib.hid (by omega)
                  subst h0
                  clear hE
                  by_cases h5 : kd = 1
                  · subst h5
                    by_cases h6 : 0 < torn
                    · have a6 : decide (0 < torn) = true := decide_eq_true h6
                      by_cases hz7 : 0 < kz
                      · have a7 : decide ((0 : Int) < (kz : Int)) = true := decide_eq_true (by omega)
                        obtain ⟨T, hT⟩ : ∃ T : Nat, min torn (kz : Int) = (T : Int) := ⟨(min torn kz).toNat, by omega⟩
                        have hTk : T ≤ kz := by omega
                        have hcut := Cut.cut_h Ad kz cd T (T : Int) rfl hTk hkzc
                        have HCC : Hid (o.C = ⟨1, s, ⟨#[]⟩, o.d, 0⟩) := Lib.hid (by rw [C_one HOk.out.2.2.2.1, HOk.out.2.2.2.2.1])
                        have hTr := h7.out.1.swap.below (Below.refl _ w7).drew
                        have H9 := Lib.hid (hTr.append (by omega) s (o.d.take T) T (by rw [List.length_take, HOk.out.2.2.1]; omega) Ad cd (((HOk.out.2.1.below hTr.old).more hTr.old.size).take T) (fun z hz => HOk.out.1 z (List.mem_of_mem_take hz)))
                        have hcf : ∀ (a : Array Value) (w : World), (callFunc 21 a).run Try.prog w = .ok (.enter 21 a) w := fun a w => by simp [go_sem]
                        have v1 : w7.drew.cell? ⟨bx, 1, none⟩ = some (.string s) := y1
                        have v3 : w7.drew.cell? ⟨bx, 3, none⟩ = some (.slice Ad kz cd) := y3
                        obtain ⟨V7, hV7⟩ : ∃ V, V = w7 := ⟨_, rfl⟩
                        subst hV7
                        clear h7 hTr
                        go_wp2_with fail
                        refine H8.out.mono ?_
                        rintro e8 w8 ⟨rfl, hw8⟩
                        obtain rfl := hw8.symm
                        go_wp2_with fail
                        go_region_law (refine step_call (by rfl) 21 _ _ (by rfl) (hcf _ _) #[hd ub, .string s, .slice Ad T cd] (by first | rfl | (simp [Act.eval]; done) | simp [Act.eval, Act.put]) H9.out (fun e w' h => by obtain ⟨_, rfl, _⟩ := h; exact ⟨_, rfl⟩) ?_; rintro v9 w9 ⟨cd9, hv9, h9⟩; injection hv9 with hv9; subst hv9)
                        all_goals
                          have HE := HFin.out w9 _ _ _ _ _ h9.out.1.swap (by omega) (by omega) (by
                            have q := like_torn (T := T) (torn := torn) HS5.out.2.2.2 HM.out HCy.out HKp.out HS5.out.1.oks.1 (code_ok HCy.out) (by rw [HCC.out]) (by omega) (by rw [HCC.out]; simp only; rw [HOk.out.2.2.1]; omega) (by rw [HCC.out]; simp only; rw [HOk.out.2.2.1]; exact hT)
                            rw [HCC.out] at q ⊢
                            exact q)
                          clear h9
                          go_wp2_with fail
                          go_roundw
                          case rel =>
                            obtain ⟨P2, U2, Q2, q⟩ := HE.out
                            exact ⟨j + 1, P2, U2, Q2, rfl, by omega, Lib.hid q⟩
                          case measure => simp only [intOf]; omega
                      · obtain rfl : kz = 0 := by omega
                        have HE := HFin.out w7 _ _ _ _ _ h7.out.1 (by omega) (by omega) (like_lost HS5.out.2.2.2 HM.out HCy.out HKp.out (fun q => by have h1 := q.2.2; rw [C_one HOk.out.2.2.2.1] at h1; simp only at h1; have := HOk.out.2.2.1; omega))
                        clear h7
                        go_wp2_with fail
                        refine H8.out.mono ?_
                        rintro e8 w8 ⟨rfl, hw8⟩
                        obtain rfl := hw8.symm
                        go_wp2_with fail
                        go_roundw
                        case rel =>
                          obtain ⟨P2, U2, Q2, q⟩ := HE.out
                          exact ⟨j + 1, P2, U2, Q2, rfl, by omega, Lib.hid q⟩
                        case measure => simp only [intOf]; omega
                    · have a6 : decide (0 < torn) = false := decide_eq_false h6
                      have HE := HFin.out w7 _ _ _ _ _ h7.out.1 (by omega) (by omega) (like_lost HS5.out.2.2.2 HM.out HCy.out HKp.out (fun q => h6 q.2.1))
                      clear h7
                      go_wp2_with fail
                      refine H8.out.mono ?_
                      rintro e8 w8 ⟨rfl, hw8⟩
                      obtain rfl := hw8.symm
                      go_wp2_with fail
                      go_roundw
                      case rel =>
                        obtain ⟨P2, U2, Q2, q⟩ := HE.out
                        exact ⟨j + 1, P2, U2, Q2, rfl, by omega, Lib.hid q⟩
                      case measure => simp only [intOf]; omega
                  · have a5 : (kd == 1) = false := by rw [beq_eq_false_iff_ne]; exact h5
                    have HE := HFin.out w7 _ _ _ _ _ h7.out.1 (by omega) (by omega) (like_lost HS5.out.2.2.2 HM.out HCy.out HKp.out (fun q => C_other (by rw [HOk.out.2.2.2.1]; exact h5) q.1))
                    clear h7
                    go_wp2_with fail
                    refine H8.out.mono ?_
                    rintro e8 w8 ⟨rfl, hw8⟩
                    obtain rfl := hw8.symm
                    go_wp2_with fail
                    go_roundw
                    case rel =>
                      obtain ⟨P2, U2, Q2, q⟩ := HE.out
                      exact ⟨j + 1, P2, U2, Q2, rfl, by omega, Lib.hid q⟩
                    case measure => simp only [intOf]; omega
                · exfalso
                  omega
              · have a3 : ((m : Int) == 0) = false := by rw [beq_eq_false_iff_ne]; omega
                have a31 : ¬ m = 0 := h0
                have HKp : Hid (max keep 0 < (m : Int)) := Lib.hid (by omega)
                clear hE
                have HE := HFin.out w7 _ _ _ _ _ h7.out.1 (by omega) (by omega) (like_more HS5.out.2.2.2 HM.out HCy.out HKp.out)
                clear h7
                go_wp2_with fail
                refine H8.out.mono ?_
                rintro e8 w8 ⟨rfl, hw8⟩
                obtain rfl := hw8.symm
                go_wp2_with fail
                go_roundw
                case rel =>
                  obtain ⟨P2, U2, Q2, q⟩ := HE.out
                  exact ⟨j + 1, P2, U2, Q2, rfl, by omega, Lib.hid q⟩
                case measure => simp only [intOf]; omega
        · have HT := Lib.hid hst.out
          have H6 := Lib.hid (hst.out.1.crash (by omega) keep torn)
          clear hst
          go_wp2_with fail
          refine H6.out.mono ?_
          rintro e6 w6 ⟨rfl, h6⟩
          have HT6 := Lib.hid h6.out.1
          have H7 := Lib.hid (h6.out.1.loose 0 rfl)
          have H8 := Lib.hid (h6.out.1.files (by omega))
          clear h6
          go_wp2_with fail
          refine H7.out.mono ?_
          rintro e7 w7 ⟨rfl, hw7⟩
          obtain rfl := hw7.symm
          go_wp2_with fail
          refine H8.out.mono ?_
          rintro e8 w8 ⟨A8, n8, c8, rfl, h8⟩
          obtain ⟨l8, hf8, hs8, bb8⟩ := id h8.out
          have HT8 := Lib.hid (HT6.out.below bb8)
          have H9 := Lib.hid (HT8.out.swap.files (by omega))
          have HF8 := Lib.hid (And.intro hf8 hs8)
          clear h8 hf8 hs8 bb8
          go_wp2_with fail
          refine H9.out.mono ?_
          rintro e9 w9 ⟨A9, n9, c9, rfl, h9⟩
          obtain ⟨l9, hf9, hs9, bb9⟩ := id h9.out
          have H10 := Lib.hid (same_yes (HF8.out.1.below bb9 (Nat.le_refl _)) hf9 (by rw [HF8.out.2, hs9, HT.out.2.2]))
          have HT9 := Lib.hid (HT8.out.below bb9)
          clear h9 hf9 hs9 bb9
          go_wp2_with fail
          refine H10.out.mono ?_
          rintro e10 wa ⟨rfl, bba⟩
          have HE := Lib.hid (HT9.out.below bba).old
          clear bba
          go_wp2_with fail
          go_ret
          exact ⟨rfl, HE.out⟩
-- ROW BEGIN
set_option maxRecDepth 100000 in
/-- What the walk gives, shut again. -/
theorem contract (H : Type) (enc : TypeId × Value → H) (W : World) (base : Nat) (args : Array Value) (ds gs : List (DataW H)) (before : List MemPlace)
    (hval : ∀ (j : Nat) t v, Try.f4.params[j]? = some t → args[j]? = some v → Value.okWide Try.prog W .any base t v)
    (hW : DataW.Whole enc Try.prog Try.f4.params.toList Rows.diskCrashSpec.vars false W args.toList ds gs before)
    (hsz : (DataW.weightsEach Try.prog (Try.f4.params.toList ++ Rows.diskCrashSpec.plain.varTypes Try.prog) (ds ++ gs)).all (· ≤ reachBytes) = true) (hk : Rows.uptoSmall H (ds ++ gs) = true) :
    Calls Try.prog 4 args W fun e W' => ∃ v, e = .returned v ∧ Rows.diskCrashSpec.post enc Try.prog Try.f4 false true false false W args v W' := by
  have hW' := hW
  obtain ⟨p, q, hA0, hV, hbef, _, _⟩ := hW
  have hA : DataW.TrodAll enc Try.prog W 0 (fun _ => true) true Try.f4.params.toList args.toList ds p := hA0
  have hA1 := hA
  rw [Try.params4] at hA hval hsz
  obtain ⟨v0, vs0, d0, ds0, p0, q0, hargs, rfl, rfl, h0, r0⟩ := trodAll_cons hA
  obtain ⟨v1, vs1, d1, ds1, p1, q1, rfl, rfl, rfl, h1, r1⟩ := trodAll_cons r0
  obtain ⟨v2, vs2, d2, ds2, p2, q2, rfl, rfl, rfl, h2, r2⟩ := trodAll_cons r1
  obtain ⟨rfl, rfl, rfl⟩ := trodAll_nil r2
  obtain rfl : args = #[v0, v1, v2] := by cases args; simp_all
  obtain ⟨rfl, rfl⟩ := trodVars_none hV
  clear hA hargs
  obtain ⟨A0, c0, a0, rfl, n0, l0, b0⟩ := Disk.arg_ops (hval 0 22 v0 rfl rfl) h0 (Wgt.wt_arg hsz (j := 0) rfl rfl)
  obtain ⟨A1, c1, a1, rfl, n1, l1, b1⟩ := Disk.arg_ops (hval 1 22 v1 rfl rfl) h1 (Wgt.wt_arg hsz (j := 1) rfl rfl)
  obtain ⟨x2, y2, rfl⟩ := Disk.arg_two (hval 2 43 v2 rfl rfl) h2
  have hbulk : a0.length + a1.length ≤ 1048576 := by
    have h := Bulk.bound hk
    have e0 := Disk.ops_bulk h0
    have e1 := Disk.ops_bulk h1
    simp only [List.append_nil, Rows.uptoBulkAll] at h
    omega
  refine (walk W A0 c0 a0 n0 b0 l0 A1 c1 a1 n1 b1 l1 x2 y2 hbulk).mono fun e W' ⟨he, hb⟩ => ?_
  subst he
  exact ⟨_, rfl, law_post Facts.laid (by rfl) Try.underlying4 (by rw [Try.params4]; decide +kernel) hW' hA1 rfl hbef rfl rfl rfl hb⟩

set_option maxRecDepth 100000 in
theorem lifted (os : Os) (started : os.Started) (H : Type) (enc : TypeId × Value → H) (F : Stop.Interp) :
    ReturnsInHanded {} Try.checked os 4 .any ((Rows.OpenSpec.upto Rows.diskCrashSpec).pre6 enc Try.prog Try.f4 Rows.diskCrashUptoRow.domain false) (((Rows.OpenSpec.upto Rows.diskCrashSpec).at F).post enc Try.prog Try.f4 false true false false) := by
  refine returnsInHanded_of_cond_sized (C := Try.checked) (s := Rows.OpenSpec.upto Rows.diskCrashSpec) (k := Rows.uptoSmall) rfl Facts.own started (by kernel_rfl) Try.func4
    (OpenSpec.witness (enc := enc) (C := Try.checked) (s := Rows.OpenSpec.upto Rows.diskCrashSpec) (k := Rows.uptoSmall) rfl false ⟨#[], #[.slice none 0 0, .slice none 0 0, .agg #[.int .i64 0, .int .i64 0]], []⟩ 8 (by kernel_rfl) (by kernel_rfl) (by kernel_rfl)
      (x := ([.nil, .nil, .agg [.lit (.int .i64 0), .lit (.int .i64 0)]], [], [])) (by kernel_rfl) rfl (by kernel_rfl)) ?_
  intro W base args ds gs before hval hW _ hk hsz _
  exact contract H enc W base args ds gs before hval hW hsz hk

theorem holds : Rows.DiskCrashUptoSaid :=
  OpenClaim.holds_of_cond 4 Try.f4 rfl rfl rfl rfl rfl rfl rfl ⟨rfl, rfl, rfl, rfl, rfl⟩ rfl rfl rfl rfl rfl (by kernel_rfl) Try.func4 (by kernel_rfl)
    (of_decide_eq_true (by kernel_rfl)) (by unfold Func.isWrapper; first | (rw [if_pos (by decide +kernel)]; kernel_rfl) | (rw [if_neg (by decide +kernel)]; exact ⟨rfl, rfl⟩))
    (fun os started H enc _ F => lifted os started H enc F)
-- ROW END
end DiskCrash
end Go.Proofs.Ytdcppjpjlhbanaa
