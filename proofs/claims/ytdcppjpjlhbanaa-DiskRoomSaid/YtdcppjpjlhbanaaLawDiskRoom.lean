/-
  DiskRoom (P7.1): there are never more bytes than the room; what is refused changes nothing; what would just fit is taken. For every input.
-/
import Derived.Test.YtdcppjpjlhbanaaDiskLaw
import Derived.Test.YtdcppjpjlhbanaaFrame
namespace Go.Proofs.Ytdcppjpjlhbanaa
namespace DiskRoom
open Go.ChangeShapes Go.WideShapes Go.ChangeAt Go.RowKit Disk Blk
attribute [local go_sem ↓] Go.wp_at_zero Go.wp_at_succ
theorem push_room (P : Pd) (c : Cp) : (P.push c).room = P.room := by
  unfold Pd.push
  split <;> rfl
theorem run_room (P : Pd) (o : Oq) : (P.run o).room = P.room := by
  unfold Pd.run
  split
  · exact push_room P o.C
  · split
    · rfl
    · split
      · rfl
      · split <;> rfl
theorem zeros_made (n : Nat) : (madeCells (Value.int .u8 0).cells (n * 1)).toList = nums .u8 (List.replicate n 0) := by
  rw [show (Value.int .u8 0).cells = #[Value.int .u8 0] from rfl, Nat.mul_one, toList_madeCells_one]
  simp [nums]
theorem code_app {P : Pd} {s : Nm} {d : List Int} (hs : okNm s) : P.code ⟨1, s, ⟨#[]⟩, d, 0⟩ = if P.room - used P.files < d.length then 72 else 0 := by
  unfold Pd.code
  rw [if_neg (fun q => q.elim (fun q => q hs) fun q => absurd q.1 (by simp only; omega)), if_pos rfl]
theorem wf_u16 {n : Int} (h : (Lit.int .u16 n).wf = true) : 0 ≤ n ∧ n ≤ 65535 := by
  simp only [Lit.wf, IntKind.min, IntKind.max, IntKind.signed, IntKind.bits] at h
  simp at h
  exact h
def nz : Nm := ⟨#[122, 122]⟩
theorem nz_ok : okNm nz := by decide
set_option maxRecDepth 100000 in
set_option maxHeartbeats 8000000 in
theorem walk (w : World) (room : Int) (hr : (Lit.int .u16 room).wf = true) (A : Option Addr) (c : Nat) (l : List Oe) (hp : Ops w w.heap.size A l) (hb : l.length * 80 ≤ 140737488351232) (hq : ∀ x ∈ l, OkO x) :
    Calls Try.prog 6 #[.int .u16 room, .slice A l.length c] w fun e w' => e = .returned (.bool true) ∧ Below w.heap.size w w' := by
  obtain ⟨i0, hi0, hz0, hz1, hz2⟩ := info_parts Facts.info5
  have hr2 := wf_u16 hr
  clear hr
  obtain ⟨n, hn⟩ : ∃ n, l.length = n := ⟨_, rfl⟩
  rw [hn] at hb ⊢
  have ew : IntKind.i64.wrap room = room := Go.IntWalk.i64_in _ (by omega)
  have HZ := Lib.hid (And.intro hp (And.intro hn hq))
  have H0 := Lib.hid (awake_any w)
  have hro : roomOf room = room := by unfold roomOf; omega
  have hrd : roomD room = room := hro
  have HRo := Lib.hid (And.intro hro hrd)
  clear hp hn hq hro hrd
  go_enter Try.func6, Try.ntmps6
  go_wp2_with fail
  refine H0.out.mono ?_
  rintro e1 w1 ⟨rfl, b1⟩
  have H1 := Lib.hid (pd_new w1 room 0 (by omega))
  have HB1 := Lib.hid b1
  clear b1 H0
  go_wp2_with fail
  refine H1.out.mono ?_
  rintro e2 w2 ⟨db, rfl, h2⟩
  have H2 := Lib.hid (doc_new w2 room)
  go_wp2_with fail
  refine H2.out.mono ?_
  rintro e3 w3 ⟨mb, rfl, h3⟩
  have HS : Hid (Bo (fun _ => False) w w3 db mb 0 0 ⟨roomOf room, [], []⟩ ⟨roomD room, [], []⟩) := Lib.hid (bo_start h2.out.1 (new_ok 0 (room_ok room)) (HB1.out.trans (h2.out.2.mono HB1.out.size)) (fun j hj => Nat.le_trans HB1.out.size hj.1) h3.out.1 (new_ok 0 (room_ok room)) h3.out.2 fun j hj => hj.1)
  clear h2 h3 H1 H2 HB1
  go_wp2_with fail
  go_loopw [7] (fun q wr => ∃ (k : Nat) (P Q : Pd), q = .int .i64 k ∧ k ≤ n ∧ Hid (Bo (fun _ => False) w wr db mb k k P Q ∧ P.room = room)) (fun q _ => n - (intOf q).toNat)
  case atStart => exact ⟨0, _, _, rfl, by omega, Lib.hid ⟨HS.out, HRo.out.1⟩⟩
  case round =>
    obtain ⟨k, P, Q, rfl, hk, hst⟩ := hrel
    by_cases hlt : k < n
    · have hkl : k < l.length := by have := HZ.out.2.1; omega
      obtain ⟨⟨o, Ad, cd⟩, hx⟩ : ∃ x, l.getD k o0 = x := ⟨_, rfl⟩
      obtain ⟨b, off, rfl, hbB, hcell⟩ := op_cells HZ.out.1 hkl hx
      have hmem := op_mem hkl hx
      have hok := HZ.out.2.2 _ hmem
      have hns := HZ.out.1.1 _ hmem
      obtain ⟨kz, hkz⟩ : ∃ k, o.d.length = k := ⟨_, rfl⟩
      obtain ⟨kd, hkd⟩ : ∃ z, o.kd = z := ⟨_, rfl⟩
      obtain ⟨s, hs⟩ : ∃ z, o.s = z := ⟨_, rfl⟩
      obtain ⟨t, ht⟩ : ∃ z, o.t = z := ⟨_, rfl⟩
      obtain ⟨nn, hnn⟩ : ∃ z, o.n = z := ⟨_, rfl⟩
      obtain ⟨torn, htn⟩ : ∃ z, o.torn = z := ⟨_, rfl⟩
      simp only [hkz, hkd, hs, ht, hnn, htn] at hcell
      have H2 := Lib.hid (hst.out.1.files (by omega))
      have HC := Lib.hid (And.intro hcell (And.intro hok (And.intro hns (And.intro hkz (And.intro hkd (And.intro hs (And.intro ht (And.intro hnn htn))))))))
      have z1 : (0 : Int) ≤ (k : Int) := by omega
      have z2 : (k : Int) < (n : Int) := by omega
      have hkzb : kz ≤ 140737488351232 := by have := hok.2.1; simp only at this; omega
      clear hkl hmem hx hkz hok hns hkd hs ht hnn htn hcell
      go_wp2_with fail
      refine H2.out.mono ?_
      rintro e2 w2 ⟨A2, n2, c2, rfl, h2⟩
      obtain ⟨l2, hf2, hs2, bb2⟩ := id h2.out
      have hB2 := hst.out.1.hold bb2
      obtain ⟨s0, s1, s2, s3, s4, s5⟩ := HC.out.1 w2 hB2.old
      obtain ⟨bx, hbx⟩ : ∃ b, w2.heap.size = b := ⟨_, rfl⟩
      obtain ⟨U, hU⟩ : ∃ V, w2.alloc (.cells #[.int .i64 kd, .string s, .string t, .slice Ad kz cd, .int .i64 nn, .int .i64 torn] 31) = V := ⟨_, rfl⟩
      have bU : Below w2.heap.size w2 U := by rw [← hU]; exact (Below.refl _ w2).alloc (Nat.le_refl _) _
      have BU : Bn bx 31 [.int .i64 kd, .string s, .string t, .slice Ad kz cd, .int .i64 nn, .int .i64 torn] U := by rw [← hU, ← hbx]; exact heap_alloc_new w2 _
      have hB3 := hB2.hold bU
      obtain ⟨X, hX⟩ : ∃ X : Nat → Prop, X = fun j => (False ∨ (wr.heap.size ≤ j ∧ j < w2.heap.size)) ∨ (w2.heap.size ≤ j ∧ j < U.heap.size) := ⟨_, rfl⟩
      rw [← hX] at hB3
      have hXb : X bx := by rw [hX]; exact .inr ⟨by omega, BU.lt⟩
      have hFX : Fr X U A2 n2 c2 l2 := ⟨hf2.1, own_keep hf2.2.1 fun g hg => bU.block g (hf2.2.1.lt g hg).2, fun g hg => by rw [hX]; exact .inl (.inr ⟨hf2.2.2.1 g hg, (hf2.2.1.lt g hg).2⟩), fun x hx => ⟨own_keep (hf2.2.2.2.1 x hx).1 fun g hg => bU.block g ((hf2.2.2.2.1 x hx).1.lt g hg).2, fun g hg => by rw [hX]; exact .inl (.inr ⟨(hf2.2.2.2.1 x hx).2.1 g hg, ((hf2.2.2.2.1 x hx).1.lt g hg).2⟩), (hf2.2.2.2.1 x hx).2.2⟩, hf2.2.2.2.2⟩
      have x0 := (BU.cell 0).trans rfl
      have x1 := (BU.cell 1).trans rfl
      have x2 := (BU.cell 2).trans rfl
      have x3 := (BU.cell 3).trans rfl
      have x4 := (BU.cell 4).trans rfl
      have x5 := (BU.cell 5).trans rfl
      have HS3 := Lib.hid (And.intro hB3 (And.intro BU (And.intro hXb (And.intro hFX (And.intro hs2 hst.out.2)))))
      clear h2 hf2 hs2 bb2 hB2 bU BU hB3 hXb hFX hX hst H2
      by_cases hyes : kd = 1 ∧ okNm s
      · obtain ⟨rfl, hsn⟩ := hyes
        have d1 : decide ((1 : Int) ≤ (s.size : Int)) = true := decide_eq_true (by have := hsn.1; omega)
        have d2 : decide ((s.size : Int) ≤ 16) = true := decide_eq_true (by have := hsn.2; omega)
        have d3 : decide (1 ≤ s.size) = true := decide_eq_true hsn.1
        have d4 : decide (s.size ≤ 16) = true := decide_eq_true hsn.2
        obtain ⟨u, hu⟩ : ∃ u, used P.files = u := ⟨_, rfl⟩
        have hur : (u : Int) ≤ room := by
          have := HS3.out.1.oks.1.files.2.2.1
          rw [hu, HS3.out.2.2.2.2.2] at this
          exact this
        have H4 := Lib.hid (HS3.out.1.used u hu)
        have e1 : IntKind.i64.wrap (room - (u : Int)) = room - (u : Int) := Go.IntWalk.i64_in _ (by omega)
        have hcode := code_app (P := P) (d := o.d) hsn
        rw [HS3.out.2.2.2.2.2, hu, HC.out.2.2.2.1] at hcode
        have H5 := HS3.out.1.dod (C := ⟨1, s, ⟨#[]⟩, o.d, 0⟩) (.inl rfl) HC.out.2.1.1 fun F hp hr => pd_append hp hr (by omega) s o.d kz HC.out.2.2.2.1 Ad cd ((HC.out.2.2.1.below HS3.out.1.old).more HS3.out.1.old.size) HC.out.2.1.1
        rw [hcode] at H5
        have H5 := Lib.hid H5
        have HN := Lib.hid (And.intro hsn hcode)
        clear hsn hu
        by_cases hfit : room - (u : Int) < (kz : Int)
        · rw [if_pos hfit] at H5 hcode
          have g1 : decide ((kz : Int) ≤ room - (u : Int)) = false := decide_eq_false (by omega)
          have HCd := Lib.hid hcode
          clear hcode hfit
          go_wp2_with fail
          refine H4.out.mono ?_
          rintro e4 w4 ⟨rfl, hw4⟩
          obtain rfl := hw4.symm
          go_wp2_with fail
          refine H5.out.mono ?_
          rintro e5 w5 ⟨cd5, rfl, h5⟩
          obtain rfl : cd5 = 72 := h5.out.1
          have y3 := ((HS3.out.2.1.same (h5.out.2.2.2 bx HS3.out.2.2.1)).cell 3).trans rfl
          have hpush : P.push ⟨1, s, ⟨#[]⟩, o.d, 0⟩ = P := by
            unfold Pd.push
            rw [if_neg (by rw [HCd.out]; omega)]
          have hB5 := h5.out.2.1
          rw [hpush] at hB5
          have HF5 : Hid (Fr X w5 A2 n2 c2 l2) := Lib.hid (HS3.out.2.2.2.1.keep (fun j hj _ => h5.out.2.2.2 j hj) fun _ => id)
          have H6 := Lib.hid (hB5.files (by omega))
          have HB5 := Lib.hid hB5
          clear h5 hpush hB5
          go_wp2_with fail
          refine H6.out.mono ?_
          rintro e6 w6 ⟨A6, n6, c6, rfl, h6⟩
          obtain ⟨l6, hf6, hs6, bb6⟩ := id h6.out
          have H7 := Lib.hid (same_yes hf6 (HF5.out.below bb6 (Nat.le_refl _)) (by rw [hs6, HS3.out.2.2.2.2.1]))
          have HB6 := Lib.hid (HB5.out.below bb6)
          clear h6 hf6 hs6 bb6
          go_wp2_with fail
          refine H7.out.mono ?_
          rintro e7 w7 ⟨rfl, bb7⟩
          have HE : Hid (Bo (fun _ => False) w w7 db mb (k + 1) (k + 1) P Q ∧ P.room = room) := Lib.hid ⟨((HB6.out.below bb7).less fun _ q => q.elim).mono (by omega) (by omega) (by omega), HS3.out.2.2.2.2.2⟩
          clear bb7
          go_wp2_with fail
          go_roundw
          case rel => exact ⟨k + 1, P, Q, rfl, by omega, HE⟩
          case measure => simp only [intOf]; omega
        · rw [if_neg hfit] at H5 hcode
          have g1 : decide ((kz : Int) ≤ room - (u : Int)) = true := decide_eq_true (by omega)
          clear hcode hfit
          go_wp2_with fail
          refine H4.out.mono ?_
          rintro e4 w4 ⟨rfl, hw4⟩
          obtain rfl := hw4.symm
          go_wp2_with fail
          refine H5.out.mono ?_
          rintro e5 w5 ⟨cd5, rfl, h5⟩
          obtain rfl : cd5 = 0 := h5.out.1
          have y3 := ((HS3.out.2.1.same (h5.out.2.2.2 bx HS3.out.2.2.1)).cell 3).trans rfl
          have HE : Hid (Bo (fun _ => False) w w5 db mb (k + 1) (k + 1) (P.push ⟨1, s, ⟨#[]⟩, o.d, 0⟩) Q ∧ (P.push ⟨1, s, ⟨#[]⟩, o.d, 0⟩).room = room) := Lib.hid ⟨(h5.out.2.1.less fun _ q => q.elim).mono (by omega) (by omega) (by omega), by rw [push_room]; exact HS3.out.2.2.2.2.2⟩
          clear h5
          go_wp2_with fail
          go_roundw
          case rel => exact ⟨k + 1, _, Q, rfl, by omega, HE⟩
          case measure => simp only [intOf]; omega
      · have H5 := does_any HS3.out.1 (by omega) (by omega) o kz HC.out.2.2.2.1 (by omega) Ad cd HC.out.2.2.1 HC.out.2.1.1
        rw [HC.out.2.2.2.2.1, HC.out.2.2.2.2.2.1, HC.out.2.2.2.2.2.2.1, HC.out.2.2.2.2.2.2.2.1, HC.out.2.2.2.2.2.2.2.2] at H5
        have H5 := Lib.hid H5
        have hcond : Hid (kd ≠ 1 ∨ ¬ 1 ≤ s.size ∨ ¬ s.size ≤ 16) := Lib.hid (by
          unfold okNm at hyes
          omega)
        clear hyes
        rcases hcond.out with hc1 | hc1 | hc1
        · have d1 : (kd == 1) = false := by rw [beq_eq_false_iff_ne]; exact hc1
          clear hc1
          go_wp2_with fail
          refine H5.out.mono ?_
          rintro e5 w5 ⟨b5, rfl, h5⟩
          obtain ⟨u, hu⟩ : ∃ u, used (P.run o).files = u := ⟨_, rfl⟩
          have hur : (u : Int) ≤ room := by
            have := h5.out.2.1.oks.1.files.2.2.1
            rw [hu, run_room, HS3.out.2.2.2.2.2] at this
            exact this
          have H6 := Lib.hid (h5.out.2.1.used u hu)
          have g1 : decide (room < (u : Int)) = false := decide_eq_false (by omega)
          have HE : Hid (Bo (fun _ => False) w w5 db mb (k + 1) (k + 1) (P.run o) (Q.run o) ∧ (P.run o).room = room) := Lib.hid ⟨h5.out.2.1.less fun _ q => q.elim, by rw [run_room]; exact HS3.out.2.2.2.2.2⟩
          clear h5 hu
          go_wp2_with fail
          refine H6.out.mono ?_
          rintro e6 w6 ⟨rfl, hw6⟩
          obtain rfl := hw6.symm
          go_wp2_with fail
          go_roundw
          case rel => exact ⟨k + 1, _, _, rfl, by omega, HE⟩
          case measure => simp only [intOf]; omega
        · have d3 : decide (1 ≤ s.size) = false := decide_eq_false hc1
          have d1 : decide ((1 : Int) ≤ (s.size : Int)) = false := decide_eq_false (by omega)
          clear hc1
          by_cases hk1 : kd = 1
          · have d0 : (kd == 1) = true := by rw [hk1]; rfl
            clear hk1
            go_wp2_with fail
            refine H5.out.mono ?_
            rintro e5 w5 ⟨b5, rfl, h5⟩
            obtain ⟨u, hu⟩ : ∃ u, used (P.run o).files = u := ⟨_, rfl⟩
            have hur : (u : Int) ≤ room := by
              have := h5.out.2.1.oks.1.files.2.2.1
              rw [hu, run_room, HS3.out.2.2.2.2.2] at this
              exact this
            have H6 := Lib.hid (h5.out.2.1.used u hu)
            have g1 : decide (room < (u : Int)) = false := decide_eq_false (by omega)
            have HE : Hid (Bo (fun _ => False) w w5 db mb (k + 1) (k + 1) (P.run o) (Q.run o) ∧ (P.run o).room = room) := Lib.hid ⟨h5.out.2.1.less fun _ q => q.elim, by rw [run_room]; exact HS3.out.2.2.2.2.2⟩
            clear h5 hu
            go_wp2_with fail
            refine H6.out.mono ?_
            rintro e6 w6 ⟨rfl, hw6⟩
            obtain rfl := hw6.symm
            go_wp2_with fail
            go_roundw
            case rel => exact ⟨k + 1, _, _, rfl, by omega, HE⟩
            case measure => simp only [intOf]; omega
          · have d0 : (kd == 1) = false := by rw [beq_eq_false_iff_ne]; exact hk1
            clear hk1
            go_wp2_with fail
            refine H5.out.mono ?_
            rintro e5 w5 ⟨b5, rfl, h5⟩
            obtain ⟨u, hu⟩ : ∃ u, used (P.run o).files = u := ⟨_, rfl⟩
            have hur : (u : Int) ≤ room := by
              have := h5.out.2.1.oks.1.files.2.2.1
              rw [hu, run_room, HS3.out.2.2.2.2.2] at this
              exact this
            have H6 := Lib.hid (h5.out.2.1.used u hu)
            have g1 : decide (room < (u : Int)) = false := decide_eq_false (by omega)
            have HE : Hid (Bo (fun _ => False) w w5 db mb (k + 1) (k + 1) (P.run o) (Q.run o) ∧ (P.run o).room = room) := Lib.hid ⟨h5.out.2.1.less fun _ q => q.elim, by rw [run_room]; exact HS3.out.2.2.2.2.2⟩
            clear h5 hu
            go_wp2_with fail
            refine H6.out.mono ?_
            rintro e6 w6 ⟨rfl, hw6⟩
            obtain rfl := hw6.symm
            go_wp2_with fail
            go_roundw
            case rel => exact ⟨k + 1, _, _, rfl, by omega, HE⟩
            case measure => simp only [intOf]; omega
        · have d4 : decide (s.size ≤ 16) = false := decide_eq_false hc1
          have d2 : decide ((s.size : Int) ≤ 16) = false := decide_eq_false (by omega)
          have d3 : decide (1 ≤ s.size) = true := decide_eq_true (by omega)
          have d1 : decide ((1 : Int) ≤ (s.size : Int)) = true := decide_eq_true (by omega)
          clear hc1
          by_cases hk1 : kd = 1
          · have d0 : (kd == 1) = true := by rw [hk1]; rfl
            clear hk1
            go_wp2_with fail
            refine H5.out.mono ?_
            rintro e5 w5 ⟨b5, rfl, h5⟩
            obtain ⟨u, hu⟩ : ∃ u, used (P.run o).files = u := ⟨_, rfl⟩
            have hur : (u : Int) ≤ room := by
              have := h5.out.2.1.oks.1.files.2.2.1
              rw [hu, run_room, HS3.out.2.2.2.2.2] at this
              exact this
            have H6 := Lib.hid (h5.out.2.1.used u hu)
            have g1 : decide (room < (u : Int)) = false := decide_eq_false (by omega)
            have HE : Hid (Bo (fun _ => False) w w5 db mb (k + 1) (k + 1) (P.run o) (Q.run o) ∧ (P.run o).room = room) := Lib.hid ⟨h5.out.2.1.less fun _ q => q.elim, by rw [run_room]; exact HS3.out.2.2.2.2.2⟩
            clear h5 hu
            go_wp2_with fail
            refine H6.out.mono ?_
            rintro e6 w6 ⟨rfl, hw6⟩
            obtain rfl := hw6.symm
            go_wp2_with fail
            go_roundw
            case rel => exact ⟨k + 1, _, _, rfl, by omega, HE⟩
            case measure => simp only [intOf]; omega
          · have d0 : (kd == 1) = false := by rw [beq_eq_false_iff_ne]; exact hk1
            clear hk1
            go_wp2_with fail
            refine H5.out.mono ?_
            rintro e5 w5 ⟨b5, rfl, h5⟩
            obtain ⟨u, hu⟩ : ∃ u, used (P.run o).files = u := ⟨_, rfl⟩
            have hur : (u : Int) ≤ room := by
              have := h5.out.2.1.oks.1.files.2.2.1
              rw [hu, run_room, HS3.out.2.2.2.2.2] at this
              exact this
            have H6 := Lib.hid (h5.out.2.1.used u hu)
            have g1 : decide (room < (u : Int)) = false := decide_eq_false (by omega)
            have HE : Hid (Bo (fun _ => False) w w5 db mb (k + 1) (k + 1) (P.run o) (Q.run o) ∧ (P.run o).room = room) := Lib.hid ⟨h5.out.2.1.less fun _ q => q.elim, by rw [run_room]; exact HS3.out.2.2.2.2.2⟩
            clear h5 hu
            go_wp2_with fail
            refine H6.out.mono ?_
            rintro e6 w6 ⟨rfl, hw6⟩
            obtain rfl := hw6.symm
            go_wp2_with fail
            go_roundw
            case rel => exact ⟨k + 1, _, _, rfl, by omega, HE⟩
            case measure => simp only [intOf]; omega
    · obtain rfl : k = n := by omega
      obtain ⟨u, hu⟩ : ∃ u, used P.files = u := ⟨_, rfl⟩
      have hur : (u : Int) ≤ room := by
        have := hst.out.1.oks.1.files.2.2.1
        rw [hu, hst.out.2] at this
        exact this
      have H4 := Lib.hid (hst.out.1.used u hu)
      obtain ⟨v, hv⟩ : ∃ v : Nat, room - (u : Int) = (v : Int) := ⟨(room - u).toNat, by omega⟩
      have e1 : IntKind.i64.wrap (room - (u : Int)) = (v : Int) := by rw [hv]; exact Go.IntWalk.i64_in _ (by omega)
      have e2 : IntKind.i64.wrap ((v : Int) + 1) = (v : Int) + 1 := Go.IntWalk.i64_in _ (by omega)
      have hvb : v ≤ 65535 := by omega
      have d1 : decide ((0 : Int) ≤ (v : Int)) = true := decide_eq_true (by omega)
      have c1 := code_app (P := P) (d := List.replicate (v + 1) 0) nz_ok
      rw [hst.out.2, hu, hv, List.length_replicate, if_pos (by omega)] at c1
      have c2 := code_app (P := P) (d := List.replicate v 0) nz_ok
      rw [hst.out.2, hu, hv, List.length_replicate, if_neg (by omega)] at c2
      have HT := Lib.hid (And.intro hst.out.1 (And.intro c1 c2))
      obtain ⟨U, hrun, ho, hg⟩ := run_make_full (P := Try.prog) wr wr.heap.size 29 5 i0 (.int .u8 0) 1 Try.underlying29 hi0 hz0 hz1 .i64 .i64 (v + 1) (by rw [hz2]; omega) (by unfold maxLen; omega) (Nat.le_refl _)
      rw [zeros_made] at ho
      rw [show ((v + 1 : Nat) : Int) = (v : Int) + 1 from rfl] at hrun
      have bU : Below wr.heap.size wr U := (Below.refl _ wr).grown hg (Nat.le_refl _) fun j hj => by cases hj
      have hBU := hst.out.1.below bU
      have hpush : P.push ⟨1, nz, ⟨#[]⟩, List.replicate (v + 1) 0, 0⟩ = P := by
        unfold Pd.push
        rw [if_neg (by rw [c1]; omega)]
      have hnsU := own_ns (A := some ⟨wr.heap.size, 0, none⟩) (c := v + 1) (n := v + 1) (zs := List.replicate (v + 1) 0) (by rw [List.length_replicate]; exact ho)
      have H5 := hBU.dod (C := ⟨1, nz, ⟨#[]⟩, List.replicate (v + 1) 0, 0⟩) (.inl rfl) (by intro z hz; rw [List.eq_of_mem_replicate hz]; omega) fun F hp hr => pd_append hp hr (by omega) nz (List.replicate (v + 1) 0) (v + 1) List.length_replicate (some ⟨wr.heap.size, 0, none⟩) (v + 1) hnsU (by intro z hz; rw [List.eq_of_mem_replicate hz]; omega)
      rw [hpush, c1] at H5
      have H5 := Lib.hid H5
      clear hst hu hv c1 c2 ho hg bU hBU hpush hnsU
      go_wp2_with fail
      refine H4.out.mono ?_
      rintro e4 w4 ⟨rfl, hw4⟩
      obtain rfl := hw4.symm
      go_wp2_with fail
      refine H5.out.mono ?_
      rintro e5 w5 ⟨cd5, rfl, h5⟩
      obtain rfl : cd5 = 72 := h5.out.1
      obtain ⟨U2, hrun2, ho2, hg2⟩ := run_make_full (P := Try.prog) w5 w5.heap.size 29 5 i0 (.int .u8 0) 1 Try.underlying29 hi0 hz0 hz1 .i64 .i64 v (by rw [hz2]; omega) (by unfold maxLen; omega) (Nat.le_refl _)
      rw [zeros_made] at ho2
      have bU2 : Below w5.heap.size w5 U2 := (Below.refl _ w5).grown hg2 (Nat.le_refl _) fun j hj => by cases hj
      have hBU2 := h5.out.2.1.below bU2
      have hns2 := own_ns (A := some ⟨w5.heap.size, 0, none⟩) (c := v) (n := v) (zs := List.replicate v 0) (by rw [List.length_replicate]; exact ho2)
      have H6 := hBU2.dod (C := ⟨1, nz, ⟨#[]⟩, List.replicate v 0, 0⟩) (.inl rfl) (by intro z hz; rw [List.eq_of_mem_replicate hz]; omega) fun F hp hr => pd_append hp hr (by omega) nz (List.replicate v 0) v List.length_replicate (some ⟨w5.heap.size, 0, none⟩) v hns2 (by intro z hz; rw [List.eq_of_mem_replicate hz]; omega)
      rw [HT.out.2.2] at H6
      have H6 := Lib.hid H6
      clear ho2 hg2 bU2 hBU2 hns2 h5 hrun
      go_wp2_with fail
      refine H6.out.mono ?_
      rintro e6 w6 ⟨cd6, rfl, h6⟩
      obtain rfl : cd6 = 0 := h6.out.1
      have HE := Lib.hid h6.out.2.1.old
      clear h6 hrun2
      go_wp2_with fail
      go_ret
      exact ⟨rfl, HE.out⟩
-- ROW BEGIN
set_option maxRecDepth 100000 in
/-- What the walk gives, shut again. -/
theorem contract (H : Type) (enc : TypeId × Value → H) (W : World) (base : Nat) (args : Array Value) (ds gs : List (DataW H)) (before : List MemPlace)
    (hval : ∀ (j : Nat) t v, Try.f6.params[j]? = some t → args[j]? = some v → Value.okWide Try.prog W .any base t v)
    (hW : DataW.Whole enc Try.prog Try.f6.params.toList Rows.diskRoomSpec.vars false W args.toList ds gs before)
    (hsz : (DataW.weightsEach Try.prog (Try.f6.params.toList ++ Rows.diskRoomSpec.plain.varTypes Try.prog) (ds ++ gs)).all (· ≤ reachBytes) = true) :
    Calls Try.prog 6 args W fun e W' => ∃ v, e = .returned v ∧ Rows.diskRoomSpec.post enc Try.prog Try.f6 false true false false W args v W' := by
  have hW' := hW
  obtain ⟨p, q, hA0, hV, hbef, _, _⟩ := hW
  have hA : DataW.TrodAll enc Try.prog W 0 (fun _ => true) true Try.f6.params.toList args.toList ds p := hA0
  have hA1 := hA
  rw [Try.params6] at hA hval hsz
  obtain ⟨v0, vs0, d0, ds0, p0, q0, hargs, rfl, rfl, h0, r0⟩ := trodAll_cons hA
  obtain ⟨v1, vs1, d1, ds1, p1, q1, rfl, rfl, rfl, h1, r1⟩ := trodAll_cons r0
  obtain ⟨rfl, rfl, rfl⟩ := trodAll_nil r1
  obtain rfl : args = #[v0, v1] := by cases args; simp_all
  obtain ⟨rfl, rfl⟩ := trodVars_none hV
  clear hA hargs
  obtain ⟨a0, rfl, rfl, _, w0⟩ := open_int Try.underlying49 (hval 0 49 v0 rfl rfl) h0
  obtain ⟨A1, c1, a1, rfl, n1, l1, b1⟩ := Disk.arg_ops (hval 1 22 v1 rfl rfl) h1 (Wgt.wt_arg hsz (j := 1) rfl rfl)
  refine (walk W a0 w0 A1 c1 a1 n1 b1 l1).mono fun e W' ⟨he, hb⟩ => ?_
  subst he
  exact ⟨_, rfl, law_post Facts.laid (by rfl) Try.underlying4 (by rw [Try.params6]; decide +kernel) hW' hA1 rfl hbef rfl rfl rfl hb⟩

set_option maxRecDepth 100000 in
theorem lifted (os : Os) (started : os.Started) (H : Type) (enc : TypeId × Value → H) :
    ReturnsInHanded {} Try.checked os 6 .any (Rows.diskRoomSpec.pre6 enc Try.prog Try.f6 Rows.diskRoomRow.domain false) (Rows.diskRoomSpec.post enc Try.prog Try.f6 false true false false) := by
  refine returnsInHanded_of_change_sized (C := Try.checked) Facts.own started (by kernel_rfl) Try.func6
    (ChangeSpec.witness6 (enc := enc) (C := Try.checked) false ⟨#[], #[.int .u16 0, .slice none 0 0], []⟩ 8 (by kernel_rfl) (by kernel_rfl) (by kernel_rfl) (by kernel_rfl)) ?_
  intro W base args ds gs before hval hW _ hsz _
  exact contract H enc W base args ds gs before hval hW hsz

theorem holds : Rows.DiskRoomSaid :=
  OpenClaim.holds_of_wide 6 Try.f6 rfl rfl rfl rfl rfl rfl rfl ⟨rfl, rfl, rfl, rfl, rfl⟩ rfl rfl rfl rfl rfl (by kernel_rfl) Try.func6 (by kernel_rfl)
    (of_decide_eq_true (by kernel_rfl)) (by unfold Func.isWrapper; first | (rw [if_pos (by decide +kernel)]; kernel_rfl) | (rw [if_neg (by decide +kernel)]; exact ⟨rfl, rfl⟩))
    (fun os started H enc _ => lifted os started H enc)
-- ROW END
end DiskRoom
end Go.Proofs.Ytdcppjpjlhbanaa
