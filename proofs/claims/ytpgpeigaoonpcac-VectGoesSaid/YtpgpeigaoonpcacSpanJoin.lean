/-
  span.Join: two right lists merged.
-/
import Derived.Test.YtpgpeigaoonpcacSpanLay
namespace Go.Proofs.Ytpgpeigaoonpcac
namespace Span
open Go.RowKit
attribute [local go_sem ↓] Go.wp_at_zero Go.wp_at_succ

/-- The answer of Join: the list of both, or the error's number; new memory. -/
def JoinPost (l : List Sp) (f : Int) (w : World) (e : Ending) (w' : World) : Prop :=
  ∃ A c, e = .returned (.tuple #[.slice A l.length c, .int .i64 f]) ∧ w'.ownsRow w.heap.size 50 3 (.slice A l.length c) l.length (sps l) ∧ Below w.heap.size w w'
theorem joinPost_nil (f : Int) (w w' : World) (hb : Below w.heap.size w w') (e : Ending) (he : e = .returned (.tuple #[.slice none 0 0, .int .i64 f])) : JoinPost [] f w e w' :=
  ⟨none, 0, he, World.ownsRow_nil _ _ _ _, hb⟩

theorem ss_at {w w' : World} {B : Nat} {A : Option Addr} {l : List Sp} {n : Nat} (h : Ss w B A l) (hn : l.length = n) (hb : Below B w w') {k : Nat} (hk : k < n) {x : Sp} (hx : l.getD k (0, 0, 0) = x) :
    ∃ b off, A = some ⟨b, off, none⟩ ∧ b < B ∧ w'.cell? ⟨b, off + k * 3, none⟩ = some (.int .i64 x.1) ∧ w'.cell? ⟨b, off + k * 3 + 1, none⟩ = some (.int .i64 x.2.1) ∧ w'.cell? ⟨b, off + k * 3 + 2, none⟩ = some (.int .i64 x.2.2) := by
  subst hn
  subst hx
  obtain ⟨b, off, e, hbB, hc⟩ := h (by omega)
  obtain ⟨c0, c1, c2⟩ := hc k hk
  exact ⟨b, off, e, hbB, (hb.cell (by exact hbB)).trans c0, (hb.cell (by exact hbB)).trans c1, (hb.cell (by exact hbB)).trans c2⟩

set_option maxHeartbeats 2000000 in
set_option maxRecDepth 100000 in
theorem join_any (A A' : Option Addr) (c c' n n' : Nat) (a b : List Sp) (hn : a.length = n) (hn' : b.length = n') (w : World) (hr : Ss w w.heap.size A a) (hr' : Ss w w.heap.size A' b) (hbig : n ≤ 140737488355328) (hbig' : n' ≤ 140737488355328) :
    Calls Try.prog 10 #[.slice A n c, .slice A' n' c'] w (JoinPost (joinL a b) (joinE a b) w) := by
  have h1 := right_any A c n a hn w hr hbig
  have h2 := fun W h => right_any A' c' n' b hn' W h hbig'
  obtain ⟨q1, hq1⟩ : ∃ q, decide (Right a) = q := ⟨_, rfl⟩
  obtain ⟨q2, hq2⟩ : ∃ q, decide (Right b) = q := ⟨_, rfl⟩
  rw [hq1] at h1
  rw [hq2] at h2
  obtain ⟨L, hL⟩ : ∃ L, joinL a b = L := ⟨_, rfl⟩
  obtain ⟨E, hE⟩ : ∃ E, joinE a b = E := ⟨_, rfl⟩
  rw [hL, hE]
  have HL := Lib.hid hL
  have HE := Lib.hid hE
  have H1 := Lib.hid h1
  have H2 := Lib.hid h2
  have HR := Lib.hid hr
  have HR' := Lib.hid hr'
  clear h1 h2 hr hr' hL hE
  cases q1
  · have hw := join_wrong (b := b) (fun h => of_decide_eq_false hq1 h.1)
    have HW := Lib.hid (And.intro (HL.out.symm.trans hw.2) (HE.out.symm.trans hw.1))
    clear hw hq1 hq2 H2 hn hn'
    go_enter Try.func10, Try.ntmps10
    go_wp2
    go_step3
    go_wp2_with fail
    refine H1.out.mono ?_
    rintro e w1 ⟨rfl, b1⟩
    go_wp2
    try rw [Exit.noGoto_ret]
    go_ret2
    rw [HW.out.1, HW.out.2]
    exact joinPost_nil _ _ _ b1 _ rfl
  · cases q2
    · have hw := join_wrong (a := a) (fun h => of_decide_eq_false hq2 h.2)
      have HW := Lib.hid (And.intro (HL.out.symm.trans hw.2) (HE.out.symm.trans hw.1))
      clear hw hq1 hq2 hn hn'
      go_enter Try.func10, Try.ntmps10
      go_wp2
      go_step3
      go_wp2_with fail
      refine H1.out.mono ?_
      rintro e w1 ⟨rfl, b1⟩
      have s1 := b1.size
      go_wp2_with fail
      refine (H2.out _ ((HR'.out.below b1).more s1)).mono ?_
      rintro e w2 ⟨rfl, b2⟩
      go_wp2
      try rw [Exit.noGoto_ret]
      go_ret2
      rw [HW.out.1, HW.out.2]
      exact joinPost_nil _ _ _ (b1.trans (b2.mono s1)) _ rfl
    · have hRa := of_decide_eq_true hq1
      have hRb := of_decide_eq_true hq2
      have hn1 : n ≤ 1024 := by rw [← hn]; exact hRa.1
      have hn2 : n' ≤ 1024 := by rw [← hn']; exact hRb.1
      have HA := Lib.hid (And.intro hRa hRb)
      have HN := Lib.hid (And.intro hn hn')
      clear hq1 hq2 hRa hRb hn hn'
      go_enter Try.func10, Try.ntmps10
      go_wp2
      go_step3
      go_wp2_with fail
      refine H1.out.mono ?_
      rintro e w1 ⟨rfl, b1⟩
      have s1 := b1.size
      go_wp2_with fail
      refine (H2.out _ ((HR'.out.below b1).more s1)).mono ?_
      rintro e w2 ⟨rfl, b2⟩
      have s2 := b2.size
      have b12 := b1.trans (b2.mono s1)
      obtain ⟨info, hi, hz, hsize, hby⟩ := info_span
      go_wp2_with (at_make; refine wpList_make_own _ rfl _ _ 27 rfl w.heap.size 50 info (.agg #[.int .i64 0, .int .i64 0, .int .i64 0]) 3 Try.underlying27 hi hz hsize _ _ _ (n + n') rfl rfl (by omega) (by rw [hby]; omega) (by unfold maxLen; omega) (Nat.le_trans s1 s2) ?_; intro w3 o3 g3; have b3 : Below w.heap.size w w3 := b12.grown g3 (Nat.le_trans s1 s2) (fun k hk => by cases hk))
      go_step3
      go_wp2
      have HB3 := Lib.hid b3
      have HO3 := Lib.hid o3
      clear o3 g3 b3 b12 b1 b2 H1 H2 s1 s2
      go_loopw [6, 7, 8] (fun v q1 q2 wr => ∃ (i j : Nat) (out : List Sp) (Ao : Option Addr) (co : Nat), i ≤ n ∧ j ≤ n' ∧ q1 = .int .i64 i ∧ q2 = .int .i64 j ∧ v = .slice Ao out.length co ∧ Hid (wr.ownsRow w.heap.size 50 3 (.slice Ao out.length co) out.length (sps out)) ∧ Hid (Below w.heap.size w wr) ∧ Hid (Merging a b i j out))
        (fun _ q1 q2 _ => (n - (intOf q1).toNat) + (n' - (intOf q2).toNat))
      case atStart => exact ⟨0, 0, [], _, _, by omega, by omega, rfl, rfl, rfl, HO3, HB3, merging_start a b⟩
      case round =>
        obtain ⟨i, j, out, Ao, co, hi1, hj1, rfl, rfl, rfl, ho, hb, hm⟩ := hrel
        obtain ⟨m, hmm⟩ : ∃ m, out.length = m := ⟨_, rfl⟩
        have hlen := hm.out.2.2.1
        have HM := Lib.hid hmm
        rw [hmm] at ho hlen ⊢
        clear hmm HO3 HB3
        have hFa := HA.out.1.2
        have hFb := HA.out.2.2
        have hna := HN.out.1
        have hnb := HN.out.2
        have r0 : (0 : Int) ≤ (i : Int) := by omega
        have r1 : (0 : Int) ≤ (j : Int) := by omega
        by_cases hlt : i < n
        · obtain ⟨⟨x0, x1, x2⟩, hx⟩ : ∃ x, a.getD i (0, 0, 0) = x := ⟨_, rfl⟩
          have hxo := fine_getD hFa (by omega) hx
          have HX1 : Hid (1 ≤ x1 ∧ x1 ≤ 9223372036854775807) := Lib.hid ⟨hxo.2.2.1, by have := hxo.2.2.2; simp only at this; omega⟩
          obtain ⟨b0, off, rfl, hbB, d0, d1, d2⟩ := ss_at HR.out hna hb.out hlt hx
          simp only at d0 d1 d2
          have r2 : (i : Int) < (n : Int) := by omega
          have g1 : decide ((i : Int) < (n : Int)) = true := decide_eq_true r2
          by_cases hj : j = n'
          · have g2 : ((j : Int) == (n' : Int)) = true := by simp [hj]
            have HG := Lib.hid (merging_left hFa hFb (by omega) hx hm.out (.inl (by omega)))
            clear hFa hFb hna hnb hxo hx hm
            have hbD := hb.out
            clear HR HR' HA HN HL HE hj
            go_wp2
            go_quiet (fail)
            have D0 := (World.cell?_drewN wr nq _).trans d0
            have D1 := (World.cell?_drewN wr nq _).trans d1
            have D2 := (World.cell?_drewN wr nq _).trans d2
            have oW := Lib.hid ((show (wr.drewN nq).ownsRow _ _ _ _ _ _ from ho.out))
            have bW := Lib.hid ((hb.out.trans (below_drewN _ nq _)))
            have HL2 := Lib.hid (fun W' (h : W'.ownsRow w.heap.size 50 3 (.slice Ao m co) m (sps out)) (h' : w.heap.size ≤ W'.heap.size) => lay_any w.heap.size Ao co m out HM.out (x0, x1, x2) (by exact HX1.out) W' h' (HM.out.symm ▸ h) (by omega))
            go_wp2_with fail
            refine (HL2.out _ oW.out bW.out.size).mono ?_
            rintro e W2 ⟨A2, c2, rfl, o2, b2⟩
            have HO2 := Lib.hid o2
            have HB2 := Lib.hid (bW.out.trans b2)
            have HMg := Lib.hid (HG.out)
            clear o2 b2 HL2 oW bW
            go_wp2
            try rw [Exit.noGoto_next]
            exact ⟨⟨i + 1, j, _, A2, c2, by omega, by omega, rfl, rfl, rfl, HO2, HB2, HMg⟩, by simp only [intOf]; omega⟩
          · have hj2 : j < n' := by omega
            have r3 : (j : Int) < (n' : Int) := by omega
            have g2 : ((j : Int) == (n' : Int)) = false := by simp; omega
            obtain ⟨⟨y0, y1, y2⟩, hy⟩ : ∃ y, b.getD j (0, 0, 0) = y := ⟨_, rfl⟩
            have hyo := fine_getD hFb (by omega) hy
            have HY1 : Hid (1 ≤ y1 ∧ y1 ≤ 9223372036854775807) := Lib.hid ⟨hyo.2.2.1, by have := hyo.2.2.2; simp only at this; omega⟩
            obtain ⟨b0', off', rfl, hbB', d0', d1', d2'⟩ := ss_at HR'.out hnb hb.out hj2 hy
            simp only at d0' d1' d2'
            have hX := fun W => ahead_is (x0, x1, x2) (y0, y1, y2) W
            obtain ⟨q, hq⟩ : ∃ q, decide (starts (x0, x1, x2) (y0, y1, y2)) = q := ⟨_, rfl⟩
            rw [hq] at hX
            have HQ := Lib.hid hX
            have HG1 : Hid (q = true → Merging a b (i + 1) j (layF out (x0, x1, x2))) := Lib.hid fun h => merging_left hFa hFb (by omega) hx hm.out (.inr ⟨_, by omega, hy, of_decide_eq_true (hq.trans h)⟩)
            have HG2 : Hid (q = false → Merging a b i (j + 1) (layF out (y0, y1, y2))) := Lib.hid fun h => merging_right hFa hFb (by omega) hy hm.out (.inr ⟨_, by omega, hx, of_decide_eq_false (hq.trans h)⟩)
            have hbs := hb.out.size
            have hl1 : b0 < wr.heap.size := by omega
            have hl2 : b0' < wr.heap.size := by omega
            clear hFa hFb hna hnb hxo hx hm hyo hy hX hq HR HR' HA HN HL HE hj
            go_wp2
            go_region_held3 (fun W => W.cell? ⟨b0, off + i * 3, none⟩ = some (.int .i64 x0) ∧ W.cell? ⟨b0, off + i * 3 + 1, none⟩ = some (.int .i64 x1) ∧ W.cell? ⟨b0, off + i * 3 + 2, none⟩ = some (.int .i64 x2) ∧
                W.cell? ⟨b0', off' + j * 3, none⟩ = some (.int .i64 y0) ∧ W.cell? ⟨b0', off' + j * 3 + 1, none⟩ = some (.int .i64 y1) ∧ W.cell? ⟨b0', off' + j * 3 + 2, none⟩ = some (.int .i64 y2)) (first
                | exact ⟨d0, d1, d2, d0', d1', d2'⟩
                | exact ⟨cell_below b1 hl1 d0, cell_below b1 hl1 d1, cell_below b1 hl1 d2, cell_below b1 hl2 d0', cell_below b1 hl2 d1', cell_below b1 hl2 d2'⟩)
              (first | (go_at_call 24; refine (HQ.out _).mono ?_; rintro e w1 ⟨rfl, b1⟩))
            have D0 := cell_below b1 hl1 d0
            have D1 := cell_below b1 hl1 d1
            have D2 := cell_below b1 hl1 d2
            have D0' := cell_below b1 hl2 d0'
            have D1' := cell_below b1 hl2 d1'
            have D2' := cell_below b1 hl2 d2'
            cases q
            · have HG := Lib.hid (HG2.out rfl)
              have g3 : decide ((j : Int) < (n' : Int)) = true := decide_eq_true r3
              clear D0 D1 D2 HG1 HG2 HQ
              have oW := Lib.hid ((own_below (w := wr.drew) ho.out b1 (Nat.le_refl _)))
              have bW := Lib.hid ((hb.out.drew.trans (Below.mono b1 hbs)))
              have HL2 := Lib.hid (fun W' (h : W'.ownsRow w.heap.size 50 3 (.slice Ao m co) m (sps out)) (h' : w.heap.size ≤ W'.heap.size) => lay_any w.heap.size Ao co m out HM.out (y0, y1, y2) (by exact HY1.out) W' h' (HM.out.symm ▸ h) (by omega))
              go_wp2_with fail
              refine (HL2.out _ oW.out bW.out.size).mono ?_
              rintro e W2 ⟨A2, c2, rfl, o2, b2⟩
              have HO2 := Lib.hid o2
              have HB2 := Lib.hid (bW.out.trans b2)
              have HMg := Lib.hid (HG.out)
              clear o2 b2 HL2 oW bW
              go_wp2
              try rw [Exit.noGoto_next]
              exact ⟨⟨i, j + 1, _, A2, c2, by omega, by omega, rfl, rfl, rfl, HO2, HB2, HMg⟩, by simp only [intOf]; omega⟩
            · have HG := Lib.hid (HG1.out rfl)
              clear D0' D1' D2' HG1 HG2 HQ
              have oW := Lib.hid ((own_below (w := wr.drew) ho.out b1 (Nat.le_refl _)))
              have bW := Lib.hid ((hb.out.drew.trans (Below.mono b1 hbs)))
              have HL2 := Lib.hid (fun W' (h : W'.ownsRow w.heap.size 50 3 (.slice Ao m co) m (sps out)) (h' : w.heap.size ≤ W'.heap.size) => lay_any w.heap.size Ao co m out HM.out (x0, x1, x2) (by exact HX1.out) W' h' (HM.out.symm ▸ h) (by omega))
              go_wp2_with fail
              refine (HL2.out _ oW.out bW.out.size).mono ?_
              rintro e W2 ⟨A2, c2, rfl, o2, b2⟩
              have HO2 := Lib.hid o2
              have HB2 := Lib.hid (bW.out.trans b2)
              have HMg := Lib.hid (HG.out)
              clear o2 b2 HL2 oW bW
              go_wp2
              try rw [Exit.noGoto_next]
              exact ⟨⟨i + 1, j, _, A2, c2, by omega, by omega, rfl, rfl, rfl, HO2, HB2, HMg⟩, by simp only [intOf]; omega⟩
        · have hi2 : i = n := by omega
          have g1 : decide ((i : Int) < (n : Int)) = false := decide_eq_false (by omega)
          by_cases hj : j < n'
          · have r3 : (j : Int) < (n' : Int) := by omega
            have g3 : decide ((j : Int) < (n' : Int)) = true := decide_eq_true r3
            obtain ⟨⟨y0, y1, y2⟩, hy⟩ : ∃ y, b.getD j (0, 0, 0) = y := ⟨_, rfl⟩
            have hyo := fine_getD hFb (by omega) hy
            have HY1 : Hid (1 ≤ y1 ∧ y1 ≤ 9223372036854775807) := Lib.hid ⟨hyo.2.2.1, by have := hyo.2.2.2; simp only at this; omega⟩
            obtain ⟨b0', off', rfl, hbB', d0', d1', d2'⟩ := ss_at HR'.out hnb hb.out hj hy
            simp only at d0' d1' d2'
            have HG := Lib.hid (merging_right hFa hFb (by omega) hy hm.out (.inl (by omega)))
            clear hFa hFb hna hnb hm hyo hy HR HR' HA HN HL HE hi2
            go_wp2
            go_quiet (fail)
            have D0' := (World.cell?_drewN wr nq _).trans d0'
            have D1' := (World.cell?_drewN wr nq _).trans d1'
            have D2' := (World.cell?_drewN wr nq _).trans d2'
            have oW := Lib.hid ((show (wr.drewN nq).ownsRow _ _ _ _ _ _ from ho.out))
            have bW := Lib.hid ((hb.out.trans (below_drewN _ nq _)))
            have HL2 := Lib.hid (fun W' (h : W'.ownsRow w.heap.size 50 3 (.slice Ao m co) m (sps out)) (h' : w.heap.size ≤ W'.heap.size) => lay_any w.heap.size Ao co m out HM.out (y0, y1, y2) (by exact HY1.out) W' h' (HM.out.symm ▸ h) (by omega))
            go_wp2_with fail
            refine (HL2.out _ oW.out bW.out.size).mono ?_
            rintro e W2 ⟨A2, c2, rfl, o2, b2⟩
            have HO2 := Lib.hid o2
            have HB2 := Lib.hid (bW.out.trans b2)
            have HMg := Lib.hid (HG.out)
            clear o2 b2 HL2 oW bW
            go_wp2
            try rw [Exit.noGoto_next]
            exact ⟨⟨i, j + 1, _, A2, c2, by omega, by omega, rfl, rfl, rfl, HO2, HB2, HMg⟩, by simp only [intOf]; omega⟩
          · have hj2 : j = n' := by omega
            have g3 : decide ((j : Int) < (n' : Int)) = false := decide_eq_false (by omega)
            have hE := merging_end (a := a) (b := b) (out := out) (by rw [hna, hnb]; rw [← hi2, ← hj2]; exact hm.out)
            clear hFa hFb hna hnb hm
            by_cases hlong : 1024 < m
            · have hw := join_long HA.out.1 HA.out.2 hE.1 (by rw [HM.out]; exact hlong)
              have HW := Lib.hid (And.intro (HL.out.symm.trans hw.2) (HE.out.symm.trans hw.1))
              have HB := Lib.hid (hb.out.trans (below_drewN _ _ _) : Below w.heap.size w (wr.drewN 1))
              clear HR HR' HA HN HL HE hi2 hj2 hE hw
              go_wp2
              go_quiet (fail)
              go_wp2
              try rw [Exit.noGoto_ret]
              go_ret2
              rw [HW.out.1, HW.out.2]
              exact joinPost_nil _ _ _ (hb.out.trans (below_drewN _ _ _)) _ rfl
            · have hw := join_good HA.out.1 HA.out.2 hE.1 (by rw [HM.out]; omega)
              have HW := Lib.hid (And.intro (HL.out.symm.trans hw.2) (HE.out.symm.trans hw.1))
              clear HR HR' HA HN HL HE hi2 hj2 hE hw
              go_wp2
              go_quiet (fail)
              go_wp2
              try rw [Exit.noGoto_ret]
              go_ret2
              rw [HW.out.1, HW.out.2]
              exact ⟨Ao, co, by rw [HM.out]; rfl, by rw [HM.out]; exact ho.out, hb.out.trans (below_drewN _ _ _)⟩
end Span
end Go.Proofs.Ytpgpeigaoonpcac
