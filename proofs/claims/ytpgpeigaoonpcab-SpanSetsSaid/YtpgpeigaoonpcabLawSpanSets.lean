/-
  SpanSets (P3.4): spans are sets of dots: what is added and joined, in whatever order, has just the dots that were put in. For every input.
-/
import Derived.Test.YtpgpeigaoonpcabSpanAwake
import Derived.Test.YtpgpeigaoonpcabSpanWithin
import Derived.Test.YtpgpeigaoonpcabSpanDots
import Derived.Deep.DeepCutAuto
import Derived.Deep.CutBlock
namespace Go.Proofs.Ytpgpeigaoonpcab
namespace SpanSets
open Go.ChangeShapes Go.WideShapes Go.ChangeAt Go.RowKit Span
attribute [local go_sem ↓] Go.wp_at_zero Go.wp_at_succ

theorem post_read {L : List Sp} {E : Int} {k : Nat} (hk : L.length = k) (w : World) (e : Ending) (w' : World) (h : JoinPost L E w e w') :
    ∃ A c, e = .returned (.tuple #[.slice A k c, .int .i64 E]) ∧ Ss w' w'.heap.size A L ∧ Below w.heap.size w w' := by
  obtain ⟨A, c, rfl, o, b⟩ := h
  exact ⟨A, c, by rw [hk], own_ss o, b⟩
theorem laid_le {X : List Sp} {l : List (Int × Int)} {i j : Nat} (h : i ≤ j) (hl : Laid X l i) : Laid X l j := ⟨hl.1, hl.2.1, Nat.le_trans hl.2.2 h⟩
theorem within_self {a b : List Sp} (ha : Right a) (hb : Right b) (h : Sub a b) : withinF a b = true := within_yes ha hb ((sub_iff ha.2 hb.2).1 h)
theorem within_eq {a b c : List Sp} (ha : Right a) (hb : Right b) (hc : Right c) (h : Sub a c ↔ Sub b c) : withinF a c = withinF b c := by
  refine decide_eq_decide.2 ⟨fun h' => ⟨hb, hc, ?_⟩, fun h' => ⟨ha, hc, ?_⟩⟩
  · exact (sub_iff hb.2 hc.2).1 (h.1 ((sub_iff ha.2 hc.2).2 h'.2.2))
  · exact (sub_iff ha.2 hc.2).1 (h.2 ((sub_iff hb.2 hc.2).2 h'.2.2))

set_option maxHeartbeats 8000000 in
set_option maxRecDepth 100000 in
theorem walk (w : World) (A : Option Addr) (c : Nat) (a : List (Int × Int)) (hr : Ds w w.heap.size A a) (hbig : a.length * 16 ≤ 140737488351232) (_hlc : a.length ≤ c)
    (A' : Option Addr) (c' : Nat) (b : List (Int × Int)) (hr' : Ds w w.heap.size A' b) (hbig' : b.length * 16 ≤ 140737488351232) (_hlc' : b.length ≤ c')
    (s n : Int) (_hs : -9223372036854775808 ≤ s ∧ s ≤ 9223372036854775807) (_hn : -9223372036854775808 ≤ n ∧ n ≤ 9223372036854775807) :
    Calls Try.prog 8 #[.slice A a.length c, .slice A' b.length c', .agg #[.int .i64 s, .int .i64 n]] w fun e w' => e = .returned (.bool true) ∧ Below w.heap.size w w' := by
  obtain ⟨na, hna⟩ : ∃ m, a.length = m := ⟨_, rfl⟩
  obtain ⟨nb, hnb⟩ : ∃ m, b.length = m := ⟨_, rfl⟩
  have HNa := Lib.hid hna
  have HNb := Lib.hid hnb
  have HRa := Lib.hid hr
  have HRb := Lib.hid hr'
  rw [hna] at hbig ⊢
  rw [hnb] at hbig' ⊢
  have hw := Lib.hid ((Below.refl w.heap.size w).alloc (Nat.le_refl _) (.cells #[.int .i64 s, .int .i64 n] 33))
  have p0 : (w.alloc (.cells #[.int .i64 s, .int .i64 n] 33)).cell? ⟨w.heap.size, 0, none⟩ = some (.int .i64 s) := by simp
  have p1 : (w.alloc (.cells #[.int .i64 s, .int .i64 n] 33)).cell? ⟨w.heap.size, 1, none⟩ = some (.int .i64 n) := by simp
  have sA : (w.alloc (.cells #[.int .i64 s, .int .i64 n] 33)).heap.size = w.heap.size + 1 := by simp
  obtain ⟨W, hW⟩ : ∃ W, w.alloc (.cells #[.int .i64 s, .int .i64 n] 33) = W := ⟨_, rfl⟩
  rw [hW] at hw p0 p1 sA
  clear hr hr' hna hnb _hs _hn _hlc _hlc'
  go_enter Try.func8, Try.ntmps8
  go_wp2_with fail
  refine (awake_any W).mono ?_
  rintro e w0 ⟨rfl, b0⟩
  have HW0 := Lib.hid b0
  clear b0
  have hws : w.heap.size < W.heap.size := by omega
  go_upto_block 0 with fail
  go_cut [7, 10] (fun v qb wr => ∃ (i : Nat) (X : List Sp) (Ax : Option Addr) (cx : Nat) (u : Bool), v = .slice Ax X.length cx ∧ qb = .bool u ∧ Hid (Ss wr wr.heap.size Ax X) ∧ Hid (Below W.heap.size W wr) ∧ Hid (Laid X (a.take i) 500 ∧ u = (false || decide (dm (a.take i) (s, n)))))
  case first =>
    go_wp2_with fail
    go_loopw [7, 10, 11] (fun v qb q wr => ∃ (i : Nat) (X : List Sp) (Ax : Option Addr) (cx : Nat) (u : Bool), i ≤ na ∧ i ≤ 500 ∧ q = .int .i64 i ∧ v = .slice Ax X.length cx ∧ qb = .bool u ∧ Hid (Ss wr wr.heap.size Ax X) ∧ Hid (Below W.heap.size W wr) ∧ Hid (Laid X (a.take i) i ∧ u = (false || decide (dm (a.take i) (s, n))))) (fun _ _ q _ => na - (intOf q).toNat)
    case atStart => exact ⟨0, [], none, 0, false, by omega, by omega, rfl, rfl, rfl, Ss.nil _, HW0, Lib.hid ⟨laid_nil a, by simp [dm]⟩⟩
    case round =>
      obtain ⟨i, X, Ax, cx, u, hi1, hi5, rfl, rfl, rfl, hx, hb, hl⟩ := hrel
      obtain ⟨k, hkk⟩ : ∃ k, X.length = k := ⟨_, rfl⟩
      have HK := Lib.hid hkk
      have hk5 : k ≤ i := by rw [← hkk]; exact hl.out.1.2.2
      rw [hkk]
      clear hkk
      by_cases hlt : i < na
      · by_cases h500 : i < 500
        · obtain ⟨⟨y0, y1⟩, hy⟩ : ∃ y, a.getD i (0, 0) = y := ⟨_, rfl⟩
          have hi2 : i < a.length := by rw [HNa.out]; exact hlt
          obtain ⟨b0, off, rfl, hbB, d0, d1⟩ := ds_at HRa.out HNa.out (hw.out.trans (hb.out.mono hw.out.size)) hlt hy
          simp only at d0 d1
          have hbl : b0 < wr.heap.size := by have := hb.out.size; have := hw.out.size; omega
          have r0 : (0 : Int) ≤ (i : Int) := by omega
          have r1 : (i : Int) < (na : Int) := by omega
          by_cases hd : okDot (y0, y1)
          · obtain ⟨R, hE, hR, hL⟩ := laid_more hi2 hy hd (by omega) hl.out.1
            have hadd := fun W' h => add_any Ax cx k X HK.out y0 y1 W' h (by omega)
            rw [hE, hR] at hadd
            have HD := Lib.hid (refDot_yes y0 y1 hd)
            have HA := Lib.hid hadd
            have HQ : Hid ((false || decide (dm (a.take (i + 1)) (s, n))) = (u || decide ((s, n) = (y0, y1)))) := Lib.hid (by
              rw [hl.out.2, Bool.or_assoc]
              refine congrArg _ ?_
              rw [← Bool.decide_or]
              exact decide_eq_decide.2 ((dm_step hi2 hy _).trans (or_congr Iff.rfl ⟨fun h => h.1, fun h => ⟨h, hd⟩⟩)))
            have HL := Lib.hid hL
            have HP := Lib.hid (fun w e w' (h : JoinPost R 0 w e w') => post_read rfl w e w' h)
            clear hE hR hL hadd hd hl HK hy
            go_wp2_with fail
            refine (HD.out _).mono ?_
            rintro e w1 ⟨rfl, b1⟩
            have f0 := cell_below b1 hbl d0
            have f1 := cell_below b1 hbl d1
            have hb1 := Lib.hid (hb.out.trans (b1.mono hb.out.size))
            have hx1 := Lib.hid ((hx.out.below b1).more b1.size)
            have q0 := cell_below hb1.out (by show w.heap.size < W.heap.size; omega) p0
            have q1 := cell_below hb1.out (by show w.heap.size < W.heap.size; omega) p1
            have hs1 := hb1.out.size
            clear b1 hx hb d0 d1 HD
            cases u
            · by_cases e0 : y0 = s
              · by_cases e1 : y1 = n
                · have HU : Hid (true = (false || decide (dm (a.take (i + 1)) (s, n)))) := Lib.hid (by rw [HQ.out, e0, e1]; simp)
                  have g0 : (y0 == s) = true := by simp [e0]
                  have g1 : (y1 == n) = true := by simp [e1]
                  clear HQ e0 e1
                  go_wp2
                  go_quiet (fail)
                  obtain ⟨W5, hW5⟩ : ∃ W5, w1.drewN nq = W5 := ⟨_, rfl⟩
                  have f0' : W5.cell? ⟨b0, off + i * 2, none⟩ = some (.int .i64 y0) := by rw [← hW5]; exact (World.cell?_drewN w1 nq _).trans f0
                  have f1' : W5.cell? ⟨b0, off + i * 2 + 1, none⟩ = some (.int .i64 y1) := by rw [← hW5]; exact (World.cell?_drewN w1 nq _).trans f1
                  have hb5 : Hid (Below W.heap.size W W5) := Lib.hid (by rw [← hW5]; exact hb1.out.trans (below_drewN _ _ _))
                  have hx5 : Hid (Ss W5 W5.heap.size Ax X) := Lib.hid (by rw [← hW5]; exact hx1.out)
                  rw [hW5]
                  clear hW5 f0 f1 hb1 hx1 q0 q1
                  go_wp2_with fail
                  refine (HA.out W5 hx5.out).mono ?_
                  intro e w6 hp
                  obtain ⟨A6, c6, rfl, n6, b6⟩ := HP.out _ _ _ hp
                  have hb6 := Lib.hid (hb5.out.trans (b6.mono hb5.out.size))
                  have hn6 := Lib.hid n6
                  clear hp b6 n6 hb5 hx5 HA HP f0' f1'
                  go_wp2
                  exact ⟨⟨i + 1, R, A6, c6, true, by omega, by omega, rfl, rfl, rfl, hn6, hb6, Lib.hid ⟨HL.out, HU.out⟩⟩, by simp only [intOf]; omega⟩
                · have HU : Hid (false = (false || decide (dm (a.take (i + 1)) (s, n)))) := Lib.hid (by rw [HQ.out, e0]; simp; exact fun h => e1 h.symm)
                  have g0 : (y0 == s) = true := by simp [e0]
                  have g1 : (y1 == n) = false := by simp [e1]
                  clear HQ e0 e1
                  go_wp2
                  go_quiet (fail)
                  obtain ⟨W5, hW5⟩ : ∃ W5, w1.drewN nq = W5 := ⟨_, rfl⟩
                  have f0' : W5.cell? ⟨b0, off + i * 2, none⟩ = some (.int .i64 y0) := by rw [← hW5]; exact (World.cell?_drewN w1 nq _).trans f0
                  have f1' : W5.cell? ⟨b0, off + i * 2 + 1, none⟩ = some (.int .i64 y1) := by rw [← hW5]; exact (World.cell?_drewN w1 nq _).trans f1
                  have hb5 : Hid (Below W.heap.size W W5) := Lib.hid (by rw [← hW5]; exact hb1.out.trans (below_drewN _ _ _))
                  have hx5 : Hid (Ss W5 W5.heap.size Ax X) := Lib.hid (by rw [← hW5]; exact hx1.out)
                  rw [hW5]
                  clear hW5 f0 f1 hb1 hx1 q0 q1
                  go_wp2_with fail
                  refine (HA.out W5 hx5.out).mono ?_
                  intro e w6 hp
                  obtain ⟨A6, c6, rfl, n6, b6⟩ := HP.out _ _ _ hp
                  have hb6 := Lib.hid (hb5.out.trans (b6.mono hb5.out.size))
                  have hn6 := Lib.hid n6
                  clear hp b6 n6 hb5 hx5 HA HP f0' f1'
                  go_wp2
                  exact ⟨⟨i + 1, R, A6, c6, false, by omega, by omega, rfl, rfl, rfl, hn6, hb6, Lib.hid ⟨HL.out, HU.out⟩⟩, by simp only [intOf]; omega⟩
              · have HU : Hid (false = (false || decide (dm (a.take (i + 1)) (s, n)))) := Lib.hid (by rw [HQ.out]; simp; exact fun h => absurd h.symm e0)
                have g0 : (y0 == s) = false := by simp [e0]
                clear HQ e0
                go_wp2
                go_quiet (fail)
                obtain ⟨W5, hW5⟩ : ∃ W5, w1.drewN nq = W5 := ⟨_, rfl⟩
                have f0' : W5.cell? ⟨b0, off + i * 2, none⟩ = some (.int .i64 y0) := by rw [← hW5]; exact (World.cell?_drewN w1 nq _).trans f0
                have f1' : W5.cell? ⟨b0, off + i * 2 + 1, none⟩ = some (.int .i64 y1) := by rw [← hW5]; exact (World.cell?_drewN w1 nq _).trans f1
                have hb5 : Hid (Below W.heap.size W W5) := Lib.hid (by rw [← hW5]; exact hb1.out.trans (below_drewN _ _ _))
                have hx5 : Hid (Ss W5 W5.heap.size Ax X) := Lib.hid (by rw [← hW5]; exact hx1.out)
                rw [hW5]
                clear hW5 f0 f1 hb1 hx1 q0 q1
                go_wp2_with fail
                refine (HA.out W5 hx5.out).mono ?_
                intro e w6 hp
                obtain ⟨A6, c6, rfl, n6, b6⟩ := HP.out _ _ _ hp
                have hb6 := Lib.hid (hb5.out.trans (b6.mono hb5.out.size))
                have hn6 := Lib.hid n6
                clear hp b6 n6 hb5 hx5 HA HP f0' f1'
                go_wp2
                exact ⟨⟨i + 1, R, A6, c6, false, by omega, by omega, rfl, rfl, rfl, hn6, hb6, Lib.hid ⟨HL.out, HU.out⟩⟩, by simp only [intOf]; omega⟩
            · have HU : Hid (true = (false || decide (dm (a.take (i + 1)) (s, n)))) := Lib.hid (by rw [HQ.out]; rfl)
              clear HQ
              go_wp2
              go_quiet (fail)
              obtain ⟨W5, hW5⟩ : ∃ W5, w1.drewN nq = W5 := ⟨_, rfl⟩
              have f0' : W5.cell? ⟨b0, off + i * 2, none⟩ = some (.int .i64 y0) := by rw [← hW5]; exact (World.cell?_drewN w1 nq _).trans f0
              have f1' : W5.cell? ⟨b0, off + i * 2 + 1, none⟩ = some (.int .i64 y1) := by rw [← hW5]; exact (World.cell?_drewN w1 nq _).trans f1
              have hb5 : Hid (Below W.heap.size W W5) := Lib.hid (by rw [← hW5]; exact hb1.out.trans (below_drewN _ _ _))
              have hx5 : Hid (Ss W5 W5.heap.size Ax X) := Lib.hid (by rw [← hW5]; exact hx1.out)
              rw [hW5]
              clear hW5 f0 f1 hb1 hx1 q0 q1
              go_wp2_with fail
              refine (HA.out W5 hx5.out).mono ?_
              intro e w6 hp
              obtain ⟨A6, c6, rfl, n6, b6⟩ := HP.out _ _ _ hp
              have hb6 := Lib.hid (hb5.out.trans (b6.mono hb5.out.size))
              have hn6 := Lib.hid n6
              clear hp b6 n6 hb5 hx5 HA HP f0' f1'
              go_wp2
              exact ⟨⟨i + 1, R, A6, c6, true, by omega, by omega, rfl, rfl, rfl, hn6, hb6, Lib.hid ⟨HL.out, HU.out⟩⟩, by simp only [intOf]; omega⟩
          · have HD := Lib.hid (refDot_no y0 y1 hd)
            have HL := Lib.hid (laid_skip hi2 hy hd hl.out.1)
            have HU : Hid (u = (false || decide (dm (a.take (i + 1)) (s, n)))) := Lib.hid (by
              rw [hl.out.2]
              exact congrArg _ (decide_eq_decide.2 ((dm_step hi2 hy _).trans ⟨fun h => h.elim id fun h => absurd h.2 hd, .inl⟩).symm))
            clear hd hl hy
            go_wp2_with fail
            refine (HD.out _).mono ?_
            rintro e w1 ⟨rfl, b1⟩
            have hb1 := Lib.hid (hb.out.trans (b1.mono hb.out.size))
            have hx1 := Lib.hid ((hx.out.below b1).more b1.size)
            clear b1 hx hb d0 d1 HD
            go_wp2
            exact ⟨⟨i + 1, X, Ax, cx, u, by omega, by omega, rfl, by rw [HK.out], rfl, hx1, hb1, Lib.hid ⟨HL.out, HU.out⟩⟩, by simp only [intOf]; omega⟩
        · have HZ := Lib.hid (And.intro (laid_le (show i ≤ 500 by omega) hl.out.1) hl.out.2)
          clear hl
          go_wp2
          go_meet
          exact ⟨i, X, Ax, cx, u, by rw [HK.out], rfl, hx, hb, HZ⟩
      · have HZ := Lib.hid (And.intro (laid_le (show i ≤ 500 by omega) hl.out.1) hl.out.2)
        clear hl
        go_wp2
        go_meet
        exact ⟨i, X, Ax, cx, u, by rw [HK.out], rfl, hx, hb, HZ⟩
  case rest =>
    obtain ⟨i1, X1, A1, c1, u1, rfl, rfl, hx1, hb1, hl1⟩ := hcut
    obtain ⟨k1, hk1⟩ : ∃ k, X1.length = k := ⟨_, rfl⟩
    have HK1 := Lib.hid hk1
    have HW1 := hb1
    have hX1 := hx1
    rw [hk1]
    clear hk1 hb1 hx1 HW0
    go_upto_block 2 with fail
    go_cut [8, 10] (fun v qb wr => ∃ (i : Nat) (X : List Sp) (Ax : Option Addr) (cx : Nat) (u : Bool), v = .slice Ax X.length cx ∧ qb = .bool u ∧ Hid (Ss wr wr.heap.size Ax X) ∧ Hid (Below W.heap.size W wr) ∧ Hid (Laid X (b.take i) 500 ∧ u = (u1 || decide (dm (b.take i) (s, n)))) ∧ Hid (Ss wr wr.heap.size A1 X1))
    case first =>
      go_wp2_with fail
      go_loopw [8, 10, 12] (fun v qb q wr => ∃ (i : Nat) (X : List Sp) (Ax : Option Addr) (cx : Nat) (u : Bool), i ≤ nb ∧ i ≤ 500 ∧ q = .int .i64 i ∧ v = .slice Ax X.length cx ∧ qb = .bool u ∧ Hid (Ss wr wr.heap.size Ax X) ∧ Hid (Below W.heap.size W wr) ∧ Hid (Laid X (b.take i) i ∧ u = (u1 || decide (dm (b.take i) (s, n)))) ∧ Hid (Ss wr wr.heap.size A1 X1)) (fun _ _ q _ => nb - (intOf q).toNat)
      case atStart => exact ⟨0, [], none, 0, u1, by omega, by omega, rfl, rfl, rfl, Ss.nil _, HW1, Lib.hid ⟨laid_nil b, by simp [dm]⟩, hX1⟩
      case round =>
        obtain ⟨i, X, Ax, cx, u, hi1, hi5, rfl, rfl, rfl, hx, hb, hl, hkeep⟩ := hrel
        obtain ⟨k, hkk⟩ : ∃ k, X.length = k := ⟨_, rfl⟩
        have HK := Lib.hid hkk
        have hk5 : k ≤ i := by rw [← hkk]; exact hl.out.1.2.2
        rw [hkk]
        clear hkk
        by_cases hlt : i < nb
        · by_cases h500 : i < 500
          · obtain ⟨⟨y0, y1⟩, hy⟩ : ∃ y, b.getD i (0, 0) = y := ⟨_, rfl⟩
            have hi2 : i < b.length := by rw [HNb.out]; exact hlt
            obtain ⟨b0, off, rfl, hbB, d0, d1⟩ := ds_at HRb.out HNb.out (hw.out.trans (hb.out.mono hw.out.size)) hlt hy
            simp only at d0 d1
            have hbl : b0 < wr.heap.size := by have := hb.out.size; have := hw.out.size; omega
            have r0 : (0 : Int) ≤ (i : Int) := by omega
            have r1 : (i : Int) < (nb : Int) := by omega
            by_cases hd : okDot (y0, y1)
            · obtain ⟨R, hE, hR, hL⟩ := laid_more hi2 hy hd (by omega) hl.out.1
              have hadd := fun W' h => add_any Ax cx k X HK.out y0 y1 W' h (by omega)
              rw [hE, hR] at hadd
              have HD := Lib.hid (refDot_yes y0 y1 hd)
              have HA := Lib.hid hadd
              have HQ : Hid ((u1 || decide (dm (b.take (i + 1)) (s, n))) = (u || decide ((s, n) = (y0, y1)))) := Lib.hid (by
                rw [hl.out.2, Bool.or_assoc]
                refine congrArg _ ?_
                rw [← Bool.decide_or]
                exact decide_eq_decide.2 ((dm_step hi2 hy _).trans (or_congr Iff.rfl ⟨fun h => h.1, fun h => ⟨h, hd⟩⟩)))
              have HL := Lib.hid hL
              have HP := Lib.hid (fun w e w' (h : JoinPost R 0 w e w') => post_read rfl w e w' h)
              clear hE hR hL hadd hd hl HK hy
              go_wp2_with fail
              refine (HD.out _).mono ?_
              rintro e w1 ⟨rfl, b1⟩
              have f0 := cell_below b1 hbl d0
              have f1 := cell_below b1 hbl d1
              have hb1 := Lib.hid (hb.out.trans (b1.mono hb.out.size))
              have hx1 := Lib.hid ((hx.out.below b1).more b1.size)
              have q0 := cell_below hb1.out (by show w.heap.size < W.heap.size; omega) p0
              have q1 := cell_below hb1.out (by show w.heap.size < W.heap.size; omega) p1
              have hs1 := hb1.out.size
              have hkeep1 := Lib.hid ((hkeep.out.below b1).more b1.size)
              clear b1 hx hb d0 d1 HD
              cases u
              · by_cases e0 : y0 = s
                · by_cases e1 : y1 = n
                  · have HU : Hid (true = (u1 || decide (dm (b.take (i + 1)) (s, n)))) := Lib.hid (by rw [HQ.out, e0, e1]; simp)
                    have g0 : (y0 == s) = true := by simp [e0]
                    have g1 : (y1 == n) = true := by simp [e1]
                    clear HQ e0 e1
                    go_wp2
                    go_quiet (fail)
                    obtain ⟨W5, hW5⟩ : ∃ W5, w1.drewN nq = W5 := ⟨_, rfl⟩
                    have f0' : W5.cell? ⟨b0, off + i * 2, none⟩ = some (.int .i64 y0) := by rw [← hW5]; exact (World.cell?_drewN w1 nq _).trans f0
                    have f1' : W5.cell? ⟨b0, off + i * 2 + 1, none⟩ = some (.int .i64 y1) := by rw [← hW5]; exact (World.cell?_drewN w1 nq _).trans f1
                    have hb5 : Hid (Below W.heap.size W W5) := Lib.hid (by rw [← hW5]; exact hb1.out.trans (below_drewN _ _ _))
                    have hx5 : Hid (Ss W5 W5.heap.size Ax X) := Lib.hid (by rw [← hW5]; exact hx1.out)
                    have hkeep5 : Hid (Ss W5 W5.heap.size A1 X1) := Lib.hid (by rw [← hW5]; exact hkeep1.out)
                    rw [hW5]
                    clear hW5 f0 f1 hb1 hx1 q0 q1
                    go_wp2_with fail
                    refine (HA.out W5 hx5.out).mono ?_
                    intro e w6 hp
                    obtain ⟨A6, c6, rfl, n6, b6⟩ := HP.out _ _ _ hp
                    have hb6 := Lib.hid (hb5.out.trans (b6.mono hb5.out.size))
                    have hn6 := Lib.hid n6
                    have hkeep6 := Lib.hid ((hkeep5.out.below b6).more b6.size)
                    clear hp b6 n6 hb5 hx5 HA HP f0' f1'
                    go_wp2
                    exact ⟨⟨i + 1, R, A6, c6, true, by omega, by omega, rfl, rfl, rfl, hn6, hb6, Lib.hid ⟨HL.out, HU.out⟩, hkeep6⟩, by simp only [intOf]; omega⟩
                  · have HU : Hid (false = (u1 || decide (dm (b.take (i + 1)) (s, n)))) := Lib.hid (by rw [HQ.out, e0]; simp; exact fun h => e1 h.symm)
                    have g0 : (y0 == s) = true := by simp [e0]
                    have g1 : (y1 == n) = false := by simp [e1]
                    clear HQ e0 e1
                    go_wp2
                    go_quiet (fail)
                    obtain ⟨W5, hW5⟩ : ∃ W5, w1.drewN nq = W5 := ⟨_, rfl⟩
                    have f0' : W5.cell? ⟨b0, off + i * 2, none⟩ = some (.int .i64 y0) := by rw [← hW5]; exact (World.cell?_drewN w1 nq _).trans f0
                    have f1' : W5.cell? ⟨b0, off + i * 2 + 1, none⟩ = some (.int .i64 y1) := by rw [← hW5]; exact (World.cell?_drewN w1 nq _).trans f1
                    have hb5 : Hid (Below W.heap.size W W5) := Lib.hid (by rw [← hW5]; exact hb1.out.trans (below_drewN _ _ _))
                    have hx5 : Hid (Ss W5 W5.heap.size Ax X) := Lib.hid (by rw [← hW5]; exact hx1.out)
                    have hkeep5 : Hid (Ss W5 W5.heap.size A1 X1) := Lib.hid (by rw [← hW5]; exact hkeep1.out)
                    rw [hW5]
                    clear hW5 f0 f1 hb1 hx1 q0 q1
                    go_wp2_with fail
                    refine (HA.out W5 hx5.out).mono ?_
                    intro e w6 hp
                    obtain ⟨A6, c6, rfl, n6, b6⟩ := HP.out _ _ _ hp
                    have hb6 := Lib.hid (hb5.out.trans (b6.mono hb5.out.size))
                    have hn6 := Lib.hid n6
                    have hkeep6 := Lib.hid ((hkeep5.out.below b6).more b6.size)
                    clear hp b6 n6 hb5 hx5 HA HP f0' f1'
                    go_wp2
                    exact ⟨⟨i + 1, R, A6, c6, false, by omega, by omega, rfl, rfl, rfl, hn6, hb6, Lib.hid ⟨HL.out, HU.out⟩, hkeep6⟩, by simp only [intOf]; omega⟩
                · have HU : Hid (false = (u1 || decide (dm (b.take (i + 1)) (s, n)))) := Lib.hid (by rw [HQ.out]; simp; exact fun h => absurd h.symm e0)
                  have g0 : (y0 == s) = false := by simp [e0]
                  clear HQ e0
                  go_wp2
                  go_quiet (fail)
                  obtain ⟨W5, hW5⟩ : ∃ W5, w1.drewN nq = W5 := ⟨_, rfl⟩
                  have f0' : W5.cell? ⟨b0, off + i * 2, none⟩ = some (.int .i64 y0) := by rw [← hW5]; exact (World.cell?_drewN w1 nq _).trans f0
                  have f1' : W5.cell? ⟨b0, off + i * 2 + 1, none⟩ = some (.int .i64 y1) := by rw [← hW5]; exact (World.cell?_drewN w1 nq _).trans f1
                  have hb5 : Hid (Below W.heap.size W W5) := Lib.hid (by rw [← hW5]; exact hb1.out.trans (below_drewN _ _ _))
                  have hx5 : Hid (Ss W5 W5.heap.size Ax X) := Lib.hid (by rw [← hW5]; exact hx1.out)
                  have hkeep5 : Hid (Ss W5 W5.heap.size A1 X1) := Lib.hid (by rw [← hW5]; exact hkeep1.out)
                  rw [hW5]
                  clear hW5 f0 f1 hb1 hx1 q0 q1
                  go_wp2_with fail
                  refine (HA.out W5 hx5.out).mono ?_
                  intro e w6 hp
                  obtain ⟨A6, c6, rfl, n6, b6⟩ := HP.out _ _ _ hp
                  have hb6 := Lib.hid (hb5.out.trans (b6.mono hb5.out.size))
                  have hn6 := Lib.hid n6
                  have hkeep6 := Lib.hid ((hkeep5.out.below b6).more b6.size)
                  clear hp b6 n6 hb5 hx5 HA HP f0' f1'
                  go_wp2
                  exact ⟨⟨i + 1, R, A6, c6, false, by omega, by omega, rfl, rfl, rfl, hn6, hb6, Lib.hid ⟨HL.out, HU.out⟩, hkeep6⟩, by simp only [intOf]; omega⟩
              · have HU : Hid (true = (u1 || decide (dm (b.take (i + 1)) (s, n)))) := Lib.hid (by rw [HQ.out]; rfl)
                clear HQ
                go_wp2
                go_quiet (fail)
                obtain ⟨W5, hW5⟩ : ∃ W5, w1.drewN nq = W5 := ⟨_, rfl⟩
                have f0' : W5.cell? ⟨b0, off + i * 2, none⟩ = some (.int .i64 y0) := by rw [← hW5]; exact (World.cell?_drewN w1 nq _).trans f0
                have f1' : W5.cell? ⟨b0, off + i * 2 + 1, none⟩ = some (.int .i64 y1) := by rw [← hW5]; exact (World.cell?_drewN w1 nq _).trans f1
                have hb5 : Hid (Below W.heap.size W W5) := Lib.hid (by rw [← hW5]; exact hb1.out.trans (below_drewN _ _ _))
                have hx5 : Hid (Ss W5 W5.heap.size Ax X) := Lib.hid (by rw [← hW5]; exact hx1.out)
                have hkeep5 : Hid (Ss W5 W5.heap.size A1 X1) := Lib.hid (by rw [← hW5]; exact hkeep1.out)
                rw [hW5]
                clear hW5 f0 f1 hb1 hx1 q0 q1
                go_wp2_with fail
                refine (HA.out W5 hx5.out).mono ?_
                intro e w6 hp
                obtain ⟨A6, c6, rfl, n6, b6⟩ := HP.out _ _ _ hp
                have hb6 := Lib.hid (hb5.out.trans (b6.mono hb5.out.size))
                have hn6 := Lib.hid n6
                have hkeep6 := Lib.hid ((hkeep5.out.below b6).more b6.size)
                clear hp b6 n6 hb5 hx5 HA HP f0' f1'
                go_wp2
                exact ⟨⟨i + 1, R, A6, c6, true, by omega, by omega, rfl, rfl, rfl, hn6, hb6, Lib.hid ⟨HL.out, HU.out⟩, hkeep6⟩, by simp only [intOf]; omega⟩
            · have HD := Lib.hid (refDot_no y0 y1 hd)
              have HL := Lib.hid (laid_skip hi2 hy hd hl.out.1)
              have HU : Hid (u = (u1 || decide (dm (b.take (i + 1)) (s, n)))) := Lib.hid (by
                rw [hl.out.2]
                exact congrArg _ (decide_eq_decide.2 ((dm_step hi2 hy _).trans ⟨fun h => h.elim id fun h => absurd h.2 hd, .inl⟩).symm))
              clear hd hl hy
              go_wp2_with fail
              refine (HD.out _).mono ?_
              rintro e w1 ⟨rfl, b1⟩
              have hb1 := Lib.hid (hb.out.trans (b1.mono hb.out.size))
              have hx1 := Lib.hid ((hx.out.below b1).more b1.size)
              have hkeep1 := Lib.hid ((hkeep.out.below b1).more b1.size)
              clear b1 hx hb d0 d1 HD
              go_wp2
              exact ⟨⟨i + 1, X, Ax, cx, u, by omega, by omega, rfl, by rw [HK.out], rfl, hx1, hb1, Lib.hid ⟨HL.out, HU.out⟩, hkeep1⟩, by simp only [intOf]; omega⟩
          · have HZ := Lib.hid (And.intro (laid_le (show i ≤ 500 by omega) hl.out.1) hl.out.2)
            clear hl
            go_wp2
            go_meet
            exact ⟨i, X, Ax, cx, u, by rw [HK.out], rfl, hx, hb, HZ, hkeep⟩
        · have HZ := Lib.hid (And.intro (laid_le (show i ≤ 500 by omega) hl.out.1) hl.out.2)
          clear hl
          go_wp2
          go_meet
          exact ⟨i, X, Ax, cx, u, by rw [HK.out], rfl, hx, hb, HZ, hkeep⟩
    case rest =>
      obtain ⟨i2, X2, A2, c2, u2, rfl, rfl, hx2, hb2, hl2, hx1⟩ := hcut
      obtain ⟨k2, hk2⟩ : ∃ k, X2.length = k := ⟨_, rfl⟩
      have hk1 := HK1.out
      obtain ⟨U, e1, j1, e2, j2, rU, hU, rX, rY, hm⟩ := laid_join (d := (s, n)) hl1.out.1 hl2.out.1
      have hu : u2 = hasL U s n := by
        rw [hU, hl2.out.2, hl1.out.2, Bool.false_or, ← Bool.decide_or]
      have hlX : X1.length ≤ 500 := hl1.out.1.2.2
      have hlY : X2.length ≤ 500 := hl2.out.1.2.2
      have hlU : U.length ≤ 1024 := rU.1
      obtain ⟨kU, hkU⟩ : ∃ k, U.length = k := ⟨_, rfl⟩
      have sXU : Sub X1 U := fun t m h => (hm t m).2 (.inl h)
      have sYU : Sub X2 U := fun t m h => (hm t m).2 (.inr h)
      have hUX : withinF U X1 = withinF X2 X1 := within_eq rU rY rX ⟨fun h t m h' => h t m (sYU t m h'), fun h t m h' => ((hm t m).1 h').elim id (h t m)⟩
      have h1 := fun W' h h' => join_any A1 A2 c1 c2 X1.length X2.length X1 X2 rfl rfl W' h h' (by omega) (by omega)
      have h2 := fun W' h h' => join_any A2 A1 c2 c1 X2.length X1.length X2 X1 rfl rfl W' h h' (by omega) (by omega)
      rw [e1, j1] at h1
      rw [e2, j2] at h2
      have h3 := fun A A' c c' W' h h' => same_any A A' c c' U.length U.length U U rfl rfl W' h h' (by omega) (by omega)
      rw [show decide (U = U) = true from decide_eq_true rfl] at h3
      have h4 := fun A c W' h => right_any A c U.length U rfl W' h (by omega)
      rw [decide_eq_true rU] at h4
      have h5 := fun A c W' h => has_any A c U s n W' h (by omega)
      have h6 := fun A c W' h h' => within_any A1 A c1 c X1.length U.length X1 U rfl rfl W' h h' (by omega) (by omega)
      have h7 := fun A c W' h h' => within_any A2 A c2 c X2.length U.length X2 U rfl rfl W' h h' (by omega) (by omega)
      have h8 := fun A c W' h h' => within_any A A1 c c1 U.length X1.length U X1 rfl rfl W' h h' (by omega) (by omega)
      have h9 := fun W' h h' => within_any A2 A1 c2 c1 X2.length X1.length X2 X1 rfl rfl W' h h' (by omega) (by omega)
      rw [within_self rX rU sXU] at h6
      rw [within_self rY rU sYU] at h7
      rw [hUX] at h8
      obtain ⟨Q, hQ⟩ : ∃ Q, withinF X2 X1 = Q := ⟨_, rfl⟩
      rw [hQ] at h8 h9
      rw [← hu] at h5
      rw [hk1, hk2] at h1
      rw [hk1, hk2] at h2
      rw [hk1] at h6
      rw [hk2] at h7
      rw [hk1] at h8
      rw [hk1, hk2] at h9
      rw [hkU] at h3 h4 h5 h6 h7 h8
      have HJ := Lib.hid (post_read (E := 0) hkU)
      have H1 := Lib.hid h1
      have H2 := Lib.hid h2
      have H3 := Lib.hid h3
      have H4 := Lib.hid h4
      have H5 := Lib.hid h5
      have H6 := Lib.hid h6
      have H7 := Lib.hid h7
      have H8 := Lib.hid h8
      have H9 := Lib.hid h9
      have hbw := hw.out.trans (hb2.out.mono hw.out.size)
      have q0 := cell_below hb2.out (by show w.heap.size < W.heap.size; omega) p0
      have q1 := cell_below hb2.out (by show w.heap.size < W.heap.size; omega) p1
      have hsz : w.heap.size < wc.heap.size := by have := hb2.out.size; omega
      have n1 := hx1.out
      have n2 := hx2.out
      rw [hk2]
      clear h1 h2 h3 h4 h5 h6 h7 h8 h9 hU hu hlX hlY hlU hkU sXU sYU hUX hQ hk1 hk2 e1 j1 e2 j2 rU rX rY hm hl1 hl2 hb2 hx1 hx2 p0 p1 hW HRa HRb HW1 hX1
      go_wp2_with fail
      refine (H1.out wc n1 n2).mono ?_
      intro e w2 hp
      obtain ⟨A3, c3, rfl, n3, b2⟩ := HJ.out _ _ _ hp
      have n1b := (n1.below b2).more b2.size
      have n2b := (n2.below b2).more b2.size
      have hbw2 := hbw.trans (b2.mono hbw.size)
      have q0b := cell_below b2 hsz q0
      have q1b := cell_below b2 hsz q1
      have hsz2 := Nat.lt_of_lt_of_le hsz b2.size
      clear hp b2 n1 n2 hbw q0 q1 hsz
      go_wp2_with fail
      refine (H2.out w2 n2b n1b).mono ?_
      intro e w3 hp
      obtain ⟨A4, c4, rfl, n4, b3⟩ := HJ.out _ _ _ hp
      have n1c := (n1b.below b3).more b3.size
      have n2c := (n2b.below b3).more b3.size
      have n3c := (n3.below b3).more b3.size
      have hbw3 := hbw2.trans (b3.mono hbw2.size)
      have q0c := cell_below b3 hsz2 q0b
      have q1c := cell_below b3 hsz2 q1b
      have hsz3 := Nat.lt_of_lt_of_le hsz2 b3.size
      clear hp b3 n1b n2b n3 hbw2 q0b q1b hsz2
      go_wp2_with fail
      refine (H3.out A3 A4 c3 c4 w3 n3c n4).mono ?_
      rintro e w4 ⟨rfl, b4⟩
      have n1d := (n1c.below b4).more b4.size
      have n2d := (n2c.below b4).more b4.size
      have n3d := (n3c.below b4).more b4.size
      have hbw4 := hbw3.trans (b4.mono hbw3.size)
      have q0d := cell_below b4 hsz3 q0c
      have q1d := cell_below b4 hsz3 q1c
      have hsz4 := Nat.lt_of_lt_of_le hsz3 b4.size
      clear b4 n1c n2c n3c n4 hbw3 q0c q1c hsz3
      go_wp2_with fail
      refine (H4.out A3 c3 w4 n3d).mono ?_
      rintro e w5 ⟨rfl, b5⟩
      have n1e := (n1d.below b5).more b5.size
      have n2e := (n2d.below b5).more b5.size
      have n3e := (n3d.below b5).more b5.size
      have hbw5 := hbw4.trans (b5.mono hbw4.size)
      have q0e := cell_below b5 hsz4 q0d
      have q1e := cell_below b5 hsz4 q1d
      clear b5 n1d n2d n3d hbw4 q0d q1d hsz4
      go_wp2_with fail
      refine (H5.out A3 c3 w5 n3e).mono ?_
      rintro e w6 ⟨rfl, b6⟩
      have n1f := (n1e.below b6).more b6.size
      have n2f := (n2e.below b6).more b6.size
      have n3f := (n3e.below b6).more b6.size
      have hbw6 := hbw5.trans (b6.mono hbw5.size)
      clear b6 n1e n2e n3e hbw5 q0e q1e
      go_wp2_with fail
      refine (H6.out A3 c3 w6 n1f n3f).mono ?_
      rintro e w7 ⟨rfl, b7⟩
      have n1g := (n1f.below b7).more b7.size
      have n2g := (n2f.below b7).more b7.size
      have n3g := (n3f.below b7).more b7.size
      have hbw7 := hbw6.trans (b7.mono hbw6.size)
      clear b7 n1f n2f n3f hbw6
      go_wp2_with fail
      refine (H7.out A3 c3 w7 n2g n3g).mono ?_
      rintro e w8 ⟨rfl, b8⟩
      have n1h := (n1g.below b8).more b8.size
      have n2h := (n2g.below b8).more b8.size
      have n3h := (n3g.below b8).more b8.size
      have hbw8 := hbw7.trans (b8.mono hbw7.size)
      clear b8 n1g n2g n3g hbw7
      go_wp2_with fail
      refine (H8.out A3 c3 w8 n3h n1h).mono ?_
      rintro e w9 ⟨rfl, b9⟩
      have n1i := (n1h.below b9).more b9.size
      have n2i := (n2h.below b9).more b9.size
      have hbw9 := hbw8.trans (b9.mono hbw8.size)
      clear b9 n1h n2h n3h hbw8
      go_wp2_with fail
      refine (H9.out w9 n2i n1i).mono ?_
      rintro e w10 ⟨rfl, b10⟩
      have hbw10 := hbw9.trans (b10.mono hbw9.size)
      clear b10 n1i n2i hbw9
      go_wp2
      go_ret
      exact ⟨rfl, hbw10⟩
-- ROW BEGIN
/-- What the walk gives, shut again. -/
theorem contract (H : Type) (enc : TypeId × Value → H) (W : World) (base : Nat) (args : Array Value) (ds gs : List (DataW H)) (before : List MemPlace)
    (hval : ∀ (j : Nat) t v, Try.f8.params[j]? = some t → args[j]? = some v → Value.okWide Try.prog W .any base t v)
    (hW : DataW.Whole enc Try.prog Try.f8.params.toList Rows.spanSetsSpec.vars false W args.toList ds gs before)
    (hsz : (DataW.weightsEach Try.prog (Try.f8.params.toList ++ Rows.spanSetsSpec.plain.varTypes Try.prog) (ds ++ gs)).all (· ≤ reachBytes) = true) :
    Calls Try.prog 8 args W fun e W' => ∃ v, e = .returned v ∧ Rows.spanSetsSpec.post enc Try.prog Try.f8 false true false false W args v W' := by
  have hW' := hW
  obtain ⟨p, q, hA0, hV, hbef, _, _⟩ := hW
  have hA : DataW.TrodAll enc Try.prog W 0 (fun _ => true) true Try.f8.params.toList args.toList ds p := hA0
  have hA1 := hA
  rw [Try.params8] at hA hval hsz
  obtain ⟨v0, vs0, d0, ds0, p0, q0, hargs, rfl, rfl, h0, r0⟩ := trodAll_cons hA
  obtain ⟨v1, vs1, d1, ds1, p1, q1, rfl, rfl, rfl, h1, r1⟩ := trodAll_cons r0
  obtain ⟨v2, vs2, d2, ds2, p2, q2, rfl, rfl, rfl, h2, r2⟩ := trodAll_cons r1
  obtain ⟨rfl, rfl, rfl⟩ := trodAll_nil r2
  obtain rfl : args = #[v0, v1, v2] := by cases args; simp_all
  obtain ⟨rfl, rfl⟩ := trodVars_none hV
  clear hA hargs
  obtain ⟨A0, c0, a0, rfl, n0, l0, o0⟩ := Span.open_ds Try.underlying46 Try.underlying33 (by kernel_rfl) Span.cells_dot Try.underlying3 Try.underlying2 (hval 0 46 v0 rfl rfl) h0
  have b0 := Span.reach_ds hsz (j := 0) rfl rfl Try.underlying46 Span.bytes_dot l0 o0
  obtain ⟨A1, c1, a1, rfl, n1, l1, o1⟩ := Span.open_ds Try.underlying46 Try.underlying33 (by kernel_rfl) Span.cells_dot Try.underlying3 Try.underlying2 (hval 1 46 v1 rfl rfl) h1
  have b1 := Span.reach_ds hsz (j := 1) rfl rfl Try.underlying46 Span.bytes_dot l1 o1
  obtain ⟨a2, z2, rfl, w2, x2⟩ := Span.open_dot Try.underlying33 (by kernel_rfl) Span.cells_dot Try.underlying3 Try.underlying2 (hval 2 33 v2 rfl rfl) h2
  refine (walk W A0 c0 a0 n0 (by omega) l0 A1 c1 a1 n1 (by omega) l1 a2 z2 (wf_int w2) (wf_int x2)).mono fun e W' ⟨he, hb⟩ => ?_
  subst he
  exact ⟨_, rfl, law_post Facts.laid (by rfl) Try.underlying4 (by rw [Try.params8]; decide +kernel) hW' hA1 rfl hbef rfl rfl rfl hb⟩

set_option maxRecDepth 100000 in
theorem lifted (os : Os) (started : os.Started) (H : Type) (enc : TypeId × Value → H) :
    ReturnsInHanded {} Try.checked os 8 .any (Rows.spanSetsSpec.pre6 enc Try.prog Try.f8 Rows.spanSetsRow.domain false) (Rows.spanSetsSpec.post enc Try.prog Try.f8 false true false false) := by
  refine returnsInHanded_of_change_sized (C := Try.checked) Facts.own started (by kernel_rfl) Try.func8
    (ChangeSpec.witness6 (enc := enc) (C := Try.checked) false ⟨#[], #[.slice none 0 0, .slice none 0 0, .agg #[.int .i64 0, .int .i64 0]], []⟩ 8 (by kernel_rfl) (by kernel_rfl) (by kernel_rfl) (by kernel_rfl)) ?_
  intro W base args ds gs before hval hW _ hsz _
  exact contract H enc W base args ds gs before hval hW hsz

theorem holds : Rows.SpanSetsSaid :=
  OpenClaim.holds_of_wide 8 Try.f8 rfl rfl rfl rfl rfl rfl rfl ⟨rfl, rfl, rfl, rfl, rfl⟩ rfl rfl rfl rfl rfl (by kernel_rfl) Try.func8 (by kernel_rfl)
    (of_decide_eq_true (by kernel_rfl)) (by unfold Func.isWrapper; first | (rw [if_pos (by decide +kernel)]; kernel_rfl) | (rw [if_neg (by decide +kernel)]; exact ⟨rfl, rfl⟩))
    (fun os started H enc _ => lifted os started H enc)
-- ROW END
end SpanSets
end Go.Proofs.Ytpgpeigaoonpcab
