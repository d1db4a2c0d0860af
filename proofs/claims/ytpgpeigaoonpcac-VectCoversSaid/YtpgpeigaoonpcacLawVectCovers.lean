/-
  VectCovers (P4.1, P4.2, P4.4): a vector stands for all dots up to its counts: it covers a dot, holds a set, and is joined, as those sets are. For every input.
-/
import Derived.Test.YtpgpeigaoonpcacVectCovers
import Derived.Test.YtpgpeigaoonpcacSpanLooks
import Derived.Test.YtpgpeigaoonpcacVectRow
namespace Go.Proofs.Ytpgpeigaoonpcac
namespace VectCovers
open Go.ChangeShapes Go.WideShapes Go.ChangeAt Go.RowKit Span Vect
attribute [local go_sem ↓] Go.wp_at_zero Go.wp_at_succ

theorem got_read {base : Nat} {L : List Sp} {k : Nat} (hk : L.length = k) (w : World) (e : Ending) (w' : World) (h : GotSs base L w e w') :
    ∃ A c, e = .returned (.slice A k c) ∧ Ss w' w'.heap.size A L ∧ Below base w w' := by
  obtain ⟨A, c, rfl, o, b⟩ := h
  exact ⟨A, c, by rw [hk], own_ss o, b⟩
theorem post_read {L : List Sp} {E : Int} {k : Nat} (hk : L.length = k) (w : World) (e : Ending) (w' : World) (h : JoinPost L E w e w') :
    ∃ A c, e = .returned (.tuple #[.slice A k c, .int .i64 E]) ∧ Ss w' w'.heap.size A L ∧ Below w.heap.size w w' := by
  obtain ⟨A, c, rfl, o, b⟩ := h
  exact ⟨A, c, by rw [hk], own_ss o, b⟩

/-- What the law's region holds on to: the dot's box, and all that lay ahead of it. -/
def Held (B : Nat) (W : World) (s n : Int) (X : World) : Prop := X.cell? ⟨B, 0, none⟩ = some (.int .i64 s) ∧ X.cell? ⟨B, 1, none⟩ = some (.int .i64 n) ∧ Below W.heap.size W X ∧ B < X.heap.size
theorem held_keep {B : Nat} {W X X' : World} {s n : Int} (hb : Below X.heap.size X X') (h : Held B W s n X) : Held B W s n X' :=
  ⟨cell_below hb h.2.2.2 h.1, cell_below hb h.2.2.2 h.2.1, h.2.2.1.trans (hb.mono h.2.2.1.size), Nat.lt_of_lt_of_le h.2.2.2 hb.size⟩
theorem held_below {B : Nat} {W X : World} {s n : Int} (h : Held B W s n X) : Below W.heap.size W X := h.2.2.1

set_option maxHeartbeats 4000000 in
set_option maxRecDepth 100000 in
theorem walk (w : World) (A : Option Addr) (c : Nat) (a : List Int) (hr : Ns .i64 w w.heap.size A a) (_hwf : ∀ z ∈ a, -9223372036854775808 ≤ z ∧ z ≤ 9223372036854775807) (hbig : a.length * 8 ≤ 140737488351232) (_hlc : a.length ≤ c)
    (A' : Option Addr) (c' : Nat) (b : List Int) (hr' : Ns .i64 w w.heap.size A' b) (_hwf' : ∀ z ∈ b, -9223372036854775808 ≤ z ∧ z ≤ 9223372036854775807) (hbig' : b.length * 8 ≤ 140737488351232) (_hlc' : b.length ≤ c')
    (s n : Int) (_hs : -9223372036854775808 ≤ s ∧ s ≤ 9223372036854775807) (_hn : -9223372036854775808 ≤ n ∧ n ≤ 9223372036854775807) :
    Calls Try.prog 3 #[.slice A a.length c, .slice A' b.length c', .agg #[.int .i64 s, .int .i64 n]] w fun e w' => e = .returned (.bool true) ∧ Below w.heap.size w w' := by
  have hS : ∀ W, Below w.heap.size w W → Ns .i64 W W.heap.size A a ∧ Ns .i64 W W.heap.size A' b := fun W h => ⟨(hr.below h).more h.size, (hr'.below h).more h.size⟩
  have h1 := fun W h => ref_right_v A c a.length a rfl W (hS W h).1 (by omega)
  have h2 := fun W h => ref_right_v A' c' b.length b rfl W (hS W h).2 (by omega)
  have HA := Lib.hid (fun W => awake_v W)
  have hb1 := (Below.refl w.heap.size w).alloc (Nat.le_refl _) (.cells #[.int .i64 s, .int .i64 n] 24)
  have q0 : (w.alloc (.cells #[.int .i64 s, .int .i64 n] 24)).cell? ⟨w.heap.size, 0, none⟩ = some (.int .i64 s) := by simp
  have q1 : (w.alloc (.cells #[.int .i64 s, .int .i64 n] 24)).cell? ⟨w.heap.size, 1, none⟩ = some (.int .i64 n) := by simp
  have sA : w.heap.size < (w.alloc (.cells #[.int .i64 s, .int .i64 n] 24)).heap.size := by simp
  obtain ⟨W, hW⟩ : ∃ W, w.alloc (.cells #[.int .i64 s, .int .i64 n] 24) = W := ⟨_, rfl⟩
  rw [hW] at hb1 q0 q1 sA
  by_cases ra : RightV a
  · rw [decide_eq_true ra] at h1
    by_cases rb : RightV b
    · rw [decide_eq_true rb] at h2
      by_cases hl : a.length = b.length
      · have rm := max_right ra rb hl
        have rx := set_right ra
        have ry := set_right rb
        have rj := set_right rm
        have hj := set_join ra rb hl
        have ha16 := ra.2.1
        have hxl : (setV a).length ≤ 1024 := rx.1
        have hyl : (setV b).length ≤ 1024 := ry.1
        have hjl : (setV (maxV a b)).length ≤ 1024 := rj.1
        have hvj := vj_good ⟨ra, rb, hl⟩
        have h3 := fun W h => set_any A c a.length a rfl W (hS W h).1 (by omega)
        have h4 := fun W h => set_any A' c' b.length b rfl W (hS W h).2 (by omega)
        have h5 := fun W h => vjoin_any A A' c c' a.length b.length a b rfl rfl W (hS W h).1 (hS W h).2 (by omega) (by omega)
        rw [hvj.1, hvj.2] at h5
        have h6 := fun AX AY cX cY W h h' => join_any AX AY cX cY (setV a).length (setV b).length (setV a) (setV b) rfl rfl W h h' (by omega) (by omega)
        rw [hj.1, hj.2] at h6
        have h7 := fun AX cX W h => right_any AX cX (setV a).length (setV a) rfl W h (by omega)
        rw [decide_eq_true rx] at h7
        have h8 := fun W h => covers_any A c a.length a rfl s n W (hS W h).1 (by omega)
        have h9 := fun AX cX W h => has_any AX cX (setV a) s n W h (by omega)
        rw [set_has ra] at h9
        have hml : (maxV a b).length ≤ 16 := rm.2.1
        have h10 := fun AJ cJ W h => set_any AJ cJ (maxV a b).length (maxV a b) rfl W h (by omega)
        have h11 := fun A1 A2 c1 c2 W h h' => same_any A1 A2 c1 c2 (setV (maxV a b)).length (setV (maxV a b)).length (setV (maxV a b)) (setV (maxV a b)) rfl rfl W h h' (by omega) (by omega)
        rw [show decide (setV (maxV a b) = setV (maxV a b)) = true from decide_eq_true rfl] at h11
        have h12 := fun AY cY W h hy => holds_any A AY c cY a.length (setV b).length a (setV b) rfl rfl W (hS W h).1 hy (by omega) (by omega)
        rw [holds_within ra rb] at h12
        have h13 := fun AX AY cX cY W h h' => within_any AY AX cY cX (setV b).length (setV a).length (setV b) (setV a) rfl rfl W h' h (by omega) (by omega)
        have h14 := fun AJ AY cJ cY W h hy => holds_any AJ AY cJ cY (maxV a b).length (setV b).length (maxV a b) (setV b) rfl rfl W h hy (by omega) (by omega)
        rw [holds_max ra rb hl] at h14
        have h15 := fun W h => vbelow_any A A' c c' a.length b.length a b rfl rfl W (hS W h).1 (hS W h).2 (by omega) (by omega)
        rw [below_within ra rb hl] at h15
        have h16 := fun AX AY cX cY W h h' => within_any AX AY cX cY (setV a).length (setV b).length (setV a) (setV b) rfl rfl W h h' (by omega) (by omega)
        obtain ⟨m, hm⟩ : ∃ m, a.length = m := ⟨_, rfl⟩
        have hm' : b.length = m := by omega
        have hmm : (maxV a b).length = m := by rw [max_len]; exact hm
        obtain ⟨kx, hkx⟩ : ∃ k, (setV a).length = k := ⟨_, rfl⟩
        obtain ⟨ky, hky⟩ : ∃ k, (setV b).length = k := ⟨_, rfl⟩
        obtain ⟨kj, hkj⟩ : ∃ k, (setV (maxV a b)).length = k := ⟨_, rfl⟩
        have HGx := Lib.hid (fun b' => got_read (base := b') hkx)
        have HGy := Lib.hid (fun b' => got_read (base := b') hky)
        have HGj := Lib.hid (fun b' => got_read (base := b') hkj)
        have HJs := Lib.hid (post_read (E := 0) hkj)
        have HJv := Lib.hid (vpost_read (E := 0) hmm)
        obtain ⟨X, hX⟩ : ∃ X, setV a = X := ⟨_, rfl⟩
        obtain ⟨Y, hY⟩ : ∃ X, setV b = X := ⟨_, rfl⟩
        obtain ⟨J, hJ⟩ : ∃ X, setV (maxV a b) = X := ⟨_, rfl⟩
        obtain ⟨V, hV⟩ : ∃ X, maxV a b = X := ⟨_, rfl⟩
        rw [hm] at h1 h3 h5 h8 h12 h15 ⊢
        rw [hm'] at h2 h4 h5 h15 ⊢
        rw [hmm] at h10 h14
        rw [hkx] at h6 h7 h9 h13 h16
        rw [hky] at h6 h12 h13 h14 h16
        rw [hkj] at h11
        rw [hX] at h3 h6 h7 h9 h12 h13 h15 h16 HGx
        rw [hY] at h4 h6 h12 h13 h14 h15 h16 HGy
        rw [hJ] at h6 h10 h11 HGj HJs
        rw [hV] at h5 h10 h14 HJv
        obtain ⟨Q1, hQ1⟩ : ∃ Q, withinF Y X = Q := ⟨_, rfl⟩
        obtain ⟨Q2, hQ2⟩ : ∃ Q, withinF X Y = Q := ⟨_, rfl⟩
        obtain ⟨Q3, hQ3⟩ : ∃ Q, decide (CoversV a s n) = Q := ⟨_, rfl⟩
        rw [hQ1] at h12 h13
        rw [hQ2] at h15 h16
        rw [hQ3] at h8 h9
        have H1 := Lib.hid h1
        have H2 := Lib.hid h2
        have H3 := Lib.hid h3
        have H4 := Lib.hid h4
        have H5 := Lib.hid h5
        have H6 := Lib.hid h6
        have H7 := Lib.hid h7
        have H8 := Lib.hid h8
        have H9 := Lib.hid h9
        have H10 := Lib.hid h10
        have H11 := Lib.hid h11
        have H12 := Lib.hid h12
        have H13 := Lib.hid h13
        have H14 := Lib.hid h14
        have H15 := Lib.hid h15
        have H16 := Lib.hid h16
        clear h1 h2 h3 h4 h5 h6 h7 h8 h9 h10 h11 h12 h13 h14 h15 h16 hX hY hJ hV hQ1 hQ2 hQ3 hkx hky hkj hmm hm hm' hvj hj rm rx ry rj ra rb hl ha16 hxl hyl hjl hml hr hr' hbig hbig' hS
        go_enter Try.func3, Try.ntmps3
        go_wp2_with fail
        refine (HA.out W).mono ?_
        rintro e w1 ⟨rfl, b1⟩
        have hb2 := hb1.trans (b1.mono hb1.size)
        have hq2 := b1
        go_wp2_with fail
        refine (H1.out w1 hb2).mono ?_
        rintro e w2 ⟨rfl, b2⟩
        have hb3 := hb2.trans (b2.mono hb2.size)
        have hq3 := hq2.trans (b2.mono hq2.size)
        clear b2 hb2 hq2 b1
        go_wp2_with fail
        refine (H2.out w2 hb3).mono ?_
        rintro e w3 ⟨rfl, b3⟩
        have hb4 := hb3.trans (b3.mono hb3.size)
        have hq4 := hq3.trans (b3.mono hq3.size)
        clear b3 hb3 hq3
        go_wp2_with fail
        refine (H3.out w3 hb4).mono ?_
        intro e w4 hp
        obtain ⟨A4, c4, rfl, n4, b4⟩ := HGx.out _ _ _ _ hp
        have hb5 := hb4.trans (b4.mono hb4.size)
        have hq5 := hq4.trans (b4.mono hq4.size)
        clear hp b4 hb4 hq4
        go_wp2_with fail
        refine (H4.out w4 hb5).mono ?_
        intro e w5 hp
        obtain ⟨A5, c5, rfl, n5, b5⟩ := HGy.out _ _ _ _ hp
        have n4b := (n4.below b5).more b5.size
        have hb6 := hb5.trans (b5.mono hb5.size)
        have hq6 := hq5.trans (b5.mono hq5.size)
        clear hp b5 hb5 hq5 n4
        go_wp2_with fail
        refine (H5.out w5 hb6).mono ?_
        intro e w6 hp
        obtain ⟨A6, c6, rfl, n6, b6⟩ := HJv.out _ _ _ hp
        have n4c := (n4b.below b6).more b6.size
        have n5c := (n5.below b6).more b6.size
        have hb7 := hb6.trans (b6.mono hb6.size)
        have hq7 := hq6.trans (b6.mono hq6.size)
        clear hp b6 hb6 hq6 n4b n5
        go_wp2_with fail
        refine (H6.out A4 A5 c4 c5 w6 n4c n5c).mono ?_
        intro e w7 hp
        obtain ⟨A7, c7, rfl, n7, b7⟩ := HJs.out _ _ _ hp
        have n4d := Lib.hid ((n4c.below b7).more b7.size)
        have n5d := Lib.hid ((n5c.below b7).more b7.size)
        have n6d := Lib.hid ((n6.below b7).more b7.size)
        have n7d := Lib.hid n7
        have hb8 := Lib.hid (hb7.trans (b7.mono hb7.size))
        have hq8 := hq7.trans (b7.mono hq7.size)
        clear hp b7 hb7 hq7 n4c n5c n6 n7
        have hst : Held w.heap.size w7 s n w7.drew := ⟨cell_below hq8.drew sA q0, cell_below hq8.drew sA q1, (Below.refl _ w7).drew, Nat.lt_of_lt_of_le sA hq8.size⟩
        have G7 := Lib.hid (fun W' (h : Held w.heap.size w7 s n W') => H7.out A4 c4 W' ((n4d.out.below h.2.2.1).more h.2.2.1.size))
        have G8 := Lib.hid (fun W' (h : Held w.heap.size w7 s n W') => H8.out W' (hb8.out.trans (h.2.2.1.mono hb8.out.size)))
        have G9 := Lib.hid (fun W' (h : Held w.heap.size w7 s n W') => H9.out A4 c4 W' ((n4d.out.below h.2.2.1).more h.2.2.1.size))
        have G10 := Lib.hid (fun W' (h : Held w.heap.size w7 s n W') => (H10.out A6 c6 W' ((n6d.out.below h.2.2.1).more h.2.2.1.size)).mono (HGj.out W'.heap.size W'))
        have G11 := Lib.hid (fun A9 c9 W' (h : Held w.heap.size w7 s n W') (h' : Ss W' W'.heap.size A9 J) => H11.out A9 A7 c9 c7 W' h' ((n7d.out.below h.2.2.1).more h.2.2.1.size))
        clear H7 H8 H9 H10 H11 hq8 q0 q1 sA hb1 hW
        go_wp2
        go_region_held3 (fun X => X.cell? ⟨w.heap.size, 0, none⟩ = some (.int .i64 s) ∧ X.cell? ⟨w.heap.size, 1, none⟩ = some (.int .i64 n) ∧ Below w7.heap.size w7 X ∧ w.heap.size < X.heap.size) (first
            | exact hst
            | exact held_keep (by assumption) (by assumption))
          (first
            | (go_at_call 11; refine (G7.out _ (by assumption)).mono ?_; rintro e w8 ⟨rfl, b8⟩)
            | (go_at_call 12; refine (G8.out _ (by assumption)).mono ?_; rintro e w8 ⟨rfl, b8⟩)
            | (go_at_call 13; refine (G9.out _ (by assumption)).mono ?_; rintro e w8 ⟨rfl, b8⟩)
            | (go_at_call 8; refine (G10.out _ (by assumption)).mono ?_; rintro e w8 ⟨A9, c9, rfl, n9, b8⟩)
            | (go_at_call 14; refine (G11.out _ _ _ (by assumption) (by assumption)).mono ?_; rintro e w8 ⟨rfl, b8⟩))
        have hh : Held w.heap.size w7 s n w8 := by assumption
        have hk := hh.2.2.1
        have hb9 := hb8.out.trans (hk.mono hb8.out.size)
        have x8 := (n4d.out.below hk).more hk.size
        have y8 := (n5d.out.below hk).more hk.size
        have j8 := (n6d.out.below hk).more hk.size
        clear hh hk n9 G7 G8 G9 G10 G11 n4d n5d n6d n7d hst hb8
        go_wp2_with fail
        refine (H12.out A5 c5 w8 hb9 y8).mono ?_
        rintro e w9 ⟨rfl, b9⟩
        have x9 := (x8.below b9).more b9.size
        have y9 := (y8.below b9).more b9.size
        have j9 := (j8.below b9).more b9.size
        have hb10 := hb9.trans (b9.mono hb9.size)
        clear b9 x8 y8 j8 hb9
        go_wp2_with fail
        refine (H13.out A4 A5 c4 c5 w9 x9 y9).mono ?_
        rintro e w10 ⟨rfl, b10⟩
        have x10 := (x9.below b10).more b10.size
        have y10 := (y9.below b10).more b10.size
        have j10 := (j9.below b10).more b10.size
        have hb11 := hb10.trans (b10.mono hb10.size)
        clear b10 x9 y9 j9 hb10
        go_wp2_with fail
        refine (H14.out A6 A5 c6 c5 w10 j10 y10).mono ?_
        rintro e w11 ⟨rfl, b11⟩
        have x11 := (x10.below b11).more b11.size
        have y11 := (y10.below b11).more b11.size
        have hb12 := hb11.trans (b11.mono hb11.size)
        clear b11 x10 y10 j10 hb11
        go_wp2_with fail
        refine (H15.out w11 hb12).mono ?_
        rintro e w12 ⟨rfl, b12⟩
        have x12 := (x11.below b12).more b12.size
        have y12 := (y11.below b12).more b12.size
        have hb13 := hb12.trans (b12.mono hb12.size)
        clear b12 x11 y11 hb12
        go_wp2_with fail
        refine (H16.out A4 A5 c4 c5 w12 x12 y12).mono ?_
        rintro e w13 ⟨rfl, b13⟩
        have hb14 := hb13.trans (b13.mono hb13.size)
        clear b13 x12 y12 hb13
        go_wp2
        go_ret
        exact ⟨rfl, hb14⟩
      · have hne : ((a.length : Int) == (b.length : Int)) = false := by simp; omega
        obtain ⟨m, hm⟩ : ∃ m, a.length = m := ⟨_, rfl⟩
        obtain ⟨m', hm'⟩ : ∃ m, b.length = m := ⟨_, rfl⟩
        rw [hm] at h1 hne ⊢
        rw [hm'] at h2 hne ⊢
        have H1 := Lib.hid h1
        have H2 := Lib.hid h2
        clear h1 h2 hm hm' hl ra rb hr hr' hbig hbig' hS
        go_enter Try.func3, Try.ntmps3
        go_wp2_with fail
        refine (HA.out W).mono ?_
        rintro e w1 ⟨rfl, b1⟩
        have hb2 := hb1.trans (b1.mono hb1.size)
        clear b1
        go_wp2_with fail
        refine (H1.out w1 hb2).mono ?_
        rintro e w2 ⟨rfl, b2⟩
        have hb3 := hb2.trans (b2.mono hb2.size)
        clear b2 hb2
        go_wp2_with fail
        refine (H2.out w2 hb3).mono ?_
        rintro e w3 ⟨rfl, b3⟩
        have hb4 := hb3.trans (b3.mono hb3.size)
        clear b3 hb3
        go_wp2_with fail
        refine (HA.out w3).mono ?_
        rintro e w9 ⟨rfl, b9⟩
        have hb9 := hb4.trans (b9.mono hb4.size)
        go_wp2
        go_ret
        exact ⟨rfl, hb9⟩
    · rw [decide_eq_false rb] at h2
      obtain ⟨m, hm⟩ : ∃ m, a.length = m := ⟨_, rfl⟩
      obtain ⟨m', hm'⟩ : ∃ m, b.length = m := ⟨_, rfl⟩
      rw [hm] at h1 ⊢
      rw [hm'] at h2 ⊢
      have H1 := Lib.hid h1
      have H2 := Lib.hid h2
      clear h1 h2 hm hm' ra rb hr hr' hbig hbig' hS
      go_enter Try.func3, Try.ntmps3
      go_wp2_with fail
      refine (HA.out W).mono ?_
      rintro e w1 ⟨rfl, b1⟩
      have hb2 := hb1.trans (b1.mono hb1.size)
      clear b1
      go_wp2_with fail
      refine (H1.out w1 hb2).mono ?_
      rintro e w2 ⟨rfl, b2⟩
      have hb3 := hb2.trans (b2.mono hb2.size)
      clear b2 hb2
      go_wp2_with fail
      refine (H2.out w2 hb3).mono ?_
      rintro e w3 ⟨rfl, b3⟩
      have hb4 := hb3.trans (b3.mono hb3.size)
      clear b3 hb3
      go_wp2_with fail
      refine (HA.out w3).mono ?_
      rintro e w9 ⟨rfl, b9⟩
      have hb9 := hb4.trans (b9.mono hb4.size)
      go_wp2
      go_ret
      exact ⟨rfl, hb9⟩
  · rw [decide_eq_false ra] at h1
    obtain ⟨m, hm⟩ : ∃ m, a.length = m := ⟨_, rfl⟩
    rw [hm] at h1 ⊢
    have H1 := Lib.hid h1
    clear h1 h2 hm ra hr hr' hbig hbig' hS
    go_enter Try.func3, Try.ntmps3
    go_wp2_with fail
    refine (HA.out W).mono ?_
    rintro e w1 ⟨rfl, b1⟩
    have hb2 := hb1.trans (b1.mono hb1.size)
    clear b1
    go_wp2_with fail
    refine (H1.out w1 hb2).mono ?_
    rintro e w2 ⟨rfl, b2⟩
    have hb3 := hb2.trans (b2.mono hb2.size)
    clear b2 hb2
    go_wp2_with fail
    refine (HA.out w2).mono ?_
    rintro e w9 ⟨rfl, b9⟩
    have hb9 := hb3.trans (b9.mono hb3.size)
    go_wp2
    go_ret
    exact ⟨rfl, hb9⟩
-- ROW BEGIN
/-- What the walk gives, shut again. -/
theorem contract (H : Type) (enc : TypeId × Value → H) (W : World) (base : Nat) (args : Array Value) (ds gs : List (DataW H)) (before : List MemPlace)
    (hval : ∀ (j : Nat) t v, Try.f3.params[j]? = some t → args[j]? = some v → Value.okWide Try.prog W .any base t v)
    (hW : DataW.Whole enc Try.prog Try.f3.params.toList Rows.vectCoversSpec.vars false W args.toList ds gs before)
    (hsz : (DataW.weightsEach Try.prog (Try.f3.params.toList ++ Rows.vectCoversSpec.plain.varTypes Try.prog) (ds ++ gs)).all (· ≤ reachBytes) = true) :
    Calls Try.prog 3 args W fun e W' => ∃ v, e = .returned v ∧ Rows.vectCoversSpec.post enc Try.prog Try.f3 false true false false W args v W' := by
  have hW' := hW
  obtain ⟨p, q, hA0, hV, hbef, _, _⟩ := hW
  have hA : DataW.TrodAll enc Try.prog W 0 (fun _ => true) true Try.f3.params.toList args.toList ds p := hA0
  have hA1 := hA
  rw [Try.params3] at hA hval hsz
  obtain ⟨v0, vs0, d0, ds0, p0, q0, hargs, rfl, rfl, h0, r0⟩ := trodAll_cons hA
  obtain ⟨v1, vs1, d1, ds1, p1, q1, rfl, rfl, rfl, h1, r1⟩ := trodAll_cons r0
  obtain ⟨v2, vs2, d2, ds2, p2, q2, rfl, rfl, rfl, h2, r2⟩ := trodAll_cons r1
  obtain ⟨rfl, rfl, rfl⟩ := trodAll_nil r2
  obtain rfl : args = #[v0, v1, v2] := by cases args; simp_all
  obtain ⟨rfl, rfl⟩ := trodVars_none hV
  clear hA hargs
  obtain ⟨A0, c0, a0, rfl, n0, w0, l0, _, o0⟩ := open_ns Try.underlying22 Try.underlying2 Facts.cells2 (hval 0 22 v0 rfl rfl) h0
  have b0 := reach_ns hsz (j := 0) rfl rfl Try.underlying22 Facts.bytes2 l0 o0
  obtain ⟨A1, c1, a1, rfl, n1, w1, l1, _, o1⟩ := open_ns Try.underlying22 Try.underlying2 Facts.cells2 (hval 1 22 v1 rfl rfl) h1
  have b1 := reach_ns hsz (j := 1) rfl rfl Try.underlying22 Facts.bytes2 l1 o1
  obtain ⟨a2, z2, rfl, w2, x2⟩ := Span.open_dot Try.underlying24 (by kernel_rfl) Span.cells_dot Try.underlying3 Try.underlying2 (hval 2 24 v2 rfl rfl) h2
  refine (walk W A0 c0 a0 n0 (fun z hz => wf_int (w0 z hz)) (by omega) l0 A1 c1 a1 n1 (fun z hz => wf_int (w1 z hz)) (by omega) l1 a2 z2 (wf_int w2) (wf_int x2)).mono fun e W' ⟨he, hb⟩ => ?_
  subst he
  exact ⟨_, rfl, law_post Facts.laid (by rfl) Try.underlying4 (by rw [Try.params3]; decide +kernel) hW' hA1 rfl hbef rfl rfl rfl hb⟩

set_option maxRecDepth 100000 in
theorem lifted (os : Os) (started : os.Started) (H : Type) (enc : TypeId × Value → H) :
    ReturnsInHanded {} Try.checked os 3 .any (Rows.vectCoversSpec.pre6 enc Try.prog Try.f3 Rows.vectCoversRow.domain false) (Rows.vectCoversSpec.post enc Try.prog Try.f3 false true false false) := by
  refine returnsInHanded_of_change_sized (C := Try.checked) Facts.own started (by kernel_rfl) Try.func3
    (ChangeSpec.witness6 (enc := enc) (C := Try.checked) false ⟨#[], #[.slice none 0 0, .slice none 0 0, .agg #[.int .i64 0, .int .i64 0]], []⟩ 8 (by kernel_rfl) (by kernel_rfl) (by kernel_rfl) (by kernel_rfl)) ?_
  intro W base args ds gs before hval hW _ hsz _
  exact contract H enc W base args ds gs before hval hW hsz

theorem holds : Rows.VectCoversSaid :=
  OpenClaim.holds_of_wide 3 Try.f3 rfl rfl rfl rfl rfl rfl rfl ⟨rfl, rfl, rfl, rfl, rfl⟩ rfl rfl rfl rfl rfl (by kernel_rfl) Try.func3 (by kernel_rfl)
    (of_decide_eq_true (by kernel_rfl)) (by unfold Func.isWrapper; first | (rw [if_pos (by decide +kernel)]; kernel_rfl) | (rw [if_neg (by decide +kernel)]; exact ⟨rfl, rfl⟩))
    (fun os started H enc _ => lifted os started H enc)
-- ROW END
end VectCovers
end Go.Proofs.Ytpgpeigaoonpcac
