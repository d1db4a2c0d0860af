/-
  VersReplaces (P5.2): a write behind all versions of a set takes their place; what they were never comes back by merging. For every input.
-/
import Derived.Test.YthiiganfoecmnaaVersAwake
import Derived.Test.YthiiganfoecmnaaVersArgs
import Derived.Test.YthiiganfoecmnaaVersPastWalk
namespace Go.Proofs.Ythiiganfoecmnaa
namespace VersReplaces
open Go.ChangeShapes Go.WideShapes Go.ChangeAt Go.RowKit Span Vers
attribute [local go_sem ↓] Go.wp_at_zero Go.wp_at_succ

theorem merged_read {B : Nat} {v : Vr} (w : World) (e : Ending) (w' : World) (h : Merged B ([v], 0) w e w') :
    ∃ A c, e = .returned (.tuple #[.slice A 1 c, .int .i64 0]) ∧ 1 ≤ c ∧ Vs w' 0 w'.heap.size A [v] ∧ Below w.heap.size w w' := by
  obtain ⟨A, c, rfl, hc, o, b⟩ := h
  exact ⟨A, c, rfl, hc, o.less (Nat.zero_le _), b⟩

set_option maxRecDepth 100000 in
set_option maxHeartbeats 4000000 in
theorem walk (w : World) (A : Option Addr) (c : Nat) (a : List Vr) (hr : Vs w 0 w.heap.size A a) (hbig : a.length * 64 ≤ 140737488351232) (hlc : a.length ≤ c) (s : Int) (_hs : -9223372036854775808 ≤ s ∧ s ≤ 9223372036854775807) (val : ByteArray) (hv : val.size ≤ 140737488351232) :
    Calls Try.prog 6 #[.slice A a.length c, .int .i64 s, .string val] w fun e w' => e = .returned (.bool true) ∧ Below w.heap.size w w' := by
  have hS : ∀ W, Below w.heap.size w W → Vs W 0 W.heap.size A a := fun W h => (hr.below h).more h.size
  have hp := past_any A c a.length a rfl w hr (by omega)
  have h1 := fun A' c' (v : Vr) W h (hx : Vs W 0 W.heap.size A' [v]) (hc : 1 ≤ c') => merge_any A A' c c' a.length 1 a [v] rfl rfl hlc hc W (hS W h) hx (by omega) (by omega)
  have h2 := fun A' c' (v : Vr) W h (hx : Vs W 0 W.heap.size A' [v]) (hc : 1 ≤ c') => merge_any A' A c' c 1 a.length [v] a rfl rfl hc hlc W hx (hS W h) (by omega) (by omega)
  have h3 := fun A' c' (v : Vr) W h (hx : Vs W 0 W.heap.size A' [v]) (hc : 1 ≤ c') => lacks_any A A' c c' a.length 1 a [v] rfl rfl hlc hc W (hS W h) hx (by omega) (by omega)
  have h4 := fun A' c' (v : Vr) W h (hx : Vs W 0 W.heap.size A' [v]) (hc : 1 ≤ c') => lacks_any A' A c' c 1 a.length [v] a rfl rfl hc hlc W hx (hS W h) (by omega) (by omega)
  obtain ⟨m, hm⟩ : ∃ m, a.length = m := ⟨_, rfl⟩
  rw [hm] at hp h1 h2 h3 h4 ⊢
  have HP := Lib.hid hp
  have H1 := Lib.hid h1
  have H2 := Lib.hid h2
  have H3 := Lib.hid h3
  have H4 := Lib.hid h4
  obtain ⟨z, hz⟩ : ∃ z, val.size = z := ⟨_, rfl⟩
  have HZ := Lib.hid hz
  clear hp h1 h2 h3 h4 hS hr hm hbig hlc
  go_enter Try.func6, Try.ntmps6
  go_wp2_with fail
  refine HP.out.mono ?_
  rintro e w1 ⟨b1, hcase⟩
  have B1 := Lib.hid b1
  clear b1
  have hend : ∀ W, Below w.heap.size w W → Calls Try.prog 11 #[] W fun e w' => e = .returned (.bool true) ∧ Below w.heap.size w w' := fun W h => (awake_any W).mono fun e w' ⟨h1, h2⟩ => ⟨h1, h.trans (h2.mono h.size)⟩
  have HEND := Lib.hid hend
  clear hend
  rcases hcase with ⟨_, rfl⟩ | ⟨hr, p, hip, ⟨_, rfl⟩ | ⟨hshort, A1, c1, rfl, o1⟩⟩
  · go_wp2_with fail
    refine (HEND.out w1 B1.out).mono ?_
    rintro e w2 ⟨rfl, b2⟩
    have B2 := Lib.hid b2
    clear b2
    go_wp2_with fail
    refine (HEND.out w2 B2.out).mono ?_
    rintro e w3 ⟨rfl, b3⟩
    have B3 := Lib.hid b3
    clear b3
    go_wp2_with fail
    go_ret
    exact ⟨rfl, B3.out⟩
  · clear hr
    go_wp2_with fail
    refine (HEND.out w1 B1.out).mono ?_
    rintro e w2 ⟨rfl, b2⟩
    have B2 := Lib.hid b2
    clear b2
    go_wp2_with fail
    refine (HEND.out w2 B2.out).mono ?_
    rintro e w3 ⟨rfl, b3⟩
    have B3 := Lib.hid b3
    clear b3
    go_wp2_with fail
    go_ret
    exact ⟨rfl, B3.out⟩
  · have hpk : p.length ≤ 140737488355328 := by omega
    by_cases hin : 1 ≤ s ∧ s ≤ 16 ∧ z ≤ 256
    · obtain ⟨i0, i1, i2⟩ := hin
      have HK := Lib.hid (And.intro hr (And.intro hip (And.intro hshort o1)))
      obtain ⟨k, hk⟩ : ∃ k, p.length = k := ⟨_, rfl⟩
      have HKL := Lib.hid hk
      have hss : Ss w1 w1.heap.size A1 p := own_ss o1.out
      have hk1 : k ≤ c1 := by rw [← hk]; exact (own_len o1.out).2
      have HSS := Lib.hid hss
      have ht := fun W (h : Below w1.heap.size w1 W) => ref_top_any A1 c1 k p hk s W ((hss.below h).more h.size) (by omega)
      have htr := top_range hip.out.1 s
      obtain ⟨q, hq⟩ : ∃ q, topF p s = q := ⟨_, rfl⟩
      rw [hq] at ht htr
      have HQ := Lib.hid hq
      have HT := Lib.hid ht
      obtain ⟨q0, q1⟩ := htr
      rw [hk] at hshort ⊢
      clear hr hip o1 hk hss ht hq hpk
      go_wp2_with fail
      refine (awake_any w1).mono ?_
      rintro e w2 ⟨rfl, b2⟩
      have B2 := Lib.hid b2
      clear b2 HEND
      go_wp2_with fail
      refine (HT.out w2 B2.out).mono ?_
      rintro e w3 ⟨rfl, b3⟩
      have B3 := Lib.hid (B2.out.trans (b3.mono B2.out.size))
      clear b3
      by_cases hmax : q = 4611686018427387904
      · have BF := Lib.hid (B1.out.trans (B3.out.mono B1.out.size))
        subst hmax
        go_wp2_with fail
        go_ret
        exact ⟨rfl, BF.out⟩
      · have g0 : (q == 4611686018427387904) = false := by simpa using hmax
        obtain ⟨gone, hgone⟩ : ∃ g : Bool, decide (z = 1) = g := ⟨_, rfl⟩
        obtain ⟨vx, hvx⟩ : ∃ x : ByteArray, (if gone then ⟨#[]⟩ else val) = x := ⟨_, rfl⟩
        have HR := Lib.hid (replaces (gone := gone) (val := vx) HK.out.1 HK.out.2.1.out HK.out.2.2.1 ⟨i0, i1⟩ (by rw [HQ.out]; exact hmax) (by rw [← hvx]; split <;> first | exact Nat.zero_le _ | (rw [HZ.out]; exact i2)) (fun h => by rw [← hvx, if_pos h]))
        rw [HQ.out] at HR
        have HVX := Lib.hid hvx
        have HGO := Lib.hid hgone
        have hvl : vx.size ≤ 140737488355328 := by rw [← hvx]; split <;> first | exact Nat.zero_le _ | (rw [HZ.out]; omega)
        clear hvx hgone
        have tail : ∀ W, Below w1.heap.size w1 W → Vs (W.alloc (.cells #[.int .i64 s, .int .i64 (q + 1), .slice A1 k c1, .bool gone, .string vx] 28)) 0 (W.heap.size + 1) (some ⟨W.heap.size, 0, none⟩) [⟨s, q + 1, p, gone, vx⟩] := fun W h =>
          vs_lit1 W s (q + 1) p gone vx A1 k c1 HKL.out ⟨(HSS.out.below h).more h.size, by show p.length ≤ c1; rw [HKL.out]; exact hk1, by show p.length ≤ _; rw [HKL.out]; omega, hvl, fun _ _ _ => Nat.zero_le _⟩
        have TL := Lib.hid (tail w3 B3.out)
        clear tail hvl
        obtain rfl | rfl : gone = false ∨ gone = true := by cases gone <;> simp
        · have hz1 : ¬ z = 1 := of_decide_eq_false HGO.out
          have hv : vx = val := by have h := HVX.out; simpa using h.symm
          subst hv
          have g1 : ((z : Int) == 1) = false := by simp; omega
          go_wp2_with fail
          have hv4 := TL.out
          have hb4 : Below w1.heap.size w1 (w3.alloc (.cells #[.int .i64 s, .int .i64 (q + 1), .slice A1 k c1, .bool false, .string vx] 28)) := B3.out.alloc B3.out.size _
          have hs4 : (w3.alloc (.cells #[.int .i64 s, .int .i64 (q + 1), .slice A1 k c1, .bool false, .string vx] 28)).heap.size = w3.heap.size + 1 := by simp
          obtain ⟨ab, hab⟩ : ∃ b, w3.heap.size = b := ⟨_, rfl⟩
          obtain ⟨W4, hW4⟩ : ∃ W, w3.alloc (.cells #[.int .i64 s, .int .i64 (q + 1), .slice A1 k c1, .bool false, .string vx] 28) = W := ⟨_, rfl⟩
          rw [hW4, hab] at hv4
          rw [hW4] at hb4 hs4
          rw [hab] at hs4
          rw [hW4, hab]
          obtain ⟨V, hV⟩ : ∃ V : Vr, (⟨s, q + 1, p, false, vx⟩ : Vr) = V := ⟨_, rfl⟩
          have hR := HR.out
          have hpl : V.past.length ≤ 4294967296 := by rw [← hV]; show p.length ≤ _; rw [HKL.out]; omega
          rw [hV] at hv4 hR
          have HR2 := Lib.hid hR
          have HPL := Lib.hid hpl
          have B4 := Lib.hid (B1.out.trans (hb4.mono B1.out.size))
          have V4 := Lib.hid (hv4.more (show ab + 1 ≤ W4.heap.size by omega))
          clear hv4 hb4 hs4 hab hW4 hV TL HR hR hpl
          refine (H1.out (some ⟨ab, 0, none⟩) 1 V W4 B4.out V4.out (by omega)).mono ?_
          rw [HR2.out.2.1]
          intro e w5 hp
          obtain ⟨A5, c5, rfl, hc5, n5, b5⟩ := merged_read _ _ _ hp
          have B5 := Lib.hid (B4.out.trans (b5.mono B4.out.size))
          have V5 := Lib.hid ((V4.out.below b5).more b5.size)
          have N5 := Lib.hid n5
          clear hp n5 b5 V4 B4
          go_wp2_with fail
          refine (H2.out (some ⟨ab, 0, none⟩) 1 V w5 B5.out V5.out (by omega)).mono ?_
          rw [HR2.out.2.2.1]
          intro e w6 hp
          obtain ⟨A6, c6, rfl, hc6, n6, b6⟩ := merged_read _ _ _ hp
          have B6 := Lib.hid (B5.out.trans (b6.mono B5.out.size))
          have V6 := Lib.hid ((V5.out.below b6).more b6.size)
          have N6 := Lib.hid (And.intro ((N5.out.below b6).more b6.size) n6)
          clear hp n6 b6 V5 B5 N5
          have HE := Lib.hid (fun A' c' W (h : Vs W 0 W.heap.size A' [V]) (h' : Vs W 0 W.heap.size (some ⟨ab, 0, none⟩) [V]) => ref_sameV_any A' (some ⟨ab, 0, none⟩) c' 1 1 1 [V] [V] rfl rfl W h h' (by omega) (by omega))
          rw [show decide ([V] = [V]) = true from decide_eq_true rfl] at HE
          go_wp2_with fail
          refine (HE.out A5 c5 w6 N6.out.1 V6.out).mono ?_
          rintro e w7 ⟨rfl, b7⟩
          have B7 := Lib.hid (B6.out.trans (b7.mono B6.out.size))
          have V7 := Lib.hid ((V6.out.below b7).more b7.size)
          have N7 := Lib.hid (And.intro ((N6.out.1.below b7).more b7.size) ((N6.out.2.below b7).more b7.size))
          clear b7 V6 B6 N6
          go_wp2_with fail
          refine (HE.out A6 c6 w7 N7.out.2 V7.out).mono ?_
          rintro e w8 ⟨rfl, b8⟩
          have B8 := Lib.hid (B7.out.trans (b8.mono B7.out.size))
          have V8 := Lib.hid ((V7.out.below b8).more b8.size)
          have N8 := Lib.hid ((N7.out.1.below b8).more b8.size)
          clear b8 V7 B7 N7
          go_wp2_with fail
          refine (H4.out (some ⟨ab, 0, none⟩) 1 V w8 B8.out V8.out (by omega)).mono ?_
          rw [HR2.out.2.2.2.1]
          rintro e w9 ⟨rfl, b9⟩
          have B9 := Lib.hid (B8.out.trans (b9.mono B8.out.size))
          have V9 := Lib.hid ((V8.out.below b9).more b9.size)
          have N9 := Lib.hid ((N8.out.below b9).more b9.size)
          clear b9 V8 B8 N8
          go_wp2_with fail
          refine (H3.out (some ⟨ab, 0, none⟩) 1 V w9 B9.out V9.out (by omega)).mono ?_
          rw [HR2.out.2.2.2.2.1]
          rintro e w10 ⟨rfl, b10⟩
          have B10 := Lib.hid (B9.out.trans (b10.mono B9.out.size))
          have N10 := Lib.hid ((N9.out.below b10).more b10.size)
          clear b10 V9 B9 N9
          go_wp2_with fail
          refine (shown_any A5 c5 1 [V] rfl 0 w10.heap.size w10 (Nat.le_refl _) N10.out (by omega) (fun v hv => by rw [List.mem_singleton.1 hv]; exact HPL.out)).mono ?_
          rintro e w11 ⟨A11, c11, rfl, hc11, _, b11⟩
          have B11 := Lib.hid (B10.out.trans (b11.mono B10.out.size))
          have hl := HR2.out.2.2.2.2.2
          rw [hl] at hc11 ⊢
          clear b11 hl
          go_wp2_with fail
          go_ret
          exact ⟨rfl, B11.out⟩
        · have hz1 : z = 1 := of_decide_eq_true HGO.out
          have hv : vx = ⟨#[]⟩ := by have h := HVX.out; simpa using h.symm
          subst hv
          have g1 : ((z : Int) == 1) = true := by simp; omega
          go_wp2_with fail
          have hv4 := TL.out
          have hb4 : Below w1.heap.size w1 (w3.alloc (.cells #[.int .i64 s, .int .i64 (q + 1), .slice A1 k c1, .bool true, .string ⟨#[]⟩] 28)) := B3.out.alloc B3.out.size _
          have hs4 : (w3.alloc (.cells #[.int .i64 s, .int .i64 (q + 1), .slice A1 k c1, .bool true, .string ⟨#[]⟩] 28)).heap.size = w3.heap.size + 1 := by simp
          obtain ⟨ab, hab⟩ : ∃ b, w3.heap.size = b := ⟨_, rfl⟩
          obtain ⟨W4, hW4⟩ : ∃ W, w3.alloc (.cells #[.int .i64 s, .int .i64 (q + 1), .slice A1 k c1, .bool true, .string ⟨#[]⟩] 28) = W := ⟨_, rfl⟩
          rw [hW4, hab] at hv4
          rw [hW4] at hb4 hs4
          rw [hab] at hs4
          rw [hW4, hab]
          obtain ⟨V, hV⟩ : ∃ V : Vr, (⟨s, q + 1, p, true, ⟨#[]⟩⟩ : Vr) = V := ⟨_, rfl⟩
          have hR := HR.out
          have hpl : V.past.length ≤ 4294967296 := by rw [← hV]; show p.length ≤ _; rw [HKL.out]; omega
          rw [hV] at hv4 hR
          have HR2 := Lib.hid hR
          have HPL := Lib.hid hpl
          have B4 := Lib.hid (B1.out.trans (hb4.mono B1.out.size))
          have V4 := Lib.hid (hv4.more (show ab + 1 ≤ W4.heap.size by omega))
          clear hv4 hb4 hs4 hab hW4 hV TL HR hR hpl
          refine (H1.out (some ⟨ab, 0, none⟩) 1 V W4 B4.out V4.out (by omega)).mono ?_
          rw [HR2.out.2.1]
          intro e w5 hp
          obtain ⟨A5, c5, rfl, hc5, n5, b5⟩ := merged_read _ _ _ hp
          have B5 := Lib.hid (B4.out.trans (b5.mono B4.out.size))
          have V5 := Lib.hid ((V4.out.below b5).more b5.size)
          have N5 := Lib.hid n5
          clear hp n5 b5 V4 B4
          go_wp2_with fail
          refine (H2.out (some ⟨ab, 0, none⟩) 1 V w5 B5.out V5.out (by omega)).mono ?_
          rw [HR2.out.2.2.1]
          intro e w6 hp
          obtain ⟨A6, c6, rfl, hc6, n6, b6⟩ := merged_read _ _ _ hp
          have B6 := Lib.hid (B5.out.trans (b6.mono B5.out.size))
          have V6 := Lib.hid ((V5.out.below b6).more b6.size)
          have N6 := Lib.hid (And.intro ((N5.out.below b6).more b6.size) n6)
          clear hp n6 b6 V5 B5 N5
          have HE := Lib.hid (fun A' c' W (h : Vs W 0 W.heap.size A' [V]) (h' : Vs W 0 W.heap.size (some ⟨ab, 0, none⟩) [V]) => ref_sameV_any A' (some ⟨ab, 0, none⟩) c' 1 1 1 [V] [V] rfl rfl W h h' (by omega) (by omega))
          rw [show decide ([V] = [V]) = true from decide_eq_true rfl] at HE
          go_wp2_with fail
          refine (HE.out A5 c5 w6 N6.out.1 V6.out).mono ?_
          rintro e w7 ⟨rfl, b7⟩
          have B7 := Lib.hid (B6.out.trans (b7.mono B6.out.size))
          have V7 := Lib.hid ((V6.out.below b7).more b7.size)
          have N7 := Lib.hid (And.intro ((N6.out.1.below b7).more b7.size) ((N6.out.2.below b7).more b7.size))
          clear b7 V6 B6 N6
          go_wp2_with fail
          refine (HE.out A6 c6 w7 N7.out.2 V7.out).mono ?_
          rintro e w8 ⟨rfl, b8⟩
          have B8 := Lib.hid (B7.out.trans (b8.mono B7.out.size))
          have V8 := Lib.hid ((V7.out.below b8).more b8.size)
          have N8 := Lib.hid ((N7.out.1.below b8).more b8.size)
          clear b8 V7 B7 N7
          go_wp2_with fail
          refine (H4.out (some ⟨ab, 0, none⟩) 1 V w8 B8.out V8.out (by omega)).mono ?_
          rw [HR2.out.2.2.2.1]
          rintro e w9 ⟨rfl, b9⟩
          have B9 := Lib.hid (B8.out.trans (b9.mono B8.out.size))
          have V9 := Lib.hid ((V8.out.below b9).more b9.size)
          have N9 := Lib.hid ((N8.out.below b9).more b9.size)
          clear b9 V8 B8 N8
          go_wp2_with fail
          refine (H3.out (some ⟨ab, 0, none⟩) 1 V w9 B9.out V9.out (by omega)).mono ?_
          rw [HR2.out.2.2.2.2.1]
          rintro e w10 ⟨rfl, b10⟩
          have B10 := Lib.hid (B9.out.trans (b10.mono B9.out.size))
          have N10 := Lib.hid ((N9.out.below b10).more b10.size)
          clear b10 V9 B9 N9
          go_wp2_with fail
          refine (shown_any A5 c5 1 [V] rfl 0 w10.heap.size w10 (Nat.le_refl _) N10.out (by omega) (fun v hv => by rw [List.mem_singleton.1 hv]; exact HPL.out)).mono ?_
          rintro e w11 ⟨A11, c11, rfl, hc11, _, b11⟩
          have B11 := Lib.hid (B10.out.trans (b11.mono B10.out.size))
          have hl := HR2.out.2.2.2.2.2
          rw [hl] at hc11 ⊢
          clear b11 hl
          go_wp2_with fail
          go_ret
          exact ⟨rfl, B11.out⟩
    · have hcs : s < 1 ∨ (1 ≤ s ∧ 16 < s) ∨ (1 ≤ s ∧ s ≤ 16 ∧ (256 : Int) < (z : Int)) := by omega
      obtain ⟨k, hk⟩ : ∃ k, p.length = k := ⟨_, rfl⟩
      rw [hk]
      clear hr hip hshort o1 hk hpk hin
      rcases hcs with hA | ⟨hA, hB⟩ | ⟨hA, hB, hC⟩
      all_goals
        go_wp2_with fail
        refine (HEND.out w1 B1.out).mono ?_
        rintro e w2 ⟨rfl, b2⟩
        have B2 := Lib.hid b2
        clear b2
        go_wp2_with fail
        refine (HEND.out w2 B2.out).mono ?_
        rintro e w3 ⟨rfl, b3⟩
        have B3 := Lib.hid b3
        clear b3
        go_wp2_with fail
        go_ret
        exact ⟨rfl, B3.out⟩

-- ROW BEGIN
/-- What the walk gives, shut again. -/
theorem contract (H : Type) (enc : TypeId × Value → H) (W : World) (base : Nat) (args : Array Value) (ds gs : List (DataW H)) (before : List MemPlace)
    (hval : ∀ (j : Nat) t v, Try.f6.params[j]? = some t → args[j]? = some v → Value.okWide Try.prog W .any base t v)
    (hW : DataW.Whole enc Try.prog Try.f6.params.toList Rows.versReplacesSpec.vars false W args.toList ds gs before)
    (hsz : (DataW.weightsEach Try.prog (Try.f6.params.toList ++ Rows.versReplacesSpec.plain.varTypes Try.prog) (ds ++ gs)).all (· ≤ reachBytes) = true) :
    Calls Try.prog 6 args W fun e W' => ∃ v, e = .returned v ∧ Rows.versReplacesSpec.post enc Try.prog Try.f6 false true false false W args v W' := by
  have hW' := hW
  obtain ⟨p, q, hA0, hV, hbef, _, _⟩ := hW
  have hA : DataW.TrodAll enc Try.prog W 0 (fun _ => true) true Try.f6.params.toList args.toList ds p := hA0
  have hA1 := hA
  rw [Try.params6] at hA hval hsz
  obtain ⟨v0, vs0, d0, ds0, p0, q0, hargs, rfl, rfl, h0, r0⟩ := trodAll_cons hA
  obtain ⟨v1, vs1, d1, ds1, p1, q1, rfl, rfl, rfl, h1, r1⟩ := trodAll_cons r0
  obtain ⟨v2, vs2, d2, ds2, p2, q2, rfl, rfl, rfl, h2, r2⟩ := trodAll_cons r1
  obtain ⟨rfl, rfl, rfl⟩ := trodAll_nil r2
  obtain rfl : args = #[v0, v1, v2] := by cases args; simp_all
  obtain ⟨rfl, rfl⟩ := trodVars_none hV
  clear hA hargs
  obtain ⟨A0, c0, a0, rfl, n0, l0, b0⟩ := Vers.open_vs (hval 0 22 v0 rfl rfl) h0 (Vers.wt_arg hsz (j := 0) rfl rfl)
  obtain ⟨a1, rfl, rfl, _, w1⟩ := open_int Try.underlying3 (hval 1 3 v1 rfl rfl) h1
  obtain ⟨a2, rfl, rfl, _, w2⟩ := Go.ChangeMaps.open_string Try.underlying9 (hval 2 9 v2 rfl rfl) h2
  have b2 : a2.size ≤ 140737488351232 := by
    have h9 := sized_string hsz (j := 2) rfl rfl
    have h3 : reachBytes = 140737488351232 := by decide
    have h4 : a2.data.toList.length = a2.size := by rw [Array.length_toList]; rfl
    omega
  refine (walk W A0 c0 a0 n0 b0 l0 a1 (wf_int w1) a2 (by omega)).mono fun e W' ⟨he, hb⟩ => ?_
  subst he
  exact ⟨_, rfl, law_post Facts.laid (by rfl) Try.underlying4 (by rw [Try.params6]; decide +kernel) hW' hA1 rfl hbef rfl rfl rfl hb⟩

set_option maxRecDepth 100000 in
theorem lifted (os : Os) (started : os.Started) (H : Type) (enc : TypeId × Value → H) :
    ReturnsInHanded {} Try.checked os 6 .any (Rows.versReplacesSpec.pre6 enc Try.prog Try.f6 Rows.versReplacesRow.domain false) (Rows.versReplacesSpec.post enc Try.prog Try.f6 false true false false) := by
  refine returnsInHanded_of_change_sized (C := Try.checked) Facts.own started (by kernel_rfl) Try.func6
    (ChangeSpec.witness6 (enc := enc) (C := Try.checked) false ⟨#[], #[.slice none 0 0, .int .i64 0, .string ⟨#[]⟩], []⟩ 8 (by kernel_rfl) (by kernel_rfl) (by kernel_rfl) (by kernel_rfl)) ?_
  intro W base args ds gs before hval hW _ hsz _
  exact contract H enc W base args ds gs before hval hW hsz

theorem holds : Rows.VersReplacesSaid :=
  OpenClaim.holds_of_wide 6 Try.f6 rfl rfl rfl rfl rfl rfl rfl ⟨rfl, rfl, rfl, rfl, rfl⟩ rfl rfl rfl rfl rfl (by kernel_rfl) Try.func6 (by kernel_rfl)
    (of_decide_eq_true (by kernel_rfl)) (by unfold Func.isWrapper; first | (rw [if_pos (by decide +kernel)]; kernel_rfl) | (rw [if_neg (by decide +kernel)]; exact ⟨rfl, rfl⟩))
    (fun os started H enc _ => lifted os started H enc)
-- ROW END
end VersReplaces
end Go.Proofs.Ythiiganfoecmnaa
