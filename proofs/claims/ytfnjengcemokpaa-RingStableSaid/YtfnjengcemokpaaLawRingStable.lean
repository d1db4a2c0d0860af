/-
  RingStable (P12.4): who comes into a ring, or leaves it, changes nothing in how the others stand. For every input.
-/
import Derived.Test.YtfnjengcemokpaaRingStablePlain
namespace Go.Proofs.Ytfnjengcemokpaa
namespace RingStable
open Go.ChangeShapes Go.WideShapes Go.ChangeAt Go.RowKit Ring
attribute [local go_sem ↓] Go.wp_at_zero Go.wp_at_succ

theorem left_ns {w : World} {base : Nat} {A : Option Addr} {c k : Nat} {T D L : List Int} (hL : T ++ D = L ∧ L.length = k) (h : w.ownsRow base 3 1 (.slice A k c) k (nums .i64 T ++ nums .i64 D)) : Ns .i64 w w.heap.size A L := by
  obtain ⟨rfl, rfl⟩ := hL
  refine own_ns (base := base) (e := 3) (c := c) (n := (T ++ D).length) ?_
  have e : nums .i64 (T ++ D) = nums .i64 T ++ nums .i64 D := by
    unfold nums
    rw [List.map_append]
  rw [e]
  exact h
theorem but_len {g : Int} {O : List Int} (i : Nat) : (butF g (O.take i)).length ≤ i := by
  unfold butF
  exact Nat.le_trans (List.length_filter_le _ _) (by rw [List.length_take]; omega)

theorem but_step {w6 : World} {base m : Nat} {g y : Int} {O : List Int} {i : Nat} {A6 : Option Addr} {c6 : Nat} (h : butF g (O.take (i + 1)) = butF g (O.take i) ++ [y] ∧ (butF g (O.take i)).length = m) (o : w6.ownsRow base 3 1 (.slice A6 (m + 1) c6) (m + 1) (nums .i64 (butF g (O.take i)) ++ [.int .i64 y])) :
    (butF g (O.take (i + 1))).length = m + 1 ∧ w6.ownsRow base 3 1 (.slice A6 (m + 1) c6) (m + 1) (nums .i64 (butF g (O.take (i + 1)))) := by
  rw [h.1]
  refine ⟨by rw [List.length_append, h.2]; rfl, ?_⟩
  unfold nums at o ⊢
  rw [List.map_append]
  exact o

set_option maxRecDepth 100000 in
set_option maxHeartbeats 4000000 in
theorem walk (w : World) (A : Option Addr) (c : Nat) (ms : List Int) (hr : Ns .i64 w w.heap.size A ms) (_hm : ∀ z ∈ ms, -9223372036854775808 ≤ z ∧ z ≤ 9223372036854775807) (hbig : ms.length * 8 ≤ 140737488351232) (hlc : ms.length ≤ c) (gone : Int) (hg : -9223372036854775808 ≤ gone ∧ gone ≤ 9223372036854775807) :
    Calls Try.prog 7 #[.slice A ms.length c, .int .i64 gone] w fun e w' => e = .returned (.bool true) ∧ Below w.heap.size w w' := by
  have hS : ∀ W, Below w.heap.size w W → Ns .i64 W W.heap.size A ms := fun W h => (hr.below h).more h.size
  have h2 := fun W h => ref_rightM_any A c ms.length ms rfl W (hS W h) (by omega)
  by_cases hgo : RightM ms ∧ 2 ≤ ms.length
  · obtain ⟨hright, hn2⟩ := hgo
    rw [decide_eq_true hright] at h2
    have hn8 : ms.length ≤ 8 := hright.2.1
    obtain ⟨pb, off, hAA, _, _⟩ := hr (by omega)
    obtain ⟨t, ht⟩ : ∃ t, gone.tmod (ms.length : Int) = t := ⟨_, rfl⟩
    have ht0 : -(ms.length : Int) < t ∧ t < (ms.length : Int) := by
      rw [← ht]
      refine ⟨?_, Int.tmod_lt_of_pos _ (by omega)⟩
      by_cases hgn : 0 ≤ gone
      · have := Int.tmod_nonneg (ms.length : Int) hgn
        omega
      · have e : gone.tmod (ms.length : Int) = -((-gone).tmod (ms.length : Int)) := by rw [← Int.neg_tmod, Int.neg_neg]
        have := Int.tmod_lt_of_pos (-gone) (show (0 : Int) < (ms.length : Int) by omega)
        omega
    obtain ⟨t0, t1⟩ := ht0
    have hq : ∃ q : Nat, q < ms.length ∧ ((t < 0 ∧ t + (ms.length : Int) = q) ∨ (¬ t < 0 ∧ t = (q : Int))) := by
      by_cases h : t < 0
      · exact ⟨(t + (ms.length : Int)).toNat, by omega, .inl ⟨h, by omega⟩⟩
      · exact ⟨t.toNat, by omega, .inr ⟨h, by omega⟩⟩
    obtain ⟨q, hqn, hcs⟩ := hq
    have HP := Lib.hid (stable_plain hright hn2 hqn)
    have hs1 := slice_h A ms.length c q (q : Int) rfl (by omega) hlc (.inr ⟨_, _, hAA⟩)
    have hs2 := slice_l A ms.length c (q + 1) ((q : Int) + 1) (by omega) (by omega) hlc (.inr ⟨_, _, hAA⟩)
    have HT := Lib.hid (fun (V : World) B (h : Ns .i64 V B A ms) => (And.intro (h.take q) (tail_ns (m := q + 1) h hlc)))
    have h3 := fun p W h => list_any A c ms.length ms rfl p 8 W (hS W h) (by omega)
    obtain ⟨n, hn⟩ : ∃ n, ms.length = n := ⟨_, rfl⟩
    obtain ⟨A1, hA1⟩ : ∃ A1, tailA A c (q + 1) = A1 := ⟨_, rfl⟩
    obtain ⟨c1, hc1⟩ : ∃ c1, c - (q + 1) = c1 := ⟨_, rfl⟩
    rw [hA1] at HT
    rw [hA1, hc1] at hs2
    rw [hn] at h2 h3 hs1 hs2 hn2 hn8 ht t0 t1 hqn hcs HP ⊢
    have HN := Lib.hid (And.intro hn (And.intro hright hqn))
    have HA := Lib.hid hr
    have H2 := Lib.hid h2
    have H3 := Lib.hid h3
    have m0 : ¬ (n : Int) = 0 := by omega
    have m2 : ¬ (n : Int) < 2 := by omega
    obtain ⟨g, hgg⟩ : ∃ g, ms.getD q 0 = g := ⟨_, rfl⟩
    have HG := Lib.hid hgg
    rw [hgg] at HP
    obtain ⟨L, hL⟩ : ∃ L, ms.take q ++ ms.drop (q + 1) = L := ⟨_, rfl⟩
    have HLL : Hid (ms.take q ++ ms.drop (q + 1) = L ∧ L.length = n - 1) := Lib.hid ⟨hL, by rw [← hL, List.length_append, List.length_take, List.length_drop, hn]; omega⟩
    rw [hL] at HP
    obtain ⟨info, hi, hz, hsize, hby⟩ := info_parts info_int
    have HI := Lib.hid (And.intro hi (And.intro hz (And.intro hsize hby)))
    obtain ⟨g0, g1⟩ := hg
    clear h2 h3 hS hr hn hL hA1 hc1 hAA hbig hlc hright hgg hi hz hsize hby
    rcases hcs with ⟨hneg, hq⟩ | ⟨hneg, hq⟩
    all_goals
      go_enter Try.func7, Try.ntmps7
      go_wp2_with fail
      refine (awake_any w).mono ?_
      rintro e w0 ⟨rfl, b0⟩
      have B0 := Lib.hid b0
      clear b0
      go_wp2_with fail
      refine (H2.out w0 B0.out).mono ?_
      rintro e w1 ⟨rfl, b1⟩
      have B1 := Lib.hid (B0.out.trans (b1.mono B0.out.size))
      clear b1
      have N1 := Lib.hid (HT.out w1 w.heap.size (HA.out.below B1.out))
      go_wp2_with (first
        | (at_builtin; refine wpList_append_ns _ rfl _ _ _ rfl w.heap.size 3 info (.int .i64 0) 8 Try.underlying22 HI.out.1 HI.out.2.1 HI.out.2.2.1 HI.out.2.2.2 rfl (.slice none 0 0) 0 [] rfl (World.ownsRow_nil _ _ _ _) .i64 w.heap.size A q c (ms.take q) (by rw [List.length_take, HN.out.1]; omega) rfl N1.out.1 (by omega) (by omega) B1.out.size ?_; intro v2 w2 o2 g2 _; rw [Nat.zero_add, List.nil_append] at o2; obtain ⟨A2, c2, rfl⟩ := own_form o2; have W2 := Lib.hid (And.intro o2 (B1.out.grown g2 B1.out.size (fun g hg => by cases hg))); have N2 := Lib.hid (HT.out w2 w.heap.size (HA.out.below W2.out.2)).2; clear o2 g2)
        | (at_builtin; refine wpList_append_ns _ rfl _ _ _ rfl w.heap.size 3 info (.int .i64 0) 8 Try.underlying22 HI.out.1 HI.out.2.1 HI.out.2.2.1 HI.out.2.2.2 rfl (.slice A2 q c2) q (nums .i64 (ms.take q)) rfl W2.out.1 .i64 w.heap.size A1 (n - (q + 1)) c1 (ms.drop (q + 1)) (by rw [List.length_drop, HN.out.1]) rfl N2.out (by omega) (by omega) W2.out.2.size ?_; intro v3 w3 o3 g3 _; rw [show q + (n - (q + 1)) = n - 1 by omega] at o3; obtain ⟨A3, c3, rfl⟩ := own_form o3; have W3 := Lib.hid (And.intro o3 (W2.out.2.grown g3 W2.out.2.size (fun g hg => (W2.out.1.lt g hg).1))); clear o3 g3)
        | fail)
      have HL3 : Hid (Ns .i64 w3 w3.heap.size A3 L ∧ Below w.heap.size w w3) := Lib.hid ⟨left_ns HLL.out W3.out.1, W3.out.2⟩
      clear W2 W3 N1 N2 B0 B1
      obtain ⟨base, hbase⟩ : ∃ base, w3.heap.size = base := ⟨_, rfl⟩
      have HBS := Lib.hid hbase
      have hst : Hid (Below base w3 w3) := Lib.hid (Below.refl _ _)
      clear hbase
      go_wp2_with fail
      go_loopw [7] (fun pv V => ∃ p : Nat, pv = .int .i64 p ∧ p ≤ 8 ∧ Hid (Below base w3 V)) (fun pv _ => 8 - (intOf pv).toNat)
      case atStart => exact ⟨0, rfl, by omega, hst⟩
      case round =>
        clear hst
        obtain ⟨p, rfl, hp8, hH⟩ := hrel
        by_cases hlt : p < 8
        · have HW : Hid (Below w.heap.size w wr ∧ Ns .i64 wr wr.heap.size A3 L ∧ base ≤ wr.heap.size) := Lib.hid (by
            have e := HBS.out
            have h1 := HL3.out
            have h2 := hH.out
            subst e
            exact ⟨h1.2.trans (h2.mono h1.2.size), (h1.1.below h2).more h2.size, h2.size⟩)
          have d1 : (p : Int) < 8 := by omega
          go_wp2_with fail
          refine (H3.out p wr HW.out.1).mono ?_
          rintro e w5 hl
          have hOK : OrdOK ms p (ordL ms p) := by
            obtain ⟨_, _, _, _, _, h, _⟩ := hl
            exact h.out
          obtain ⟨e1, e2, e3, e4⟩ := HP.out.2 p (by omega) (by omega) hOK
          obtain ⟨O, hOO⟩ : ∃ O, ordL ms p = O := ⟨_, rfl⟩
          rw [hOO] at e1 e2 e3 e4
          have hbl := fun i => but_len (g := g) (O := O) i
          obtain ⟨A5, c5, rfl, hc5, _, n5, b5⟩ := list_got e1 e2 _ _ _ hl
          have HB5 := Lib.hid (b5)
          have HO := Lib.hid (And.intro e2 (And.intro e3 (And.intro e4 n5)))
          obtain ⟨base2, hb2⟩ : ∃ base2, w5.heap.size = base2 := ⟨_, rfl⟩
          have HB2 : Hid (w5.heap.size = base2 ∧ wr.heap.size ≤ base2) := Lib.hid ⟨hb2, by rw [← hb2]; exact b5.size⟩
          have HST : Hid ((butF g (O.take 0)).length = 0 ∧ w5.ownsRow base2 3 1 (.slice none 0 0) 0 (nums .i64 (butF g (O.take 0))) ∧ Below base2 w5 w5) := Lib.hid ⟨rfl, World.ownsRow_nil _ _ _ _, Below.refl _ _⟩
          have HBL := Lib.hid hbl
          have HF : Hid (∀ V, Below base2 w5 V → Ns .i64 V base2 A ms ∧ Ns .i64 V base2 A5 O ∧ Ns .i64 V base2 A3 L ∧ Below w.heap.size w V ∧ Below base w3 V ∧ base2 ≤ V.heap.size) := Lib.hid (fun V h => by
            have hw := HW.out
            have hs := hw.1.size
            have hwr : Below wr.heap.size wr V := b5.trans (h.mono (by rw [← hb2]; exact b5.size))
            refine ⟨((HA.out.below hw.1).below (hwr.mono hs)).more (by have := b5.size; omega), (n5.more (by omega)).below h, (hw.2.1.below hwr).more (by have := b5.size; omega), hw.1.trans (hwr.mono hs), hH.out.trans (hwr.mono hw.2.2), by rw [← hb2]; exact h.size⟩)
          have H7 := Lib.hid (fun (W : World) (h : Ns .i64 W W.heap.size A3 L) => list_any A3 c3 (n - 1) L HLL.out.2 p 8 W h (by omega))
          have H8 := Lib.hid (list_got e3 e4)
          clear hl hOK e1 e2 e3 e4 hOO n5 b5 hb2 hbl
          go_wp2_with fail
          go_loopw [9, 10] (fun sv iv V => ∃ (i m : Nat) (Al : Option Addr) (cl : Nat), iv = .int .i64 i ∧ i ≤ n ∧ sv = .slice Al m cl ∧ m ≤ i ∧ Hid ((butF g (O.take i)).length = m ∧ V.ownsRow base2 3 1 (.slice Al m cl) m (nums .i64 (butF g (O.take i))) ∧ Below base2 w5 V)) (fun _ iv _ => n - (intOf iv).toNat)
          case atStart => exact ⟨0, 0, none, 0, rfl, by omega, rfl, by omega, HST⟩
          case round =>
            clear HST
            obtain ⟨i, m, Al, cl, rfl, hin, rfl, hmi, hI⟩ := hrel
            by_cases hlti : i < n
            · have hiO : i < O.length := by have := HO.out.1; omega
              have hsn := take_snoc hiO
              obtain ⟨nm, na, nl, bw, bw3, hbs⟩ := HF.out _ hI.out.2.2
              obtain ⟨pm, om, rfl, _, hcm⟩ := nm (by rw [HN.out.1]; omega)
              obtain ⟨pa, oa, rfl, _, hca⟩ := na (by omega)
              have c0 := hca i hiO
              have c1 := hcm q (by rw [HN.out.1]; omega)
              rw [HG.out] at c1
              obtain ⟨y, hy⟩ : ∃ y, O.getD i 0 = y := ⟨_, rfl⟩
              rw [hy] at c0 hsn
              have d2 : (i : Int) < (n : Int) := by omega
              have d3 : (0 : Int) ≤ (i : Int) := by omega
              have d4 : (q : Int) < (n : Int) := by omega
              have d5 : (0 : Int) ≤ (q : Int) := by omega
              have HSN := Lib.hid hsn
              have HBZ := Lib.hid hbs
              clear nm na nl bw bw3 hcm hca hsn hy hbs
              by_cases hyg : y = g
              · subst hyg
                have d6 : (y != y) = false := by simp
                have HS : Hid (∀ nq, (butF y (O.take (i + 1))).length = m ∧ (wr.drewN nq).ownsRow base2 3 1 (.slice Al m cl) m (nums .i64 (butF y (O.take (i + 1)))) ∧ Below base2 w5 (wr.drewN nq)) := Lib.hid (fun nq => by
                  rw [HSN.out, but_snoc_same]
                  exact ⟨hI.out.1, own_below hI.out.2.1 (below_drewN _ _ _) (Nat.le_refl _), hI.out.2.2.trans (below_drewN _ _ _)⟩)
                clear hI
                go_wp2_with fail
                go_quiet (fail)
                go_wp2_with fail
                exact ⟨⟨i + 1, m, Al, cl, rfl, by omega, rfl, by omega, Lib.hid (HS.out _)⟩, by simp only [intOf]; omega⟩
              · have d6 : (y != g) = true := by simpa using hyg
                have HS : Hid (∀ nq, (wr.drewN nq).ownsRow base2 3 1 (.slice Al m cl) m (nums .i64 (butF g (O.take i))) ∧ Below base2 w5 (wr.drewN nq)) := Lib.hid (fun nq => ⟨own_below hI.out.2.1 (below_drewN _ _ _) (Nat.le_refl _), hI.out.2.2.trans (below_drewN _ _ _)⟩)
                have HSN2 : Hid (butF g (O.take (i + 1)) = butF g (O.take i) ++ [y] ∧ (butF g (O.take i)).length = m) := Lib.hid ⟨by rw [HSN.out, but_snoc_other hyg], hI.out.1⟩
                clear hI hyg
                go_wp2_with fail
                go_quiet (fail)
                go_wp2_with (at_builtin; refine wpList_append_one _ rfl _ _ 22 rfl base2 3 info (.int .i64 0) 8 Try.underlying22 HI.out.1 HI.out.2.1 HI.out.2.2.1 HI.out.2.2.2 rfl (.slice Al m cl) m (nums .i64 (butF g (O.take i))) rfl (HS.out _).1 (.int .i64 y) 1 (by rfl) rfl (by omega) (by omega) HBZ.out ?_; intro v6 w6 o6 g6 at6)
                obtain ⟨A6, c6, rfl⟩ := own_form o6
                have hres := but_step HSN2.out o6
                have hrow : ∀ r, (Value.slice Al m cl).ownBlock = some r → base2 ≤ r := fun r hr => ((HS.out 0).1.lt r hr).1
                have hbe := (HS.out _).2.grown g6 HBZ.out hrow
                exact ⟨⟨i + 1, m + 1, A6, c6, rfl, by omega, rfl, by omega, Lib.hid ⟨hres.1, hres.2, hbe⟩⟩, by simp only [intOf]; omega⟩
            · have hin2 : i = n := by omega
              have d2 : ¬ (i : Int) < (n : Int) := by omega
              obtain ⟨nm, na, nl, bw, bw3, hbs⟩ := HF.out _ hI.out.2.2
              have hO : O.take i = O := List.take_of_length_le (by have := HO.out.1; omega)
              have hI' := hI.out
              rw [hO] at hI'
              have hmn : m = n - 1 := by rw [← hI'.1]; exact HO.out.2.2.1
              subst hmn
              have hsome : Ns .i64 wr wr.heap.size Al (butF g O) := by
                have h := hI'.2.1
                have e := hI'.1
                rw [← e] at h
                exact own_ns h
              have HX := Lib.hid (And.intro (nl.more hbs) (And.intro hsome (And.intro bw bw3)))
              clear hI hI' nm na nl bw bw3 hO hsome
              go_wp2_with fail
              refine (H7.out _ HX.out.1).mono ?_
              rintro e w7 hl
              obtain ⟨A7, c7, rfl, hc7, _, n7, b7⟩ := H8.out _ _ _ hl
              have H9 := Lib.hid (ints_any A7 Al c7 cl (n - 1) (n - 1) (butF g O) (butF g O) HO.out.2.2.1 HO.out.2.2.1 w7 n7 ((HX.out.2.1.below b7).more b7.size) (by omega) (by omega))
              rw [show decide (butF g O = butF g O) = true from decide_eq_true rfl] at H9
              have HB7 := Lib.hid (HX.out.2.2.2.trans (b7.mono (by have h1 := HX.out.2.2.2.size; have h2 := HBS.out; omega)))
              clear hl n7 b7
              go_wp2_with fail
              refine H9.out.mono ?_
              rintro e w8 ⟨rfl, b8⟩
              have HB8 := Lib.hid (HB7.out.trans (b8.mono (by have h1 := HB7.out.size; have h2 := HBS.out; omega)))
              clear b8
              go_wp2_with fail
              exact ⟨⟨p + 1, rfl, by omega, HB8⟩, by simp only [intOf]; omega⟩
        · have d1 : ¬ (p : Int) < 8 := by omega
          have BF := Lib.hid (HL3.out.2.trans (hH.out.mono (by have e := HBS.out; have h := HL3.out.2.size; omega)))
          clear hH
          go_wp2_with fail
          go_ret
          exact ⟨rfl, BF.out⟩
  · rw [Classical.not_and_iff_not_or_not] at hgo
    obtain ⟨Q, hQ⟩ : ∃ Q, decide (RightM ms) = Q := ⟨_, rfl⟩
    rw [hQ] at h2
    obtain ⟨n, hn⟩ : ∃ n, ms.length = n := ⟨_, rfl⟩
    rw [hn] at h2 ⊢
    have H2 := Lib.hid h2
    have hcs : Q = false ∨ (Q = true ∧ (n : Int) < 2) := by
      rcases hgo with h | h
      · exact .inl (by rw [← hQ]; exact decide_eq_false h)
      · cases Q
        · exact .inl rfl
        · exact .inr ⟨rfl, by omega⟩
    clear h2 hS hr hgo hQ hn hbig hlc hg
    rcases hcs with rfl | ⟨rfl, hlt⟩
    all_goals
      go_enter Try.func7, Try.ntmps7
      go_wp2_with fail
      refine (awake_any w).mono ?_
      rintro e w0 ⟨rfl, b0⟩
      have B0 := Lib.hid b0
      clear b0
      go_wp2_with fail
      refine (H2.out w0 B0.out).mono ?_
      rintro e w1 ⟨rfl, b1⟩
      have B1 := Lib.hid (B0.out.trans (b1.mono B0.out.size))
      clear b1
      go_wp2_with fail
      refine (awake_any w1).mono ?_
      rintro e w2 ⟨rfl, b2⟩
      have B2 := Lib.hid (B1.out.trans (b2.mono B1.out.size))
      clear b2
      go_wp2_with fail
      go_ret
      exact ⟨rfl, B2.out⟩

-- ROW BEGIN
/-- What the walk gives, shut again. -/
theorem contract (H : Type) (enc : TypeId × Value → H) (W : World) (base : Nat) (args : Array Value) (ds gs : List (DataW H)) (before : List MemPlace)
    (hval : ∀ (j : Nat) t v, Try.f7.params[j]? = some t → args[j]? = some v → Value.okWide Try.prog W .any base t v)
    (hW : DataW.Whole enc Try.prog Try.f7.params.toList Rows.ringStableSpec.vars false W args.toList ds gs before)
    (hsz : (DataW.weightsEach Try.prog (Try.f7.params.toList ++ Rows.ringStableSpec.plain.varTypes Try.prog) (ds ++ gs)).all (· ≤ reachBytes) = true) :
    Calls Try.prog 7 args W fun e W' => ∃ v, e = .returned v ∧ Rows.ringStableSpec.post enc Try.prog Try.f7 false true false false W args v W' := by
  have hW' := hW
  obtain ⟨p, q, hA0, hV, hbef, _, _⟩ := hW
  have hA : DataW.TrodAll enc Try.prog W 0 (fun _ => true) true Try.f7.params.toList args.toList ds p := hA0
  have hA1 := hA
  rw [Try.params7] at hA hval hsz
  obtain ⟨v0, vs0, d0, ds0, p0, q0, hargs, rfl, rfl, h0, r0⟩ := trodAll_cons hA
  obtain ⟨v1, vs1, d1, ds1, p1, q1, rfl, rfl, rfl, h1, r1⟩ := trodAll_cons r0
  obtain ⟨rfl, rfl, rfl⟩ := trodAll_nil r1
  obtain rfl : args = #[v0, v1] := by cases args; simp_all
  obtain ⟨rfl, rfl⟩ := trodVars_none hV
  clear hA hargs
  obtain ⟨A0, c0, a0, rfl, n0, w0, l0, _, o0⟩ := open_ns Try.underlying22 Try.underlying3 Facts.cells3 (hval 0 22 v0 rfl rfl) h0
  have b0 := reach_ns hsz (j := 0) rfl rfl Try.underlying22 Facts.bytes3 l0 o0
  obtain ⟨a1, rfl, rfl, _, w1⟩ := open_int Try.underlying3 (hval 1 3 v1 rfl rfl) h1
  refine (walk W A0 c0 a0 n0 (fun z hz => wf_int (w0 z hz)) (by omega) l0 a1 (wf_int w1)).mono fun e W' ⟨he, hb⟩ => ?_
  subst he
  exact ⟨_, rfl, law_post Facts.laid (by rfl) Try.underlying4 (by rw [Try.params7]; decide +kernel) hW' hA1 rfl hbef rfl rfl rfl hb⟩

set_option maxRecDepth 100000 in
theorem lifted (os : Os) (started : os.Started) (H : Type) (enc : TypeId × Value → H) :
    ReturnsInHanded {} Try.checked os 7 .any (Rows.ringStableSpec.pre6 enc Try.prog Try.f7 Rows.ringStableRow.domain false) (Rows.ringStableSpec.post enc Try.prog Try.f7 false true false false) := by
  refine returnsInHanded_of_change_sized (C := Try.checked) Facts.own started (by kernel_rfl) Try.func7
    (ChangeSpec.witness6 (enc := enc) (C := Try.checked) false ⟨#[], #[.slice none 0 0, .int .i64 0], []⟩ 8 (by kernel_rfl) (by kernel_rfl) (by kernel_rfl) (by kernel_rfl)) ?_
  intro W base args ds gs before hval hW _ hsz _
  exact contract H enc W base args ds gs before hval hW hsz

theorem holds : Rows.RingStableSaid :=
  OpenClaim.holds_of_wide 7 Try.f7 rfl rfl rfl rfl rfl rfl rfl ⟨rfl, rfl, rfl, rfl, rfl⟩ rfl rfl rfl rfl rfl (by kernel_rfl) Try.func7 (by kernel_rfl)
    (of_decide_eq_true (by kernel_rfl)) (by unfold Func.isWrapper; first | (rw [if_pos (by decide +kernel)]; kernel_rfl) | (rw [if_neg (by decide +kernel)]; exact ⟨rfl, rfl⟩))
    (fun os started H enc _ => lifted os started H enc)
-- ROW END
end RingStable
end Go.Proofs.Ytfnjengcemokpaa
