/-
  RingWhole (P12.4): of right members List and Rest together are all of them, each once. For every input.
-/
import Derived.Test.YtfnjengcemokpaaRingAwake
namespace Go.Proofs.Ytfnjengcemokpaa
namespace RingWhole
open Go.ChangeShapes Go.WideShapes Go.ChangeAt Go.RowKit Ring
attribute [local go_sem ↓] Go.wp_at_zero Go.wp_at_succ

/-- How often each number was met. -/
def SeenA (V : World) (b : Nat) (l : List Int) : Prop := b < V.heap.size ∧ ∀ q : Nat, q < 9 → V.cell? ⟨b, q, none⟩ = some (.int .i64 ((l.count (q : Int) : Nat) : Int)) ∧ V.frozen? ⟨b, q, none⟩ = false
theorem seen_start (w : World) : SeenA (w.alloc (.cells #[.int .i64 0, .int .i64 0, .int .i64 0, .int .i64 0, .int .i64 0, .int .i64 0, .int .i64 0, .int .i64 0, .int .i64 0] 35)) w.heap.size [] := by
  refine ⟨by simp, fun q hq => ?_⟩
  obtain rfl | rfl | rfl | rfl | rfl | rfl | rfl | rfl | rfl : q = 0 ∨ q = 1 ∨ q = 2 ∨ q = 3 ∨ q = 4 ∨ q = 5 ∨ q = 6 ∨ q = 7 ∨ q = 8 := by omega
  all_goals exact ⟨by simp, by simp⟩
theorem SeenA.set {V : World} {b : Nat} {l : List Int} (h : SeenA V b l) {z : Nat} (hz : z < 9) : SeenA (V.setCell ⟨b, z, none⟩ (.int .i64 (((l.count (z : Int) : Nat) : Int) + 1))) b (l ++ [(z : Int)]) := by
  refine ⟨by rw [size_set]; exact h.1, fun q hq => ⟨?_, ?_⟩⟩
  · by_cases e : q = z
    · subst e
      rw [World.cell?_setCell_same _ _ _ (h.2 q hq).1, List.count_append]
      simp
    · rw [World.cell?_setCell_other _ _ _ _ (by first | (simp; done) | simpa using e), (h.2 q hq).1, List.count_append]
      have : List.count (q : Int) [(z : Int)] = 0 := by
        rw [List.count_cons, if_neg (by simp; omega)]
        rfl
      rw [this]
      rfl
  · rw [World.frozen?_setCell]
    exact (h.2 q hq).2
theorem count_le {l : List Int} {z : Int} {k : Nat} (h : l.length ≤ k) : l.count z ≤ k := Nat.le_trans List.count_le_length h
theorem count_one : ∀ {l : List Int} {x : Int}, l.Nodup → x ∈ l → l.count x = 1
  | [], _, _, h => by simp at h
  | y :: l, x, hn, h => by
    rw [List.nodup_cons] at hn
    by_cases e : y = x
    · subst e
      rw [List.count_cons_self, List.count_eq_zero.2 hn.1]
    · rw [List.count_cons_of_ne e]
      exact count_one hn.2 (by
        rcases List.mem_cons.1 h with h | h
        · exact absurd h.symm e
        · exact h)
theorem take_snoc {l : List Int} {i : Nat} (h : i < l.length) : l.take (i + 1) = l.take i ++ [l.getD i 0] := by
  rw [List.take_succ_eq_append_getElem h]
  simp [List.getD_eq_getElem?_getD, h]
theorem take_get {l : List Int} {i k : Nat} (hi : i < k) : (l.take k).getD i 0 = l.getD i 0 := by
  simp [List.getD_eq_getElem?_getD, hi]
theorem drop_get {l : List Int} {i k : Nat} : (l.drop k).getD i 0 = l.getD (k + i) 0 := by
  simp [List.getD_eq_getElem?_getD, List.getElem?_drop]
/-- What an order of right members is. -/
theorem whole_plain {ms O : List Int} {part : Int} (hr : RightM ms ∧ 0 ≤ part ∧ part < 8) (h : OrdOK ms part O) :
    O.length = ms.length ∧ (∀ i < O.length, ∃ z : Nat, O.getD i 0 = z ∧ z < 9) ∧ ∀ i < ms.length, ∃ z : Nat, ms.getD i 0 = z ∧ z < 9 ∧ O.count (z : Int) = 1 := by
  have ho := h.1 hr
  refine ⟨ord_len ho hr.1.2.2.2, fun i hi => ?_, fun i hi => ?_⟩
  · have hm : O.getD i 0 ∈ O := by
      rw [List.getD_eq_getElem?_getD, List.getElem?_eq_getElem hi]
      exact List.getElem_mem _
    have := hr.1.2.2.1 _ ((ho.1 _).1 hm)
    exact ⟨(O.getD i 0).toNat, by omega, by omega⟩
  · have hm : ms.getD i 0 ∈ ms := by
      rw [List.getD_eq_getElem?_getD, List.getElem?_eq_getElem hi]
      exact List.getElem_mem _
    have h2 := hr.1.2.2.1 _ hm
    refine ⟨(ms.getD i 0).toNat, by omega, by omega, ?_⟩
    rw [show (((ms.getD i 0).toNat : Nat) : Int) = ms.getD i 0 by omega]
    exact count_one (ahead_nodup ho.2) ((ho.1 _).2 hm)

set_option maxRecDepth 100000 in
set_option maxHeartbeats 2000000 in
theorem walk (w : World) (A : Option Addr) (c : Nat) (ms : List Int) (hr : Ns .i64 w w.heap.size A ms) (_hm : ∀ z ∈ ms, -9223372036854775808 ≤ z ∧ z ≤ 9223372036854775807) (hbig : ms.length * 8 ≤ 140737488351232) (_hlc : ms.length ≤ c) (part : Int) (_hp : -9223372036854775808 ≤ part ∧ part ≤ 9223372036854775807) (x : Int) (_hx : -9223372036854775808 ≤ x ∧ x ≤ 9223372036854775807) :
    Calls Try.prog 6 #[.slice A ms.length c, .int .i64 part, .int .i64 x] w fun e w' => e = .returned (.bool true) ∧ Below w.heap.size w w' := by
  have hS : ∀ W, Below w.heap.size w W → Ns .i64 W W.heap.size A ms := fun W h => (hr.below h).more h.size
  have h2 := fun W h => ref_rightM_any A c ms.length ms rfl W (hS W h) (by omega)
  have h3 := fun y W h => list_any A c ms.length ms rfl part y W (hS W h) (by omega)
  have h5 := fun W h => rest_any A c ms.length ms rfl part x W (hS W h) (by omega)
  by_cases hright : RightM ms
  · rw [decide_eq_true hright] at h2
    by_cases hin : 0 ≤ part ∧ part < 8 ∧ 0 ≤ x ∧ x ≤ 9
    · obtain ⟨p0, p8, x0, x9⟩ := hin
      obtain ⟨X, rfl⟩ : ∃ X : Nat, x = X := ⟨x.toNat, by omega⟩
      have HR := Lib.hid (show RightM ms ∧ 0 ≤ part ∧ part < 8 from ⟨hright, p0, p8⟩)
      have hn1 : 1 ≤ ms.length := hright.1
      have hn8 : ms.length ≤ 8 := hright.2.1
      obtain ⟨n, hn⟩ : ∃ n, ms.length = n := ⟨_, rfl⟩
      rw [hn] at h2 h3 h5 hn1 hn8 ⊢
      have HN := Lib.hid hn
      have HA := Lib.hid hr
      have H2 := Lib.hid h2
      have H3 := Lib.hid h3
      have H5 := Lib.hid h5
      have p7 : part ≤ 7 := by omega
      have q1 : X ≤ 9 := by omega
      clear h2 h3 h5 hS hr hright hn hbig x0 x9
      go_enter Try.func6, Try.ntmps6
      go_wp2_with fail
      refine (awake_any w).mono ?_
      rintro e w0 ⟨rfl, b0⟩
      have B0 := Lib.hid b0
      clear b0
      go_wp2_with fail
      refine (H2.out w0 B0.out).mono ?_
      rintro e w1 ⟨rfl, b1⟩
      have B1 := Lib.hid (B0.out.trans (b1.mono B0.out.size))
      clear b1
      go_wp2_with fail
      refine (H3.out _ w1 B1.out).mono ?_
      rintro e w2 hl
      have hOK : OrdOK ms part (ordL ms part) := by
        obtain ⟨_, _, _, _, _, h, _⟩ := hl
        exact h.out
      obtain ⟨hlen, hO, hM⟩ := whole_plain HR.out hOK
      rw [HN.out] at hlen hM
      have hla : ∀ Y : Nat, listF ms part (Y : Int) = (ordL ms part).take (min Y n) := fun Y => by
        unfold listF cutF
        rw [hlen, if_neg (by omega)]
        congr 1
        split <;> omega
      have hra : restF ms part (X : Int) = (ordL ms part).drop (min X n) := by
        unfold restF cutF
        rw [hlen, if_neg (by omega)]
        congr 1
        split <;> omega
      obtain ⟨O, hOO⟩ : ∃ O, ordL ms part = O := ⟨_, rfl⟩
      rw [hOO] at hlen hO hra hM
      simp only [hOO] at hla
      obtain ⟨k, hk⟩ : ∃ k, min X n = k := ⟨_, rfl⟩
      obtain ⟨k1, hk1⟩ : ∃ k, min (X + 1) n = k := ⟨_, rfl⟩
      have hkn : k ≤ n := by omega
      have hkk1 : k ≤ k1 := by omega
      have hk1n : k1 ≤ n := by omega
      have hk2 : k < n → k1 = k + 1 := by omega
      have g1 := list_got (hla X) (show ((O.take (min X n)).length = k) by rw [List.length_take]; omega)
      have g2 := list_got (hla (X + 1)) (show ((O.take (min (X + 1) n)).length = k1) by rw [List.length_take]; omega)
      have g3 := rest_got hra (show ((O.drop (min X n)).length = n - k) by rw [List.length_drop]; omega)
      rw [hk] at g1 g3
      rw [hk1] at g2
      have e1 : min (X : Int) (n : Int) = k := by omega
      have e2 : (k : Int) + ((n - k : Nat) : Int) = (n : Int) := by omega
      have G2 := Lib.hid g2
      have G3 := Lib.hid g3
      have HO := Lib.hid (And.intro hlen (And.intro hO hM))
      obtain ⟨A2, c2, rfl, hc2, _, n2, b2⟩ := g1 _ _ _ hl
      have N2 := Lib.hid n2
      have B2 := Lib.hid (B1.out.trans (b2.mono B1.out.size))
      have f1 : ((k : Int) == (k : Int)) = true := by simp
      have f2 : ((k : Int) != (k : Int)) = false := by simp
      clear g1 g2 g3 hl hOK hlen hO hM hla hra hOO hk hk1 n2 b2
      go_wp2_with fail
      refine (H5.out w2 B2.out).mono ?_
      rintro e w3 hl
      obtain ⟨A3, c3, rfl, hc3, _, n3, b3⟩ := G3.out _ _ _ hl
      have B3 := Lib.hid (B2.out.trans (b3.mono B2.out.size))
      have N3 := Lib.hid (And.intro ((N2.out.below b3).more b3.size) n3)
      clear hl n3 b3
      go_wp2_with fail
      refine (H3.out ((X : Int) + 1) w3 B3.out).mono ?_
      rintro e w4 hl
      obtain ⟨A4, c4, rfl, hc4, _, n4, b4⟩ := G2.out _ _ _ hl
      have B4 := Lib.hid (B3.out.trans (b4.mono B3.out.size))
      have N4 := Lib.hid (And.intro ((N3.out.1.below b4).more b4.size) (And.intro ((N3.out.2.below b4).more b4.size) n4))
      clear hl n4 b4
      go_wp2_with fail
      obtain ⟨sb, hsb⟩ : ∃ sb, w4.heap.size = sb := ⟨_, rfl⟩
      obtain ⟨W, hW⟩ : ∃ W, w4.alloc (.cells #[.int .i64 0, .int .i64 0, .int .i64 0, .int .i64 0, .int .i64 0, .int .i64 0, .int .i64 0, .int .i64 0, .int .i64 0] 35) = W := ⟨_, rfl⟩
      have hMA : SeenA W sb [] := by rw [← hW, ← hsb]; exact seen_start w4
      have hbW : Below sb w4 W := by rw [← hW, ← hsb]; exact (Below.refl _ w4).alloc (Nat.le_refl _) _
      have hNS : ∀ V, Below sb W V → Ns .i64 V sb A2 (O.take k) ∧ Ns .i64 V sb A3 (O.drop k) ∧ Ns .i64 V sb A4 (O.take k1) ∧ Ns .i64 V sb A ms ∧ Below w.heap.size w V := fun V h => by
        have hb := hbW.trans h
        have hx := N4.out
        have hy := B4.out
        have hz := hy.size
        rw [hsb] at hx hz
        exact ⟨hx.1.below hb, hx.2.1.below hb, hx.2.2.below hb, ((HA.out.below hy).more hz).below hb, hy.trans (hb.mono hz)⟩
      have HMA := Lib.hid hMA
      have HNS := Lib.hid hNS
      rw [hW, hsb]
      clear hMA hbW hNS hW hsb
      go_loopw [11] (fun q V => ∃ i : Nat, i ≤ k ∧ q = .int .i64 i ∧ Hid (SeenA V sb (O.take i) ∧ Below sb W V)) (fun q _ => k - (intOf q).toNat)
      case atStart => exact ⟨0, by omega, rfl, Lib.hid ⟨HMA.out, Below.refl _ _⟩⟩
      case round =>
        obtain ⟨i, hik, rfl, hH⟩ := hrel
        clear HMA
        by_cases hlt : i < k
        · have hiO : i < O.length := by have := HO.out.1; omega
          obtain ⟨z, hz, hz9⟩ := HO.out.2.1 i hiO
          obtain ⟨na, nb, nc, nm, bw⟩ := HNS.out _ hH.out.2
          obtain ⟨pb, off, rfl, _, hca⟩ := na (by rw [List.length_take]; omega)
          obtain ⟨pb', off', rfl, _, hcc⟩ := nc (by rw [List.length_take]; omega)
          have c0 := hca i (by rw [List.length_take]; omega)
          have c1 := hcc i (by rw [List.length_take]; omega)
          rw [take_get hlt, hz] at c0
          rw [take_get (by omega), hz] at c1
          obtain ⟨s0, s1⟩ := hH.out.1.2 z hz9
          have hcl := count_le (l := O.take i) (z := (z : Int)) (k := 8) (by rw [List.length_take]; omega)
          obtain ⟨y, hy⟩ : ∃ y : Nat, (O.take i).count (z : Int) = y := ⟨_, rfl⟩
          have hst : ∀ nq, SeenA ((wr.drewN nq).setCell ⟨sb, z, none⟩ (.int .i64 ((y : Int) + 1))) sb (O.take (i + 1)) := fun nq => by
            have h := SeenA.set (V := wr.drewN nq) hH.out.1 hz9
            rw [← hz, ← take_snoc hiO, hz, hy] at h
            exact h
          rw [hy] at s0 hcl
          have HS := Lib.hid (fun nq => And.intro (hst nq) ((hH.out.2.trans (below_drewN _ wr nq)).setCell (p := ⟨sb, z, none⟩) (Nat.le_refl _) (.int .i64 ((y : Int) + 1))))
          have d1 : (i : Int) < (k : Int) := by omega
          have d2 : (0 : Int) ≤ (i : Int) := by omega
          have d3 : (i : Int) < (k1 : Int) := by omega
          have d4 : (z : Int) < 9 := by omega
          have d5 : (0 : Int) ≤ (z : Int) := by omega
          have d6 : ((z : Int) != (z : Int)) = false := by simp
          clear hst hH hy hz na nb nc nm bw hca hcc
          go_wp2_with fail
          go_quiet (fail)
          go_wp2_with fail
          exact ⟨⟨i + 1, by omega, rfl, Lib.hid (HS.out _)⟩, by simp only [intOf]; omega⟩
        · have d1 : ¬ (i : Int) < (k : Int) := by omega
          have hH' : Hid (SeenA wr sb (O.take (k + 0)) ∧ Below sb W wr) := Lib.hid (by
            have e : i = k := by omega
            subst e
            exact hH.out)
          clear hH
          go_wp2_with fail
          go_loopw [12] (fun q V => ∃ i : Nat, i ≤ n - k ∧ q = .int .i64 i ∧ Hid (SeenA V sb (O.take (k + i)) ∧ Below sb W V)) (fun q _ => n - k - (intOf q).toNat)
          case atStart => exact ⟨0, by omega, rfl, hH'⟩
          case round =>
            obtain ⟨j, hjk, rfl, hH⟩ := hrel
            clear hH'
            by_cases hlt2 : j < n - k
            · have hiO : k + j < O.length := by have := HO.out.1; omega
              obtain ⟨z, hz, hz9⟩ := HO.out.2.1 _ hiO
              obtain ⟨na, nb, nc, nm, bw⟩ := HNS.out _ hH.out.2
              obtain ⟨pb, off, rfl, _, hcb⟩ := nb (by rw [List.length_drop]; omega)
              have c0 := hcb j (by rw [List.length_drop]; omega)
              rw [drop_get, hz] at c0
              obtain ⟨s0, s1⟩ := hH.out.1.2 z hz9
              have hst := hH.out.1.set hz9
              rw [← hz, ← take_snoc hiO, hz] at hst
              have hcl := count_le (l := O.take (k + j)) (z := (z : Int)) (k := 8) (by rw [List.length_take]; omega)
              obtain ⟨y, hy⟩ : ∃ y : Nat, (O.take (k + j)).count (z : Int) = y := ⟨_, rfl⟩
              rw [hy] at s0 hst hcl
              have HS := Lib.hid (And.intro hst (hH.out.2.setCell (p := ⟨sb, z, none⟩) (Nat.le_refl _) (.int .i64 ((y : Int) + 1))))
              have d1 : (j : Int) < ((n - k : Nat) : Int) := by omega
              have d2 : (0 : Int) ≤ (j : Int) := by omega
              have d4 : (z : Int) < 9 := by omega
              have d5 : (0 : Int) ≤ (z : Int) := by omega
              clear hst hH hy hz na nb nc nm bw hcb
              go_wp2_with fail
              exact ⟨⟨j + 1, by omega, rfl, HS⟩, by simp only [intOf]; omega⟩
            · have d1 : ¬ (j : Int) < ((n - k : Nat) : Int) := by omega
              have hH' : Hid (SeenA wr sb O ∧ Below sb W wr) := Lib.hid (by
                have h := hH.out
                rw [List.take_of_length_le (by have := HO.out.1; omega)] at h
                exact h)
              clear hH
              go_wp2_with fail
              go_loopw [13] (fun q V => ∃ i : Nat, i ≤ n ∧ q = .int .i64 i ∧ Hid (SeenA V sb O ∧ Below sb W V)) (fun q _ => n - (intOf q).toNat)
              case atStart => exact ⟨0, by omega, rfl, hH'⟩
              case round =>
                obtain ⟨l, hln, rfl, hH⟩ := hrel
                clear hH'
                by_cases hlt3 : l < n
                · obtain ⟨z, hz, hz9, hcnt⟩ := HO.out.2.2 l hlt3
                  obtain ⟨na, nb, nc, nm, bw⟩ := HNS.out _ hH.out.2
                  obtain ⟨pb, off, rfl, _, hcm⟩ := nm (by rw [HN.out]; omega)
                  have c0 := hcm l (by rw [HN.out]; omega)
                  rw [hz] at c0
                  obtain ⟨s0, s1⟩ := hH.out.1.2 z hz9
                  rw [hcnt] at s0
                  have d1 : (l : Int) < (n : Int) := by omega
                  have d2 : (0 : Int) ≤ (l : Int) := by omega
                  have d4 : (z : Int) < 9 := by omega
                  have d5 : (0 : Int) ≤ (z : Int) := by omega
                  have HS := Lib.hid hH.out
                  clear hH hz hcnt na nb nc nm bw hcm
                  go_wp2_with fail
                  exact ⟨⟨l + 1, by omega, rfl, HS⟩, by simp only [intOf]; omega⟩
                · have d1 : ¬ (l : Int) < (n : Int) := by omega
                  have BW := Lib.hid (HNS.out _ hH.out.2).2.2.2.2
                  by_cases hkn2 : k < n
                  · have hk1e : k1 = k + 1 := hk2 hkn2
                    subst hk1e
                    have hiO : k < O.length := by have := HO.out.1; omega
                    obtain ⟨z, hz, hz9⟩ := HO.out.2.1 k hiO
                    obtain ⟨na, nb, nc, nm, bw⟩ := HNS.out _ hH.out.2
                    obtain ⟨pb, off, rfl, _, hcb⟩ := nb (by rw [List.length_drop]; omega)
                    obtain ⟨pb', off', rfl, _, hcc⟩ := nc (by rw [List.length_take]; omega)
                    have c0 := hcb 0 (by rw [List.length_drop]; omega)
                    have c1 := hcc k (by rw [List.length_take]; omega)
                    rw [drop_get, Nat.add_zero, Nat.add_zero, hz] at c0
                    rw [take_get (by omega), hz] at c1
                    have d2 : (((n - k : Nat) : Int) == 0) = false := by simp; omega
                    have d3 : (((k + 1 : Nat) : Int) == (k : Int) + 1) = true := by simp
                    have d4 : ((z : Int) == (z : Int)) = true := by simp
                    have d5 : (k : Int) < ((k + 1 : Nat) : Int) := by omega
                    have d6 : (0 : Int) < ((n - k : Nat) : Int) := by omega
                    clear hH hz na nb nc nm bw hcb hcc
                    go_wp2_with fail
                    go_quiet (fail)
                    go_wp2_with fail
                    go_ret
                    exact ⟨rfl, BW.out.trans (below_drewN _ _ _)⟩
                  · have d2 : (((n - k : Nat) : Int) == 0) = true := by simp; omega
                    clear hH
                    go_wp2_with fail
                    go_quiet (fail)
                    go_wp2_with fail
                    go_ret
                    exact ⟨rfl, BW.out.trans (below_drewN _ _ _)⟩
    · have hcs : part < 0 ∨ 8 ≤ part ∨ x < 0 ∨ 9 < x := by omega
      have hcs2 : part < 0 ∨ (0 ≤ part ∧ 7 < part) ∨ (0 ≤ part ∧ part ≤ 7 ∧ x < 0) ∨ (0 ≤ part ∧ part ≤ 7 ∧ 0 ≤ x ∧ 9 < x) := by omega
      obtain ⟨n, hn⟩ : ∃ n, ms.length = n := ⟨_, rfl⟩
      rw [hn] at h2 ⊢
      have H2 := Lib.hid h2
      clear h2 h3 h5 hS hr hright hn hbig hin hcs
      rcases hcs2 with hA | ⟨hA, hB⟩ | ⟨hA, hB, hC⟩ | ⟨hA, hB, hC, hD⟩
      all_goals
        go_enter Try.func6, Try.ntmps6
        go_wp2_with fail
        refine (awake_any w).mono ?_
        rintro e w0 ⟨rfl, b0⟩
        have B0 := Lib.hid b0
        clear b0
        go_wp2_with fail
        refine (H2.out w0 B0.out).mono ?_
        rintro e w1 ⟨rfl, b1⟩
        have B1 := Lib.hid (B0.out.trans (b1.mono B0.out.size))
        clear b1
        go_wp2_with fail
        refine (awake_any w1).mono ?_
        rintro e w2 ⟨rfl, b2⟩
        have B2 := Lib.hid (B1.out.trans (b2.mono B1.out.size))
        clear b2
        go_wp2_with fail
        go_ret
        exact ⟨rfl, B2.out⟩
  · rw [decide_eq_false hright] at h2
    obtain ⟨n, hn⟩ : ∃ n, ms.length = n := ⟨_, rfl⟩
    rw [hn] at h2 ⊢
    have H2 := Lib.hid h2
    clear h2 h3 h5 hS hr hright hn hbig
    go_enter Try.func6, Try.ntmps6
    go_wp2_with fail
    refine (awake_any w).mono ?_
    rintro e w0 ⟨rfl, b0⟩
    have B0 := Lib.hid b0
    clear b0
    go_wp2_with fail
    refine (H2.out w0 B0.out).mono ?_
    rintro e w1 ⟨rfl, b1⟩
    have B1 := Lib.hid (B0.out.trans (b1.mono B0.out.size))
    clear b1
    go_wp2_with fail
    refine (awake_any w1).mono ?_
    rintro e w2 ⟨rfl, b2⟩
    have B2 := Lib.hid (B1.out.trans (b2.mono B1.out.size))
    clear b2
    go_wp2_with fail
    go_ret
    exact ⟨rfl, B2.out⟩

-- ROW BEGIN
/-- What the walk gives, shut again. -/
theorem contract (H : Type) (enc : TypeId × Value → H) (W : World) (base : Nat) (args : Array Value) (ds gs : List (DataW H)) (before : List MemPlace)
    (hval : ∀ (j : Nat) t v, Try.f6.params[j]? = some t → args[j]? = some v → Value.okWide Try.prog W .any base t v)
    (hW : DataW.Whole enc Try.prog Try.f6.params.toList Rows.ringWholeSpec.vars false W args.toList ds gs before)
    (hsz : (DataW.weightsEach Try.prog (Try.f6.params.toList ++ Rows.ringWholeSpec.plain.varTypes Try.prog) (ds ++ gs)).all (· ≤ reachBytes) = true) :
    Calls Try.prog 6 args W fun e W' => ∃ v, e = .returned v ∧ Rows.ringWholeSpec.post enc Try.prog Try.f6 false true false false W args v W' := by
  have hW' := hW
  obtain ⟨p, q, hA0, hV, hbef, _, _⟩ := hW
  have hA : DataW.TrodAll enc Try.prog W 0 (fun _ => true) true Try.f6.params.toList args.toList ds p := hA0
  have hA1 := hA
  rw [Try.params6] at hA hval hsz
  obtain ⟨v0, vs0, d0, ds0, p0, q0, hargs, rfl, rfl, h0, r0⟩ := trodAll_cons hA
  obtain ⟨v1, vs1, d1, ds1, p1, q1, rfl, rfl, rfl, h1, r1⟩ := trodAll_cons r0
  obtain ⟨v2, vs2, d2, ds2, p2, q2, rfl, rfl, rfl, h2, r2⟩ := trodAll_cons r1
  obtain ⟨rfl, rfl, rfl⟩ := trodAll_nil r2
  obtain rfl : args = #[v0, v1, v2] := by cases args; simp_all
  obtain ⟨rfl, rfl⟩ := trodVars_none hV
  clear hA hargs
  obtain ⟨A0, c0, a0, rfl, n0, w0, l0, _, o0⟩ := open_ns Try.underlying22 Try.underlying3 Facts.cells3 (hval 0 22 v0 rfl rfl) h0
  have b0 := reach_ns hsz (j := 0) rfl rfl Try.underlying22 Facts.bytes3 l0 o0
  obtain ⟨a1, rfl, rfl, _, w1⟩ := open_int Try.underlying3 (hval 1 3 v1 rfl rfl) h1
  obtain ⟨a2, rfl, rfl, _, w2⟩ := open_int Try.underlying3 (hval 2 3 v2 rfl rfl) h2
  refine (walk W A0 c0 a0 n0 (fun z hz => wf_int (w0 z hz)) (by omega) l0 a1 (wf_int w1) a2 (wf_int w2)).mono fun e W' ⟨he, hb⟩ => ?_
  subst he
  exact ⟨_, rfl, law_post Facts.laid (by rfl) Try.underlying4 (by rw [Try.params6]; decide +kernel) hW' hA1 rfl hbef rfl rfl rfl hb⟩

set_option maxRecDepth 100000 in
theorem lifted (os : Os) (started : os.Started) (H : Type) (enc : TypeId × Value → H) :
    ReturnsInHanded {} Try.checked os 6 .any (Rows.ringWholeSpec.pre6 enc Try.prog Try.f6 Rows.ringWholeRow.domain false) (Rows.ringWholeSpec.post enc Try.prog Try.f6 false true false false) := by
  refine returnsInHanded_of_change_sized (C := Try.checked) Facts.own started (by kernel_rfl) Try.func6
    (ChangeSpec.witness6 (enc := enc) (C := Try.checked) false ⟨#[], #[.slice none 0 0, .int .i64 0, .int .i64 0], []⟩ 8 (by kernel_rfl) (by kernel_rfl) (by kernel_rfl) (by kernel_rfl)) ?_
  intro W base args ds gs before hval hW _ hsz _
  exact contract H enc W base args ds gs before hval hW hsz

theorem holds : Rows.RingWholeSaid :=
  OpenClaim.holds_of_wide 6 Try.f6 rfl rfl rfl rfl rfl rfl rfl ⟨rfl, rfl, rfl, rfl, rfl⟩ rfl rfl rfl rfl rfl (by kernel_rfl) Try.func6 (by kernel_rfl)
    (of_decide_eq_true (by kernel_rfl)) (by unfold Func.isWrapper; first | (rw [if_pos (by decide +kernel)]; kernel_rfl) | (rw [if_neg (by decide +kernel)]; exact ⟨rfl, rfl⟩))
    (fun os started H enc _ => lifted os started H enc)
-- ROW END
end RingWhole
end Go.Proofs.Ytfnjengcemokpaa
