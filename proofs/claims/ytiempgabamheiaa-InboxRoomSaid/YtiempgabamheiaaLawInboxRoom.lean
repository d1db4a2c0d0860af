/-
  InboxRoom (P18.1): of those that may not be done yet never more wait than there is room for; what is refused for that changes nothing; what may be done at once is never refused for it. For every input. Written by gen18/room.py.
-/
import Derived.Test.YtiempgabamheiaaInboxArgs
import Derived.Test.YtiempgabamheiaaInboxLawReady
import Derived.Test.YtiempgabamheiaaGBase
namespace Go.Proofs.Ytiempgabamheiaa
namespace InboxRoom
open Go.ChangeShapes Go.WideShapes Go.ChangeAt Go.RowKit Inbox Vers Span Blk
attribute [local go_sem ↓] Go.wp_at_zero Go.wp_at_succ
abbrev z4 : List Int := [0, 0, 0, 0]
def cnt (P : List Fr) : Nat := (P.filter fun x => !decide (mayF z4 x)).length
theorem cnt_yes {P : List Fr} {x : Fr} (h : mayF z4 x) : cnt (P ++ [x]) = cnt P := by
  unfold cnt
  rw [List.filter_append, List.length_append, List.filter_cons, if_neg (by simp [h])]
  simp
theorem cnt_no {P : List Fr} {x : Fr} (h : ¬ mayF z4 x) : cnt (P ++ [x]) = cnt P + 1 := by
  unfold cnt
  rw [List.filter_append, List.length_append, List.filter_cons, if_pos (by simp [h])]
  simp
theorem cnt_le (P : List Fr) : cnt P ≤ P.length := List.length_filter_le _ _
/-- What Take answers, three ways. -/
theorem ways {r : Nat} {P P2 : List Fr} {x : Fr} {a : Int} (hF : takeF (r : Int) P z4 x = (a, P2)) (hc : cnt P ≤ r) : cnt P2 ≤ r ∧ ((a = 2 ∧ okF x ∧ P2 = P ++ [x]) ∨ (a = 4 ∧ okF x ∧ P2 = P ∧ r ≤ P.length ∧ ¬ mayF z4 x) ∨ (P2 = P ∧ a ≠ 2 ∧ a ≠ 4 ∧ (a = 0 ↔ ¬ okF x))) := by
  unfold takeF at hF
  by_cases h1 : okF x
  · rw [if_pos h1] at hF
    by_cases h2 : covF z4 x
    · rw [if_pos h2] at hF
      injection hF with e1 e2
      subst e1 e2
      exact ⟨hc, .inr (.inr ⟨rfl, by decide, by decide, by simp [h1]⟩)⟩
    · rw [if_neg h2] at hF
      split at hF
      · injection hF with e1 e2
        subst e1 e2
        exact ⟨hc, .inr (.inr ⟨rfl, by decide, by decide, by simp [h1]⟩)⟩
      · split at hF
        · rename_i h4
          injection hF with e1 e2
          subst e1 e2
          exact ⟨hc, .inr (.inl ⟨rfl, h1, rfl, by have := h4.1; omega, h4.2⟩)⟩
        · rename_i h4
          injection hF with e1 e2
          subst e1 e2
          refine ⟨?_, .inl ⟨rfl, h1, rfl⟩⟩
          by_cases h5 : mayF z4 x
          · rw [cnt_yes h5]
            exact hc
          · rw [cnt_no h5]
            have h6 : ¬ (r : Int) ≤ (P.length : Int) := fun h => h4 ⟨h, h5⟩
            have := cnt_le P
            omega
  · rw [if_neg h1] at hF
    injection hF with e1 e2
    subst e1 e2
    exact ⟨hc, .inr (.inr ⟨rfl, by decide, by decide, by simp [h1]⟩)⟩
theorem z4_right : Vect.RightV z4 := by decide
theorem z4_lt (k : Nat) : 0 ≤ z4.getD k 0 ∧ z4.getD k 0 < 4611686018427387904 := by
  match k with
  | 0 => decide
  | 1 => decide
  | 2 => decide
  | 3 => decide
  | k + 4 => simp [z4]
theorem z4_ns {V : World} {B : Nat} (h : Bn B 2 [.int .i64 0, .int .i64 0, .int .i64 0, .int .i64 0] V) : Ns .i64 V V.heap.size (some ⟨B, 0, none⟩) z4 := fun _ => ⟨B, 0, rfl, h.lt, fun j hj => by
  match j, hj with
  | 0, _ => exact (h.cell 0).trans rfl
  | 1, _ => exact (h.cell 1).trans rfl
  | 2, _ => exact (h.cell 2).trans rfl
  | 3, _ => exact (h.cell 3).trans rfl⟩

set_option maxRecDepth 100000 in
set_option maxHeartbeats 8000000 in
theorem walk (w : World) (room : Int) (hroom : 0 ≤ room ∧ room ≤ 255) (A : Option Addr) (c : Nat) (l : List Fr) (hq : Fs w w.heap.size A l) (hb80 : l.length * 80 ≤ 140737488351232) (_hlc : l.length ≤ c) :
    Calls Try.prog 7 #[.int .u8 room, .slice A l.length c] w fun e w' => e = .returned (.bool true) ∧ Below w.heap.size w w' := by
  obtain ⟨n, hn⟩ : ∃ n, l.length = n := ⟨_, rfl⟩
  rw [hn] at hb80 ⊢
  obtain ⟨ro, rfl⟩ : ∃ r : Nat, room = (r : Int) := ⟨room.toNat, by omega⟩
  obtain ⟨r, hr⟩ : ∃ r, ro % 8 = r := ⟨_, rfl⟩
  have hr8 : r < 8 := by omega
  have e1 : (ro : Int).tmod 8 = (r : Int) := by rw [Int.tmod_eq_emod_of_nonneg (by omega)]; omega
  have e2 : IntKind.u8.wrap (r : Int) = (r : Int) := by rw [IntKind.wrap_u8]; omega
  have e3 : IntKind.i64.wrap (r : Int) = (r : Int) := IntWalk.i64_in _ (by omega)
  have e4 : max (r : Int) 0 = (r : Int) := by omega
  have HZ := Lib.hid (And.intro hq hn)
  have HAW := Lib.hid (awake_any w)
  clear hq hn _hlc hr
  go_enter Try.func7, Try.ntmps7
  go_wp2_with fail
  refine HAW.out.mono ?_
  rintro e w1 ⟨rfl, b1⟩
  have HNW := Lib.hid (Sit.new (r : Int) b1)
  clear b1 HAW
  go_wp2_with fail
  refine HNW.out.mono ?_
  rintro e w2 ⟨nb, rfl, h2⟩
  obtain ⟨W3, hW3⟩ : ∃ W, w2.alloc (.cells #[.int .i64 0, .int .i64 0, .int .i64 0, .int .i64 0] 2) = W := ⟨_, rfl⟩
  have b3 : Below w2.heap.size w2 W3 := by rw [← hW3]; exact (Below.refl _ w2).alloc (Nat.le_refl _) _
  have s3 : W3.heap.size = w2.heap.size + 1 := by rw [← hW3]; simp
  have B3 : Bn w2.heap.size 2 [.int .i64 0, .int .i64 0, .int .i64 0, .int .i64 0] W3 := by rw [← hW3]; exact heap_alloc_new w2 _
  obtain ⟨NB, hNB⟩ : ∃ r, w2.heap.size = r := ⟨_, rfl⟩
  have hst3 := (h2.out.1.hold b3).less (Y := fun j => j = NB) fun j hj => .inr (.inl (by omega))
  rw [e4] at hst3
  rw [hNB] at B3
  have HST := Lib.hid (And.intro hst3 B3)
  have HW3 := Lib.hid (And.intro hW3 hNB)
  clear hW3 b3 B3 s3 hst3 hNB h2 HNW e4
  go_upto_region 6 with fail
  rw [HW3.out.1, HW3.out.2]
  go_wp2_with fail
  go_loopw [8, 9, 10, 11, 12, 13, 14] (fun q _ _ _ _ _ _ wr => ∃ (k : Nat) (P : List Fr), q = .int .i64 k ∧ k ≤ n ∧ P.length ≤ k ∧ Hid (Sit (fun j => j = NB) w nb (r : Int) P wr ∧ (∀ y ∈ P, okF y) ∧ Bn NB 2 [.int .i64 0, .int .i64 0, .int .i64 0, .int .i64 0] wr ∧ cnt P ≤ r)) (fun q _ _ _ _ _ _ _ => n - (intOf q).toNat)
  case atStart => exact ⟨0, [], rfl, by omega, by simp, Lib.hid ⟨HST.out.1, by simp, HST.out.2, by simp [cnt]⟩⟩
  case round =>
    clear HST HW3 e1 e2 e3
    obtain ⟨k, P, rfl, hk, hPk, hst⟩ := hrel
    by_cases hlt : k < n
    · obtain ⟨x, hx⟩ : ∃ x, l[k]? = some x := ⟨l[k]'(by have := HZ.out.2; omega), by simp⟩
      obtain ⟨b, off, rfl, hbl, hat⟩ := HZ.out.1 (by have := HZ.out.2; omega)
      obtain ⟨⟨a1, c1⟩, ⟨a2, c2⟩, hcl, hvx, hrx, hsz, hcx⟩ := hat k x hx
      obtain ⟨⟨f1, f2⟩, ⟨k1, v1⟩, rr⟩ := x
      obtain ⟨m1, hm1⟩ : ∃ r, v1.length = r := ⟨_, rfl⟩
      obtain ⟨r1, hr1⟩ : ∃ r, rr.length = r := ⟨_, rfl⟩
      have hold := hst.out.1.old
      have d1 : (0 : Int) ≤ (k : Int) := by omega
      have d2 : (k : Int) < (n : Int) := by omega
      obtain ⟨⟨a, P2⟩, hF⟩ : ∃ q, takeF (r : Int) P z4 ((f1, f2), (k1, v1), rr) = q := ⟨_, rfl⟩
      obtain ⟨kp, hkp⟩ : ∃ r, P.length = r := ⟨_, rfl⟩
      obtain ⟨k2, hk2⟩ : ∃ r, P2.length = r := ⟨_, rfl⟩
      obtain ⟨q, hqq⟩ : ∃ q, decide (okF ((f1, f2), (k1, v1), rr)) = q := ⟨_, rfl⟩
      have hw3 := ways hF hst.out.2.2.2
      have hok2 := take_ok hst.out.2.1 hF
      have hl2 := Inbox.take_len hF
      have hkpb : kp ≤ k := by omega
      have hk2b : k2 ≤ k + 1 := by omega
      have HWA := Lib.hid (hst.out.1.waits hst.out.2.1 (by omega) kp hkp)
      have HB := Lib.hid (And.intro hst.out.2.1 (And.intro hst.out.2.2.1 (And.intro hkp hk2)))
      have HC : Hid (∀ V, Below w.heap.size w V → V.cell? ⟨b, off + k * 5, none⟩ = some (.int .i64 f1) ∧ V.cell? ⟨b, off + k * 5 + 1, none⟩ = some (.int .i64 f2) ∧ V.cell? ⟨b, off + k * 5 + 2, none⟩ = some (.string k1) ∧ V.cell? ⟨b, off + k * 5 + 3, none⟩ = some (.slice a1 m1 c1) ∧ V.cell? ⟨b, off + k * 5 + 4, none⟩ = some (.slice a2 r1 c2)) := Lib.hid fun V hV => by
        have hcell : ∀ r u, (fc (((f1, f2), (k1, v1), rr), (a1, c1), (a2, c2)))[r]? = some u → V.cell? ⟨b, off + k * 5 + r, none⟩ = some u := fun r u hu => (hV.cell (p := ⟨b, off + k * 5 + r, none⟩) hbl).trans (hcl r u hu)
        exact ⟨hcell 0 _ rfl, hcell 1 _ rfl, hcell 2 _ rfl, by rw [← hm1]; exact hcell 3 _ rfl, by rw [← hr1]; exact hcell 4 _ rfl⟩
      have HX := Lib.hid (And.intro hvx (And.intro hrx (And.intro hsz (And.intro hcx (And.intro hm1 hr1)))))
      have HF := Lib.hid hF
      have HQ := Lib.hid hqq
      have HO2 := Lib.hid (And.intro hok2 hw3.1)
      have HWY := Lib.hid hw3.2
      clear hx hat hcl hvx hrx hsz hcx hm1 hr1 hold hF hst hkp hk2 hqq hw3 hok2 hl2
      go_wp2_with fail
      refine HWA.out.mono ?_
      rintro e w4 ⟨A4, c4, rfl, h4⟩
      have HS4 := Lib.hid (And.intro h4.out.2.2 (And.intro h4.out.2.2.old (HB.out.2.1.same (h4.out.2.1.block _ HB.out.2.1.lt))))
      obtain ⟨q0, q1, q2, q3, q4⟩ := HC.out w4 HS4.out.2.1
      have HP := Lib.hid (HS4.out.1.take HB.out.1 (by have := HB.out.2.2.1; omega) f1 f2 k1 a1 c1 m1 v1 HX.out.2.2.2.2.1 a2 c2 r1 rr HX.out.2.2.2.2.2 HX.out.2.2.1 ((HX.out.1.below HS4.out.2.1).more HS4.out.2.1.size) ((HX.out.2.1.below HS4.out.2.1).more HS4.out.2.1.size) (some ⟨NB, 0, none⟩) 4 4 z4 rfl (by omega) (z4_ns HS4.out.2.2) HF.out)
      clear h4 HWA
      go_wp2_with fail
      refine HP.out.mono ?_
      rintro e w5 ⟨rfl, h5⟩
      have HB5 := Lib.hid (h5.out.2.bn rfl HS4.out.2.2)
      have HW5 := Lib.hid (h5.out.1.waits HO2.out.1 (by have := HB.out.2.2.2; omega) k2 HB.out.2.2.2)
      clear h5 HP q0 q1 q2 q3 q4 HS4
      go_wp2_with fail
      refine HW5.out.mono ?_
      rintro e w6 ⟨A6, c6, rfl, h6⟩
      have HS6 := Lib.hid (And.intro h6.out.2.2 (And.intro h6.out.2.2.old (And.intro (HB5.out.same (h6.out.2.1.block _ HB5.out.lt)) h6.out.1)))
      obtain ⟨q0, q1, q2, q3, q4⟩ := HC.out w6 HS6.out.2.1
      have HRI := Lib.hid (lright_any f1 f2 k1 a1 c1 m1 v1 HX.out.2.2.2.2.1 (by have := HX.out.2.2.1.2.1; have h := HX.out.2.2.2.2.1; simp only at this; omega) (by have := HX.out.2.2.1.1; simp only at this; omega) a2 r1 c2 w6 ((HX.out.1.below HS6.out.2.1).more HS6.out.2.1.size))
      rw [show decide (Code.okR (k1, v1) ∧ v1.length = 1) = q from HQ.out] at HRI
      clear h6 HW5 HB5
      rcases HWY.out with ⟨rfl, ho, hp⟩ | ⟨rfl, ho, hp, hrl, hnm⟩ | ⟨hp, ha2, ha4, ha0⟩
      · obtain rfl : q = true := by rw [← HQ.out]; exact decide_eq_true ho
        obtain rfl : k2 = kp + 1 := by rw [← HB.out.2.2.2, hp, List.length_append, HB.out.2.2.1]; rfl
        clear ho hp HWY
        as_aux_lemma =>
          go_wp2_with fail
          refine HRI.out.mono ?_
          rintro e w7 ⟨rfl, b7⟩
          have HS7 := Lib.hid (And.intro (HS6.out.1.below b7) (And.intro (HS6.out.2.1.trans (b7.mono HS6.out.2.1.size)) (And.intro (HS6.out.2.2.1.same (b7.block _ HS6.out.2.2.1.lt)) ((HS6.out.2.2.2.below b7).more b7.size))))
          clear b7 HRI q0 q1 q2 q3 q4
          go_wp2_with fail
          go_loopw [13, 14] (fun qf q wr => ∃ j f : Nat, qf = .int .i64 f ∧ q = .int .i64 j ∧ j ≤ (kp + 1) ∧ f ≤ j ∧ Hid (Below w7.heap.size w7 wr ∧ cnt (P2.take j) = f)) (fun _ q _ => (kp + 1) - (intOf q).toNat)
          case atStart => exact ⟨0, 0, rfl, rfl, by omega, by omega, Lib.hid ⟨Below.refl _ _, by simp [cnt]⟩⟩
          case round =>
            obtain ⟨j, f, rfl, rfl, hj, hf, hst⟩ := hrel
            by_cases hlt2 : j < (kp + 1)
            · obtain ⟨y, hy⟩ : ∃ x, P2[j]? = some x := ⟨P2[j]'(by have := HB.out.2.2.2; omega), by simp⟩
              have hyo := HO2.out.1 y (List.mem_of_getElem? hy)
              obtain ⟨b2, off2, rfl, hbl2, hat2⟩ := HS7.out.2.2.2 (by have := HB.out.2.2.2; omega)
              obtain ⟨⟨a3, c3⟩, ⟨a5, c5⟩, hcl, hvy, _, _, hcy⟩ := hat2 j y hy
              obtain ⟨hm2, _⟩ := ok_one hyo
              have hyok : okV (y.2.1.2.getD 0 v0) := by
                          exact (ok_one hyo).2
              have htk : P2.take (j + 1) = P2.take j ++ [y] := by
                obtain ⟨hjl, hje⟩ := List.getElem?_eq_some_iff.1 hy
                rw [List.take_succ_eq_append_getElem hjl, hje]
              obtain ⟨qm, hqm⟩ : ∃ q, decide (mayF z4 y) = q := ⟨_, rfl⟩
              have hn1 : qm = true → cnt (P2.take (j + 1)) = cnt (P2.take j) := fun h => by rw [htk]; exact cnt_yes (of_decide_eq_true (hqm.trans h))
              have hn2 : qm = false → cnt (P2.take (j + 1)) = cnt (P2.take j) + 1 := fun h => by rw [htk]; exact cnt_no (of_decide_eq_false (hqm.trans h))
              have hbw := hst.out.1
              have HRD : Hid (∀ V, Below w7.heap.size w7 V → Calls Try.prog 28 #[.agg #[.int .i64 y.1.1, .int .i64 y.1.2, .string y.2.1.1, .slice a3 1 c3, .slice a5 y.2.2.length c5], .slice (some ⟨NB, 0, none⟩) 4 4] V (fun e w' => e = .returned (.bool qm) ∧ Below V.heap.size V w')) := Lib.hid fun V hV => by
                have h := lready_any y.1.1 y.1.2 y.2.1.1 a3 c3 1 y.2.1.2 hm2 (Nat.le_refl _) hyok a5 y.2.2.length c5 (some ⟨NB, 0, none⟩) 4 4 z4 rfl (by omega) z4_right z4_lt V ((hvy.below hV).more hV.size) (z4_ns (HS7.out.2.2.1.same (hV.block _ HS7.out.2.2.1.lt)))
                rwa [show decide (mayV z4 (y.2.1.2.getD 0 v0)) = qm from hqm] at h
              obtain ⟨⟨g1', g2'⟩, ⟨k3, v3⟩, r3⟩ := y
              obtain ⟨r4, hr4⟩ : ∃ r, r3.length = r := ⟨_, rfl⟩
              simp only at HRD hm2
              rw [hr4] at HRD
              have p0 : wr.cell? ⟨b2, off2 + j * 5, none⟩ = some (.int .i64 g1') := (hbw.cell (p := ⟨b2, off2 + j * 5, none⟩) hbl2).trans (hcl 0 _ rfl)
              have p1 : wr.cell? ⟨b2, off2 + j * 5 + 1, none⟩ = some (.int .i64 g2') := (hbw.cell (p := ⟨b2, off2 + j * 5 + 1, none⟩) hbl2).trans (hcl 1 _ rfl)
              have p2 : wr.cell? ⟨b2, off2 + j * 5 + 2, none⟩ = some (.string k3) := (hbw.cell (p := ⟨b2, off2 + j * 5 + 2, none⟩) hbl2).trans (hcl 2 _ rfl)
              have p3 : wr.cell? ⟨b2, off2 + j * 5 + 3, none⟩ = some (.slice a3 1 c3) := by rw [← hm2]; exact (hbw.cell (p := ⟨b2, off2 + j * 5 + 3, none⟩) hbl2).trans (hcl 3 _ rfl)
              have p4 : wr.cell? ⟨b2, off2 + j * 5 + 4, none⟩ = some (.slice a5 r4 c5) := by rw [← hr4]; exact (hbw.cell (p := ⟨b2, off2 + j * 5 + 4, none⟩) hbl2).trans (hcl 4 _ rfl)
              have d3 : (0 : Int) ≤ (j : Int) := by omega
              have d4 : (j : Int) < (kp : Int) + 1 := by omega
              have HRW := Lib.hid (HRD.out wr hbw)
              have HJ := Lib.hid (And.intro hn1 (And.intro hn2 hst.out))
              clear hy hyo hat2 hcl hvy hcy hm2 hyok htk hqm hn1 hn2 hbw HRD hr4 hst
              go_wp2_with fail
              refine HRW.out.mono ?_
              rintro e w8 ⟨rfl, b8⟩
              have hb8 := HJ.out.2.2.1.trans (b8.mono HJ.out.2.2.1.size)
              cases qm
              · have HN : Hid (Below w7.heap.size w7 w8 ∧ cnt (P2.take (j + 1)) = f + 1) := Lib.hid ⟨hb8, by rw [HJ.out.2.1 rfl, HJ.out.2.2.2]⟩
                clear hb8 b8 HRW HJ
                go_wp2_with fail
                go_roundw
                case rel => exact ⟨j + 1, f + 1, rfl, rfl, by omega, by omega, HN⟩
                case measure => simp only [intOf]; omega
              · have HN : Hid (Below w7.heap.size w7 w8 ∧ cnt (P2.take (j + 1)) = f) := Lib.hid ⟨hb8, by rw [HJ.out.1 rfl, HJ.out.2.2.2]⟩
                clear hb8 b8 HRW HJ
                go_wp2_with fail
                go_roundw
                case rel => exact ⟨j + 1, f, rfl, rfl, by omega, by omega, HN⟩
                case measure => simp only [intOf]; omega
            · obtain rfl : j = (kp + 1) := by omega
              have hfr : f ≤ r := by
                have h := hst.out.2
                rw [List.take_of_length_le (by have := HB.out.2.2.2; omega)] at h
                have := HO2.out.2
                omega
              have h1 : decide ((r : Int) < (f : Int)) = false := decide_eq_false (by omega)
              have h2 : decide (r < f) = false := decide_eq_false (by omega)
              have HSE := Lib.hid (And.intro (HS7.out.1.below hst.out.1) (And.intro (HS7.out.2.1.trans (hst.out.1.mono HS7.out.2.1.size)) (HS7.out.2.2.1.same (hst.out.1.block _ HS7.out.2.2.1.lt))))
              clear hst hlt2
              have HN := Lib.hid (And.intro HSE.out.1 (And.intro HO2.out.1 (And.intro HSE.out.2.2 HO2.out.2)))
              have hPl : P2.length ≤ k + 1 := by have := HB.out.2.2.2; omega
              go_wp2_with fail
              go_roundw
              case rel => exact ⟨k + 1, P2, rfl, by omega, hPl, HN⟩
              case measure => simp only [intOf]; omega
      · obtain rfl : q = true := by rw [← HQ.out]; exact decide_eq_true ho
        obtain rfl : kp = k2 := (show k2 = kp by rw [← HB.out.2.2.2, hp, HB.out.2.2.1]).symm
        have gk : ((kp : Int) == (kp : Int) + 1) = false := beq_eq_false_iff_ne.2 (by omega)
        have g1 : decide ((kp : Int) < (r : Int)) = false := decide_eq_false (by have := HB.out.2.2.1; omega)
        have g2 : decide (kp < r) = false := decide_eq_false (by have := HB.out.2.2.1; omega)
        have HNM := Lib.hid (And.intro hnm ho)
        clear ho hp HWY hrl hnm
        as_aux_lemma =>
          go_wp2_with fail
          refine HRI.out.mono ?_
          rintro e w7 ⟨rfl, b7⟩
          have HS7 := Lib.hid (And.intro (HS6.out.1.below b7) (And.intro (HS6.out.2.1.trans (b7.mono HS6.out.2.1.size)) (And.intro (HS6.out.2.2.1.same (b7.block _ HS6.out.2.2.1.lt)) ((HS6.out.2.2.2.below b7).more b7.size))))
          clear b7 HRI q0 q1 q2 q3 q4
          go_wp2_with fail
          go_loopw [13, 14] (fun qf q wr => ∃ j f : Nat, qf = .int .i64 f ∧ q = .int .i64 j ∧ j ≤ kp ∧ f ≤ j ∧ Hid (Below w7.heap.size w7 wr ∧ cnt (P2.take j) = f)) (fun _ q _ => kp - (intOf q).toNat)
          case atStart => exact ⟨0, 0, rfl, rfl, by omega, by omega, Lib.hid ⟨Below.refl _ _, by simp [cnt]⟩⟩
          case round =>
            clear g1 g2
            obtain ⟨j, f, rfl, rfl, hj, hf, hst⟩ := hrel
            by_cases hlt2 : j < kp
            · obtain ⟨y, hy⟩ : ∃ x, P2[j]? = some x := ⟨P2[j]'(by have := HB.out.2.2.2; omega), by simp⟩
              have hyo := HO2.out.1 y (List.mem_of_getElem? hy)
              obtain ⟨b2, off2, rfl, hbl2, hat2⟩ := HS7.out.2.2.2 (by have := HB.out.2.2.2; omega)
              obtain ⟨⟨a3, c3⟩, ⟨a5, c5⟩, hcl, hvy, _, _, hcy⟩ := hat2 j y hy
              obtain ⟨hm2, _⟩ := ok_one hyo
              have hyok : okV (y.2.1.2.getD 0 v0) := by
                          exact (ok_one hyo).2
              have htk : P2.take (j + 1) = P2.take j ++ [y] := by
                obtain ⟨hjl, hje⟩ := List.getElem?_eq_some_iff.1 hy
                rw [List.take_succ_eq_append_getElem hjl, hje]
              obtain ⟨qm, hqm⟩ : ∃ q, decide (mayF z4 y) = q := ⟨_, rfl⟩
              have hn1 : qm = true → cnt (P2.take (j + 1)) = cnt (P2.take j) := fun h => by rw [htk]; exact cnt_yes (of_decide_eq_true (hqm.trans h))
              have hn2 : qm = false → cnt (P2.take (j + 1)) = cnt (P2.take j) + 1 := fun h => by rw [htk]; exact cnt_no (of_decide_eq_false (hqm.trans h))
              have hbw := hst.out.1
              have HRD : Hid (∀ V, Below w7.heap.size w7 V → Calls Try.prog 28 #[.agg #[.int .i64 y.1.1, .int .i64 y.1.2, .string y.2.1.1, .slice a3 1 c3, .slice a5 y.2.2.length c5], .slice (some ⟨NB, 0, none⟩) 4 4] V (fun e w' => e = .returned (.bool qm) ∧ Below V.heap.size V w')) := Lib.hid fun V hV => by
                have h := lready_any y.1.1 y.1.2 y.2.1.1 a3 c3 1 y.2.1.2 hm2 (Nat.le_refl _) hyok a5 y.2.2.length c5 (some ⟨NB, 0, none⟩) 4 4 z4 rfl (by omega) z4_right z4_lt V ((hvy.below hV).more hV.size) (z4_ns (HS7.out.2.2.1.same (hV.block _ HS7.out.2.2.1.lt)))
                rwa [show decide (mayV z4 (y.2.1.2.getD 0 v0)) = qm from hqm] at h
              obtain ⟨⟨g1', g2'⟩, ⟨k3, v3⟩, r3⟩ := y
              obtain ⟨r4, hr4⟩ : ∃ r, r3.length = r := ⟨_, rfl⟩
              simp only at HRD hm2
              rw [hr4] at HRD
              have p0 : wr.cell? ⟨b2, off2 + j * 5, none⟩ = some (.int .i64 g1') := (hbw.cell (p := ⟨b2, off2 + j * 5, none⟩) hbl2).trans (hcl 0 _ rfl)
              have p1 : wr.cell? ⟨b2, off2 + j * 5 + 1, none⟩ = some (.int .i64 g2') := (hbw.cell (p := ⟨b2, off2 + j * 5 + 1, none⟩) hbl2).trans (hcl 1 _ rfl)
              have p2 : wr.cell? ⟨b2, off2 + j * 5 + 2, none⟩ = some (.string k3) := (hbw.cell (p := ⟨b2, off2 + j * 5 + 2, none⟩) hbl2).trans (hcl 2 _ rfl)
              have p3 : wr.cell? ⟨b2, off2 + j * 5 + 3, none⟩ = some (.slice a3 1 c3) := by rw [← hm2]; exact (hbw.cell (p := ⟨b2, off2 + j * 5 + 3, none⟩) hbl2).trans (hcl 3 _ rfl)
              have p4 : wr.cell? ⟨b2, off2 + j * 5 + 4, none⟩ = some (.slice a5 r4 c5) := by rw [← hr4]; exact (hbw.cell (p := ⟨b2, off2 + j * 5 + 4, none⟩) hbl2).trans (hcl 4 _ rfl)
              have d3 : (0 : Int) ≤ (j : Int) := by omega
              have d4 : (j : Int) < (kp : Int) := by omega
              have HRW := Lib.hid (HRD.out wr hbw)
              have HJ := Lib.hid (And.intro hn1 (And.intro hn2 hst.out))
              clear hy hyo hat2 hcl hvy hcy hm2 hyok htk hqm hn1 hn2 hbw HRD hr4 hst
              go_wp2_with fail
              refine HRW.out.mono ?_
              rintro e w8 ⟨rfl, b8⟩
              have hb8 := HJ.out.2.2.1.trans (b8.mono HJ.out.2.2.1.size)
              cases qm
              · have HN : Hid (Below w7.heap.size w7 w8 ∧ cnt (P2.take (j + 1)) = f + 1) := Lib.hid ⟨hb8, by rw [HJ.out.2.1 rfl, HJ.out.2.2.2]⟩
                clear hb8 b8 HRW HJ
                go_wp2_with fail
                go_roundw
                case rel => exact ⟨j + 1, f + 1, rfl, rfl, by omega, by omega, HN⟩
                case measure => simp only [intOf]; omega
              · have HN : Hid (Below w7.heap.size w7 w8 ∧ cnt (P2.take (j + 1)) = f) := Lib.hid ⟨hb8, by rw [HJ.out.1 rfl, HJ.out.2.2.2]⟩
                clear hb8 b8 HRW HJ
                go_wp2_with fail
                go_roundw
                case rel => exact ⟨j + 1, f, rfl, rfl, by omega, by omega, HN⟩
                case measure => simp only [intOf]; omega
            · obtain rfl : j = kp := by omega
              have hfr : f ≤ r := by
                have h := hst.out.2
                rw [List.take_of_length_le (by have := HB.out.2.2.2; omega)] at h
                have := HO2.out.2
                omega
              have h1 : decide ((r : Int) < (f : Int)) = false := decide_eq_false (by omega)
              have h2 : decide (r < f) = false := decide_eq_false (by omega)
              have HSE := Lib.hid (And.intro (HS7.out.1.below hst.out.1) (And.intro (HS7.out.2.1.trans (hst.out.1.mono HS7.out.2.1.size)) (HS7.out.2.2.1.same (hst.out.1.block _ HS7.out.2.2.1.lt))))
              clear hst hlt2
              obtain ⟨q0, q1, q2, q3, q4⟩ := HC.out wr HSE.out.2.1
              have hm := (ok_one HNM.out.2).1
              have hm' : m1 = 1 := by rw [← HX.out.2.2.2.2.1]; exact hm
              have hyok : okV (v1.getD 0 v0) := by
                have hyo := HNM.out.2
                exact (ok_one hyo).2
              have HRD := Lib.hid (lready_any f1 f2 k1 a1 c1 m1 v1 HX.out.2.2.2.2.1 (by omega) hyok a2 r1 c2 (some ⟨NB, 0, none⟩) 4 4 z4 rfl (by omega) z4_right z4_lt wr ((HX.out.1.below HSE.out.2.1).more HSE.out.2.1.size) (z4_ns HSE.out.2.2))
              rw [show decide (mayV z4 (v1.getD 0 v0)) = false from decide_eq_false HNM.out.1] at HRD
              clear hm hm' hyok
              go_wp2_with fail
              refine HRD.out.mono ?_
              rintro e w9 ⟨rfl, b9⟩
              have HN := Lib.hid (And.intro (HSE.out.1.below b9) (And.intro HO2.out.1 (And.intro (HSE.out.2.2.same (b9.block _ HSE.out.2.2.lt)) HO2.out.2)))
              have hPl : P2.length ≤ k + 1 := by have := HB.out.2.2.2; omega
              clear b9 HRD
              go_wp2_with fail
              go_roundw
              case rel => exact ⟨k + 1, P2, rfl, by omega, hPl, HN⟩
              case measure => simp only [intOf]; omega
      · obtain rfl : kp = k2 := (show k2 = kp by rw [← HB.out.2.2.2, hp, HB.out.2.2.1]).symm
        have gk : ((kp : Int) == (kp : Int) + 1) = false := beq_eq_false_iff_ne.2 (by omega)
        have g0 : (decide (a = 0) == q) = false := by
          rw [← HQ.out]
          by_cases h : okF ((f1, f2), (k1, v1), rr)
          · rw [decide_eq_true h, decide_eq_false fun h0 => ha0.1 h0 h]
            rfl
          · rw [decide_eq_false h, decide_eq_true (ha0.2 h)]
            rfl
        have g2 : decide (a = 2) = false := decide_eq_false ha2
        have g4 : decide (a = 4) = false := decide_eq_false ha4
        have g3 : (a == 2) = false := by simp [ha2]
        have g5 : (a == 4) = false := by simp [ha4]
        have g6 : ((a == 0) == q) = false := g0
        have HA := Lib.hid (And.intro ha2 ha4)
        clear hp HWY ha0
        as_aux_lemma =>
          go_wp2_with fail
          refine HRI.out.mono ?_
          rintro e w7 ⟨rfl, b7⟩
          have HS7 := Lib.hid (And.intro (HS6.out.1.below b7) (And.intro (HS6.out.2.1.trans (b7.mono HS6.out.2.1.size)) (And.intro (HS6.out.2.2.1.same (b7.block _ HS6.out.2.2.1.lt)) ((HS6.out.2.2.2.below b7).more b7.size))))
          clear b7 HRI q0 q1 q2 q3 q4
          go_wp2_with fail
          go_loopw [13, 14] (fun qf q wr => ∃ j f : Nat, qf = .int .i64 f ∧ q = .int .i64 j ∧ j ≤ kp ∧ f ≤ j ∧ Hid (Below w7.heap.size w7 wr ∧ cnt (P2.take j) = f)) (fun _ q _ => kp - (intOf q).toNat)
          case atStart => exact ⟨0, 0, rfl, rfl, by omega, by omega, Lib.hid ⟨Below.refl _ _, by simp [cnt]⟩⟩
          case round =>
            clear g0 g2 g3 g4 g5 g6 ha2 ha4
            obtain ⟨j, f, rfl, rfl, hj, hf, hst⟩ := hrel
            by_cases hlt2 : j < kp
            · obtain ⟨y, hy⟩ : ∃ x, P2[j]? = some x := ⟨P2[j]'(by have := HB.out.2.2.2; omega), by simp⟩
              have hyo := HO2.out.1 y (List.mem_of_getElem? hy)
              obtain ⟨b2, off2, rfl, hbl2, hat2⟩ := HS7.out.2.2.2 (by have := HB.out.2.2.2; omega)
              obtain ⟨⟨a3, c3⟩, ⟨a5, c5⟩, hcl, hvy, _, _, hcy⟩ := hat2 j y hy
              obtain ⟨hm2, _⟩ := ok_one hyo
              have hyok : okV (y.2.1.2.getD 0 v0) := by
                          exact (ok_one hyo).2
              have htk : P2.take (j + 1) = P2.take j ++ [y] := by
                obtain ⟨hjl, hje⟩ := List.getElem?_eq_some_iff.1 hy
                rw [List.take_succ_eq_append_getElem hjl, hje]
              obtain ⟨qm, hqm⟩ : ∃ q, decide (mayF z4 y) = q := ⟨_, rfl⟩
              have hn1 : qm = true → cnt (P2.take (j + 1)) = cnt (P2.take j) := fun h => by rw [htk]; exact cnt_yes (of_decide_eq_true (hqm.trans h))
              have hn2 : qm = false → cnt (P2.take (j + 1)) = cnt (P2.take j) + 1 := fun h => by rw [htk]; exact cnt_no (of_decide_eq_false (hqm.trans h))
              have hbw := hst.out.1
              have HRD : Hid (∀ V, Below w7.heap.size w7 V → Calls Try.prog 28 #[.agg #[.int .i64 y.1.1, .int .i64 y.1.2, .string y.2.1.1, .slice a3 1 c3, .slice a5 y.2.2.length c5], .slice (some ⟨NB, 0, none⟩) 4 4] V (fun e w' => e = .returned (.bool qm) ∧ Below V.heap.size V w')) := Lib.hid fun V hV => by
                have h := lready_any y.1.1 y.1.2 y.2.1.1 a3 c3 1 y.2.1.2 hm2 (Nat.le_refl _) hyok a5 y.2.2.length c5 (some ⟨NB, 0, none⟩) 4 4 z4 rfl (by omega) z4_right z4_lt V ((hvy.below hV).more hV.size) (z4_ns (HS7.out.2.2.1.same (hV.block _ HS7.out.2.2.1.lt)))
                rwa [show decide (mayV z4 (y.2.1.2.getD 0 v0)) = qm from hqm] at h
              obtain ⟨⟨g1', g2'⟩, ⟨k3, v3⟩, r3⟩ := y
              obtain ⟨r4, hr4⟩ : ∃ r, r3.length = r := ⟨_, rfl⟩
              simp only at HRD hm2
              rw [hr4] at HRD
              have p0 : wr.cell? ⟨b2, off2 + j * 5, none⟩ = some (.int .i64 g1') := (hbw.cell (p := ⟨b2, off2 + j * 5, none⟩) hbl2).trans (hcl 0 _ rfl)
              have p1 : wr.cell? ⟨b2, off2 + j * 5 + 1, none⟩ = some (.int .i64 g2') := (hbw.cell (p := ⟨b2, off2 + j * 5 + 1, none⟩) hbl2).trans (hcl 1 _ rfl)
              have p2 : wr.cell? ⟨b2, off2 + j * 5 + 2, none⟩ = some (.string k3) := (hbw.cell (p := ⟨b2, off2 + j * 5 + 2, none⟩) hbl2).trans (hcl 2 _ rfl)
              have p3 : wr.cell? ⟨b2, off2 + j * 5 + 3, none⟩ = some (.slice a3 1 c3) := by rw [← hm2]; exact (hbw.cell (p := ⟨b2, off2 + j * 5 + 3, none⟩) hbl2).trans (hcl 3 _ rfl)
              have p4 : wr.cell? ⟨b2, off2 + j * 5 + 4, none⟩ = some (.slice a5 r4 c5) := by rw [← hr4]; exact (hbw.cell (p := ⟨b2, off2 + j * 5 + 4, none⟩) hbl2).trans (hcl 4 _ rfl)
              have d3 : (0 : Int) ≤ (j : Int) := by omega
              have d4 : (j : Int) < (kp : Int) := by omega
              have HRW := Lib.hid (HRD.out wr hbw)
              have HJ := Lib.hid (And.intro hn1 (And.intro hn2 hst.out))
              clear hy hyo hat2 hcl hvy hcy hm2 hyok htk hqm hn1 hn2 hbw HRD hr4 hst
              go_wp2_with fail
              refine HRW.out.mono ?_
              rintro e w8 ⟨rfl, b8⟩
              have hb8 := HJ.out.2.2.1.trans (b8.mono HJ.out.2.2.1.size)
              cases qm
              · have HN : Hid (Below w7.heap.size w7 w8 ∧ cnt (P2.take (j + 1)) = f + 1) := Lib.hid ⟨hb8, by rw [HJ.out.2.1 rfl, HJ.out.2.2.2]⟩
                clear hb8 b8 HRW HJ
                go_wp2_with fail
                go_roundw
                case rel => exact ⟨j + 1, f + 1, rfl, rfl, by omega, by omega, HN⟩
                case measure => simp only [intOf]; omega
              · have HN : Hid (Below w7.heap.size w7 w8 ∧ cnt (P2.take (j + 1)) = f) := Lib.hid ⟨hb8, by rw [HJ.out.1 rfl, HJ.out.2.2.2]⟩
                clear hb8 b8 HRW HJ
                go_wp2_with fail
                go_roundw
                case rel => exact ⟨j + 1, f, rfl, rfl, by omega, by omega, HN⟩
                case measure => simp only [intOf]; omega
            · obtain rfl : j = kp := by omega
              have hfr : f ≤ r := by
                have h := hst.out.2
                rw [List.take_of_length_le (by have := HB.out.2.2.2; omega)] at h
                have := HO2.out.2
                omega
              have h1 : decide ((r : Int) < (f : Int)) = false := decide_eq_false (by omega)
              have h2 : decide (r < f) = false := decide_eq_false (by omega)
              have HSE := Lib.hid (And.intro (HS7.out.1.below hst.out.1) (And.intro (HS7.out.2.1.trans (hst.out.1.mono HS7.out.2.1.size)) (HS7.out.2.2.1.same (hst.out.1.block _ HS7.out.2.2.1.lt))))
              clear hst hlt2
              have ha4 := HA.out.2
              have g4 : decide (a = 4) = false := decide_eq_false HA.out.2
              have g5 : (a == 4) = false := by simp [HA.out.2]
              have HN := Lib.hid (And.intro HSE.out.1 (And.intro HO2.out.1 (And.intro HSE.out.2.2 HO2.out.2)))
              have hPl : P2.length ≤ k + 1 := by have := HB.out.2.2.2; omega
              go_wp2_with fail
              go_roundw
              case rel => exact ⟨k + 1, P2, rfl, by omega, hPl, HN⟩
              case measure => simp only [intOf]; omega
    · obtain rfl : k = n := by omega
      have HE := Lib.hid hst.out.1.old
      clear hst
      go_wp2_with fail
      go_ret
      exact ⟨rfl, HE.out⟩
-- ROW BEGIN
set_option maxRecDepth 100000 in
/-- What the walk gives, shut again. -/
theorem contract (H : Type) (enc : TypeId × Value → H) (W : World) (base : Nat) (args : Array Value) (ds gs : List (DataW H)) (before : List MemPlace)
    (hval : ∀ (j : Nat) t v, Try.f7.params[j]? = some t → args[j]? = some v → Value.okWide Try.prog W .any base t v)
    (hW : DataW.Whole enc Try.prog Try.f7.params.toList Rows.inboxRoomSpec.vars false W args.toList ds gs before)
    (hsz : (DataW.weightsEach Try.prog (Try.f7.params.toList ++ Rows.inboxRoomSpec.plain.varTypes Try.prog) (ds ++ gs)).all (· ≤ reachBytes) = true) :
    Calls Try.prog 7 args W fun e W' => ∃ v, e = .returned v ∧ Rows.inboxRoomSpec.post enc Try.prog Try.f7 false true false false W args v W' := by
  have hW' := hW
  obtain ⟨p, q, hA0, hV, hbef, _, _⟩ := hW
  have hA : DataW.TrodAll enc Try.prog W 0 (fun _ => true) true Try.f7.params.toList args.toList ds p := hA0
  have hA1 := hA
  rw [Try.params7] at hA hval hsz
  obtain ⟨v0, vs0, d0, ds0, p0, q0, hargs, rfl, rfl, h0, r0⟩ := trodAll_cons hA
  obtain ⟨v1, vs1, d1, ds1, p1, q1, rfl, rfl, rfl, h1, r1⟩ := trodAll_cons r0
  obtain ⟨rfl, rfl, rfl⟩ := trodAll_nil r1
  obtain rfl : args = #[v0, v1] := by cases args; simp_all
  obtain ⟨rfl, rfl⟩ := trodVars_none hV
  clear hA hargs
  obtain ⟨a0, rfl, rfl, _, w0⟩ := open_int Try.underlying5 (hval 0 5 v0 rfl rfl) h0
  obtain ⟨A1, c1, a1, rfl, n1, l1, b1⟩ := Inbox.arg_fars (hval 1 48 v1 rfl rfl) h1 (Wgt.wt_arg hsz (j := 1) rfl rfl)
  refine (walk W a0 (wf_byte w0) A1 c1 a1 n1 b1 l1).mono fun e W' ⟨he, hb⟩ => ?_
  subst he
  exact ⟨_, rfl, law_post Facts.laid (by rfl) Try.underlying4 (by rw [Try.params7]; decide +kernel) hW' hA1 rfl hbef rfl rfl rfl hb⟩

set_option maxRecDepth 100000 in
theorem lifted (os : Os) (started : os.Started) (H : Type) (enc : TypeId × Value → H) :
    ReturnsInHanded {} Try.checked os 7 .any (Rows.inboxRoomSpec.pre6 enc Try.prog Try.f7 Rows.inboxRoomRow.domain false) (Rows.inboxRoomSpec.post enc Try.prog Try.f7 false true false false) := by
  refine returnsInHanded_of_change_sized (C := Try.checked) Facts.own started (by kernel_rfl) Try.func7
    (ChangeSpec.witness6 (enc := enc) (C := Try.checked) false ⟨#[], #[.int .u8 0, .slice none 0 0], []⟩ 8 (by kernel_rfl) (by kernel_rfl) (by kernel_rfl) (by kernel_rfl)) ?_
  intro W base args ds gs before hval hW _ hsz _
  exact contract H enc W base args ds gs before hval hW hsz

theorem holds : Rows.InboxRoomSaid :=
  OpenClaim.holds_of_wide 7 Try.f7 rfl rfl rfl rfl rfl rfl rfl ⟨rfl, rfl, rfl, rfl, rfl⟩ rfl rfl rfl rfl rfl (by kernel_rfl) Try.func7 (by kernel_rfl)
    (of_decide_eq_true (by kernel_rfl)) (by unfold Func.isWrapper; first | (rw [if_pos (by decide +kernel)]; kernel_rfl) | (rw [if_neg (by decide +kernel)]; exact ⟨rfl, rfl⟩))
    (fun os started H enc _ => lifted os started H enc)
-- ROW END
end InboxRoom
end Go.Proofs.Ytiempgabamheiaa
