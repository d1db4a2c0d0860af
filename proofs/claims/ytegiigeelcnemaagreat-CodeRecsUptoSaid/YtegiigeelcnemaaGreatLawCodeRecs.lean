/-
  CodeRecs (P6.1, P6.2): every record is written, or refused, and whatever bytes are read as one, or refused, as the document says. Up to a bulk.
-/
import Derived.Test.YtegiigeelcnemaaGreatCodeAwake
import Derived.Test.YtegiigeelcnemaaGreatCodeRecArg
import Derived.Test.YtegiigeelcnemaaGreatGCodeB
import Derived.Test.YtegiigeelcnemaaGreatGNumA
namespace Go.Proofs.YtegiigeelcnemaaGreat
namespace CodeRecs
open Go.ChangeShapes Go.WideShapes Go.ChangeAt Go.RowKit Num Span Vers Go.Proofs.YtegiigeelcnemaaGreat.Code
attribute [local go_sem ↓] Go.wp_at_zero Go.wp_at_succ

theorem recF_size {zs : List Int} (hby : ∀ z ∈ zs, 0 ≤ z ∧ z ≤ 255) (hb : zs.length ≤ 4294967296) : (recF zs).1.1.size ≤ 140737488355328 ∧ (recF zs).1.2.length ≤ 140737488355328 := by
  unfold recF wholeF
  split
  · simp [r0, ByteArray.size]
  · rename_i x q hx
    split
    · obtain ⟨_, h2, _⟩ := recP_ok hby x 0 q (by omega) hx
      exact ⟨by simp only; omega, by simp only; omega⟩
    · simp [r0, ByteArray.size]
set_option maxRecDepth 100000 in
set_option maxHeartbeats 4000000 in
theorem walk (w : World) (key : ByteArray) (l : List Vr) (A : Option Addr) (c : Nat) (hv : Vs w 0 w.heap.size A l) (hbl : l.length ≤ 140737488355328) (hks : key.size ≤ 140737488355328) (A' : Option Addr) (c' : Nat) (zs : List Int) (hr : Ns .u8 w w.heap.size A' zs) (hby : ∀ z ∈ zs, 0 ≤ z ∧ z ≤ 255) (_hbig : zs.length ≤ 140737488351232) (hlc' : zs.length ≤ c') (hbulk : zs.length ≤ 1048576) :
    Calls Tryz.prog 3 #[.agg #[.string key, .slice A l.length c], .slice A' zs.length c'] w fun e w' => e = .returned (.bool true) ∧ Below w.heap.size w w' := by
  obtain ⟨B, hB⟩ : ∃ B, w.heap.size = B := ⟨_, rfl⟩
  rw [hB] at hv hr ⊢
  obtain ⟨m, hm⟩ : ∃ m, l.length = m := ⟨_, rfl⟩
  obtain ⟨n, hn⟩ : ∃ n, zs.length = n := ⟨_, rfl⟩
  have hsB : ∀ V, Below B w V → B ≤ V.heap.size := fun V h => by have := h.size; omega
  have hV : ∀ W, Below B w W → Vs W 0 W.heap.size A l := fun W h => (hv.below h).more (hsB W h)
  have hz : ∀ W, Below B w W → Ns .u8 W W.heap.size A' zs := fun W h => (hr.below h).more (hsB W h)
  have c1 := fun W (h : Below B w W) => putrec_any A c m key l hm (by omega) hks W (hV W h) (fun hk => Nat.le_trans (recL_len hk) (by omega))
  have c2 := fun W (h : Below B w W) => refrecord_any A c m key l hm (by omega) hks W (hV W h)
  have c3 := fun W (h : Below B w W) => rrecord_any A c m key l hm (by omega) hks W (hV W h)
  have c4 := fun hx W (h : Below B w W) => refputrec_any A c m key l hm hx W (hV W h)
  have c5 := fun W (h : Below B w W) => rec_any A' c' n zs hn W (hz W h) hby (by omega) (by omega)
  have c6 := fun W (h : Below B w W) => refrec_any A' c' n zs hn W (hz W h) hby (by omega) (by omega)
  have hsz := recF_size hby (by omega)
  obtain ⟨⟨⟨key', l'⟩, er⟩, hR⟩ : ∃ r, recF zs = r := ⟨_, rfl⟩
  rw [hR] at hsz
  simp only [hR] at c5 c6
  simp only at hsz
  obtain ⟨k, hk⟩ : ∃ k, l'.length = k := ⟨_, rfl⟩
  obtain ⟨D, hD⟩ : ∃ D, decide (okR (key, l)) = D := ⟨_, rfl⟩
  simp only [hD] at c2 c3
  rw [hm, hn]
  obtain ⟨W, hW⟩ : ∃ W, w.alloc (.cells #[.string key, .slice A m c] 24) = W := ⟨_, rfl⟩
  have hb0 : Below B w W := by rw [← hW, ← hB]; exact (Below.refl _ w).alloc (Nat.le_refl _) _
  have hbn : Bn B 24 [.string key, .slice A m c] W := by rw [← hW, ← hB]; exact heap_alloc_new _ _
  have hBW : B < W.heap.size := hbn.lt
  have k0 := hbn.cell 0
  have k1 := hbn.cell 1
  simp only [List.getElem?_cons_zero, List.getElem?_cons_succ] at k0 k1
  have hee : (er == er) = true := by simp
  have H0 := Lib.hid (And.intro hb0 (And.intro hsB (And.intro hbn hBW)))
  have HC := Lib.hid (And.intro c1 (And.intro c2 (And.intro c3 c4)))
  have HG := Lib.hid (And.intro c5 (And.intro c6 (And.intro hk hsz)))
  have HD := Lib.hid hD
  clear hV hz c1 c2 c3 c4 c5 c6 hb0 hsB hbn hBW hv hr hby hlc' hbulk _hbig hbl hks hD hR hm hn hk hsz
  go_enter Tryz.func3, Tryz.ntmps3
  go_wp2_with fail
  refine (HC.out.1 W H0.out.1).mono ?_
  rintro e1 w1 ⟨A1, c1, rfl, o1, d1⟩
  have hb1 := H0.out.2.2.1.below d1 H0.out.2.2.2
  have k0 := hb1.cell 0
  have k1 := hb1.cell 1
  simp only [List.getElem?_cons_zero, List.getElem?_cons_succ] at k0 k1
  have HA := Lib.hid (And.intro (H0.out.1.trans (d1.mono (H0.out.2.1 _ H0.out.1))) (And.intro hb1 o1))
  clear o1 d1 hb1
  rcases D with _ | _
  case false =>
    have hF : putRecF (key, l) = ([], 1) := if_neg (of_decide_eq_false HD.out)
    rw [hF]
    go_wp2_with fail
    refine (HC.out.2.1 w1 HA.out.1).mono ?_
    rintro e2 w2 ⟨rfl, d2⟩
    have HB := Lib.hid (And.intro (HA.out.1.trans (d2.mono (H0.out.2.1 _ HA.out.1))) (HA.out.2.1.below d2 HA.out.2.1.lt))
    clear d2 hF
    go_wp2_with fail
    refine (HG.out.1 w2 HB.out.1).mono ?_
    rintro e4 w4 ⟨⟨A4, c4⟩, rfl, o4, d4⟩
    have b4 := HB.out.1.trans (d4.mono (H0.out.2.1 _ HB.out.1))
    have hb4 := HB.out.2.below d4 HB.out.2.lt
    simp only at o4 ⊢
    rw [HG.out.2.2.1]
    obtain ⟨By, hBy⟩ : ∃ By, w4.heap.size = By := ⟨_, rfl⟩
    obtain ⟨W4, hW4⟩ : ∃ W, w4.alloc (.cells #[.string key', .slice A4 k c4] 24) = W := ⟨_, rfl⟩
    have hy4 : Bn By 24 [.string key', .slice A4 k c4] W4 := by rw [← hW4, ← hBy]; exact heap_alloc_new _ _
    have hr4 : Bn B 24 [.string key, .slice A m c] W4 := by rw [← hW4]; exact hb4.kept (World.grownBy_alloc _ _ none) (by simp)
    have b4' : Below B w W4 := by rw [← hW4]; exact b4.alloc (H0.out.2.1 _ b4) _
    have hv4 : Vs W4 0 W4.heap.size A4 l' ∧ k ≤ c4 := by
      have h1 : k ≤ c4 := by have h : l'.length ≤ c4 := o4.1; have := HG.out.2.2.1; omega
      have hbb := (Below.refl w4.heap.size w4).alloc (Nat.le_refl _) (.cells #[.string key', .slice A4 k c4] 24)
      rw [hW4] at hbb
      exact ⟨((o4.vs).below hbb).more hbb.size, h1⟩
    have H4 := Lib.hid (And.intro b4' (And.intro hr4 (And.intro hy4 hv4)))
    have HW4 := Lib.hid (And.intro hW4 hBy)
    clear b4 hb4 hy4 hr4 b4' hv4 o4 d4 hW4 hBy
    go_wp2_with fail
    rw [HW4.out.1, HW4.out.2]
    refine (HG.out.2.1 W4 H4.out.1).mono ?_
    rintro e5 w5 ⟨⟨A5, c5⟩, rfl, o5, d5⟩
    have b5 := H4.out.1.trans (d5.mono (H0.out.2.1 _ H4.out.1))
    have hr5 := H4.out.2.1.below d5 H4.out.2.1.lt
    have hy5 := H4.out.2.2.1.below d5 H4.out.2.2.1.lt
    simp only at o5 ⊢
    rw [HG.out.2.2.1]
    obtain ⟨Bz, hBz⟩ : ∃ Bz, w5.heap.size = Bz := ⟨_, rfl⟩
    obtain ⟨W5, hW5⟩ : ∃ W, w5.alloc (.cells #[.string key', .slice A5 k c5] 24) = W := ⟨_, rfl⟩
    have hz6 : Bn Bz 24 [.string key', .slice A5 k c5] W5 := by rw [← hW5, ← hBz]; exact heap_alloc_new _ _
    have hr6 : Bn B 24 [.string key, .slice A m c] W5 := by rw [← hW5]; exact hr5.kept (World.grownBy_alloc _ _ none) (by simp)
    have hy6 : Bn By 24 [.string key', .slice A4 k c4] W5 := by rw [← hW5]; exact hy5.kept (World.grownBy_alloc _ _ none) (by simp)
    have b6 : Below B w W5 := by rw [← hW5]; exact b5.alloc (H0.out.2.1 _ b5) _
    have hbb := (Below.refl w5.heap.size w5).alloc (Nat.le_refl _) (.cells #[.string key', .slice A5 k c5] 24)
    rw [hW5] at hbb
    have hv6 : Vs W5 0 W5.heap.size A5 l' ∧ k ≤ c5 := ⟨((o5.vs).below hbb).more hbb.size, by have h : l'.length ≤ c5 := o5.1; have := HG.out.2.2.1; omega⟩
    have hv6' : Vs W5 0 W5.heap.size A4 l' := (((H4.out.2.2.2.1.below d5).more d5.size).below hbb).more hbb.size
    have hS : ∀ U, Below W5.heap.size W5 U → U.cell? ⟨B, 0, none⟩ = some (.string key) ∧ U.cell? ⟨B, 1, none⟩ = some (.slice A m c) ∧ U.cell? ⟨By, 0, none⟩ = some (.string key') ∧ U.cell? ⟨By, 1, none⟩ = some (.slice A4 k c4) ∧ U.cell? ⟨Bz, 0, none⟩ = some (.string key') ∧ U.cell? ⟨Bz, 1, none⟩ = some (.slice A5 k c5) := fun U h => by
      have h1 := hr6.below h hr6.lt
      have h2 := hy6.below h hy6.lt
      have h3 := hz6.below h hz6.lt
      exact ⟨h1.cell 0, h1.cell 1, h2.cell 0, h2.cell 1, h3.cell 0, h3.cell 1⟩
    have hsr : ∀ U, Below W5.heap.size W5 U → Calls Tryz.prog 13 #[.slice (some ⟨U.heap.size, 0, none⟩) 1 1, .slice (some ⟨U.heap.size + 1, 0, none⟩) 1 1] ((U.alloc (.cells #[.string key', .slice A4 k c4] 24)).alloc (.cells #[.string key', .slice A5 k c5] 24)) (fun e w' => e = .returned (.bool true) ∧ Below U.heap.size U w') := fun U h =>
      samerecs_two U key' l' A4 A5 c4 c5 k HG.out.2.2.1 ((hv6'.below h).more h.size) ((hv6.1.below h).more h.size) H4.out.2.2.2.2 hv6.2 (by have := HG.out.2.2.2.2; have := HG.out.2.2.1; omega) HG.out.2.2.2.1
    have hsw : ∀ U, Below W5.heap.size W5 U → Calls Tryz.prog 13 #[.slice (some ⟨U.heap.size + 1, 0, none⟩) 1 1, .slice (some ⟨U.heap.size, 0, none⟩) 1 1] ((U.alloc (.cells #[.string key', .slice A5 k c5] 24)).alloc (.cells #[.string key', .slice A4 k c4] 24)) (fun e w' => e = .returned (.bool true) ∧ Below U.heap.size U w') := fun U h =>
      samerecs_swap U key' l' A5 A4 c5 c4 k HG.out.2.2.1 ((hv6.1.below h).more h.size) ((hv6'.below h).more h.size) hv6.2 H4.out.2.2.2.2 (by have := HG.out.2.2.2.2; have := HG.out.2.2.1; omega) HG.out.2.2.2.1
    have HSW := Lib.hid hsw
    have HS9 := Lib.hid (And.intro hS (And.intro hsr b6))
    have x9 := hS W5.drew (Below.refl _ W5).drew
    have HW5 := Lib.hid (And.intro hW5 hBz)
    clear hsw hz6 hr6 hy6 b6 hv6 hv6' hbb hS hsr hr5 hy5 b5 o5 d5 hW5 hBz
    go_wp2_with fail
    rw [HW5.out.1, HW5.out.2]
    go_region_held (fun U => U.cell? ⟨B, 0, none⟩ = some (.string key) ∧ U.cell? ⟨B, 1, none⟩ = some (.slice A m c) ∧ U.cell? ⟨By, 0, none⟩ = some (.string key') ∧ U.cell? ⟨By, 1, none⟩ = some (.slice A4 k c4) ∧ U.cell? ⟨Bz, 0, none⟩ = some (.string key') ∧ U.cell? ⟨Bz, 1, none⟩ = some (.slice A5 k c5))
      (first | exact x10 | exact HS9.out.1 _ (b99.alloc b99.size _) | exact HS9.out.1 _ ((b99.alloc b99.size _).alloc (b99.alloc b99.size _).size _) | exact x99 | exact x8 | exact x7 | exact x9)
      (first
      | (go_at_call 11; refine (awake_any _).mono ?_; rintro e7 w7 ⟨rfl, d7⟩; have b7 : Below W5.heap.size W5 w7 := (Below.refl _ W5).drew.trans d7; have x7 := HS9.out.1 w7 b7)
      | (go_at_call 12; refine (HC.out.2.2.1 w7 (HS9.out.2.2.trans (b7.mono (H0.out.2.1 _ HS9.out.2.2)))).mono ?_; rintro e8 w8 ⟨rfl, d8⟩; have b8 := b7.trans (d8.mono b7.size); have x8 := HS9.out.1 w8 b8)
      | (go_at_call 7; refine (HC.out.2.1 w8 (HS9.out.2.2.trans (b8.mono (H0.out.2.1 _ HS9.out.2.2)))).mono ?_; rintro e99 w99 ⟨rfl, d99⟩; have b99 := b8.trans (d99.mono b8.size); have x99 := HS9.out.1 w99 b99)
      | (go_at_call 13; have hq := HS9.out.2.1 w99 b99; obtain ⟨X9, hX9⟩ : ∃ X, (w99.alloc (.cells #[.string key', .slice A4 k c4] 24)).alloc (.cells #[.string key', .slice A5 k c5] 24) = X := ⟨_, rfl⟩; rw [hX9] at hq ⊢; refine hq.mono ?_; clear hq hX9; rintro e10 w10 ⟨rfl, d10⟩; have b10 := b99.trans (d10.mono b99.size); have x10 := HS9.out.1 w10 b10)
      | (go_at_call 13; have hq := HSW.out w99 b99; obtain ⟨X9, hX9⟩ : ∃ X, (w99.alloc (.cells #[.string key', .slice A5 k c5] 24)).alloc (.cells #[.string key', .slice A4 k c4] 24) = X := ⟨_, rfl⟩; rw [hX9] at hq ⊢; refine hq.mono ?_; clear hq hX9; rintro e10 w10 ⟨rfl, d10⟩; have b10 := b99.trans (d10.mono b99.size); have x10 := HS9.out.1 w10 b10))
    all_goals
      have HZ := Lib.hid (HS9.out.2.2.trans (b10.mono (H0.out.2.1 _ HS9.out.2.2)))
      clear x7 x8 x99 x10 d7 d8 d99 d10 b7 b8 b99 b10
      go_wp2_with fail
      go_ret
      exact ⟨rfl, HZ.out⟩
  case true =>
    have hok : okR (key, l) := of_decide_eq_true HD.out
    have hF : putRecF (key, l) = (recL (key, l), 0) := if_pos hok
    have HO := Lib.hid hok
    have n1' := own_ns (zs := (putRecF (key, l)).1) HA.out.2.2
    rw [hF] at n1' ⊢
    obtain ⟨x, hx⟩ : ∃ x, recL (key, l) = x := ⟨_, rfl⟩
    obtain ⟨xl, hxl⟩ : ∃ xl, x.length = xl := ⟨_, rfl⟩
    rw [hx] at n1' ⊢
    rw [show (x, (0 : Int)).1 = x from rfl, hxl]
    have HN := Lib.hid (And.intro n1' (And.intro hx hxl))
    clear n1' hF hok hx hxl
    go_wp2_with fail
    refine (HC.out.2.1 w1 HA.out.1).mono ?_
    rintro e2 w2' ⟨rfl, d2⟩
    have b2 := HA.out.1.trans (d2.mono (H0.out.2.1 _ HA.out.1))
    have hb2 := HA.out.2.1.below d2 HA.out.2.1.lt
    have hcv : ∀ (U : World) (A2 : Option Addr) (c2 : Nat), Ns .u8 U U.heap.size A2 x → (convert 25 9 (.slice A2 xl c2)).run Tryz.prog U = .ok (.string (strOfNums x)) U := fun U A2 c2 h => by
      have h := run_conv_ns (P := Tryz.prog) U 25 5 9 Tryz.underlying25 Tryz.underlying5 Tryz.underlying9 c2 h
      rwa [HN.out.2.2] at h
    have n2 : Ns .u8 w2' w2'.heap.size A1 x := (HN.out.1.below d2).more d2.size
    have hS : ∀ U, Below w2'.heap.size w2' U → U.cell? ⟨B, 0, none⟩ = some (.string key) ∧ U.cell? ⟨B, 1, none⟩ = some (.slice A m c) ∧ (convert 25 9 (.slice A1 xl c1)).run Tryz.prog U = .ok (.string (strOfNums x)) U := fun U h => by
      have hbu := hb2.below h hb2.lt
      exact ⟨hbu.cell 0, hbu.cell 1, hcv U A1 c1 ((n2.below h).more h.size)⟩
    have x0 := hS w2'.drew (Below.refl _ w2').drew
    have HS := Lib.hid hS
    have HV := Lib.hid hcv
    have HB2 := Lib.hid (And.intro b2 hb2)
    have hne : ((strOfNums x).toList == (strOfNums x).toList) = true := by simp
    clear d2 b2 hb2 hcv n2 hS
    go_wp2_with fail
    go_region_held (fun U => U.cell? ⟨B, 0, none⟩ = some (.string key) ∧ U.cell? ⟨B, 1, none⟩ = some (.slice A m c) ∧ (convert 25 9 (.slice A1 xl c1)).run Tryz.prog U = .ok (.string (strOfNums x)) U)
      (first | exact x0 | exact x3)
      (first
      | (go_at_call 8; refine (HC.out.2.2.2 HO.out _ HB2.out.1.drew).mono ?_; rintro e3 w2 ⟨A3, c3, rfl, o3, d3⟩; have b3 : Below w2'.heap.size w2' w2 := (Below.refl _ w2').drew.trans d3; have x3 := HS.out w2 b3; rw [HN.out.2.1] at o3 ⊢; rw [HN.out.2.2] at o3 ⊢; have y3 := HV.out w2 A3 c3 (own_ns (zs := x) (by rw [HN.out.2.2]; exact o3))))
    all_goals
      have HB := Lib.hid (And.intro (HB2.out.1.trans (b3.mono (H0.out.2.1 _ HB2.out.1))) (HB2.out.2.below b3 HB2.out.2.lt))
      clear o3 d3 b3 x3 y3 x0
      go_wp2_with fail
      refine (HG.out.1 w2 HB.out.1).mono ?_
      rintro e4 w4 ⟨⟨A4, c4⟩, rfl, o4, d4⟩
      have b4 := HB.out.1.trans (d4.mono (H0.out.2.1 _ HB.out.1))
      have hb4 := HB.out.2.below d4 HB.out.2.lt
      simp only at o4 ⊢
      rw [HG.out.2.2.1]
      obtain ⟨By, hBy⟩ : ∃ By, w4.heap.size = By := ⟨_, rfl⟩
      obtain ⟨W4, hW4⟩ : ∃ W, w4.alloc (.cells #[.string key', .slice A4 k c4] 24) = W := ⟨_, rfl⟩
      have hy4 : Bn By 24 [.string key', .slice A4 k c4] W4 := by rw [← hW4, ← hBy]; exact heap_alloc_new _ _
      have hr4 : Bn B 24 [.string key, .slice A m c] W4 := by rw [← hW4]; exact hb4.kept (World.grownBy_alloc _ _ none) (by simp)
      have b4' : Below B w W4 := by rw [← hW4]; exact b4.alloc (H0.out.2.1 _ b4) _
      have hv4 : Vs W4 0 W4.heap.size A4 l' ∧ k ≤ c4 := by
        have h1 : k ≤ c4 := by have h : l'.length ≤ c4 := o4.1; have := HG.out.2.2.1; omega
        have hbb := (Below.refl w4.heap.size w4).alloc (Nat.le_refl _) (.cells #[.string key', .slice A4 k c4] 24)
        rw [hW4] at hbb
        exact ⟨((o4.vs).below hbb).more hbb.size, h1⟩
      have H4 := Lib.hid (And.intro b4' (And.intro hr4 (And.intro hy4 hv4)))
      have HW4 := Lib.hid (And.intro hW4 hBy)
      clear b4 hb4 hy4 hr4 b4' hv4 o4 d4 hW4 hBy
      go_wp2_with fail
      rw [HW4.out.1, HW4.out.2]
      refine (HG.out.2.1 W4 H4.out.1).mono ?_
      rintro e5 w5 ⟨⟨A5, c5⟩, rfl, o5, d5⟩
      have b5 := H4.out.1.trans (d5.mono (H0.out.2.1 _ H4.out.1))
      have hr5 := H4.out.2.1.below d5 H4.out.2.1.lt
      have hy5 := H4.out.2.2.1.below d5 H4.out.2.2.1.lt
      simp only at o5 ⊢
      rw [HG.out.2.2.1]
      obtain ⟨Bz, hBz⟩ : ∃ Bz, w5.heap.size = Bz := ⟨_, rfl⟩
      obtain ⟨W5, hW5⟩ : ∃ W, w5.alloc (.cells #[.string key', .slice A5 k c5] 24) = W := ⟨_, rfl⟩
      have hz6 : Bn Bz 24 [.string key', .slice A5 k c5] W5 := by rw [← hW5, ← hBz]; exact heap_alloc_new _ _
      have hr6 : Bn B 24 [.string key, .slice A m c] W5 := by rw [← hW5]; exact hr5.kept (World.grownBy_alloc _ _ none) (by simp)
      have hy6 : Bn By 24 [.string key', .slice A4 k c4] W5 := by rw [← hW5]; exact hy5.kept (World.grownBy_alloc _ _ none) (by simp)
      have b6 : Below B w W5 := by rw [← hW5]; exact b5.alloc (H0.out.2.1 _ b5) _
      have hbb := (Below.refl w5.heap.size w5).alloc (Nat.le_refl _) (.cells #[.string key', .slice A5 k c5] 24)
      rw [hW5] at hbb
      have hv6 : Vs W5 0 W5.heap.size A5 l' ∧ k ≤ c5 := ⟨((o5.vs).below hbb).more hbb.size, by have h : l'.length ≤ c5 := o5.1; have := HG.out.2.2.1; omega⟩
      have hv6' : Vs W5 0 W5.heap.size A4 l' := (((H4.out.2.2.2.1.below d5).more d5.size).below hbb).more hbb.size
      have hS : ∀ U, Below W5.heap.size W5 U → U.cell? ⟨B, 0, none⟩ = some (.string key) ∧ U.cell? ⟨B, 1, none⟩ = some (.slice A m c) ∧ U.cell? ⟨By, 0, none⟩ = some (.string key') ∧ U.cell? ⟨By, 1, none⟩ = some (.slice A4 k c4) ∧ U.cell? ⟨Bz, 0, none⟩ = some (.string key') ∧ U.cell? ⟨Bz, 1, none⟩ = some (.slice A5 k c5) := fun U h => by
        have h1 := hr6.below h hr6.lt
        have h2 := hy6.below h hy6.lt
        have h3 := hz6.below h hz6.lt
        exact ⟨h1.cell 0, h1.cell 1, h2.cell 0, h2.cell 1, h3.cell 0, h3.cell 1⟩
      have hsr : ∀ U, Below W5.heap.size W5 U → Calls Tryz.prog 13 #[.slice (some ⟨U.heap.size, 0, none⟩) 1 1, .slice (some ⟨U.heap.size + 1, 0, none⟩) 1 1] ((U.alloc (.cells #[.string key', .slice A4 k c4] 24)).alloc (.cells #[.string key', .slice A5 k c5] 24)) (fun e w' => e = .returned (.bool true) ∧ Below U.heap.size U w') := fun U h =>
        samerecs_two U key' l' A4 A5 c4 c5 k HG.out.2.2.1 ((hv6'.below h).more h.size) ((hv6.1.below h).more h.size) H4.out.2.2.2.2 hv6.2 (by have := HG.out.2.2.2.2; have := HG.out.2.2.1; omega) HG.out.2.2.2.1
      have hsw : ∀ U, Below W5.heap.size W5 U → Calls Tryz.prog 13 #[.slice (some ⟨U.heap.size + 1, 0, none⟩) 1 1, .slice (some ⟨U.heap.size, 0, none⟩) 1 1] ((U.alloc (.cells #[.string key', .slice A5 k c5] 24)).alloc (.cells #[.string key', .slice A4 k c4] 24)) (fun e w' => e = .returned (.bool true) ∧ Below U.heap.size U w') := fun U h =>
        samerecs_swap U key' l' A5 A4 c5 c4 k HG.out.2.2.1 ((hv6.1.below h).more h.size) ((hv6'.below h).more h.size) hv6.2 H4.out.2.2.2.2 (by have := HG.out.2.2.2.2; have := HG.out.2.2.1; omega) HG.out.2.2.2.1
      have HSW := Lib.hid hsw
      have HS9 := Lib.hid (And.intro hS (And.intro hsr b6))
      have x9 := hS W5.drew (Below.refl _ W5).drew
      have HW5 := Lib.hid (And.intro hW5 hBz)
      clear hsw hz6 hr6 hy6 b6 hv6 hv6' hbb hS hsr hr5 hy5 b5 o5 d5 hW5 hBz
      go_wp2_with fail
      rw [HW5.out.1, HW5.out.2]
      go_region_held (fun U => U.cell? ⟨B, 0, none⟩ = some (.string key) ∧ U.cell? ⟨B, 1, none⟩ = some (.slice A m c) ∧ U.cell? ⟨By, 0, none⟩ = some (.string key') ∧ U.cell? ⟨By, 1, none⟩ = some (.slice A4 k c4) ∧ U.cell? ⟨Bz, 0, none⟩ = some (.string key') ∧ U.cell? ⟨Bz, 1, none⟩ = some (.slice A5 k c5))
        (first | exact x10 | exact HS9.out.1 _ (b99.alloc b99.size _) | exact HS9.out.1 _ ((b99.alloc b99.size _).alloc (b99.alloc b99.size _).size _) | exact x99 | exact x8 | exact x7 | exact x9)
        (first
        | (go_at_call 11; refine (awake_any _).mono ?_; rintro e7 w7 ⟨rfl, d7⟩; have b7 : Below W5.heap.size W5 w7 := (Below.refl _ W5).drew.trans d7; have x7 := HS9.out.1 w7 b7)
        | (go_at_call 12; refine (HC.out.2.2.1 w7 (HS9.out.2.2.trans (b7.mono (H0.out.2.1 _ HS9.out.2.2)))).mono ?_; rintro e8 w8 ⟨rfl, d8⟩; have b8 := b7.trans (d8.mono b7.size); have x8 := HS9.out.1 w8 b8)
        | (go_at_call 7; refine (HC.out.2.1 w8 (HS9.out.2.2.trans (b8.mono (H0.out.2.1 _ HS9.out.2.2)))).mono ?_; rintro e99 w99 ⟨rfl, d99⟩; have b99 := b8.trans (d99.mono b8.size); have x99 := HS9.out.1 w99 b99)
        | (go_at_call 13; have hq := HS9.out.2.1 w99 b99; obtain ⟨X9, hX9⟩ : ∃ X, (w99.alloc (.cells #[.string key', .slice A4 k c4] 24)).alloc (.cells #[.string key', .slice A5 k c5] 24) = X := ⟨_, rfl⟩; rw [hX9] at hq ⊢; refine hq.mono ?_; clear hq hX9; rintro e10 w10 ⟨rfl, d10⟩; have b10 := b99.trans (d10.mono b99.size); have x10 := HS9.out.1 w10 b10)
        | (go_at_call 13; have hq := HSW.out w99 b99; obtain ⟨X9, hX9⟩ : ∃ X, (w99.alloc (.cells #[.string key', .slice A5 k c5] 24)).alloc (.cells #[.string key', .slice A4 k c4] 24) = X := ⟨_, rfl⟩; rw [hX9] at hq ⊢; refine hq.mono ?_; clear hq hX9; rintro e10 w10 ⟨rfl, d10⟩; have b10 := b99.trans (d10.mono b99.size); have x10 := HS9.out.1 w10 b10))
      all_goals
        have HZ := Lib.hid (HS9.out.2.2.trans (b10.mono (H0.out.2.1 _ HS9.out.2.2)))
        clear x7 x8 x99 x10 d7 d8 d99 d10 b7 b8 b99 b10
        go_wp2_with fail
        go_ret
        exact ⟨rfl, HZ.out⟩
-- ROW BEGIN
set_option maxRecDepth 100000 in
/-- What the walk gives, shut again. -/
theorem contract (H : Type) (enc : TypeId × Value → H) (W : World) (base : Nat) (args : Array Value) (ds gs : List (DataW H)) (before : List MemPlace)
    (hval : ∀ (j : Nat) t v, Tryz.f3.params[j]? = some t → args[j]? = some v → Value.okWide Tryz.prog W .any base t v)
    (hW : DataW.Whole enc Tryz.prog Tryz.f3.params.toList Rows.codeRecsSpec.vars false W args.toList ds gs before)
    (hsz : (DataW.weightsEach Tryz.prog (Tryz.f3.params.toList ++ Rows.codeRecsSpec.plain.varTypes Tryz.prog) (ds ++ gs)).all (· ≤ reachBytes) = true) (hk : Rows.uptoSmall H (ds ++ gs) = true) :
    Calls Tryz.prog 3 args W fun e W' => ∃ v, e = .returned v ∧ Rows.codeRecsSpec.post enc Tryz.prog Tryz.f3 false true false false W args v W' := by
  have hW' := hW
  obtain ⟨p, q, hA0, hV, hbef, _, _⟩ := hW
  have hA : DataW.TrodAll enc Tryz.prog W 0 (fun _ => true) true Tryz.f3.params.toList args.toList ds p := hA0
  have hA1 := hA
  rw [Tryz.params3] at hA hval hsz
  obtain ⟨v0, vs0, d0, ds0, p0, q0, hargs, rfl, rfl, h0, r0⟩ := trodAll_cons hA
  obtain ⟨v1, vs1, d1, ds1, p1, q1, rfl, rfl, rfl, h1, r1⟩ := trodAll_cons r0
  obtain ⟨rfl, rfl, rfl⟩ := trodAll_nil r1
  obtain rfl : args = #[v0, v1] := by cases args; simp_all
  obtain ⟨rfl, rfl⟩ := trodVars_none hV
  clear hA hargs
  obtain ⟨a0, s0, A0, c0, rfl, n0, l0, b0⟩ := Code.arg_rec (hval 0 24 v0 rfl rfl) h0 (Vers.wt_arg hsz (j := 0) rfl rfl)
  obtain ⟨A1, c1, a1, rfl, n1, w1, l1, _, o1⟩ := open_ns Tryz.underlying25 Tryz.underlying5 Facts.cells5 (hval 1 25 v1 rfl rfl) h1
  have b1 := reach_ns hsz (j := 1) rfl rfl Tryz.underlying25 Facts.bytes5 l1 o1
  have hbulk : a1.length ≤ 1048576 := by
    have h := Bulk.bound hk
    have e1 := Bulk.ns_le (H := H) o1 l1
    simp only [List.append_nil, Rows.uptoBulkAll] at h
    omega
  refine (walk W a0 s0 A0 c0 n0 l0 b0 A1 c1 a1 n1 (fun z hz => wf_byte (w1 z hz)) (by omega) l1 hbulk).mono fun e W' ⟨he, hb⟩ => ?_
  subst he
  exact ⟨_, rfl, law_post Facts.laid (by rfl) Tryz.underlying4 (by rw [Tryz.params3]; decide +kernel) hW' hA1 rfl hbef rfl rfl rfl hb⟩

set_option maxRecDepth 100000 in
theorem lifted (os : Os) (started : os.Started) (H : Type) (enc : TypeId × Value → H) (F : Stop.Interp) :
    ReturnsInHanded {} Tryz.checked os 3 .any ((Rows.OpenSpec.upto Rows.codeRecsSpec).pre6 enc Tryz.prog Tryz.f3 Rows.codeRecsUptoRow.domain false) (((Rows.OpenSpec.upto Rows.codeRecsSpec).at F).post enc Tryz.prog Tryz.f3 false true false false) := by
  refine returnsInHanded_of_cond_sized (C := Tryz.checked) (s := Rows.OpenSpec.upto Rows.codeRecsSpec) (k := Rows.uptoSmall) rfl Facts.own started (by kernel_rfl) Tryz.func3
    (OpenSpec.witness (enc := enc) (C := Tryz.checked) (s := Rows.OpenSpec.upto Rows.codeRecsSpec) (k := Rows.uptoSmall) rfl false ⟨#[], #[.agg #[.string ⟨#[]⟩, .slice none 0 0], .slice none 0 0], []⟩ 8 (by kernel_rfl) (by kernel_rfl) (by kernel_rfl)
      (x := ([.agg [.lit (.string []), .nil], .nil], [], [])) (by kernel_rfl) rfl (by kernel_rfl)) ?_
  intro W base args ds gs before hval hW _ hk hsz _
  exact contract H enc W base args ds gs before hval hW hsz hk

theorem holds : Rows.CodeRecsUptoSaid :=
  OpenClaim.holds_of_cond 3 Tryz.f3 rfl rfl rfl rfl rfl rfl rfl ⟨rfl, rfl, rfl, rfl, rfl⟩ rfl rfl rfl rfl rfl (by kernel_rfl) Tryz.func3 (by kernel_rfl)
    (of_decide_eq_true (by kernel_rfl)) (by unfold Func.isWrapper; first | (rw [if_pos (by decide +kernel)]; kernel_rfl) | (rw [if_neg (by decide +kernel)]; exact ⟨rfl, rfl⟩))
    (fun os started H enc _ F => lifted os started H enc F)
-- ROW END
end CodeRecs
end Go.Proofs.YtegiigeelcnemaaGreat
