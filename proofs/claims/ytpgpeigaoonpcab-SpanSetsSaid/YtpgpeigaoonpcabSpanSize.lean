/-
  span.Size and firthref03.Size: how many dots, up to the greatest count.
-/
import Derived.Test.YtpgpeigaoonpcabSpanRightRef
import Derived.Test.YtpgpeigaoonpcabSpanJoin
namespace Go.Proofs.Ytpgpeigaoonpcab
namespace Span
open Go.RowKit
attribute [local go_sem ↓] Go.wp_at_zero Go.wp_at_succ

theorem sizeF_wrong {l : List Sp} (h : decide (Right l) = false) : sizeF l = 0 := if_neg (of_decide_eq_false h)
theorem sizeF_good {l : List Sp} (h : decide (Right l) = true) (ht : total l ≤ 4611686018427387904) : sizeF l = total l := by
  unfold sizeF
  rw [if_pos (of_decide_eq_true h)]
  omega
theorem sizeF_big {l : List Sp} (h : decide (Right l) = true) (ht : 4611686018427387904 < total l) : sizeF l = 4611686018427387904 := by
  unfold sizeF
  rw [if_pos (of_decide_eq_true h)]
  omega

set_option maxHeartbeats 1000000 in
theorem size_any (A : Option Addr) (c n : Nat) (l : List Sp) (hn : l.length = n) (w : World) (hr : Ss w w.heap.size A l) (hbig : n ≤ 140737488355328) :
    Calls Try.prog 33 #[.slice A n c] w fun e w' => e = .returned (.int .i64 (sizeF l)) ∧ Below w.heap.size w w' := by
  have h1 := right_any A c n l hn w hr hbig
  obtain ⟨q, hq⟩ : ∃ q, decide (Right l) = q := ⟨_, rfl⟩
  rw [hq] at h1
  obtain ⟨Z, hZ⟩ : ∃ Z, sizeF l = Z := ⟨_, rfl⟩
  rw [hZ]
  have H1 := Lib.hid h1
  cases q
  · have HZ := Lib.hid (hZ.symm.trans (sizeF_wrong hq))
    clear h1 hZ hr hn
    go_enter Try.func33, Try.ntmps33
    go_wp2_with fail
    refine H1.out.mono ?_
    rintro e w1 ⟨rfl, b1⟩
    go_wp2
    go_ret
    exact ⟨by rw [HZ.out]; rfl, b1⟩
  · have HF := Lib.hid (of_decide_eq_true hq).2
    have HG := Lib.hid (fun h => hZ.symm.trans (sizeF_good hq h))
    have HB := Lib.hid (fun h => hZ.symm.trans (sizeF_big hq h))
    have HR := Lib.hid hr
    have HN := Lib.hid hn
    clear h1 hZ hr hq hn
    go_enter Try.func33, Try.ntmps33
    go_wp2_with fail
    refine H1.out.mono ?_
    rintro e w1 ⟨rfl, b1⟩
    clear H1
    go_wp2
    go_loopw [3, 12] (fun z q wr => ∃ (k : Nat) (T : Int), k ≤ n ∧ q = .int .i64 k ∧ z = .int .i64 T ∧ 0 ≤ T ∧ T ≤ 4611686018427387904 ∧ Below w.heap.size w wr ∧ Hid (total (l.take k) = T)) (fun _ q _ => n - (intOf q).toNat)
    case atStart => exact ⟨0, 0, by omega, rfl, rfl, by omega, by omega, b1, rfl⟩
    case round =>
      obtain ⟨k, T, hk, rfl, rfl, hT0, hT1, hb, hst⟩ := hrel
      by_cases hlt : k < n
      · obtain ⟨⟨x0, x1, x2⟩, hx⟩ : ∃ x, l.getD k (0, 0, 0) = x := ⟨_, rfl⟩
        obtain ⟨b, off, rfl, hbB, d0, d1, d2⟩ := ss_at HR.out HN.out hb hlt hx
        have hl : k < l.length := by rw [HN.out]; exact hlt
        have hxo := fine_getD HF.out hl hx
        obtain ⟨ht1, ht2⟩ := total_take HF.out hl hx
        have hT := hst.out
        rw [hT] at ht1
        have hxb : 1 ≤ x1 ∧ x1 ≤ x2 ∧ x2 ≤ 4611686018427387904 := ⟨hxo.2.2.1, hxo.2.2.2.1, hxo.2.2.2.2⟩
        obtain ⟨u1, u2, u3⟩ := hxb
        simp only at d0 d1 d2 ht1
        have hbs := hb.size
        by_cases hbigger : 4611686018427387904 - T < x2 - x1 + 1
        · have HX := Lib.hid (HB.out (by omega))
          clear HG HB HF HR HN hx hl hxo ht1 ht2 hT hst
          go_wp2
          go_ret
          exact ⟨by rw [HX.out]; rfl, hb.alloc hbs _⟩
        · have HX := Lib.hid ht1
          clear HG HB HF HR HN hx hl hxo ht1 ht2 hT hst
          go_wp2
          exact ⟨⟨k + 1, T + (x2 - x1 + 1), by omega, rfl, rfl, by omega, by omega, hb.alloc hbs _, HX⟩, by simp only [intOf]; omega⟩
      · have hk0 : k = n := by omega
        have hT := hst.out
        rw [List.take_of_length_le (by rw [HN.out]; omega)] at hT
        have HX := Lib.hid (HG.out (by omega))
        have HT := Lib.hid hT
        clear HG HB HF HR HN hT hst
        go_wp2
        go_ret
        exact ⟨by rw [HX.out, HT.out]; rfl, hb⟩

set_option maxHeartbeats 1000000 in
theorem ref_size_any (A : Option Addr) (c n : Nat) (l : List Sp) (hn : l.length = n) (w : World) (hr : Ss w w.heap.size A l) (hbig : n ≤ 140737488355328) :
    Calls Try.prog 34 #[.slice A n c] w fun e w' => e = .returned (.int .i64 (sizeF l)) ∧ Below w.heap.size w w' := by
  have h1 := ref_right_any A c n l hn w hr hbig
  obtain ⟨q, hq⟩ : ∃ q, decide (Right l) = q := ⟨_, rfl⟩
  rw [hq] at h1
  obtain ⟨Z, hZ⟩ : ∃ Z, sizeF l = Z := ⟨_, rfl⟩
  rw [hZ]
  have H1 := Lib.hid h1
  cases q
  · have HZ := Lib.hid (hZ.symm.trans (sizeF_wrong hq))
    clear h1 hZ hr hn
    go_enter Try.func34, Try.ntmps34
    go_wp2_with fail
    refine H1.out.mono ?_
    rintro e w1 ⟨rfl, b1⟩
    go_wp2
    go_ret
    exact ⟨by rw [HZ.out]; rfl, b1⟩
  · have HF := Lib.hid (of_decide_eq_true hq).2
    have HG := Lib.hid (fun h => hZ.symm.trans (sizeF_good hq h))
    have HB := Lib.hid (fun h => hZ.symm.trans (sizeF_big hq h))
    have HR := Lib.hid hr
    have HN := Lib.hid hn
    clear h1 hZ hr hq hn
    go_enter Try.func34, Try.ntmps34
    go_wp2_with fail
    refine H1.out.mono ?_
    rintro e w1 ⟨rfl, b1⟩
    clear H1
    go_wp2
    go_loopw [3, 4] (fun z q wr => ∃ (k : Nat) (T : Int), k ≤ n ∧ q = .int .i64 k ∧ z = .int .i64 T ∧ 0 ≤ T ∧ T ≤ 4611686018427387904 ∧ Below w.heap.size w wr ∧ Hid (total (l.take k) = 4611686018427387904 - T)) (fun _ q _ => n - (intOf q).toNat)
    case atStart => exact ⟨0, 4611686018427387904, by omega, rfl, rfl, by omega, by omega, b1, rfl⟩
    case round =>
      obtain ⟨k, T, hk, rfl, rfl, hT0, hT1, hb, hst⟩ := hrel
      by_cases hlt : k < n
      · obtain ⟨⟨x0, x1, x2⟩, hx⟩ : ∃ x, l.getD k (0, 0, 0) = x := ⟨_, rfl⟩
        obtain ⟨b, off, rfl, hbB, d0, d1, d2⟩ := ss_at HR.out HN.out hb hlt hx
        have hl : k < l.length := by rw [HN.out]; exact hlt
        have hxo := fine_getD HF.out hl hx
        obtain ⟨ht1, ht2⟩ := total_take HF.out hl hx
        have hT := hst.out
        rw [hT] at ht1
        have hxb : 1 ≤ x1 ∧ x1 ≤ x2 ∧ x2 ≤ 4611686018427387904 := ⟨hxo.2.2.1, hxo.2.2.2.1, hxo.2.2.2.2⟩
        obtain ⟨u1, u2, u3⟩ := hxb
        simp only at d0 d1 d2 ht1
        have r0 : (0 : Int) ≤ (k : Int) := by omega
        have r1 : (k : Int) < (n : Int) := by omega
        have j1 : IntKind.i64.wrap (x2 - x1) = x2 - x1 := IntWalk.i64_in _ (by omega)
        by_cases hbigger : T ≤ x2 - x1
        · have HX := Lib.hid (HB.out (by omega))
          have g1 : decide (T ≤ x2 - x1) = true := decide_eq_true hbigger
          clear HG HB HF HR HN hx hl hxo ht1 ht2 hT hst
          go_wp2
          go_quiet (fail)
          go_wp2
          go_ret
          exact ⟨by rw [HX.out]; rfl, hb.trans (below_drewN _ _ _)⟩
        · have HX := Lib.hid (show total (l.take (k + 1)) = 4611686018427387904 - (T - (x2 - x1) - 1) by omega)
          have g1 : decide (T ≤ x2 - x1) = false := decide_eq_false hbigger
          have hd : 0 ≤ T - (x2 - x1) - 1 ∧ T - (x2 - x1) - 1 ≤ 4611686018427387904 := by omega
          have hm : n - (k + 1) < n - k := by omega
          have hk1 : k + 1 ≤ n := by omega
          have j2 : IntKind.i64.wrap (T - (x2 - x1)) = T - (x2 - x1) := IntWalk.i64_in _ (by omega)
          have j3 : IntKind.i64.wrap (T - (x2 - x1) - 1) = T - (x2 - x1) - 1 := IntWalk.i64_in _ (by omega)
          clear HG HB HF HR HN hx hl hxo ht1 ht2 hT hst
          go_wp2
          go_quiet (fail)
          go_wp2
          have D1 := (World.cell?_drewN wr nq _).trans d1
          have D2 := (World.cell?_drewN wr nq _).trans d2
          go_quiet (fail)
          go_wp2
          exact ⟨⟨k + 1, T - (x2 - x1) - 1, hk1, rfl, rfl, hd.1, hd.2, hb.trans (below_drewN _ _ _), HX⟩, by clear j1 j2 j3; simp only [intOf]; omega⟩
      · have hk0 : k = n := by omega
        have hT := hst.out
        rw [List.take_of_length_le (by rw [HN.out]; omega)] at hT
        have HX := Lib.hid (HG.out (by omega))
        have HT := Lib.hid hT
        clear HG HB HF HR HN hT hst
        go_wp2
        go_ret
        exact ⟨by rw [HX.out, HT.out]; rfl, hb⟩
end Span
end Go.Proofs.Ytpgpeigaoonpcab
