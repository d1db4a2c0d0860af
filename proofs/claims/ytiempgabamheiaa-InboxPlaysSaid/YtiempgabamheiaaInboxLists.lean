/-
  Whether two lists of far writes are the same (the law's own words). Written by gen18/lists.py.
-/
import Derived.Test.YtiempgabamheiaaInboxSame
namespace Go.Proofs.Ytiempgabamheiaa
namespace Inbox
open Go.RowKit Vers Span Blk
attribute [local go_sem ↓] Go.wp_at_zero Go.wp_at_succ

set_option maxRecDepth 100000 in
set_option maxHeartbeats 2000000 in
theorem lists_far (A A' : Option Addr) (c c' n n' : Nat) (P Q : List Fr) (hn : P.length = n) (hn' : Q.length = n') (hb : n ≤ 1759218604390) (w : World) (hf : Fs w w.heap.size A P) (hf' : Fs w w.heap.size A' Q) :
    Calls Try.prog 16 #[.slice A n c, .slice A' n' c'] w (fun e w' => e = .returned (.bool (decide (P = Q))) ∧ Below w.heap.size w w') := by
  obtain ⟨R, hR⟩ : ∃ R, decide (P = Q) = R := ⟨_, rfl⟩
  rw [hR]
  by_cases hnn : n = n'
  · subst hnn
    have HF := Lib.hid (And.intro hf (And.intro hf' (And.intro hn (And.intro hn' hR))))
    have HI0 : Hid (Below w.heap.size w w ∧ P.take 0 = Q.take 0) := Lib.hid ⟨Below.refl _ _, by simp⟩
    clear hf hf' hn hn' hR
    go_enter Try.func16, Try.ntmps16
    go_wp2_with fail
    go_loopw [5] (fun q wr => ∃ j : Nat, q = .int .i64 j ∧ j ≤ n ∧ Hid (Below w.heap.size w wr ∧ P.take j = Q.take j)) (fun q _ => n - (intOf q).toNat)
    case atStart => exact ⟨0, rfl, by omega, HI0⟩
    case round =>
      clear HI0
      obtain ⟨j, rfl, hj, hst⟩ := hrel
      by_cases hlt : j < n
      · obtain ⟨x, hx⟩ : ∃ x, P[j]? = some x := ⟨P[j]'(by have := HF.out.2.2.1; omega), by simp⟩
        obtain ⟨y, hy⟩ : ∃ x, Q[j]? = some x := ⟨Q[j]'(by have := HF.out.2.2.2.1; omega), by simp⟩
        obtain ⟨b, off, rfl, hbl, hat⟩ := HF.out.1 (by have := HF.out.2.2.1; omega)
        obtain ⟨b2, off2, rfl, hbl2, hat2⟩ := HF.out.2.1 (by have := HF.out.2.2.2.1; omega)
        obtain ⟨⟨a1, c1⟩, ⟨a2, c2⟩, hcl, hv, hr, hs, hc⟩ := hat j x hx
        obtain ⟨⟨a3, c3⟩, ⟨a4, c4⟩, hcl2, hv2, hr2, hs2, hc2⟩ := hat2 j y hy
        have hyes : x = y → P.take (j + 1) = Q.take (j + 1) := fun h => by
          obtain ⟨h1, h2⟩ := List.getElem?_eq_some_iff.1 hx
          obtain ⟨h3, h4⟩ := List.getElem?_eq_some_iff.1 hy
          rw [List.take_succ_eq_append_getElem h1, List.take_succ_eq_append_getElem h3, h2, h4, hst.out.2, h]
        have hno : x ≠ y → P ≠ Q := fun h h' => h (by rw [h', hy] at hx; injection hx with hx; exact hx.symm)
        obtain ⟨⟨f1, f2⟩, ⟨k1, v1⟩, rr⟩ := x
        obtain ⟨⟨g1, g2⟩, ⟨k2, v2⟩, rr2⟩ := y
        obtain ⟨m1, hm1⟩ : ∃ r, v1.length = r := ⟨_, rfl⟩
        obtain ⟨r1, hr1⟩ : ∃ r, rr.length = r := ⟨_, rfl⟩
        obtain ⟨m2, hm2⟩ : ∃ r, v2.length = r := ⟨_, rfl⟩
        obtain ⟨r2, hrl2⟩ : ∃ r, rr2.length = r := ⟨_, rfl⟩
        have q0 : w.cell? ⟨b, off + j * 5, none⟩ = some (.int .i64 f1) := hcl 0 _ rfl
        have q1 : w.cell? ⟨b, off + j * 5 + 1, none⟩ = some (.int .i64 f2) := hcl 1 _ rfl
        have q2 : w.cell? ⟨b, off + j * 5 + 2, none⟩ = some (.string k1) := hcl 2 _ rfl
        have q3 : w.cell? ⟨b, off + j * 5 + 3, none⟩ = some (.slice a1 m1 c1) := by rw [← hm1]; exact hcl 3 _ rfl
        have q4 : w.cell? ⟨b, off + j * 5 + 4, none⟩ = some (.slice a2 r1 c2) := by rw [← hr1]; exact hcl 4 _ rfl
        have p0 : w.cell? ⟨b2, off2 + j * 5, none⟩ = some (.int .i64 g1) := hcl2 0 _ rfl
        have p1 : w.cell? ⟨b2, off2 + j * 5 + 1, none⟩ = some (.int .i64 g2) := hcl2 1 _ rfl
        have p2 : w.cell? ⟨b2, off2 + j * 5 + 2, none⟩ = some (.string k2) := hcl2 2 _ rfl
        have p3 : w.cell? ⟨b2, off2 + j * 5 + 3, none⟩ = some (.slice a3 m2 c3) := by rw [← hm2]; exact hcl2 3 _ rfl
        have p4 : w.cell? ⟨b2, off2 + j * 5 + 4, none⟩ = some (.slice a4 r2 c4) := by rw [← hrl2]; exact hcl2 4 _ rfl
        have d1 : (0 : Int) ≤ (j : Int) := by omega
        have d2 : (j : Int) < (n : Int) := by omega
        obtain ⟨q, hq⟩ : ∃ q, decide ((((f1, f2), (k1, v1), rr) : Fr) = ((g1, g2), (k2, v2), rr2)) = q := ⟨_, rfl⟩
        have HSM : Hid (∀ V, Below w.heap.size w V → Calls Try.prog 15 #[.agg #[.int .i64 f1, .int .i64 f2, .string k1, .slice a1 m1 c1, .slice a2 r1 c2], .agg #[.int .i64 g1, .int .i64 g2, .string k2, .slice a3 m2 c3, .slice a4 r2 c4]] V (fun e w' => e = .returned (.bool q) ∧ Below V.heap.size V w')) := Lib.hid fun V hV => by
          rw [← hq]
          exact same_far f1 f2 k1 a1 c1 m1 v1 a2 c2 r1 rr hm1 (by simp only at hc; omega) hr1 hs g1 g2 k2 a3 c3 m2 v2 a4 c4 r2 rr2 hm2 (by simp only at hc2; omega) hrl2 hs2 V ((hv.below hV).more hV.size) ((hr.below hV).more hV.size) ((hv2.below hV).more hV.size) ((hr2.below hV).more hV.size)
        have HSF : Hid (∀ V, Below w.heap.size w V → Below w.heap.size w V ∧ V.cell? ⟨b, off + j * 5, none⟩ = some (.int .i64 f1) ∧ V.cell? ⟨b, off + j * 5 + 1, none⟩ = some (.int .i64 f2) ∧ V.cell? ⟨b, off + j * 5 + 2, none⟩ = some (.string k1) ∧ V.cell? ⟨b, off + j * 5 + 3, none⟩ = some (.slice a1 m1 c1) ∧ V.cell? ⟨b, off + j * 5 + 4, none⟩ = some (.slice a2 r1 c2) ∧ V.cell? ⟨b2, off2 + j * 5, none⟩ = some (.int .i64 g1) ∧ V.cell? ⟨b2, off2 + j * 5 + 1, none⟩ = some (.int .i64 g2) ∧ V.cell? ⟨b2, off2 + j * 5 + 2, none⟩ = some (.string k2) ∧ V.cell? ⟨b2, off2 + j * 5 + 3, none⟩ = some (.slice a3 m2 c3) ∧ V.cell? ⟨b2, off2 + j * 5 + 4, none⟩ = some (.slice a4 r2 c4)) := Lib.hid fun V hV => ⟨hV, (hV.cell (p := ⟨b, off + j * 5, none⟩) hbl).trans q0, (hV.cell (p := ⟨b, off + j * 5 + 1, none⟩) hbl).trans q1, (hV.cell (p := ⟨b, off + j * 5 + 2, none⟩) hbl).trans q2, (hV.cell (p := ⟨b, off + j * 5 + 3, none⟩) hbl).trans q3, (hV.cell (p := ⟨b, off + j * 5 + 4, none⟩) hbl).trans q4, (hV.cell (p := ⟨b2, off2 + j * 5, none⟩) hbl2).trans p0, (hV.cell (p := ⟨b2, off2 + j * 5 + 1, none⟩) hbl2).trans p1, (hV.cell (p := ⟨b2, off2 + j * 5 + 2, none⟩) hbl2).trans p2, (hV.cell (p := ⟨b2, off2 + j * 5 + 3, none⟩) hbl2).trans p3, (hV.cell (p := ⟨b2, off2 + j * 5 + 4, none⟩) hbl2).trans p4⟩
        have HJ := Lib.hid (And.intro hq (And.intro hyes hno))
        clear hx hy hat hat2 hcl hcl2 hv hv2 hr hr2 hs hs2 hc hc2 hyes hno hm1 hr1 hm2 hrl2 hq q0 q1 q2 q3 q4 p0 p1 p2 p3 p4
        go_wp2_with fail
        refine wp_region_held_drew (S := (fun V => Below w.heap.size w V ∧ V.cell? ⟨b, off + j * 5, none⟩ = some (.int .i64 f1) ∧ V.cell? ⟨b, off + j * 5 + 1, none⟩ = some (.int .i64 f2) ∧ V.cell? ⟨b, off + j * 5 + 2, none⟩ = some (.string k1) ∧ V.cell? ⟨b, off + j * 5 + 3, none⟩ = some (.slice a1 m1 c1) ∧ V.cell? ⟨b, off + j * 5 + 4, none⟩ = some (.slice a2 r1 c2) ∧ V.cell? ⟨b2, off2 + j * 5, none⟩ = some (.int .i64 g1) ∧ V.cell? ⟨b2, off2 + j * 5 + 1, none⟩ = some (.int .i64 g2) ∧ V.cell? ⟨b2, off2 + j * 5 + 2, none⟩ = some (.string k2) ∧ V.cell? ⟨b2, off2 + j * 5 + 3, none⟩ = some (.slice a3 m2 c3) ∧ V.cell? ⟨b2, off2 + j * 5 + 4, none⟩ = some (.slice a4 r2 c4))) (by kernel_rfl) (HSF.out _ (hst.out.1.trans (show Below w.heap.size wr wr.drew from (Below.refl _ _).drew))) (fun hHeld => ?_)
        refine wpAnyH_take (i := 0) (oi := { dst := some 17, op := Op.move (Operand.tmp 0), type := 48, pos := "law.go:48", after := #[], guard := none }) (v := ?vl_1) rfl (by kernel_rfl) (by kernel_rfl) (by kernel_rfl) (fun _ _ _ h => h) (Or.inl ⟨by rfl, ?hyl_1⟩) (by assumption) ?restl_1
        case hyl_1 =>
          intro w hSw
          (try dsimp only at hSw)
          go_simp
          (try with_reducible rfl)
        (try simp only [Act.put, List.setIfInBounds_toArray, List.set_cons_zero, List.set_cons_succ])
        refine wpAnyH_take (i := 1) (oi := { dst := some 18, op := Op.move (Operand.tmp 5), type := 3, pos := "law.go:48", after := #[], guard := none }) (v := ?vl_2) rfl (by kernel_rfl) (by kernel_rfl) (by kernel_rfl) (fun _ _ _ h => h) (Or.inl ⟨by rfl, ?hyl_2⟩) (by assumption) ?restl_2
        case hyl_2 =>
          intro w hSw
          (try dsimp only at hSw)
          go_simp
          (try with_reducible rfl)
        (try simp only [Act.put, List.setIfInBounds_toArray, List.set_cons_zero, List.set_cons_succ])
        refine wpAnyH_take (i := 2) (oi := { dst := some 19, op := Op.indexAddr 48 (Operand.tmp 17) (Operand.tmp 18), type := 0, pos := "law.go:48", after := #[{ on := 0, ground := Ground.data }, { on := 1, ground := Ground.data }], guard := none }) (v := ?vl_3) rfl (by kernel_rfl) (by kernel_rfl) (by kernel_rfl) (fun _ _ _ h => h) (Or.inl ⟨by rfl, ?hyl_3⟩) (by assumption) ?restl_3
        case hyl_3 =>
          intro w hSw
          (try dsimp only at hSw)
          go_simp
          (try with_reducible rfl)
        (try simp only [Act.put, List.setIfInBounds_toArray, List.set_cons_zero, List.set_cons_succ])
        refine wpAnyH_take (i := 3) (oi := { dst := some 20, op := Op.load 35 (Operand.tmp 19), type := 35, pos := "law.go:48", after := #[{ on := 2, ground := Ground.data }], guard := none }) (v := ?vl_4) rfl (by kernel_rfl) (by kernel_rfl) (by kernel_rfl) (fun _ _ _ h => h) (Or.inl ⟨by rfl, ?hyl_4⟩) (by assumption) ?restl_4
        case hyl_4 =>
          intro w hSw
          (try dsimp only at hSw)
          go_simp
          (try with_reducible rfl)
        (try simp only [Act.put, List.setIfInBounds_toArray, List.set_cons_zero, List.set_cons_succ])
        refine wpAnyH_take (i := 4) (oi := { dst := some 21, op := Op.move (Operand.tmp 1), type := 27, pos := "law.go:48", after := #[], guard := none }) (v := ?vl_5) rfl (by kernel_rfl) (by kernel_rfl) (by kernel_rfl) (fun _ _ _ h => h) (Or.inl ⟨by rfl, ?hyl_5⟩) (by assumption) ?restl_5
        case hyl_5 =>
          intro w hSw
          (try dsimp only at hSw)
          go_simp
          (try with_reducible rfl)
        (try simp only [Act.put, List.setIfInBounds_toArray, List.set_cons_zero, List.set_cons_succ])
        refine wpAnyH_take (i := 5) (oi := { dst := some 22, op := Op.move (Operand.tmp 5), type := 3, pos := "law.go:48", after := #[], guard := none }) (v := ?vl_6) rfl (by kernel_rfl) (by kernel_rfl) (by kernel_rfl) (fun _ _ _ h => h) (Or.inl ⟨by rfl, ?hyl_6⟩) (by assumption) ?restl_6
        case hyl_6 =>
          intro w hSw
          (try dsimp only at hSw)
          go_simp
          (try with_reducible rfl)
        (try simp only [Act.put, List.setIfInBounds_toArray, List.set_cons_zero, List.set_cons_succ])
        refine wpAnyH_take (i := 6) (oi := { dst := some 23, op := Op.indexAddr 27 (Operand.tmp 21) (Operand.tmp 22), type := 0, pos := "law.go:48", after := #[{ on := 4, ground := Ground.data }, { on := 5, ground := Ground.data }], guard := none }) (v := ?vl_7) rfl (by kernel_rfl) (by kernel_rfl) (by kernel_rfl) (fun _ _ _ h => h) (Or.inl ⟨by rfl, ?hyl_7⟩) (by assumption) ?restl_7
        case hyl_7 =>
          intro w hSw
          (try dsimp only at hSw)
          go_simp
          (try with_reducible rfl)
        (try simp only [Act.put, List.setIfInBounds_toArray, List.set_cons_zero, List.set_cons_succ])
        refine wpAnyH_take (i := 7) (oi := { dst := some 24, op := Op.load 41 (Operand.tmp 23), type := 41, pos := "law.go:48", after := #[{ on := 6, ground := Ground.data }], guard := none }) (v := ?vl_8) rfl (by kernel_rfl) (by kernel_rfl) (by kernel_rfl) (fun _ _ _ h => h) (Or.inl ⟨by rfl, ?hyl_8⟩) (by assumption) ?restl_8
        case hyl_8 =>
          intro w hSw
          (try dsimp only at hSw)
          go_simp
          (try with_reducible rfl)
        (try simp only [Act.put, List.setIfInBounds_toArray, List.set_cons_zero, List.set_cons_succ])
        refine wpAnyH_ready (rs := [8]) (by kernel_rfl) (by simp) ?_
        refine AllReadyH.cons (o := { dst := some 25, op := Op.call { callee := Callee.value (Operand.func 15), args := #[Operand.tmp 20, Operand.tmp 24], argTypes := #[35, 41] }, type := 4, pos := "law.go:48", after := #[{ on := 3, ground := Ground.data }, { on := 7, ground := Ground.data }], guard := none }) rfl (fun K hK => ?_) AllReadyH.nil
        go_simp
        (go_at_call 15; refine (HSM.out _ hHeld.1).mono ?_; rintro e6 w6 ⟨rfl, b6⟩; have hb6 : Below w.heap.size w w6 := hHeld.1.trans (b6.mono hHeld.1.size))
        go_wp2_with fail
        refine hK.out _ _ (HSF.out _ hb6) (fun hHeld => ?_)
        clear hK K
        (try simp only [Act.put, List.setIfInBounds_toArray, List.set_cons_zero, List.set_cons_succ])
        refine wpAnyH_take (i := 9) (oi := { dst := some 26, op := Op.unOp UnOp.not 4 (Operand.tmp 25), type := 4, pos := "law.go:48", after := #[{ on := 8, ground := Ground.data }], guard := none }) (v := ?vl_9) rfl (by kernel_rfl) (by kernel_rfl) (by kernel_rfl) (fun _ _ _ h => h) (Or.inl ⟨by rfl, ?hyl_9⟩) (by assumption) ?restl_9
        case hyl_9 =>
          intro w hSw
          (try dsimp only at hSw)
          go_simp
          (try with_reducible rfl)
        (try simp only [Act.put, List.setIfInBounds_toArray, List.set_cons_zero, List.set_cons_succ])
        refine wpAnyH_done (by kernel_rfl) ?_ _
        cases q
        · have HZ := Lib.hid (show R = false by rw [← HF.out.2.2.2.2]; exact decide_eq_false (HJ.out.2.2 (of_decide_eq_false HJ.out.1)))
          go_wp2_with fail
          go_ret
          exact ⟨by rw [HZ.out]; rfl, hb6⟩
        · have HN : Hid (Below w.heap.size w w6 ∧ P.take (j + 1) = Q.take (j + 1)) := Lib.hid ⟨hb6, HJ.out.2.1 (of_decide_eq_true HJ.out.1)⟩
          clear hb6 b6 hHeld
          go_wp2_with fail
          go_roundw
          case rel => exact ⟨j + 1, rfl, by omega, HN⟩
          case measure => simp only [intOf]; omega
      · obtain rfl : j = n := by omega
        have HZ := Lib.hid (show R = true by
          rw [← HF.out.2.2.2.2]
          have h := hst.out.2
          rw [List.take_of_length_le (by have := HF.out.2.2.1; omega), List.take_of_length_le (by have := HF.out.2.2.2.1; omega)] at h
          exact decide_eq_true h)
        have HW := Lib.hid hst.out.1
        clear hst
        go_wp2_with fail
        go_ret
        exact ⟨by rw [HZ.out]; rfl, HW.out⟩
  · have HZ := Lib.hid (show R = false by rw [← hR]; exact decide_eq_false fun h => hnn (by rw [← hn, ← hn', h]))
    have g0 : ((n : Int) != (n' : Int)) = true := by simp; omega
    have g1 : ¬ ((n : Int) = (n' : Int)) := by omega
    clear hf hf' hn hn' hR hnn
    go_enter Try.func16, Try.ntmps16
    go_wp2_with fail
    go_ret
    exact ⟨by rw [HZ.out]; rfl, Below.refl _ _⟩
end Inbox
end Go.Proofs.Ytiempgabamheiaa
