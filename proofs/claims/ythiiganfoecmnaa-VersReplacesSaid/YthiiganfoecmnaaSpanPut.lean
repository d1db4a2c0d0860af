/-
  firthref03.put: a span laid into a right list.
-/
import Derived.Test.YthiiganfoecmnaaSpanJoin
namespace Go.Proofs.Ythiiganfoecmnaa
namespace Span
open Go.RowKit
attribute [local go_sem ↓] Go.wp_at_zero Go.wp_at_succ

/-- Block B is a box that holds the span x. -/
def Bx (W : World) (B : Nat) (x : Sp) : Prop := W.heap[B]? = some (.cells #[.int .i64 x.1, .int .i64 x.2.1, .int .i64 x.2.2] 46 (0, 0))
section
variable {W W' : World} {B : Nat} {x : Sp}
theorem Bx.lt (h : Bx W B x) : B < W.heap.size := (Array.getElem?_eq_some_iff.1 h).1
theorem Bx.c0 (h : Bx W B x) : W.cell? ⟨B, 0, none⟩ = some (.int .i64 x.1) := by simp [World.cell?, show W.heap[B]? = _ from h]
theorem Bx.c1 (h : Bx W B x) : W.cell? ⟨B, 1, none⟩ = some (.int .i64 x.2.1) := by simp [World.cell?, show W.heap[B]? = _ from h]
theorem Bx.c2 (h : Bx W B x) : W.cell? ⟨B, 2, none⟩ = some (.int .i64 x.2.2) := by simp [World.cell?, show W.heap[B]? = _ from h]
theorem Bx.frozen (h : Bx W B x) (j : Nat) : W.frozen? ⟨B, j, none⟩ = false := by simp [World.frozen?, show W.heap[B]? = _ from h]
theorem Bx.new (W : World) (x : Sp) : Bx (W.alloc (.cells #[.int .i64 x.1, .int .i64 x.2.1, .int .i64 x.2.2] 46)) W.heap.size x := heap_alloc_new W _
theorem Bx.kept {row : Option Nat} (h : Bx W B x) (hg : W.grownBy W' row) (hne : some B ≠ row) : Bx W' B x := (hg.block B h.lt hne).trans h
theorem Bx.alloc (h : Bx W B x) (o : Obj) : Bx (W.alloc o) B x := h.kept (World.grownBy_alloc W o none) (by simp)
theorem Bx.below {B' : Nat} (h : Bx W B x) (hb : Below B' W W') (hB : B < B') : Bx W' B x := (hb.block B hB).trans h
theorem Bx.set1 (h : Bx W B x) (z : Int) : Bx (W.setCell ⟨B, 1, none⟩ (.int .i64 z)) B (x.1, z, x.2.2) := by
  have h' : W.heap[B]? = some (.cells #[.int .i64 x.1, .int .i64 x.2.1, .int .i64 x.2.2] 46 (0, 0)) := h
  show (W.setCell ⟨B, 1, none⟩ (.int .i64 z)).heap[B]? = _
  simp [World.setCell, Array.getElem?_modify, h']
theorem Bx.set2 (h : Bx W B x) (z : Int) : Bx (W.setCell ⟨B, 2, none⟩ (.int .i64 z)) B (x.1, x.2.1, z) := by
  have h' : W.heap[B]? = some (.cells #[.int .i64 x.1, .int .i64 x.2.1, .int .i64 x.2.2] 46 (0, 0)) := h
  show (W.setCell ⟨B, 2, none⟩ (.int .i64 z)).heap[B]? = _
  simp [World.setCell, Array.getElem?_modify, h']
end

/-- The slice v owns the spans l; nothing below base has turned. -/
def OwnSs (W : World) (base : Nat) (A : Option Addr) (c : Nat) (l : List Sp) : Prop := W.ownsRow base 46 3 (.slice A l.length c) l.length (sps l)

theorem own_next {W : World} {base : Nat} {A : Option Addr} {c m : Nat} {l : List Sp} {y : Sp} (h : W.ownsRow base 46 3 (.slice A (m + 1) c) (m + 1) (sps (l ++ [y]))) (hm : l.length = m) : OwnSs W base A c (l ++ [y]) := by
  unfold OwnSs
  rw [show (l ++ [y]).length = m + 1 by simp [hm]]
  exact h
theorem len_next {l : List Sp} {m : Nat} (y : Sp) (hm : l.length = m) : (l ++ [y]).length = m + 1 := by simp [hm]
theorem own_back {W : World} {base : Nat} {A : Option Addr} {c m : Nat} {l : List Sp} (hm : l.length = m) (h : W.ownsRow base 46 3 (.slice A m c) m (sps l)) : OwnSs W base A c l := by
  subst hm
  exact h
theorem own_at {W : World} {base : Nat} {A : Option Addr} {c m : Nat} {l : List Sp} (h : OwnSs W base A c l) (hm : l.length = m) : W.ownsRow base 46 3 (.slice A m c) m (sps l) := by
  subst hm
  exact h

set_option maxHeartbeats 2000000 in
set_option maxRecDepth 100000 in
theorem put_any (A : Option Addr) (c n : Nat) (l : List Sp) (hn : l.length = n) (x0 : Sp) (hf : Fine l) (hx0 : okSp x0) (w : World) (hr : Ss w w.heap.size A l) (hbig : n ≤ 4294967296) :
    Calls Try.prog 57 #[.slice A n c, .agg #[.int .i64 x0.1, .int .i64 x0.2.1, .int .i64 x0.2.2]] w (GotSs w.heap.size (joinOf l [x0]) w) := by
  obtain ⟨info, hi, hz, hsize, hby⟩ := info_span
  have HI := Lib.hid (And.intro hi (And.intro hz (And.intro hsize hby)))
  have HS := Lib.hid (putting_start l hx0)
  have HE := Lib.hid (fun x out laid (h : Putting l x0 l.length x out laid) => And.intro (joinOf_eq (putting_end h).1) (putting_end h).2)
  obtain ⟨R, hR⟩ : ∃ R, joinOf l [x0] = R := ⟨_, rfl⟩
  rw [hR] at HE ⊢
  have HF := Lib.hid hf
  have HN := Lib.hid hn
  have HR := Lib.hid hr
  have hnew := Bx.new w x0
  have HBX := Lib.hid hnew
  have HB0 := Lib.hid ((Below.refl w.heap.size w).alloc (Nat.le_refl _) (.cells #[.int .i64 x0.1, .int .i64 x0.2.1, .int .i64 x0.2.2] 46))
  clear hi hz hsize hby hR hf hn hr hnew hx0
  obtain ⟨z0, z1, z2⟩ := x0
  go_enter Try.func57, Try.ntmps57
  go_wp2
  go_loopw [5, 6, 7] (fun v lb q wr => ∃ (i : Nat) (x : Sp) (out : List Sp) (laid : Bool) (Ao : Option Addr) (co : Nat), i ≤ n ∧ v = .slice Ao out.length co ∧ lb = .bool laid ∧ q = .int .i64 i ∧ Hid (OwnSs wr (w.heap.size + 1) Ao co out) ∧ Hid (Below w.heap.size w wr) ∧ Hid (Bx wr w.heap.size x) ∧ Hid (Putting l (z0, z1, z2) i x out laid))
    (fun _ _ q _ => n - (intOf q).toNat)
  case atStart => exact ⟨0, _, [], false, none, 0, by omega, rfl, rfl, rfl, World.ownsRow_nil _ _ _ _, HB0, HBX, HS⟩
  case round =>
    obtain ⟨i, ⟨x0, x1, x2⟩, out, laid, Ao, co, hi1, rfl, rfl, rfl, ho, hb, hbx, hp⟩ := hrel
    obtain ⟨m, hmm⟩ : ∃ m, out.length = m := ⟨_, rfl⟩
    have HM := Lib.hid hmm
    rw [hmm]
    clear hmm HBX HB0 HS
    by_cases hlt : i < n
    · obtain ⟨⟨y0, y1, y2⟩, hy⟩ : ∃ y, l.getD i (0, 0, 0) = y := ⟨_, rfl⟩
      have hi2 : i < l.length := by rw [HN.out]; exact hlt
      obtain ⟨b0, off, rfl, hbB, d0, d1, d2⟩ := ss_at HR.out HN.out hb.out hlt hy
      simp only at d0 d1 d2
      have e0 := (hbx.out.alloc (.cells #[.int .i64 y0, .int .i64 y1, .int .i64 y2] 46)).c0
      have e1 := (hbx.out.alloc (.cells #[.int .i64 y0, .int .i64 y1, .int .i64 y2] 46)).c1
      have e2 := (hbx.out.alloc (.cells #[.int .i64 y0, .int .i64 y1, .int .i64 y2] 46)).c2
      have e3 := (hbx.out.alloc (.cells #[.int .i64 y0, .int .i64 y1, .int .i64 y2] 46)).frozen 1
      have e4 := (hbx.out.alloc (.cells #[.int .i64 y0, .int .i64 y1, .int .i64 y2] 46)).frozen 2
      have HB1 := Lib.hid (hbx.out.alloc (.cells #[.int .i64 y0, .int .i64 y1, .int .i64 y2] 46))
      have HBY := Lib.hid (Bx.new wr (y0, y1, y2))
      have hom := Lib.hid (own_at ho.out HM.out)
      have HO1 := Lib.hid (World.ownsRow.alloc hom.out (.cells #[.int .i64 y0, .int .i64 y1, .int .i64 y2] 46))
      have HW1 := Lib.hid (hb.out.alloc hb.out.size (.cells #[.int .i64 y0, .int .i64 y1, .int .i64 y2] 46))
      have hsz := hbx.out.lt
      have hsz1 : wr.heap.size < (wr.alloc (.cells #[.int .i64 y0, .int .i64 y1, .int .i64 y2] 46)).heap.size := by simp
      obtain ⟨W1, hW1⟩ : ∃ W1, wr.alloc (.cells #[.int .i64 y0, .int .i64 y1, .int .i64 y2] 46) = W1 := ⟨_, rfl⟩
      have hsz2 : w.heap.size < W1.heap.size := by rw [← hW1]; simp; omega
      rw [hW1] at e0 e1 e2 e3 e4 HB1 HBY HO1 HW1 hsz1
      have f0 := HBY.out.c0
      have f1 := HBY.out.c1
      have f2 := HBY.out.c2
      simp only at e0 e1 e2 f0 f1 f2
      have hyo := fine_getD HF.out hi2 hy
      have hy1 : 1 ≤ y1 ∧ y1 ≤ y2 ∧ y2 ≤ 4611686018427387904 := ⟨hyo.2.2.1, hyo.2.2.2.1, hyo.2.2.2.2⟩
      obtain ⟨u1, u2, u3⟩ := hy1
      cases laid
      · have hp1 := hp.out.1 rfl
        have hm1 : m ≤ i := by have := hp1.2.2.2; rw [HM.out] at this; exact this
        have hxo := (fine_snoc.1 hp1.2.1).2.1
        have hx1 : 1 ≤ x1 ∧ x1 ≤ x2 ∧ x2 ≤ 4611686018427387904 := ⟨hxo.2.2.1, hxo.2.2.2.1, hxo.2.2.2.2⟩
        obtain ⟨v1, v2, v3⟩ := hx1
        clear hxo hyo
        by_cases ht : touch (y0, y1, y2) (x0, x1, x2)
        · have hP := putting_touch HF.out hi2 hy hp.out ht
          obtain ⟨hxy, t1, t2⟩ := ht
          simp only at hxy t1 t2
          subst hxy
          have HP : Hid (∀ a b, min x1 y1 = a → max x2 y2 = b → Putting l (z0, z1, z2) (i + 1) (y0, a, b) out false) := Lib.hid (fun a b h h' => by rw [← h, ← h']; exact hP)
          clear hP hp hp1 HN HR HF HE hi2 hy
          by_cases l1 : y1 < x1
          · by_cases l2 : x2 < y2
            · have HQ := Lib.hid (HP.out y1 y2 (by omega) (by omega))
              clear HP
              go_wp2
              exact ⟨⟨i + 1, (y0, y1, y2), out, false, Ao, co, by omega, by rw [HM.out], rfl, rfl, Lib.hid (own_back HM.out <| ownsRow_setCell_below (ownsRow_setCell_below HO1.out (a := ⟨w.heap.size, 1, none⟩) (by simp) (.int .i64 y1)) (a := ⟨w.heap.size, 2, none⟩) (by simp) (.int .i64 y2)), Lib.hid ((HW1.out.setCell (p := ⟨w.heap.size, 1, none⟩) (Nat.le_refl _) (.int .i64 y1)).setCell (p := ⟨w.heap.size, 2, none⟩) (Nat.le_refl _) (.int .i64 y2)), Lib.hid ((HB1.out.set1 y1).set2 y2), HQ⟩, by simp only [intOf]; omega⟩
            · have HQ := Lib.hid (HP.out y1 x2 (by omega) (by omega))
              clear HP
              go_wp2
              exact ⟨⟨i + 1, (y0, y1, x2), out, false, Ao, co, by omega, by rw [HM.out], rfl, rfl, Lib.hid (own_back HM.out <| ownsRow_setCell_below HO1.out (a := ⟨w.heap.size, 1, none⟩) (by simp) (.int .i64 y1)), Lib.hid (HW1.out.setCell (p := ⟨w.heap.size, 1, none⟩) (Nat.le_refl _) (.int .i64 y1)), Lib.hid (HB1.out.set1 y1), HQ⟩, by simp only [intOf]; omega⟩
          · by_cases l2 : x2 < y2
            · have HQ := Lib.hid (HP.out x1 y2 (by omega) (by omega))
              clear HP
              go_wp2
              exact ⟨⟨i + 1, (y0, x1, y2), out, false, Ao, co, by omega, by rw [HM.out], rfl, rfl, Lib.hid (own_back HM.out <| ownsRow_setCell_below HO1.out (a := ⟨w.heap.size, 2, none⟩) (by simp) (.int .i64 y2)), Lib.hid (HW1.out.setCell (p := ⟨w.heap.size, 2, none⟩) (Nat.le_refl _) (.int .i64 y2)), Lib.hid (HB1.out.set2 y2), HQ⟩, by simp only [intOf]; omega⟩
            · have HQ := Lib.hid (HP.out x1 x2 (by omega) (by omega))
              clear HP
              go_wp2
              exact ⟨⟨i + 1, (y0, x1, x2), out, false, Ao, co, by omega, by rw [HM.out], rfl, rfl, Lib.hid (own_back HM.out HO1.out), HW1, HB1, HQ⟩, by simp only [intOf]; omega⟩
        · by_cases ha : apart (x0, x1, x2) (y0, y1, y2)
          · have HP := Lib.hid (putting_lay HF.out hi2 hy hp.out ha)
            unfold apart at ha
            simp only at ha
            clear hp hp1 ht HN HR HF HE hi2 hy
            rcases ha with ha | ⟨hxy, ha⟩
            · skip
              go_wp2_with (first
                | (at_builtin; refine wpList_append_sp _ rfl _ _ _ rfl (w.heap.size + 1) 46 info _ 24 Try.underlying26 HI.out.1 HI.out.2.1 HI.out.2.2.1 HI.out.2.2.2 rfl _ (m) (out) rfl (HO1.out) (x0, x1, x2) 1 rfl (by omega) (by omega) hsz2 ?_; intro v2 w2 o2 g2 _; obtain ⟨A2, c2, rfl⟩ := own_form o2; have hs2 := g2.size; have HBX2 := Lib.hid (HB1.out.kept g2 (fun h => by have := (World.ownsRow.lt HO1.out _ h.symm).1; omega)); have hby2 := HBY.out.kept g2 (fun h => by have := (World.ownsRow.lt hom.out _ h.symm).2; omega); have y0' := hby2.c0; have y1' := hby2.c1; have y2' := hby2.c2; simp only at y0' y1' y2'; clear hby2; have HO2 := Lib.hid o2; have HW2 := Lib.hid (HW1.out.grown g2 (by omega) (fun g hg => Nat.le_of_lt (World.ownsRow.lt HO1.out g hg).1)); clear o2 g2)
                | (at_builtin; refine wpList_append_sp _ rfl _ _ _ rfl (w.heap.size + 1) 46 info _ 24 Try.underlying26 HI.out.1 HI.out.2.1 HI.out.2.2.1 HI.out.2.2.2 rfl _ (m + 1) (out ++ [(x0, x1, x2)]) rfl (HO2.out) (y0, y1, y2) 1 rfl (by omega) (by omega) ((by omega)) ?_; intro v3 w3 o3 g3 _; obtain ⟨A3, c3, rfl⟩ := own_form o3))
              exact ⟨⟨i + 1, (x0, x1, x2), _, true, A3, c3, by omega, by rw [len_next (y0, y1, y2) (len_next (x0, x1, x2) HM.out)], rfl, rfl, Lib.hid (own_next o3 (len_next (x0, x1, x2) HM.out)), Lib.hid (HW2.out.grown g3 (by omega) (fun g hg => Nat.le_of_lt (World.ownsRow.lt HO2.out g hg).1)), Lib.hid (HBX2.out.kept g3 (fun h => by have := (World.ownsRow.lt HO2.out _ h.symm).1; omega)), Lib.hid HP.out⟩, by simp only [intOf]; omega⟩
            · subst hxy
              go_wp2_with (first
                | (at_builtin; refine wpList_append_sp _ rfl _ _ _ rfl (w.heap.size + 1) 46 info _ 24 Try.underlying26 HI.out.1 HI.out.2.1 HI.out.2.2.1 HI.out.2.2.2 rfl _ (m) (out) rfl (HO1.out) (x0, x1, x2) 1 rfl (by omega) (by omega) hsz2 ?_; intro v2 w2 o2 g2 _; obtain ⟨A2, c2, rfl⟩ := own_form o2; have hs2 := g2.size; have HBX2 := Lib.hid (HB1.out.kept g2 (fun h => by have := (World.ownsRow.lt HO1.out _ h.symm).1; omega)); have hby2 := HBY.out.kept g2 (fun h => by have := (World.ownsRow.lt hom.out _ h.symm).2; omega); have x0' := hby2.c0; have y1' := hby2.c1; have y2' := hby2.c2; simp only at x0' y1' y2'; clear hby2; have HO2 := Lib.hid o2; have HW2 := Lib.hid (HW1.out.grown g2 (by omega) (fun g hg => Nat.le_of_lt (World.ownsRow.lt HO1.out g hg).1)); clear o2 g2)
                | (at_builtin; refine wpList_append_sp _ rfl _ _ _ rfl (w.heap.size + 1) 46 info _ 24 Try.underlying26 HI.out.1 HI.out.2.1 HI.out.2.2.1 HI.out.2.2.2 rfl _ (m + 1) (out ++ [(x0, x1, x2)]) rfl (HO2.out) (x0, y1, y2) 1 rfl (by omega) (by omega) ((by omega)) ?_; intro v3 w3 o3 g3 _; obtain ⟨A3, c3, rfl⟩ := own_form o3))
              exact ⟨⟨i + 1, (x0, x1, x2), _, true, A3, c3, by omega, by rw [len_next (x0, y1, y2) (len_next (x0, x1, x2) HM.out)], rfl, rfl, Lib.hid (own_next o3 (len_next (x0, x1, x2) HM.out)), Lib.hid (HW2.out.grown g3 (by omega) (fun g hg => Nat.le_of_lt (World.ownsRow.lt HO2.out g hg).1)), Lib.hid (HBX2.out.kept g3 (fun h => by have := (World.ownsRow.lt HO2.out _ h.symm).1; omega)), Lib.hid HP.out⟩, by simp only [intOf]; omega⟩
          · have hb' : apart (y0, y1, y2) (x0, x1, x2) := by
              unfold touch at ht
              unfold apart at ha ⊢
              simp only at ht ha ⊢
              omega
            have HP := Lib.hid (putting_ahead HF.out hi2 hy hp.out hb')
            unfold apart at hb'
            simp only at hb'
            clear hp hp1 ht ha HN HR HF HE hi2 hy
            rcases hb' with ha | ⟨hxy, ha⟩
            · skip
              go_wp2_with (at_builtin; refine wpList_append_sp _ rfl _ _ _ rfl (w.heap.size + 1) 46 info _ 24 Try.underlying26 HI.out.1 HI.out.2.1 HI.out.2.2.1 HI.out.2.2.2 rfl _ (m) (out) rfl (HO1.out) (y0, y1, y2) 1 rfl (by omega) (by omega) hsz2 ?_; intro v2 w2 o2 g2 _; obtain ⟨A2, c2, rfl⟩ := own_form o2)
              exact ⟨⟨i + 1, (x0, x1, x2), _, false, A2, c2, by omega, by rw [len_next (y0, y1, y2) HM.out], rfl, rfl, Lib.hid (own_next o2 HM.out), Lib.hid (HW1.out.grown g2 (by omega) (fun g hg => Nat.le_of_lt (World.ownsRow.lt HO1.out g hg).1)), Lib.hid (HB1.out.kept g2 (fun h => by have := (World.ownsRow.lt HO1.out _ h.symm).1; omega)), Lib.hid HP.out⟩, by simp only [intOf]; omega⟩
            · subst hxy
              go_wp2_with (at_builtin; refine wpList_append_sp _ rfl _ _ _ rfl (w.heap.size + 1) 46 info _ 24 Try.underlying26 HI.out.1 HI.out.2.1 HI.out.2.2.1 HI.out.2.2.2 rfl _ (m) (out) rfl (HO1.out) (y0, y1, y2) 1 rfl (by omega) (by omega) hsz2 ?_; intro v2 w2 o2 g2 _; obtain ⟨A2, c2, rfl⟩ := own_form o2)
              exact ⟨⟨i + 1, (y0, x1, x2), _, false, A2, c2, by omega, by rw [len_next (y0, y1, y2) HM.out], rfl, rfl, Lib.hid (own_next o2 HM.out), Lib.hid (HW1.out.grown g2 (by omega) (fun g hg => Nat.le_of_lt (World.ownsRow.lt HO1.out g hg).1)), Lib.hid (HB1.out.kept g2 (fun h => by have := (World.ownsRow.lt HO1.out _ h.symm).1; omega)), Lib.hid HP.out⟩, by simp only [intOf]; omega⟩
      · have hp1 := hp.out.2 rfl
        have hm1 : m ≤ i + 1 := by have := hp1.2.2.2.1; rw [HM.out] at this; exact this
        have hxo := hp1.1
        have hx1 : 1 ≤ x1 ∧ x1 ≤ x2 ∧ x2 ≤ 4611686018427387904 := ⟨hxo.2.2.1, hxo.2.2.2.1, hxo.2.2.2.2⟩
        obtain ⟨v1, v2, v3⟩ := hx1
        have ha := (hp1.2.2.2.2 (y0, y1, y2) (by rw [drop_one hi2 hy]; simp)).1
        have HP := Lib.hid (putting_on HF.out hi2 hy hp.out).2
        unfold apart at ha
        simp only at ha
        clear hp hp1 hxo hyo HN HR HF HE hi2 hy
        rcases ha with ha | ⟨hxy, ha⟩
        · skip
          go_wp2_with (at_builtin; refine wpList_append_sp _ rfl _ _ _ rfl (w.heap.size + 1) 46 info _ 24 Try.underlying26 HI.out.1 HI.out.2.1 HI.out.2.2.1 HI.out.2.2.2 rfl _ (m) (out) rfl (HO1.out) (y0, y1, y2) 1 rfl (by omega) (by omega) hsz2 ?_; intro v2 w2 o2 g2 _; obtain ⟨A2, c2, rfl⟩ := own_form o2)
          exact ⟨⟨i + 1, (x0, x1, x2), _, true, A2, c2, by omega, by rw [len_next (y0, y1, y2) HM.out], rfl, rfl, Lib.hid (own_next o2 HM.out), Lib.hid (HW1.out.grown g2 (by omega) (fun g hg => Nat.le_of_lt (World.ownsRow.lt HO1.out g hg).1)), Lib.hid (HB1.out.kept g2 (fun h => by have := (World.ownsRow.lt HO1.out _ h.symm).1; omega)), Lib.hid HP.out⟩, by simp only [intOf]; omega⟩
        · subst hxy
          go_wp2_with (at_builtin; refine wpList_append_sp _ rfl _ _ _ rfl (w.heap.size + 1) 46 info _ 24 Try.underlying26 HI.out.1 HI.out.2.1 HI.out.2.2.1 HI.out.2.2.2 rfl _ (m) (out) rfl (HO1.out) (x0, y1, y2) 1 rfl (by omega) (by omega) hsz2 ?_; intro v2 w2 o2 g2 _; obtain ⟨A2, c2, rfl⟩ := own_form o2)
          exact ⟨⟨i + 1, (x0, x1, x2), _, true, A2, c2, by omega, by rw [len_next (x0, y1, y2) HM.out], rfl, rfl, Lib.hid (own_next o2 HM.out), Lib.hid (HW1.out.grown g2 (by omega) (fun g hg => Nat.le_of_lt (World.ownsRow.lt HO1.out g hg).1)), Lib.hid (HB1.out.kept g2 (fun h => by have := (World.ownsRow.lt HO1.out _ h.symm).1; omega)), Lib.hid HP.out⟩, by simp only [intOf]; omega⟩
    · have hie : i = n := by omega
      have hp' := hp.out
      rw [show i = l.length by rw [HN.out]; exact hie] at hp'
      have hE := HE.out _ _ _ hp'
      have hm1 : m ≤ n + 1 := by
        rw [← HM.out]
        cases laid
        · have := (hp.out.1 rfl).2.2.2; omega
        · have := (hp.out.2 rfl).2.2.2.1; omega
      have hom := Lib.hid (own_at ho.out HM.out)
      have e0 := hbx.out.c0
      have e1 := hbx.out.c1
      have e2 := hbx.out.c2
      simp only at e0 e1 e2
      have hsz2 := hbx.out.lt
      cases laid
      · simp only [Bool.false_eq_true, if_false] at hE
        have HG := Lib.hid hE.1
        clear hE hp hp' HE HR HF HN ho
        go_wp2_with (at_builtin; refine wpList_append_sp _ rfl _ _ _ rfl (w.heap.size + 1) 46 info _ 24 Try.underlying26 HI.out.1 HI.out.2.1 HI.out.2.2.1 HI.out.2.2.2 rfl _ (m) (out) rfl (hom.out) (x0, x1, x2) 1 rfl (by omega) (by omega) hsz2 ?_; intro v2 w2 o2 g2 _; obtain ⟨A2, c2, rfl⟩ := own_form o2)
        go_ret
        rw [HG.out]
        exact ⟨A2, c2, by rw [len_next (x0, x1, x2) HM.out]; rfl, own_base (own_next o2 HM.out) (Nat.le_succ _), hb.out.grown g2 (Nat.le_of_lt hsz2) (fun g hg => Nat.le_of_lt (World.ownsRow.lt hom.out g hg).1)⟩
      · simp only [if_true] at hE
        have HG := Lib.hid hE.1
        clear hE hp hp' HE HR HF HN ho
        go_wp2
        go_ret
        rw [HG.out]
        exact ⟨Ao, co, by rw [HM.out]; rfl, own_base (own_back HM.out hom.out) (Nat.le_succ _), hb.out⟩
end Span
end Go.Proofs.Ythiiganfoecmnaa
