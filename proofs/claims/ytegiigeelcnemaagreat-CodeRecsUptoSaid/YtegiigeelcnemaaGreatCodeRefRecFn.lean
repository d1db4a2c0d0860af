/-
  firthref06.Rec: a record read from all of some bytes, as the document says.
-/
import Derived.Test.YtegiigeelcnemaaGreatCodeRefRec
namespace Go.Proofs.YtegiigeelcnemaaGreat
namespace Code
open Go.RowKit Num Span Vers
attribute [local go_sem ↓] Go.wp_at_zero Go.wp_at_succ

set_option maxRecDepth 100000 in
set_option maxHeartbeats 4000000 in
theorem refrec_any (A : Option Addr) (c n : Nat) (zs : List Int) (hn : zs.length = n) (w : World) (hN : Ns .u8 w w.heap.size A zs) (hby : ∀ z ∈ zs, 0 ≤ z ∧ z ≤ 255) (hc : n ≤ c) (hbig : n ≤ 4294967296) :
    Calls Tryz.prog 10 #[.slice A n c] w (GotRec w.heap.size (recF zs) w) := by
  have hF0 : recF zs = wholeF (recQ zs 0) zs.length okR r0 := (recQ_ref hby (by omega) r0).symm
  obtain ⟨B, hB⟩ : ∃ B, w.heap.size = B := ⟨_, rfl⟩
  obtain ⟨W, hW⟩ : ∃ W, (w.alloc (.cells #[.string ⟨#[]⟩, .slice none 0 0] 24)).alloc (.cells #[.slice A n c, .int .i64 0, .bool false] 67) = W := ⟨_, rfl⟩
  have hX : Bn B 24 [.string ⟨#[]⟩, .slice none 0 0] W := by rw [← hW, ← hB]; exact Bn.kept (heap_alloc_new _ _) (World.grownBy_alloc _ _ none) (by simp)
  have hr : Rq (B + 1) A c n 0 false W := by
    rw [← hW, ← hB]
    have h := heap_alloc_new (w.alloc (.cells #[.string ⟨#[]⟩, .slice none 0 0] 24)) (.cells #[.slice A n c, .int .i64 0, .bool false] 67)
    rw [World.size_alloc] at h
    exact h
  have hbW : Below B w W := by rw [← hW, ← hB]; exact ((Below.refl _ w).alloc (Nat.le_refl _) _).alloc (by simp) _
  have hWs : W.heap.size = B + 2 := by rw [← hW, ← hB]; simp
  rw [hB] at hN ⊢
  have hs : Src (B + 1) A c n zs W := ⟨(hN.below hbW).more (by omega), hby, hn, hc, hbig⟩
  have h1 := qrec_any (B + 1) A c n 0 false zs W hs hr (by omega)
  have H1 := Lib.hid h1
  have HX := Lib.hid (And.intro hX (And.intro hbW (And.intro hWs (And.intro hn hF0))))
  clear h1 hX hr hbW hWs hs hN hby hn hF0
  go_enter Tryz.func10, Tryz.ntmps10
  go_wp2_with fail
  refine H1.out.mono ?_
  rintro e w1 ⟨⟨key, l⟩, A1, c1, p1, b1, rfl, o1, hr1, hp1, hg1, hsz, hone⟩
  simp only at hsz o1
  obtain ⟨k, hk⟩ : ∃ k, l.length = k := ⟨_, rfl⟩
  have hX1 := HX.out.1.kept hg1 (by simp)
  have hs1 : B + 2 ≤ w1.heap.size := by have := hg1.size; have := HX.out.2.2.1; omega
  have hb1 : Below B w w1 := HX.out.2.1.grown hg1 (by have := HX.out.2.2.1; omega) (fun j hj => by injection hj with hj; omega)
  obtain ⟨Bx, hBx⟩ : ∃ Bx, w1.heap.size = Bx := ⟨_, rfl⟩
  obtain ⟨W1, hW1⟩ : ∃ W1, w1.alloc (.cells #[.string key, .slice A1 k c1] 24) = W1 := ⟨_, rfl⟩
  have hXx : Bn Bx 24 [.string key, .slice A1 k c1] W1 := by rw [← hW1, ← hBx]; exact heap_alloc_new _ _
  have hX2 : Bn B 24 [.string ⟨#[]⟩, .slice none 0 0] W1 := by rw [← hW1]; exact hX1.kept (World.grownBy_alloc _ _ none) (by simp)
  have hr2 : Rq (B + 1) A c n p1 b1 W1 := by rw [← hW1]; exact hr1.kept (World.grownBy_alloc _ _ none) (by simp)
  have hb2 : Below B w W1 := by rw [← hW1]; exact hb1.alloc (by omega) _
  have o2 : RcO (B + 2) W1 (key, l) (A1, c1) := by
    have hgo := World.grownBy_alloc w1 (.cells #[.string key, .slice A1 k c1] 24) none
    rw [hW1] at hgo
    exact (o1.keep hgo.size (fun j _ hj => hgo.block j hj (by simp))).less (by have := HX.out.2.2.1; omega)
  have hs2 : B + 2 ≤ W1.heap.size := by rw [← hW1]; simp; omega
  obtain ⟨q0, q1, q2⟩ := hr2.cell
  have k0 := hX2.cell 0
  have f0 := hX2.frozen 0
  have k1 := hX2.cell 1
  have f1 := hX2.frozen 1
  have x0 := hXx.cell 0
  have x1 := hXx.cell 1
  simp only [List.getElem?_cons_zero, List.getElem?_cons_succ] at k0 k1 x0 x1
  have hzero : ∀ V, Below B w V → GotRec B (r0, 2) w (.returned (.tuple #[.agg #[.string ⟨#[]⟩, .slice none 0 0], .int .i64 2])) V := fun V h => ⟨(none, 0), rfl, rcO_zero _ _, h⟩
  -- what is told of what isn't right
  obtain ⟨X, hXe⟩ : ∃ X, W1.setCells B 0 [.string ⟨#[]⟩, .slice none 0 0] = X := ⟨_, rfl⟩
  have hgX : W1.grownBy X (some B) := by rw [← hXe]; exact setCells_grown _ _ _ _
  have y1 : Bn B 24 [.string ⟨#[]⟩, .slice none 0 0] X := by rw [← hXe]; exact setCells_all (old := [.string ⟨#[]⟩, .slice none 0 0]) rfl hX2
  have y4 : Below B w X := hb2.grown hgX (by omega) (fun j hj => by injection hj with hj; omega)
  have hX' : (W1.setCell ⟨B, 0, none⟩ (.string ⟨#[]⟩)).setCell ⟨B, 1, none⟩ (.slice none 0 0) = X := hXe
  have j0 := y1.cell 0
  have j1 := y1.cell 1
  simp only [List.getElem?_cons_zero, List.getElem?_cons_succ] at j0 j1
  have HZ := Lib.hid (hzero X y4)
  have HO := Lib.hid (And.intro hone (And.intro hk (And.intro o2 (And.intro hb2 (And.intro hX2 (And.intro hzero (And.intro hXx hBx)))))))
  have HW1 := Lib.hid hW1
  clear hone o2 hb2 hX2 hr2 hX1 hb1 hr1 hg1 o1 hXx hXe hgX y1 y4 hW1 hzero hBx H1
  rcases b1 with _ | _
  case true =>
    have hbad := (HO.out.1.none rfl).resolve_left (by simp)
    have hF : recF zs = (r0, 2) := by
      rw [HX.out.2.2.2.2]
      exact wholeF_bad fun x q h => by rw [hbad] at h; cases h
    have HFF := Lib.hid hF
    clear hF hbad
    rw [HO.out.2.1]
    go_wp2_with (refine wpList_store_row rfl 24 _ _ rfl _ #[.string key, .slice A1 k c1] rfl rfl 24 _ (heap_alloc_new _ _) (rec_size _ _) rfl (by simp [Value.oneCell']) ?_; simp only [World.setRow_alloc_new]; rw [HW1.out, HO.out.2.2.2.2.2.2.2])
    refine bodyPost_ret (v := .tuple #[.agg #[.string ⟨#[]⟩, .slice none 0 0], .int .i64 2]) ?_ rfl ?_
    · rw [results_cell_tmp rfl]
      go_simp
    · rw [HFF.out]
      exact HZ.out
  case false =>
    obtain ⟨_, hq⟩ := HO.out.1.some rfl
    by_cases hpn : p1 = n
    case neg =>
      have hd : ((p1 : Int) != (n : Int)) = true := by simp; omega
      have hF : recF zs = (r0, 2) := by
        rw [HX.out.2.2.2.2, hq]
        exact wholeF_bad fun x q h hk => hpn (by
          simp only [Option.some.injEq, Prod.mk.injEq] at h
          rw [h.2, hk.1, HX.out.2.2.2.1])
      have HFF := Lib.hid hF
      clear hF hq hpn
      rw [HO.out.2.1]
      go_wp2_with (refine wpList_store_row rfl 24 _ _ rfl _ #[.string key, .slice A1 k c1] rfl rfl 24 _ (heap_alloc_new _ _) (rec_size _ _) rfl (by simp [Value.oneCell']) ?_; simp only [World.setRow_alloc_new]; rw [HW1.out, HO.out.2.2.2.2.2.2.2])
      refine bodyPost_ret (v := .tuple #[.agg #[.string ⟨#[]⟩, .slice none 0 0], .int .i64 2]) ?_ rfl ?_
      · rw [results_cell_tmp rfl]
        go_simp
      · rw [HFF.out]
        exact HZ.out
    case pos =>
      have hd : ((p1 : Int) != (n : Int)) = false := by simp [hpn]
      have h2 := refrecord_any A1 c1 k key l HO.out.2.1 (by omega) (by omega) W1 HO.out.2.2.1.vs
      by_cases hR : okR (key, l)
      case neg =>
        rw [decide_eq_false hR] at h2
        have hF : recF zs = (r0, 2) := by
          rw [HX.out.2.2.2.2, hq]
          exact wholeF_bad fun x q h hk => hR (by
            simp only [Option.some.injEq, Prod.mk.injEq] at h
            rw [h.1]
            exact hk.2)
        have HFF := Lib.hid hF
        have H2 := Lib.hid h2
        clear hF hq hpn hR h2 j0 j1 hX'
        rw [HO.out.2.1]
        go_wp2_with (refine wpList_store_row rfl 24 _ _ rfl _ #[.string key, .slice A1 k c1] rfl rfl 24 _ (heap_alloc_new _ _) (rec_size _ _) rfl (by simp [Value.oneCell']) ?_; simp only [World.setRow_alloc_new]; rw [HW1.out, HO.out.2.2.2.2.2.2.2])
        refine H2.out.mono ?_
        rintro e w3 ⟨rfl, d3⟩
        have hX3 := HO.out.2.2.2.2.1.below d3 (by omega)
        have hXx3 := HO.out.2.2.2.2.2.2.1.below d3 HO.out.2.2.2.2.2.2.1.lt
        have k0 := hX3.cell 0
        have f0 := hX3.frozen 0
        have k1 := hX3.cell 1
        have f1 := hX3.frozen 1
        have x0 := hXx3.cell 0
        have x1 := hXx3.cell 1
        simp only [List.getElem?_cons_zero, List.getElem?_cons_succ] at k0 k1 x0 x1
        have b3 := HO.out.2.2.2.1.trans (d3.mono (by omega))
        obtain ⟨Y, hYe⟩ : ∃ Y, w3.setCells B 0 [.string ⟨#[]⟩, .slice none 0 0] = Y := ⟨_, rfl⟩
        have hgY : w3.grownBy Y (some B) := by rw [← hYe]; exact setCells_grown _ _ _ _
        have z1 : Bn B 24 [.string ⟨#[]⟩, .slice none 0 0] Y := by rw [← hYe]; exact setCells_all (old := [.string ⟨#[]⟩, .slice none 0 0]) rfl hX3
        have z4 : Below B w Y := b3.grown hgY (by have := d3.size; omega) (fun j hj => by injection hj with hj; omega)
        have hY' : (w3.setCell ⟨B, 0, none⟩ (.string ⟨#[]⟩)).setCell ⟨B, 1, none⟩ (.slice none 0 0) = Y := hYe
        have m0 := z1.cell 0
        have m1 := z1.cell 1
        simp only [List.getElem?_cons_zero, List.getElem?_cons_succ] at m0 m1
        have HZ := Lib.hid (HO.out.2.2.2.2.2.1 Y z4)
        clear d3 hX3 hXx3 b3 hYe hgY z1 z4 H2
        go_wp2_with fail
        refine bodyPost_ret (v := .tuple #[.agg #[.string ⟨#[]⟩, .slice none 0 0], .int .i64 2]) ?_ rfl ?_
        · rw [results_cell_tmp rfl]
          go_simp
        · rw [HFF.out]
          exact HZ.out
      case pos =>
        rw [decide_eq_true hR] at h2
        have hF : recF zs = ((key, l), 0) := by
          rw [HX.out.2.2.2.2, hq]
          exact wholeF_ok rfl (by rw [HX.out.2.2.2.1, hpn]) hR
        have HFF := Lib.hid hF
        have H2 := Lib.hid h2
        clear hF hq hpn hR h2 j0 j1 hX'
        rw [HO.out.2.1]
        go_wp2_with (refine wpList_store_row rfl 24 _ _ rfl _ #[.string key, .slice A1 k c1] rfl rfl 24 _ (heap_alloc_new _ _) (rec_size _ _) rfl (by simp [Value.oneCell']) ?_; simp only [World.setRow_alloc_new]; rw [HW1.out, HO.out.2.2.2.2.2.2.2])
        refine H2.out.mono ?_
        rintro e w3 ⟨rfl, d3⟩
        have hX3 := HO.out.2.2.2.2.1.below d3 (by omega)
        have hXx3 := HO.out.2.2.2.2.2.2.1.below d3 HO.out.2.2.2.2.2.2.1.lt
        have k0 := hX3.cell 0
        have f0 := hX3.frozen 0
        have k1 := hX3.cell 1
        have f1 := hX3.frozen 1
        have x0 := hXx3.cell 0
        have x1 := hXx3.cell 1
        simp only [List.getElem?_cons_zero, List.getElem?_cons_succ] at k0 k1 x0 x1
        have b3 := HO.out.2.2.2.1.trans (d3.mono (by omega))
        obtain ⟨Y, hYe⟩ : ∃ Y, w3.setCells B 0 [.string key, .slice A1 k c1] = Y := ⟨_, rfl⟩
        have hgY : w3.grownBy Y (some B) := by rw [← hYe]; exact setCells_grown _ _ _ _
        have z1 : Bn B 24 [.string key, .slice A1 k c1] Y := by rw [← hYe]; exact setCells_all (old := [.string ⟨#[]⟩, .slice none 0 0]) rfl hX3
        have z4 : Below B w Y := b3.grown hgY (by have := d3.size; omega) (fun j hj => by injection hj with hj; omega)
        have hY' : (w3.setCell ⟨B, 0, none⟩ (.string key)).setCell ⟨B, 1, none⟩ (.slice A1 k c1) = Y := hYe
        have m0 := z1.cell 0
        have m1 := z1.cell 1
        simp only [List.getElem?_cons_zero, List.getElem?_cons_succ] at m0 m1
        have o3 : RcO B Y (key, l) (A1, c1) := ((HO.out.2.2.1.keep d3.size (fun j _ hj => d3.block j hj)).keep hgY.size (grown_keep hgY (by omega))).less (by omega)
        have HZ := Lib.hid (And.intro o3 z4)
        clear d3 hX3 hXx3 b3 hYe hgY z1 z4 H2 o3
        go_wp2_with fail
        refine bodyPost_ret (v := .tuple #[.agg #[.string key, .slice A1 k c1], .int .i64 0]) ?_ rfl ?_
        · rw [results_cell_tmp rfl]
          go_simp
        · rw [HFF.out]
          exact ⟨(A1, c1), by simp only; rw [HO.out.2.1], HZ.out.1, HZ.out.2⟩
end Code
end Go.Proofs.YtegiigeelcnemaaGreat
