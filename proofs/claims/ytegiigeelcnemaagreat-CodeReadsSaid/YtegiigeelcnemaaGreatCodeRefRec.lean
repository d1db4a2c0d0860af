/-
  firthref06: records, as the document's reader takes them; firthref06.Rec.
-/
import Derived.Test.YtegiigeelcnemaaGreatCodeRefText
import Derived.Test.YtegiigeelcnemaaGreatCodeRefRight
import Derived.Test.YtegiigeelcnemaaGreatCodeReadRec
namespace Go.Proofs.YtegiigeelcnemaaGreat
namespace Code
open Go.RowKit Num Span Vers
attribute [local go_sem ↓] Go.wp_at_zero Go.wp_at_succ

/-- While a version is taken: the reader, and the version's box, behind all that there was in wr. -/
def Vst (R : Nat) (A : Option Addr) (c n : Nat) (wr : World) (bv : Nat) (cs : List Value) (r : Nat) (b : Bool) (V : World) : Prop :=
  wr.grownBy V (some R) ∧ Bn bv 105 cs V ∧ Rq R A c n r b V ∧ wr.heap.size ≤ bv ∧ R < wr.heap.size
section
variable {R c n bv r r' : Nat} {A : Option Addr} {wr V V' : World} {cs : List Value} {b b' : Bool}
theorem Vst.call (h : Vst R A c n wr bv cs r b V) (hg : V.grownBy V' (some R)) (hr : Rq R A c n r' b' V') : Vst R A c n wr bv cs r' b' V' :=
  ⟨grown_trans h.1 hg, h.2.1.kept hg (by have := h.2.2.2.1; have := h.2.2.2.2; simp; omega), hr, h.2.2.2⟩
theorem Vst.set (h : Vst R A c n wr bv cs r b V) (k : Nat) (v : Value) : Vst R A c n wr bv (cs.set k v) r b (V.setCell ⟨bv, k, none⟩ v) :=
  ⟨grown_own h.1 (grown_set1 _ _ _ _) (fun j hj => by injection hj with hj; have := h.2.2.2.1; omega), h.2.1.set k v, h.2.2.1.kept (grown_set1 _ _ _ _) (by have := h.2.2.2.1; have := h.2.2.2.2; simp; omega), h.2.2.2⟩
theorem Vst.bad (h : Vst R A c n wr bv cs r b V) : Vst R A c n wr bv cs r true (V.setCell ⟨R, 2, none⟩ (.bool true)) :=
  ⟨grown_trans h.1 (grown_set1 _ _ _ _), h.2.1.kept (grown_set1 _ _ _ _) (by have := h.2.2.2.1; have := h.2.2.2.2; simp; omega), h.2.2.1.set2 _, h.2.2.2⟩
end
theorem own_le2 {w : World} {base : Nat} {e : TypeId} {size : Nat} {v : Value} {n : Nat} {xs : List Value} (h : w.ownsRow base e size v n xs) : n ≤ 9223372036854775807 := by
  rcases h.2 with ⟨_, h0⟩ | ⟨g, cap, cur, hv, hbg, hg, hnc, hcm, hcs, htake⟩
  · omega
  · unfold maxLen at hcm
    omega
theorem info_rec3 : (Tryz.prog.info? 24).map (·.size) = some (#[Value.string ⟨#[]⟩, .slice none 0 0] : Array Value).size := by kernel_rfl
theorem rec_size (x y : Value) : (Tryz.prog.info? 24).map (·.size) = some (#[x, y] : Array Value).size := info_rec3
theorem recQ_dead {zs : List Int} {p p1 : Nat} {bad b1 : Bool} {x : ByteArray} (h : One (strP (zs.length : Int) zs) p bad x p1 b1) (h2 : gd b1 (cntP zs p1) = none) : bad = true ∨ recQ zs p = none := by
  cases b1 with
  | true =>
    rcases h.none rfl with e | e
    · exact .inl e
    · exact .inr (pairP_none e)
  | false =>
    obtain ⟨e, hs⟩ := h.some rfl
    refine .inr (pairP_none2 hs ?_)
    unfold cseqP
    rw [show cntP zs p1 = none from h2]
theorem recQ_live {zs : List Int} {p p1 p2 M : Nat} {bad b1 : Bool} {x : ByteArray} (h : One (strP (zs.length : Int) zs) p bad x p1 b1) (hb : b1 = false) (h2 : cntP zs p1 = some ((M : Int), p2)) :
    bad = false ∧ (listP (verQ zs) M p2 = none → recQ zs p = none) ∧ ∀ l q, listP (verQ zs) M p2 = some (l, q) → recQ zs p = some ((x, l), q) := by
  obtain ⟨e, hs⟩ := h.some hb
  have hc : cseqP (verQ zs) zs p1 = listP (verQ zs) M p2 := by
    unfold cseqP
    rw [h2]
    simp
  refine ⟨e, fun hl => pairP_none2 hs (hc.trans hl), fun l q hl => pairP_some hs (hc.trans hl)⟩

set_option maxRecDepth 100000 in
set_option maxHeartbeats 8000000 in
theorem qrec_any (R : Nat) (A : Option Addr) (c n p : Nat) (bad : Bool) (zs : List Int) (w : World) (hs : Src R A c n zs w) (hr : Rq R A c n p bad w) (hp : p ≤ n) :
    Calls Tryz.prog 26 #[.pointer (some ⟨R, 0, none⟩)] w (fun e w' => ∃ (x : Rc) (A' : Option Addr) (c' p' : Nat) (b' : Bool), e = .returned (.agg #[.string x.1, .slice A' x.2.length c']) ∧ RcO w.heap.size w' x (A', c') ∧ Rq R A c n p' b' w' ∧ p' ≤ n ∧ w.grownBy w' (some R) ∧
      (x.1.size ≤ n ∧ x.2.length ≤ n) ∧ One (recQ zs) p bad x p' b') := by
  obtain ⟨info, hi, hz, hsize, hbyt⟩ := some_info info_ver
  have hlt := hr.lt
  have hbig := hs.2.2.2.2
  obtain ⟨B0, hB0⟩ : ∃ B0, w.heap.size = B0 := ⟨_, rfl⟩
  obtain ⟨W, hW⟩ : ∃ W, w.alloc (.cells #[.string ⟨#[]⟩, .slice none 0 0] 24) = W := ⟨_, rfl⟩
  have hgW : w.grownBy W (some R) := by rw [← hW]; exact World.grownBy_alloc _ _ _
  have hX0 : Bn B0 24 [.string ⟨#[]⟩, .slice none 0 0] W := by rw [← hW, ← hB0]; exact heap_alloc_new _ _
  have h1 := qtext_one R A c n p bad zs W (hs.kept hgW hlt) (by rw [← hW]; exact hr.kept (World.grownBy_alloc _ _ none) (by simp)) hp
  have H1 := Lib.hid h1
  have HS := Lib.hid hs
  have HW := Lib.hid (And.intro hgW hX0)
  have hRB : R < B0 := by omega
  rw [hB0]
  clear h1 hs hr hgW hX0
  go_enter Tryz.func26, Tryz.ntmps26
  go_wp2_with fail
  refine H1.out.mono ?_
  rintro e w1 ⟨key, p1, b1, rfl, hr1, hp1, hg1, hk1, hone1⟩
  obtain ⟨Bo, hBo⟩ : ∃ Bo, w1.heap.size = Bo := ⟨_, rfl⟩
  obtain ⟨W1, hW1⟩ : ∃ W1, w1.alloc (.cells #[.string key, .slice none 0 0] 24) = W1 := ⟨_, rfl⟩
  have hg1' := grown_trans HW.out.1 hg1
  have hgW1 : w.grownBy W1 (some R) := by rw [← hW1]; exact grown_trans hg1' (World.grownBy_alloc _ _ _)
  have hXo : Bn Bo 24 [.string key, .slice none 0 0] W1 := by rw [← hW1, ← hBo]; exact heap_alloc_new _ _
  have hX0 : Bn B0 24 [.string ⟨#[]⟩, .slice none 0 0] W1 := by rw [← hW1]; exact (HW.out.2.kept hg1 (by simp; omega)).kept (World.grownBy_alloc _ _ none) (by simp)
  have hB01 : B0 < Bo := by have := HW.out.2.lt; have := hg1.size; omega
  have h2 := qcount_one R A c n p1 b1 zs W1 (HS.out.kept hgW1 hlt) (by rw [← hW1]; exact hr1.kept (World.grownBy_alloc _ _ none) (by simp)) hp1
  have H2 := Lib.hid h2
  have HX := Lib.hid (And.intro hgW1 (And.intro hXo (And.intro hX0 (And.intro hone1 hBo))))
  clear h2 hgW1 hXo hX0 hone1 hg1' hg1 hr1 H1 hBo
  have HW1 := Lib.hid hW1
  clear hW1
  go_wp2_with fail
  rw [HW1.out, HX.out.2.2.2.2]
  refine H2.out.mono ?_
  rintro e w2 ⟨M, p2, b2, rfl, hr2, hp2, hg2, hMn, hst⟩
  have hX2 := HX.out.2.1.kept hg2 (by simp; omega)
  have hX02 := HX.out.2.2.1.kept hg2 (by simp; omega)
  have hgw2 := grown_trans HX.out.1 hg2
  have hs2 : Bo + 1 ≤ w2.heap.size := by have := hX2.lt; omega
  have hdead : b2 = true → bad = true ∨ recQ zs p = none := fun e => by
    rcases hst with ⟨e', _⟩ | ⟨_, _, h⟩
    · rw [e] at e'; cases e'
    · exact recQ_dead HX.out.2.2.2.1 h
  have hlive : b2 = false → bad = false ∧ (listP (verQ zs) M p2 = none → recQ zs p = none) ∧ ∀ l q, listP (verQ zs) M p2 = some (l, q) → recQ zs p = some ((key, l), q) := fun e => by
    rcases hst with ⟨_, e1, h⟩ | ⟨e', _⟩
    · exact recQ_live HX.out.2.2.2.1 e1 h
    · rw [e] at e'; cases e'
  have HD := Lib.hid (And.intro hdead hlive)
  have HI : Hid (Bn Bo 24 [.string key, .slice none 0 0] w2 ∧ Bn B0 24 [.string ⟨#[]⟩, .slice none 0 0] w2 ∧ RowV (Bo + 1) w2.heap.size w2 (.slice none 0 0) [] ∧ Rq R A c n p2 b2 w2 ∧ w.grownBy w2 (some R)) := Lib.hid ⟨hX2, hX02, rowV_nil _ _ _, hr2, hgw2⟩
  have HT0 : Hid ((b2 = false → b2 = false ∧ Taking (verQ zs) M p2 0 (([] : List Pv).map Prod.fst) p2) ∧ (b2 = true → bad = true ∨ recQ zs p = none)) := Lib.hid ⟨fun e => ⟨e, taking_start _ _ _⟩, hdead⟩
  clear hX2 hX02 hgw2 hr2 hg2 hst hdead hlive H2
  go_wp2_with fail
  go_loopw [5] (fun q wr => ∃ (k : Nat) (ps : List Pv) (A4 : Option Addr) (c4 r : Nat) (b : Bool), q = .int .i64 k ∧ k ≤ M ∧ ps.length = k ∧ r ≤ n ∧ Hid (Bn Bo 24 [.string key, .slice A4 k c4] wr ∧ Bn B0 24 [.string ⟨#[]⟩, .slice none 0 0] wr ∧ RowV (Bo + 1) wr.heap.size wr (.slice A4 k c4) ps ∧ Rq R A c n r b wr ∧ w.grownBy wr (some R)) ∧
      Hid ((b = false → b2 = false ∧ Taking (verQ zs) M p2 k (ps.map Prod.fst) r) ∧ (b = true → bad = true ∨ recQ zs p = none))) (fun q _ => M - (intOf q).toNat)
  case atStart => exact ⟨0, [], none, 0, p2, b2, rfl, by omega, rfl, hp2, HI, HT0⟩
  case round =>
    clear HI HT0
    obtain ⟨k, ps, A4, c4, r, b, rfl, hkM, hpk, hrn, hst, htk⟩ := hrel
    obtain ⟨wq, rfl⟩ : ∃ wq : World, wq = wr := ⟨_, rfl⟩
    obtain ⟨hXo, hX0, hrow, hrq, hgw⟩ := hst.out
    obtain ⟨q0, q1, q2⟩ := hrq.cell
    have hszo := hXo.lt
    by_cases hgo : k < M ∧ b = false
    · obtain ⟨hkm, rfl⟩ := hgo
      obtain ⟨hb2, hT⟩ := htk.out.1 rfl
      obtain ⟨bv, hbv⟩ : ∃ bv, wq.heap.size = bv := ⟨_, rfl⟩
      obtain ⟨V0, hV0⟩ : ∃ V0, wq.alloc (.cells #[.int .i64 0, .int .i64 0, .slice none 0 0, .bool false, .string ⟨#[]⟩] 105) = V0 := ⟨_, rfl⟩
      have s0 : Vst R A c n wq bv [.int .i64 0, .int .i64 0, .slice none 0 0, .bool false, .string ⟨#[]⟩] r false V0 := ⟨by rw [← hV0]; exact World.grownBy_alloc _ _ _, by rw [← hV0, ← hbv]; exact heap_alloc_new _ _, by rw [← hV0]; exact hrq.kept (World.grownBy_alloc _ _ none) (by simp), by omega, hrq.lt⟩
      have h3 := qnum_one R A c n r false zs V0 (HS.out.kept (grown_trans hgw s0.1) hlt) s0.2.2.1 hrn
      have H3 := Lib.hid h3
      have HU := Lib.hid (And.intro hXo (And.intro hX0 (And.intro hrow (And.intro hgw (And.intro hb2 (And.intro hT hbv))))))
      have HV0 := Lib.hid s0
      have d1 : (0 : Int) ≤ (k : Int) := by omega
      have d2 : (k : Int) < (M : Int) := by omega
      clear h3 hXo hX0 hrow hrq hgw hb2 hT s0 hst htk hbv
      have HVV := Lib.hid hV0
      clear hV0
      go_wp2_with fail
      rw [HVV.out, HU.out.2.2.2.2.2.2]
      refine H3.out.mono ?_
      rintro e u1 ⟨x1, r1, b1', rfl, hr1, hn1, hg1, hx1, hone1⟩
      have t1 := HV0.out.call hg1 hr1
      have y0 := t1.2.1.cell 0
      have z0 := t1.2.1.frozen 0
      simp only [List.getElem?_cons_zero] at y0
      obtain ⟨V1, hV1⟩ : ∃ V, u1.setCell ⟨bv, 0, none⟩ (.int .i64 x1) = V := ⟨_, rfl⟩
      have s1 := t1.set 0 (.int .i64 x1)
      rw [hV1] at s1
      simp only [List.set_cons_zero] at s1
      have h4 := qnum_one R A c n r1 b1' zs V1 (HS.out.kept (grown_trans HU.out.2.2.2.1 s1.1) hlt) s1.2.2.1 hn1
      have H4 := Lib.hid h4
      have HV1 := Lib.hid s1
      have HO1 := Lib.hid (num1_one hone1)
      clear h4 s1 t1 hr1 hg1 hone1 H3
      go_wp2_with fail
      clear y0 z0 hV1
      refine H4.out.mono ?_
      rintro e u2 ⟨x2, r2, b2', rfl, hr2, hn2, hg2, hx2, hone2⟩
      have t2 := HV1.out.call hg2 hr2
      have y0 := t2.2.1.cell 1
      have z0 := t2.2.1.frozen 1
      simp only [List.getElem?_cons_zero, List.getElem?_cons_succ] at y0
      obtain ⟨V2, hV2⟩ : ∃ V, u2.setCell ⟨bv, 1, none⟩ (.int .i64 x2) = V := ⟨_, rfl⟩
      have s2 := t2.set 1 (.int .i64 x2)
      rw [hV2] at s2
      simp only [List.set_cons_zero, List.set_cons_succ] at s2
      have h5 := qspans_one R A c n r2 b2' zs V2 (HS.out.kept (grown_trans HU.out.2.2.2.1 s2.1) hlt) s2.2.2.1 hn2
      have H5 := Lib.hid h5
      have HV2 := Lib.hid s2
      have HO2 := Lib.hid (num1_one hone2)
      clear h5 s2 t2 hr2 hg2 hone2 H4
      go_wp2_with fail
      clear y0 z0 hV2
      refine H5.out.mono ?_
      rintro e u3 ⟨l, Al, cl, r3, b3', rfl, ol, hr3, hn3, hg3, hlb3, hone3⟩
      obtain ⟨ll, hll⟩ : ∃ ll, l.length = ll := ⟨_, rfl⟩
      rw [hll] at ol hlb3 ⊢
      have t3 := HV2.out.call hg3 hr3
      have y0 := t3.2.1.cell 2
      have z0 := t3.2.1.frozen 2
      simp only [List.getElem?_cons_zero, List.getElem?_cons_succ] at y0
      obtain ⟨V3, hV3⟩ : ∃ V, u3.setCell ⟨bv, 2, none⟩ (.slice Al ll cl) = V := ⟨_, rfl⟩
      have hgl := grown_set1 u3 bv 2 (.slice Al ll cl)
      have s3 := t3.set 2 (.slice Al ll cl)
      rw [hV3] at s3 hgl
      simp only [List.set_cons_zero, List.set_cons_succ] at s3
      have hV2s : bv + 1 ≤ V2.heap.size := by have := HV2.out.2.1.lt; omega
      have ol3 : V3.ownsRow V2.heap.size 70 3 (.slice Al ll cl) ll (sps l) := ol.kept hgl (own_apart ol (by omega))
      have h6 := qnum_one R A c n r3 b3' zs V3 (HS.out.kept (grown_trans HU.out.2.2.2.1 s3.1) hlt) s3.2.2.1 hn3
      have H6 := Lib.hid h6
      have HV3 := Lib.hid s3
      have HO3 := Lib.hid (And.intro hone3 (And.intro ol3 hll))
      clear h6 s3 t3 hr3 hg3 hone3 H5 ol ol3 hgl hll
      go_wp2_with fail
      clear y0 z0 hV3
      refine H6.out.mono ?_
      rintro e u4 ⟨x4, r4, b4', rfl, hr4, hn4, hg4, hx4, hone4⟩
      have t4 := HV3.out.call hg4 hr4
      have ol4 : u4.ownsRow V2.heap.size 70 3 (.slice Al ll cl) ll (sps l) := HO3.out.2.1.kept hg4 (own_apart HO3.out.2.1 (by have := HV3.out.2.2.2.2; have := HV3.out.2.2.2.1; omega))
      have HO4 := Lib.hid (And.intro (num1_one hone4) ol4)
      have HV4 := Lib.hid t4
      have hVQ := fun p5 b5 x => verQ_one (p5 := p5) (b5 := b5) (x := x) HO1.out HO2.out HO3.out.1 (num1_one hone4)
      have HQ := Lib.hid hVQ
      clear hVQ t4 ol4 hone4 hg4 hr4 H6
      have hby := HS.out.2.1
      have hzn := HS.out.2.2.1
      by_cases h40 : x4 = 0
      · subst h40
        obtain ⟨q0, q1, q2⟩ := HV4.out.2.2.1.cell
        have h7 := qtext_one R A c n r4 b4' zs u4 (HS.out.kept (grown_trans HU.out.2.2.2.1 HV4.out.1) hlt) HV4.out.2.2.1 hn4
        have H7 := Lib.hid h7
        clear h7 hby
        go_wp2_with fail
        refine H7.out.mono ?_
        rintro e u5 ⟨x5, r5, b5', rfl, hr5, hn5, hg5, hx5, hone5⟩
        have t5 := HV4.out.call hg5 hr5
        have y4 := t5.2.1.cell 4
        have z4 := t5.2.1.frozen 4
        have y3 := t5.2.1.cell 3
        have z3 := t5.2.1.frozen 3
        simp only [List.getElem?_cons_zero, List.getElem?_cons_succ] at y4 y3
        obtain ⟨V5, hV5⟩ : ∃ V, u5.setCell ⟨bv, 4, none⟩ (.string x5) = V := ⟨_, rfl⟩
        have s5 := t5.set 4 (.string x5)
        have hg5s := grown_set1 u5 bv 4 (.string x5)
        rw [hV5] at s5 hg5s
        simp only [List.set_cons_zero, List.set_cons_succ] at s5
        have y3' := s5.2.1.cell 3
        have z3' := s5.2.1.frozen 3
        simp only [List.getElem?_cons_zero, List.getElem?_cons_succ] at y3'
        obtain ⟨Vz, hVz⟩ : ∃ V, V5.setCell ⟨bv, 3, none⟩ (.bool false) = V := ⟨_, rfl⟩
        have sz := s5.set 3 (.bool false)
        have hgzs := grown_set1 V5 bv 3 (.bool false)
        rw [hVz] at sz hgzs
        simp only [List.set_cons_zero, List.set_cons_succ] at sz
        have hV2s : bv + 1 ≤ V2.heap.size := by have := HV2.out.2.1.lt; omega
        have ol5 := HO4.out.2.kept hg5 (own_apart HO4.out.2 (by have := HV4.out.2.2.2.2; have := HV4.out.2.2.2.1; omega))
        have ol6 := ol5.kept hg5s (own_apart ol5 (by omega))
        have ol7 := ol6.kept hgzs (own_apart ol6 (by omega))
        have hlb : ll ≤ 140737488355328 := by omega
        have HZ := Lib.hid (And.intro sz (And.intro ol7 (And.intro hlb (show x5.size ≤ 140737488355328 by omega))))
        have HTT : Hid ((b5' = false → b2 = false ∧ Taking (verQ zs) M p2 (k + 1) ((ps ++ [((⟨x1, x2, l, false, x5⟩ : Vr), Al, cl)]).map Prod.fst) r5) ∧ (b5' = true → bad = true ∨ recQ zs p = none)) := Lib.hid ⟨fun e => by
            obtain ⟨g1, g2⟩ := (HQ.out r5 b5' x5).2.2.2 (by simp) hone5
            have hq := g2 e
            refine ⟨HU.out.2.2.2.2.1, ?_⟩
            rw [List.map_append]
            exact taking_more HU.out.2.2.2.2.2.1 (by omega) hq (verQ_ok HS.out.2.1 _ _ _ (by omega) hq).1.1, fun e => by
            obtain ⟨g1, g2⟩ := (HQ.out r5 b5' x5).2.2.2 (by simp) hone5
            exact .inr ((HD.out.2 HU.out.2.2.2.2.1).2.1 (taking_none HU.out.2.2.2.2.2.1 (by omega) (g1 e)))⟩
        clear s5 sz t5 hg5 hr5 hone5 hg5s hgzs ol5 ol6 ol7 H7 q0 q1 q2
        have hoz := HZ.out.2.1
        have hrowz := HU.out.2.2.1
        have hgz := HZ.out.1.1
        have hXz := HU.out.1.kept hgz (by simp; omega)
        have k0 := hXz.cell 0
        have k1 := hXz.cell 1
        have f1 := hXz.frozen 1
        have hb2z := HZ.out.1.2.1
        have y0 := hb2z.cell 0
        have y1 := hb2z.cell 1
        have y2 := hb2z.cell 2
        have y3 := hb2z.cell 3
        have y4 := hb2z.cell 4
        simp only [List.getElem?_cons_zero, List.getElem?_cons_succ] at k0 k1 y0 y1 y2 y3 y4
        have hrz : Vz.ownsRow (Bo + 1) 105 5 (.slice A4 k c4) ps.length (vcs ps) := hrowz.1.kept hgz (own_apart hrowz.1 (by omega))
        rw [hpk] at hrz
        have hvo : VerO Vz wq.heap.size Vz.heap.size (⟨x1, x2, l, false, x5⟩, Al, cl) := verO_mk (w' := Vz) (x := ⟨x1, x2, l, false, x5⟩) (by simp only; rw [HO3.out.2.2]; exact hoz) (by have := HV2.out.2.1.lt; have := HV2.out.2.2.2.1; omega) (by simp only; rw [HO3.out.2.2]; exact HZ.out.2.2.1) (by simp only; exact HZ.out.2.2.2)
        have hadd := fun w' v' => hrowz.add (w1 := Vz) (w2 := w') (v' := v') (p := (⟨x1, x2, l, false, x5⟩, Al, cl)) (fun j h1 h2 => hgz.block j h2 (by intro e; injection e with e; omega)) hgz.size hvo (by omega)
        have hszz : Bo + 1 ≤ Vz.heap.size := by have := hgz.size; omega
        have HF := Lib.hid (And.intro hrz (And.intro hadd hrowz))
        clear hoz hrowz hrz hvo hadd hgz hXz hb2z
        go_wp2_with (at_builtin; refine wpList_append_v _ rfl _ _ _ rfl (Bo + 1) 105 info _ 64 Tryz.underlying22 hi hz hsize hbyt rfl _ k ps rfl HF.out.1 (⟨x1, x2, l, false, x5⟩, Al, cl) ll HO3.out.2.2 1 rfl (by omega) (by omega) hszz ?_; intro v' w' o' g' hat; obtain ⟨A5, c5, rfl⟩ := own_form o'; have hXw := (HU.out.1.kept HZ.out.1.1 (by simp; omega)).kept g' (own_far HF.out.1 (by omega)); have m1 := hXw.cell 1; have mf := hXw.frozen 1; simp only [List.getElem?_cons_zero, List.getElem?_cons_succ] at m1)
        obtain ⟨Y, hY⟩ : ∃ Y, w'.setCell ⟨Bo, 1, none⟩ (.slice A5 (k + 1) c5) = Y := ⟨_, rfl⟩
        have hgy : w'.grownBy Y (some Bo) := by rw [← hY]; exact grown_set1 _ _ _ _
        have hYo : Bn Bo 24 [.string key, .slice A5 (k + 1) c5] Y := by rw [← hY]; exact hXw.set 1 (.slice A5 (k + 1) c5)
        have hY0 : Bn B0 24 [.string ⟨#[]⟩, .slice none 0 0] Y := ((HU.out.2.1.kept HZ.out.1.1 (by simp; omega)).kept g' (own_far HF.out.1 (by omega))).kept hgy (by simp; omega)
        have hYr : RowV (Bo + 1) Y.heap.size Y (.slice A5 (k + 1) c5) (ps ++ [((⟨x1, x2, l, false, x5⟩ : Vr), Al, cl)]) := (HF.out.2.1 w' _ (by rw [hpk]; exact o') g' hat).keep (fun j h1 h2 => hgy.block j h2 (by intro e; injection e with e; omega)) |>.more hgy.size
        have hYq : Rq R A c n r5 b5' Y := (HZ.out.1.2.2.1.kept g' (own_far HF.out.1 (by omega))).kept hgy (by simp; omega)
        have hYg : w.grownBy Y (some R) := grown_own (grown_own (grown_trans HU.out.2.2.2.1 HZ.out.1.1) g' (fun j hj => by have := (HF.out.1.lt j hj).1; omega)) hgy (fun j hj => by injection hj with hj; omega)
        have HE := Lib.hid (And.intro hYo (And.intro hY0 (And.intro hYr (And.intro hYq hYg))))
        clear hgy hYo hY0 hYr hYq hYg HF hXw
        rw [hY]
        exact ⟨⟨k + 1, ps ++ [((⟨x1, x2, l, false, x5⟩ : Vr), Al, cl)], A5, c5, r5, b5', rfl, by omega, by simp [hpk], hn5, HE, HTT⟩, by simp only [intOf]; omega⟩
      · have h40' : (x4 == 0) = false := by simpa using h40
        have hlb : ll ≤ 140737488355328 := by omega
        by_cases h41 : x4 = 1
        · subst h41
          have y3' := HV4.out.2.1.cell 3
          have z3' := HV4.out.2.1.frozen 3
          simp only [List.getElem?_cons_zero, List.getElem?_cons_succ] at y3'
          obtain ⟨Vz, hVz⟩ : ∃ V, u4.setCell ⟨bv, 3, none⟩ (.bool true) = V := ⟨_, rfl⟩
          have sz := HV4.out.set 3 (.bool true)
          have hgzs := grown_set1 u4 bv 3 (.bool true)
          rw [hVz] at sz hgzs
          simp only [List.set_cons_zero, List.set_cons_succ] at sz
          have hV2s : bv + 1 ≤ V2.heap.size := by have := HV2.out.2.1.lt; omega
          have ol7 := HO4.out.2.kept hgzs (own_apart HO4.out.2 (by omega))
          have HZ := Lib.hid (And.intro sz (And.intro ol7 (And.intro hlb (show (⟨#[]⟩ : ByteArray).size ≤ 140737488355328 by simp [ByteArray.size]))))
          have HTT : Hid ((b4' = false → b2 = false ∧ Taking (verQ zs) M p2 (k + 1) ((ps ++ [((⟨x1, x2, l, true, ⟨#[]⟩⟩ : Vr), Al, cl)]).map Prod.fst) r4) ∧ (b4' = true → bad = true ∨ recQ zs p = none)) := Lib.hid ⟨fun e => by
              have hq := (HQ.out 0 false ⟨#[]⟩).2.2.1 e (by simp)
              refine ⟨HU.out.2.2.2.2.1, ?_⟩
              rw [List.map_append]
              exact taking_more HU.out.2.2.2.2.2.1 (by omega) hq (verQ_ok HS.out.2.1 _ _ _ (by omega) hq).1.1, fun e => .inr ((HD.out.2 HU.out.2.2.2.2.1).2.1 (taking_none HU.out.2.2.2.2.2.1 (by omega) ((HQ.out 0 false ⟨#[]⟩).1 e)))⟩
          clear sz hgzs ol7 hby
          have hoz := HZ.out.2.1
          have hrowz := HU.out.2.2.1
          have hgz := HZ.out.1.1
          have hXz := HU.out.1.kept hgz (by simp; omega)
          have k0 := hXz.cell 0
          have k1 := hXz.cell 1
          have f1 := hXz.frozen 1
          have hb2z := HZ.out.1.2.1
          have y0 := hb2z.cell 0
          have y1 := hb2z.cell 1
          have y2 := hb2z.cell 2
          have y3 := hb2z.cell 3
          have y4 := hb2z.cell 4
          simp only [List.getElem?_cons_zero, List.getElem?_cons_succ] at k0 k1 y0 y1 y2 y3 y4
          have hrz : Vz.ownsRow (Bo + 1) 105 5 (.slice A4 k c4) ps.length (vcs ps) := hrowz.1.kept hgz (own_apart hrowz.1 (by omega))
          rw [hpk] at hrz
          have hvo : VerO Vz wq.heap.size Vz.heap.size (⟨x1, x2, l, true, ⟨#[]⟩⟩, Al, cl) := verO_mk (w' := Vz) (x := ⟨x1, x2, l, true, ⟨#[]⟩⟩) (by simp only; rw [HO3.out.2.2]; exact hoz) (by have := HV2.out.2.1.lt; have := HV2.out.2.2.2.1; omega) (by simp only; rw [HO3.out.2.2]; exact HZ.out.2.2.1) (by simp only; exact HZ.out.2.2.2)
          have hadd := fun w' v' => hrowz.add (w1 := Vz) (w2 := w') (v' := v') (p := (⟨x1, x2, l, true, ⟨#[]⟩⟩, Al, cl)) (fun j h1 h2 => hgz.block j h2 (by intro e; injection e with e; omega)) hgz.size hvo (by omega)
          have hszz : Bo + 1 ≤ Vz.heap.size := by have := hgz.size; omega
          have HF := Lib.hid (And.intro hrz (And.intro hadd hrowz))
          clear hoz hrowz hrz hvo hadd hgz hXz hb2z
          go_wp2_with (at_builtin; refine wpList_append_v _ rfl _ _ _ rfl (Bo + 1) 105 info _ 64 Tryz.underlying22 hi hz hsize hbyt rfl _ k ps rfl HF.out.1 (⟨x1, x2, l, true, ⟨#[]⟩⟩, Al, cl) ll HO3.out.2.2 1 rfl (by omega) (by omega) hszz ?_; intro v' w' o' g' hat; obtain ⟨A5, c5, rfl⟩ := own_form o'; have hXw := (HU.out.1.kept HZ.out.1.1 (by simp; omega)).kept g' (own_far HF.out.1 (by omega)); have m1 := hXw.cell 1; have mf := hXw.frozen 1; simp only [List.getElem?_cons_zero, List.getElem?_cons_succ] at m1)
          obtain ⟨Y, hY⟩ : ∃ Y, w'.setCell ⟨Bo, 1, none⟩ (.slice A5 (k + 1) c5) = Y := ⟨_, rfl⟩
          have hgy : w'.grownBy Y (some Bo) := by rw [← hY]; exact grown_set1 _ _ _ _
          have hYo : Bn Bo 24 [.string key, .slice A5 (k + 1) c5] Y := by rw [← hY]; exact hXw.set 1 (.slice A5 (k + 1) c5)
          have hY0 : Bn B0 24 [.string ⟨#[]⟩, .slice none 0 0] Y := ((HU.out.2.1.kept HZ.out.1.1 (by simp; omega)).kept g' (own_far HF.out.1 (by omega))).kept hgy (by simp; omega)
          have hYr : RowV (Bo + 1) Y.heap.size Y (.slice A5 (k + 1) c5) (ps ++ [((⟨x1, x2, l, true, ⟨#[]⟩⟩ : Vr), Al, cl)]) := (HF.out.2.1 w' _ (by rw [hpk]; exact o') g' hat).keep (fun j h1 h2 => hgy.block j h2 (by intro e; injection e with e; omega)) |>.more hgy.size
          have hYq : Rq R A c n r4 b4' Y := (HZ.out.1.2.2.1.kept g' (own_far HF.out.1 (by omega))).kept hgy (by simp; omega)
          have hYg : w.grownBy Y (some R) := grown_own (grown_own (grown_trans HU.out.2.2.2.1 HZ.out.1.1) g' (fun j hj => by have := (HF.out.1.lt j hj).1; omega)) hgy (fun j hj => by injection hj with hj; omega)
          have HE := Lib.hid (And.intro hYo (And.intro hY0 (And.intro hYr (And.intro hYq hYg))))
          clear hgy hYo hY0 hYr hYq hYg HF hXw
          rw [hY]
          exact ⟨⟨k + 1, ps ++ [((⟨x1, x2, l, true, ⟨#[]⟩⟩ : Vr), Al, cl)], A5, c5, r4, b4', rfl, by omega, by simp [hpk], hn4, HE, HTT⟩, by simp only [intOf]; omega⟩
        · have h41' : (x4 == 1) = false := by simpa using h41
          have h42 : decide (1 < x4) = true := decide_eq_true (by omega)
          have y3' := HV4.out.2.1.cell 3
          have z3' := HV4.out.2.1.frozen 3
          simp only [List.getElem?_cons_zero, List.getElem?_cons_succ] at y3'
          obtain ⟨V6, hV6⟩ : ∃ V, u4.setCell ⟨bv, 3, none⟩ (.bool false) = V := ⟨_, rfl⟩
          have s6 := HV4.out.set 3 (.bool false)
          have hg6 := grown_set1 u4 bv 3 (.bool false)
          rw [hV6] at s6 hg6
          simp only [List.set_cons_zero, List.set_cons_succ] at s6
          obtain ⟨q0, q1, q2⟩ := s6.2.2.1.cell
          have qf := s6.2.2.1.frozen 2
          obtain ⟨Vz, hVz⟩ : ∃ V, V6.setCell ⟨R, 2, none⟩ (.bool true) = V := ⟨_, rfl⟩
          have sz := s6.bad
          have hgzs := grown_set1 V6 R 2 (.bool true)
          rw [hVz] at sz hgzs
          have hV2s : bv + 1 ≤ V2.heap.size := by have := HV2.out.2.1.lt; omega
          have ol6 := HO4.out.2.kept hg6 (own_apart HO4.out.2 (by omega))
          have ol7 := ol6.kept hgzs (own_apart ol6 (by have := HV4.out.2.2.2.2; have := HV4.out.2.2.2.1; omega))
          have HZ := Lib.hid (And.intro sz (And.intro ol7 (And.intro hlb (show (⟨#[]⟩ : ByteArray).size ≤ 140737488355328 by simp [ByteArray.size]))))
          have HT2 : Hid (bad = true ∨ recQ zs p = none) := Lib.hid (by
              refine .inr ((HD.out.2 HU.out.2.2.2.2.1).2.1 (taking_none HU.out.2.2.2.2.2.1 (by omega) ?_))
              rcases hb4 : b4' with _ | _
              · exact (HQ.out 0 false ⟨#[]⟩).2.1 hb4 (by omega)
              · exact (HQ.out 0 false ⟨#[]⟩).1 hb4)
          clear s6 sz hg6 hgzs ol6 ol7 hby
          have hoz := HZ.out.2.1
          have hrowz := HU.out.2.2.1
          have hgz := HZ.out.1.1
          have hXz := HU.out.1.kept hgz (by simp; omega)
          have k0 := hXz.cell 0
          have k1 := hXz.cell 1
          have f1 := hXz.frozen 1
          have hb2z := HZ.out.1.2.1
          have y0 := hb2z.cell 0
          have y1 := hb2z.cell 1
          have y2 := hb2z.cell 2
          have y3 := hb2z.cell 3
          have y4 := hb2z.cell 4
          simp only [List.getElem?_cons_zero, List.getElem?_cons_succ] at k0 k1 y0 y1 y2 y3 y4
          have hrz : Vz.ownsRow (Bo + 1) 105 5 (.slice A4 k c4) ps.length (vcs ps) := hrowz.1.kept hgz (own_apart hrowz.1 (by omega))
          rw [hpk] at hrz
          have hvo : VerO Vz wq.heap.size Vz.heap.size (⟨x1, x2, l, false, ⟨#[]⟩⟩, Al, cl) := verO_mk (w' := Vz) (x := ⟨x1, x2, l, false, ⟨#[]⟩⟩) (by simp only; rw [HO3.out.2.2]; exact hoz) (by have := HV2.out.2.1.lt; have := HV2.out.2.2.2.1; omega) (by simp only; rw [HO3.out.2.2]; exact HZ.out.2.2.1) (by simp only; exact HZ.out.2.2.2)
          have hadd := fun w' v' => hrowz.add (w1 := Vz) (w2 := w') (v' := v') (p := (⟨x1, x2, l, false, ⟨#[]⟩⟩, Al, cl)) (fun j h1 h2 => hgz.block j h2 (by intro e; injection e with e; omega)) hgz.size hvo (by omega)
          have hszz : Bo + 1 ≤ Vz.heap.size := by have := hgz.size; omega
          have HF := Lib.hid (And.intro hrz (And.intro hadd hrowz))
          clear hoz hrowz hrz hvo hadd hgz hXz hb2z
          go_wp2_with (at_builtin; refine wpList_append_v _ rfl _ _ _ rfl (Bo + 1) 105 info _ 64 Tryz.underlying22 hi hz hsize hbyt rfl _ k ps rfl HF.out.1 (⟨x1, x2, l, false, ⟨#[]⟩⟩, Al, cl) ll HO3.out.2.2 1 rfl (by omega) (by omega) hszz ?_; intro v' w' o' g' hat; obtain ⟨A5, c5, rfl⟩ := own_form o'; have hXw := (HU.out.1.kept HZ.out.1.1 (by simp; omega)).kept g' (own_far HF.out.1 (by omega)); have m1 := hXw.cell 1; have mf := hXw.frozen 1; simp only [List.getElem?_cons_zero, List.getElem?_cons_succ] at m1)
          obtain ⟨Y, hY⟩ : ∃ Y, w'.setCell ⟨Bo, 1, none⟩ (.slice A5 (k + 1) c5) = Y := ⟨_, rfl⟩
          have hgy : w'.grownBy Y (some Bo) := by rw [← hY]; exact grown_set1 _ _ _ _
          have hYo : Bn Bo 24 [.string key, .slice A5 (k + 1) c5] Y := by rw [← hY]; exact hXw.set 1 (.slice A5 (k + 1) c5)
          have hY0 : Bn B0 24 [.string ⟨#[]⟩, .slice none 0 0] Y := ((HU.out.2.1.kept HZ.out.1.1 (by simp; omega)).kept g' (own_far HF.out.1 (by omega))).kept hgy (by simp; omega)
          have hYr : RowV (Bo + 1) Y.heap.size Y (.slice A5 (k + 1) c5) (ps ++ [((⟨x1, x2, l, false, ⟨#[]⟩⟩ : Vr), Al, cl)]) := (HF.out.2.1 w' _ (by rw [hpk]; exact o') g' hat).keep (fun j h1 h2 => hgy.block j h2 (by intro e; injection e with e; omega)) |>.more hgy.size
          have hYq : Rq R A c n r4 true Y := (HZ.out.1.2.2.1.kept g' (own_far HF.out.1 (by omega))).kept hgy (by simp; omega)
          have hYg : w.grownBy Y (some R) := grown_own (grown_own (grown_trans HU.out.2.2.2.1 HZ.out.1.1) g' (fun j hj => by have := (HF.out.1.lt j hj).1; omega)) hgy (fun j hj => by injection hj with hj; omega)
          have HE := Lib.hid (And.intro hYo (And.intro hY0 (And.intro hYr (And.intro hYq hYg))))
          clear hgy hYo hY0 hYr hYq hYg HF hXw
          rw [hY]
          exact ⟨⟨k + 1, ps ++ [((⟨x1, x2, l, false, ⟨#[]⟩⟩ : Vr), Al, cl)], A5, c5, r4, true, rfl, by omega, by simp [hpk], hn4, HE, Lib.hid ⟨fun e => absurd e (by simp), fun _ => HT2.out⟩⟩, by simp only [intOf]; omega⟩
    · have hX0r : wq.heap[B0]? = some (.cells #[.string ⟨#[]⟩, .slice none 0 0] 24 (0, 0)) := hX0
      have hXor : wq.heap[Bo]? = some (.cells #[.string key, .slice A4 k c4] 24 (0, 0)) := hXo
      obtain ⟨Y, hY⟩ : ∃ Y, wq.setRow B0 #[.string key, .slice A4 k c4] = Y := ⟨_, rfl⟩
      have hY0 : Y.heap[B0]? = some (.cells #[.string key, .slice A4 k c4] 24 (0, 0)) := by rw [← hY]; exact setRow_heap _ _ _ _ _ _ hX0r
      have hgy : wq.grownBy Y (some B0) := by rw [← hY]; exact ⟨rfl, rfl, rfl, by simp, fun j _ hj => setRow_other _ _ _ _ (fun e => hj (by rw [e]))⟩
      have hfinal : ∃ (x : Rc) (A' : Option Addr) (c' p' : Nat) (b' : Bool), Ending.returned (.agg #[.string key, .slice A4 k c4]) = .returned (.agg #[.string x.1, .slice A' x.2.length c']) ∧ RcO B0 Y x (A', c') ∧ Rq R A c n p' b' Y ∧ p' ≤ n ∧ w.grownBy Y (some R) ∧ (x.1.size ≤ n ∧ x.2.length ≤ n) ∧ One (recQ zs) p bad x p' b' := by
        have hml : (ps.map Prod.fst).length = k := by rw [List.length_map, hpk]
        refine ⟨(key, ps.map Prod.fst), A4, c4, r, b, by rw [hml], ?_, hrq.kept hgy (by simp; omega), hrn, grown_own hgw hgy (fun j hj => by injection hj with hj; omega), ⟨hk1, by simp only; rw [hml]; omega⟩, ?_⟩
        · have ho := hrow.1
          rw [hpk] at ho
          have hkc : k ≤ c4 := own_cap' ho
          refine ⟨by simp only; rw [hml]; exact hkc, ps, rfl, ?_⟩
          simp only
          rw [hml]
          exact ((hrow.keep (fun j h1 h2 => hgy.block j h2 (by intro e; injection e with e; omega))).more hgy.size).less (by omega)
        · rcases hb : b with _ | _
          case true => exact .inr ⟨rfl, htk.out.2 hb⟩
          case false =>
            obtain ⟨hb2, hT⟩ := htk.out.1 hb
            have hk : k = M := by
              rcases Nat.lt_or_ge k M with h | h
              · exact absurd ⟨h, hb⟩ hgo
              · omega
            rw [hk] at hT
            obtain ⟨g1, _, g3⟩ := HD.out.2 hb2
            exact .inl ⟨rfl, g1, g3 _ _ (taking_end hT)⟩
      have HE := Lib.hid hfinal
      have hone : (#[Value.string key, .slice A4 k c4] : Array Value).all (·.oneCell') = true := by simp [Value.oneCell']
      clear hfinal hst htk hXo hX0 hrow hrq hgw
      by_cases hk : k < M
      · have hbt : b = true := by
          cases b
          · exact absurd ⟨hk, rfl⟩ hgo
          · rfl
        subst hbt
        have d2 : (k : Int) < (M : Int) := by omega
        go_wp2_with (first
          | (refine wpList_load_row rfl 24 _ rfl Bo rfl 24 #[.string key, .slice A4 k c4] (0, 0) _ hXor Tryz.underlying24 rfl (rec_size _ _) ?_)
          | (refine wpList_store_row rfl 24 _ _ rfl B0 #[.string key, .slice A4 k c4] rfl rfl 24 _ hX0r (rec_size _ _) rfl hone ?_; rw [hY]))
        refine bodyPost_ret (v := .agg #[.string key, .slice A4 k c4]) (results_cell_row rfl _ _ B0 24 _ _ _ rfl hY0 Tryz.underlying24 rfl (rec_size _ _)) rfl ?_
        exact HE.out
      · have d2 : decide ((k : Int) < (M : Int)) = false := decide_eq_false (by omega)
        go_wp2_with (first
          | (refine wpList_load_row rfl 24 _ rfl Bo rfl 24 #[.string key, .slice A4 k c4] (0, 0) _ hXor Tryz.underlying24 rfl (rec_size _ _) ?_)
          | (refine wpList_store_row rfl 24 _ _ rfl B0 #[.string key, .slice A4 k c4] rfl rfl 24 _ hX0r (rec_size _ _) rfl hone ?_; rw [hY]))
        refine bodyPost_ret (v := .agg #[.string key, .slice A4 k c4]) (results_cell_row rfl _ _ B0 24 _ _ _ rfl hY0 Tryz.underlying24 rfl (rec_size _ _)) rfl ?_
        exact HE.out
end Code
end Go.Proofs.YtegiigeelcnemaaGreat
