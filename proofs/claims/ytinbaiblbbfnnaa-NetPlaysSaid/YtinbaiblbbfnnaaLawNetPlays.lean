/-
  NetPlays (P8.1 to P8.3): whatever is done, in whatever order: every answer, what is under way and what was counted are the document's. For every input.
-/
import Derived.Test.YtinbaiblbbfnnaaNetDoes
import Derived.Test.YtinbaiblbbfnnaaFrame
namespace Go.Proofs.Ytinbaiblbbfnnaa
namespace NetPlays
open Go.ChangeShapes Go.WideShapes Go.ChangeAt Go.RowKit Net Blk
attribute [local go_sem ↓] Go.wp_at_zero Go.wp_at_succ
/-- The two as they begin. -/
theorem start {w V : World} {nb : Nat} {F : Nat → Prop} (h : NI F V nb [] 0 0 0 (fun _ _ => false) 0) (hb : Below w.heap.size w V) (hF : ∀ k, F k → w.heap.size ≤ k) :
    Pr (fun _ => False) w (V.alloc (.cells #[.slice none 0 0, .slice none 0 0, .int .i64 0, .int .i64 0, .int .i64 0] 30)) nb V.heap.size [] 0 0 0 (cutC []) 0 [] 0 0 0 [] := by
  have hb2 : Below V.heap.size V (V.alloc (.cells #[.slice none 0 0, .slice none 0 0, .int .i64 0, .int .i64 0, .int .i64 0] 30)) := (Below.refl _ V).alloc (Nat.le_refl _) _
  exact ⟨F, _, h.below hb2, ⟨_, _, _, _, _, _, _, rn_start V, rfl⟩, hb.trans (hb2.mono hb.size), hF, fun j hj => Nat.le_trans hb.size hj.1, fun j hf hg => by have := h.lt j hf; omega, fun j hj => hj.elim⟩
set_option maxRecDepth 100000 in
set_option maxHeartbeats 4000000 in
theorem walk (w : World) (A : Option Addr) (c : Nat) (l : List No) (hp : Nos w w.heap.size A l) (hb : l.length * 88 ≤ 140737488351232) (hq : ∀ x ∈ l, OkNo x) :
    Calls Try.prog 3 #[.slice A l.length c] w fun e w' => e = .returned (.bool true) ∧ Below w.heap.size w w' := by
  obtain ⟨n, hn⟩ : ∃ n, l.length = n := ⟨_, rfl⟩
  rw [hn] at hb ⊢
  have HZ := Lib.hid (And.intro hp (And.intro hn hq))
  have H0 := Lib.hid (awake_any w)
  clear hp hn hq
  go_enter Try.func3, Try.ntmps3
  go_wp2_with fail
  refine H0.out.mono ?_
  rintro e1 w1 ⟨rfl, b1⟩
  have H1 := Lib.hid (new_any w1)
  have HB1 := Lib.hid b1
  clear b1 H0
  go_wp2_with fail
  refine H1.out.mono ?_
  rintro e2 w2 ⟨F, nb, rfl, h2⟩
  have HS := Lib.hid (start h2.out.1 (HB1.out.trans (h2.out.2.2.mono HB1.out.size)) (fun k hk => Nat.le_trans HB1.out.size (h2.out.2.1 k hk)))
  obtain ⟨mb, hmb⟩ : ∃ b, w2.heap.size = b := ⟨_, rfl⟩
  rw [hmb] at HS
  clear h2 H1 HB1
  go_wp2_with fail
  go_loopw [5] (fun q wr => ∃ (k : Nat) (P : List Pk) (s t u : Int) (cs : List Ct) (m : Nat), q = .int .i64 k ∧ k ≤ n ∧ Hid (Pr (fun _ => False) w wr nb mb P s t u (cutC cs) m P s t u cs ∧ NoSelf cs ∧ cs.length ≤ k ∧ m ≤ 2 * k)) (fun q _ => n - (intOf q).toNat)
  case atStart => exact ⟨0, [], 0, 0, 0, [], 0, rfl, by omega, Lib.hid ⟨HS.out, (fun e he => by cases he), by simp, by omega⟩⟩
  case round =>
    obtain ⟨k, P, s, t, u, cs, m, rfl, hk, hst⟩ := hrel
    by_cases hlt : k < n
    · obtain ⟨⟨kd, ⟨⟨⟨a1, a2⟩, ⟨b1, b2⟩, zs⟩, Ad, cd⟩, i, at_, x⟩, hx⟩ : ∃ x, l.getD k no0 = x := ⟨_, rfl⟩
      have hkl : k < l.length := by have := HZ.out.2.1; omega
      have hmem : (kd, (((a1, a2), (b1, b2), zs), Ad, cd), i, at_, x) ∈ l := by
        rw [← hx, List.getD_eq_getElem?_getD, List.getElem?_eq_getElem hkl]
        exact List.getElem_mem hkl
      obtain ⟨b, off, rfl, hbB, hat⟩ := HZ.out.1.2 (by omega)
      have hat := hat k hkl
      rw [hx] at hat
      have hcell : ∀ V, Below w.heap.size w V → ∀ r u, (noc (kd, (((a1, a2), (b1, b2), zs), Ad, cd), i, at_, x))[r]? = some u → V.cell? ⟨b, off + k * 9 + r, none⟩ = some u := fun V hV r u hu => (hV.cell (p := ⟨b, off + k * 9 + r, none⟩) hbB).trans (hat r u hu)
      obtain ⟨kz, hkz⟩ : ∃ k, zs.length = k := ⟨_, rfl⟩
      have hc1 := hcell wr hst.out.1.old
      have s0 : wr.cell? ⟨b, off + k * 9, none⟩ = some (.int .i64 kd) := hc1 0 _ rfl
      have s1 : wr.cell? ⟨b, off + k * 9 + 1, none⟩ = some (.int .i64 a1) := hc1 1 _ rfl
      have s2 : wr.cell? ⟨b, off + k * 9 + 2, none⟩ = some (.int .i64 a2) := hc1 2 _ rfl
      have s3 : wr.cell? ⟨b, off + k * 9 + 3, none⟩ = some (.int .i64 b1) := hc1 3 _ rfl
      have s4 : wr.cell? ⟨b, off + k * 9 + 4, none⟩ = some (.int .i64 b2) := hc1 4 _ rfl
      have s5 : wr.cell? ⟨b, off + k * 9 + 5, none⟩ = some (.slice Ad kz cd) := by rw [← hkz]; exact hc1 5 _ rfl
      have s6 : wr.cell? ⟨b, off + k * 9 + 6, none⟩ = some (.int .i64 i) := hc1 6 _ rfl
      have s7 : wr.cell? ⟨b, off + k * 9 + 7, none⟩ = some (.int .i64 at_) := hc1 7 _ rfl
      have s8 : wr.cell? ⟨b, off + k * 9 + 8, none⟩ = some (.int .u8 x) := hc1 8 _ rfl
      have hok := HZ.out.2.2 _ hmem
      have H2 := Lib.hid (does_any (c := cd) (i := i) (at_ := at_) (x := x) (⟨hst.out.1, hst.out.2.1, by have := hst.out.2.2.1; omega, by have := hst.out.2.2.2; omega, HZ.out.1.1 _ hmem, hkz, hok.1, hok.2.1, hok.2.2⟩ : Sta (fun _ => False) w wr nb mb P s t u m cs a1 a2 b1 b2 zs kz Ad x) kd)
      have HC := Lib.hid (And.intro hcell (And.intro hok hst.out))
      have z1 : (0 : Int) ≤ (k : Int) := by omega
      have z2 : (k : Int) < (n : Int) := by omega
      clear hkl hmem hat hcell hx hkz hc1 hok hst
      go_wp2_with fail
      refine H2.out.mono ?_
      rintro e3 w3 ⟨rfl, P3, s3', t3, u3, cs3, m3, h3⟩
      have H4 := Lib.hid h3.out.1.tally
      have H3 := Lib.hid h3.out
      clear h3 H2 s0 s1 s2 s3 s4 s5 s6 s7 s8
      go_wp2_with fail
      refine H4.out.mono ?_
      rintro e4 w4 ⟨rfl, bb4⟩
      have hP4 := H3.out.1.below bb4
      have hPd := hP4.below (Below.refl _ w4).drew
      obtain ⟨nl, hnl⟩ : ∃ k, P3.length = k := ⟨_, rfl⟩
      obtain ⟨Ah, ch, Bh, qh, kh, y0, _, y2, y3, y4, hml, _⟩ := hPd.head nl hnl
      obtain ⟨D, hD⟩ : ∃ D, cutC cs3 (b1, b2) (a1, a2) = D := ⟨_, rfl⟩
      have H5 := Lib.hid (hPd.len nl hnl)
      have H6 := hPd.parted b1 b2 a1 a2 HC.out.2.1.1.1.2 HC.out.2.1.1.1.1
      rw [hD] at H6
      have H6 := Lib.hid H6
      have hc1 := HC.out.1 w4.drew hPd.old
      have s1 : w4.drew.cell? ⟨b, off + k * 9 + 1, none⟩ = some (.int .i64 a1) := hc1 1 _ rfl
      have s2 : w4.drew.cell? ⟨b, off + k * 9 + 2, none⟩ = some (.int .i64 a2) := hc1 2 _ rfl
      have s3 : w4.drew.cell? ⟨b, off + k * 9 + 3, none⟩ = some (.int .i64 b1) := hc1 3 _ rfl
      have s4 : w4.drew.cell? ⟨b, off + k * 9 + 4, none⟩ = some (.int .i64 b2) := hc1 4 _ rfl
      have g0 : (w4.drew.cell? ⟨mb, 0, none⟩ = some (.slice Ah nl ch) ∧ w4.drew.cell? ⟨mb, 2, none⟩ = some (.int .i64 s3') ∧ w4.drew.cell? ⟨mb, 3, none⟩ = some (.int .i64 t3) ∧ w4.drew.cell? ⟨mb, 4, none⟩ = some (.int .i64 u3) ∧
          w4.drew.cell? ⟨b, off + k * 9 + 1, none⟩ = some (.int .i64 a1) ∧ w4.drew.cell? ⟨b, off + k * 9 + 2, none⟩ = some (.int .i64 a2) ∧ w4.drew.cell? ⟨b, off + k * 9 + 3, none⟩ = some (.int .i64 b1) ∧ w4.drew.cell? ⟨b, off + k * 9 + 4, none⟩ = some (.int .i64 b2)) := ⟨y0, y2, y3, y4, s1, s2, s3, s4⟩
      have HD := Lib.hid (And.intro hPd (And.intro hD (And.intro hnl hml)))
      have HG : Hid (∀ V, Below w4.drew.heap.size w4.drew V → (V.cell? ⟨mb, 0, none⟩ = some (.slice Ah nl ch) ∧ V.cell? ⟨mb, 2, none⟩ = some (.int .i64 s3') ∧ V.cell? ⟨mb, 3, none⟩ = some (.int .i64 t3) ∧ V.cell? ⟨mb, 4, none⟩ = some (.int .i64 u3) ∧
          V.cell? ⟨b, off + k * 9 + 1, none⟩ = some (.int .i64 a1) ∧ V.cell? ⟨b, off + k * 9 + 2, none⟩ = some (.int .i64 a2) ∧ V.cell? ⟨b, off + k * 9 + 3, none⟩ = some (.int .i64 b1) ∧ V.cell? ⟨b, off + k * 9 + 4, none⟩ = some (.int .i64 b2))) := Lib.hid fun V hV => by
        have hbb : b < w4.drew.heap.size := Nat.lt_of_lt_of_le hbB hPd.old.size
        exact ⟨(hV.cell hml).trans y0, (hV.cell hml).trans y2, (hV.cell hml).trans y3, (hV.cell hml).trans y4, (hV.cell hbb).trans s1, (hV.cell hbb).trans s2, (hV.cell hbb).trans s3, (hV.cell hbb).trans s4⟩
      clear bb4 hP4 hPd hnl hml hD hc1 y0 y2 y3 y4 s1 s2 s3 s4 H4
      go_wp2_with fail
      go_region_held3 (fun V => V.cell? ⟨mb, 0, none⟩ = some (.slice Ah nl ch) ∧ V.cell? ⟨mb, 2, none⟩ = some (.int .i64 s3') ∧ V.cell? ⟨mb, 3, none⟩ = some (.int .i64 t3) ∧ V.cell? ⟨mb, 4, none⟩ = some (.int .i64 u3) ∧
          V.cell? ⟨b, off + k * 9 + 1, none⟩ = some (.int .i64 a1) ∧ V.cell? ⟨b, off + k * 9 + 2, none⟩ = some (.int .i64 a2) ∧ V.cell? ⟨b, off + k * 9 + 3, none⟩ = some (.int .i64 b1) ∧ V.cell? ⟨b, off + k * 9 + 4, none⟩ = some (.int .i64 b2)) (first | exact g0 | exact g6 | exact g7)
        (first
        | (go_at_call 13; refine H5.out.mono ?_; rintro e5 w5 ⟨rfl, rfl⟩)
        | (go_at_call 14; refine H6.out.mono ?_; rintro e6 w6 ⟨rfl, bb6⟩; have g6 := HG.out w6 bb6; have H7 := Lib.hid (show Calls _ _ _ _ (fun e w' => e = .returned (.bool D) ∧ _) from HD.out.2.1 ▸ ((HD.out.1.below bb6).rparted (by have := H3.out.2.2.1; have := HC.out.2.2.2.2.1; omega) b1 b2 a1 a2)))
        | (go_at_call 15; refine H7.out.mono ?_; rintro e7 w7 ⟨rfl, bb7⟩; have g7 := HG.out w7 (bb6.trans (bb7.mono bb6.size))))
      all_goals
        have HE := Lib.hid (HD.out.1.below (bb6.trans (bb7.mono bb6.size)))
        clear bb6 bb7 H5 H6 H7
        go_wp2_with fail
        go_roundw
        case rel => exact ⟨k + 1, P3, s3', t3, u3, cs3, m3, rfl, by omega, Lib.hid ⟨HE.out, H3.out.2.1, by have := H3.out.2.2.1; have := HC.out.2.2.2.2.1; omega, by have := H3.out.2.2.2; have := HC.out.2.2.2.2.2; omega⟩⟩
        case measure => simp only [intOf]; omega
    · obtain ⟨nl, hnl⟩ : ∃ k, P.length = k := ⟨_, rfl⟩
      have HN := Lib.hid (And.intro hst.out.1 hnl)
      clear hst hnl
      have hn4 : nl ≤ 4096 := by have := HN.out.1.plen; have := HN.out.2; omega
      go_wp2_with fail
      go_loopw [9] (fun q wr => ∃ j : Nat, q = .int .i64 j ∧ j ≤ nl ∧ Hid (Pr (fun _ => False) w wr nb mb P s t u (cutC cs) m P s t u cs)) (fun q _ => nl - (intOf q).toNat)
      case atStart => exact ⟨0, rfl, by omega, Lib.hid HN.out.1⟩
      case round =>
        obtain ⟨j, rfl, hj, hT⟩ := hrel
        obtain ⟨Ah, ch, Bh, qh, kh, y0, _, _, _, _, hml, hpk⟩ := hT.out.head nl HN.out.2
        by_cases hjl : j < nl
        · obtain ⟨g, a1, a2, b1, b2, zs, Ax, cx, rfl, hPj, ⟨c0, c1, c2, c3, c4⟩, hgl, hns⟩ := hpk j hjl
          have hlook : lookP P (j : Int) = (((a1, a2), (b1, b2), zs), true) := by
            unfold lookP atP
            rw [if_pos (by omega), Int.toNat_natCast, hPj]
            rfl
          have H2 := hT.out.look (j : Int)
          rw [hlook] at H2
          have H2 := Lib.hid H2
          have HPJ := Lib.hid hPj
          have HK := Lib.hid (And.intro y0 (And.intro c0 (And.intro c1 (And.intro c2 (And.intro c3 (And.intro c4 (And.intro hml (And.intro hgl hns))))))))
          clear hPj hlook hpk c0 c1 c2 c3 c4 hns hgl hml
          go_wp2_with fail
          refine H2.out.mono ?_
          rintro e3 w3 ⟨y1', y2', z1', z2', ys, k1, A1, c1, ok, rfl, h3⟩
          have hE := h3.out.1.1
          simp only [Prod.mk.injEq] at hE
          obtain ⟨⟨⟨rfl, rfl⟩, ⟨rfl, rfl⟩, rfl⟩, rfl⟩ := hE
          have hk1 := h3.out.1.2.1
          have hsz := h3.out.2.2.1
          obtain ⟨pb, hpb⟩ : ∃ b, w3.heap.size = b := ⟨_, rfl⟩
          obtain ⟨U, hU⟩ : ∃ W, w3.alloc (.cells #[.int .i64 y1', .int .i64 y2', .int .i64 z1', .int .i64 z2', .slice A1 k1 c1] 36) = W := ⟨_, rfl⟩
          have bU : Below w3.heap.size w3 U := by rw [← hU]; exact (Below.refl _ w3).alloc (Nat.le_refl _) _
          have BU : Bn pb 36 [.int .i64 y1', .int .i64 y2', .int .i64 z1', .int .i64 z2', .slice A1 k1 c1] U := by rw [← hU, ← hpb]; exact heap_alloc_new w3 _
          have hPU := (h3.out.2.1.below bU).below (Below.refl _ U).drew
          obtain ⟨Ah', ch', Bh', qh', kh', y0', _, _, _, _, hml', hpk'⟩ := hPU.head nl HN.out.2
          obtain ⟨g', a1', a2', b1', b2', zs', Ax', cx', rfl, hPj', ⟨c0', c1', c2', c3', c4'⟩, hgl', hns'⟩ := hpk' j hjl
          have hee : (((y1', y2'), (z1', z2'), ys) : Pk) = ((a1', a2'), (b1', b2'), zs') := by
            have := HPJ.out.symm.trans hPj'
            injection this
          simp only [Prod.mk.injEq] at hee
          obtain ⟨⟨rfl, rfl⟩, ⟨rfl, rfl⟩, rfl⟩ := hee
          rw [hk1] at c4'
          have x0 := (BU.cell 0).trans rfl
          have x1 := (BU.cell 1).trans rfl
          have x2 := (BU.cell 2).trans rfl
          have x3 := (BU.cell 3).trans rfl
          have x4 := (BU.cell 4).trans rfl
          have H4 := Lib.hid (same_yes U.drew y1' y2' z1' z2' ys k1 hk1 A1 Ax' c1 cx' ((h3.out.1.2.2.below bU).more bU.size) hns')
          have HP := Lib.hid hPU
          have d1 : (0 : Int) ≤ (j : Int) := by omega
          have d2 : (j : Int) < (nl : Int) := by omega
          have g0 : (U.drew.cell? ⟨mb, 0, none⟩ = some (.slice (some ⟨g', 0, none⟩) nl ch') ∧ U.drew.cell? ⟨pb, 0, none⟩ = some (.int .i64 y1') ∧ U.drew.cell? ⟨pb, 1, none⟩ = some (.int .i64 y2') ∧ U.drew.cell? ⟨pb, 2, none⟩ = some (.int .i64 z1') ∧ U.drew.cell? ⟨pb, 3, none⟩ = some (.int .i64 z2') ∧ U.drew.cell? ⟨pb, 4, none⟩ = some (.slice A1 k1 c1) ∧ U.drew.cell? ⟨g', j * 5, none⟩ = some (.int .i64 y1') ∧ U.drew.cell? ⟨g', j * 5 + 1, none⟩ = some (.int .i64 y2') ∧ U.drew.cell? ⟨g', j * 5 + 2, none⟩ = some (.int .i64 z1') ∧ U.drew.cell? ⟨g', j * 5 + 3, none⟩ = some (.int .i64 z2') ∧ U.drew.cell? ⟨g', j * 5 + 4, none⟩ = some (.slice Ax' k1 cx')) := ⟨y0', x0, x1, x2, x3, x4, c0', c1', c2', c3', c4'⟩
          have HG : Hid (∀ V, Below U.drew.heap.size U.drew V → (V.cell? ⟨mb, 0, none⟩ = some (.slice (some ⟨g', 0, none⟩) nl ch') ∧ V.cell? ⟨pb, 0, none⟩ = some (.int .i64 y1') ∧ V.cell? ⟨pb, 1, none⟩ = some (.int .i64 y2') ∧ V.cell? ⟨pb, 2, none⟩ = some (.int .i64 z1') ∧ V.cell? ⟨pb, 3, none⟩ = some (.int .i64 z2') ∧ V.cell? ⟨pb, 4, none⟩ = some (.slice A1 k1 c1) ∧ V.cell? ⟨g', j * 5, none⟩ = some (.int .i64 y1') ∧ V.cell? ⟨g', j * 5 + 1, none⟩ = some (.int .i64 y2') ∧ V.cell? ⟨g', j * 5 + 2, none⟩ = some (.int .i64 z1') ∧ V.cell? ⟨g', j * 5 + 3, none⟩ = some (.int .i64 z2') ∧ V.cell? ⟨g', j * 5 + 4, none⟩ = some (.slice Ax' k1 cx'))) := Lib.hid fun V hV =>
            ⟨(hV.cell hml').trans y0', (hV.cell BU.lt).trans x0, (hV.cell BU.lt).trans x1, (hV.cell BU.lt).trans x2, (hV.cell BU.lt).trans x3, (hV.cell BU.lt).trans x4, (hV.cell hgl').trans c0', (hV.cell hgl').trans c1', (hV.cell hgl').trans c2', (hV.cell hgl').trans c3', (hV.cell hgl').trans c4'⟩
          clear h3 bU hPU BU hpk' hns' hPj' hgl' hml' hsz H2 y0' x0 x1 x2 x3 x4 c0' c1' c2' c3' c4'
          go_wp2_with fail
          go_region_held3 (fun V => V.cell? ⟨mb, 0, none⟩ = some (.slice (some ⟨g', 0, none⟩) nl ch') ∧ V.cell? ⟨pb, 0, none⟩ = some (.int .i64 y1') ∧ V.cell? ⟨pb, 1, none⟩ = some (.int .i64 y2') ∧ V.cell? ⟨pb, 2, none⟩ = some (.int .i64 z1') ∧ V.cell? ⟨pb, 3, none⟩ = some (.int .i64 z2') ∧ V.cell? ⟨pb, 4, none⟩ = some (.slice A1 k1 c1) ∧ V.cell? ⟨g', j * 5, none⟩ = some (.int .i64 y1') ∧ V.cell? ⟨g', j * 5 + 1, none⟩ = some (.int .i64 y2') ∧ V.cell? ⟨g', j * 5 + 2, none⟩ = some (.int .i64 z1') ∧ V.cell? ⟨g', j * 5 + 3, none⟩ = some (.int .i64 z2') ∧ V.cell? ⟨g', j * 5 + 4, none⟩ = some (.slice Ax' k1 cx')) (first | exact g0 | exact g1)
            (first
            | (go_at_call 17; refine H4.out.mono ?_; rintro e4 w4 ⟨rfl, bb4⟩; have g1 := HG.out w4 bb4))
          all_goals
            have HE := Lib.hid ((HP.out.below bb4).less fun j hj => .inl hj)
            clear bb4 H4
            go_wp2_with fail
            go_roundw
            case rel => exact ⟨j + 1, rfl, by omega, HE⟩
            case measure => simp only [intOf]; omega
        · have HE := Lib.hid hT.out.old
          go_wp2_with fail
          go_ret
          exact ⟨rfl, HE.out⟩
-- ROW BEGIN
set_option maxRecDepth 100000 in
/-- What the walk gives, shut again. -/
theorem contract (H : Type) (enc : TypeId × Value → H) (W : World) (base : Nat) (args : Array Value) (ds gs : List (DataW H)) (before : List MemPlace)
    (hval : ∀ (j : Nat) t v, Try.f3.params[j]? = some t → args[j]? = some v → Value.okWide Try.prog W .any base t v)
    (hW : DataW.Whole enc Try.prog Try.f3.params.toList Rows.netPlaysSpec.vars false W args.toList ds gs before)
    (hsz : (DataW.weightsEach Try.prog (Try.f3.params.toList ++ Rows.netPlaysSpec.plain.varTypes Try.prog) (ds ++ gs)).all (· ≤ reachBytes) = true) :
    Calls Try.prog 3 args W fun e W' => ∃ v, e = .returned v ∧ Rows.netPlaysSpec.post enc Try.prog Try.f3 false true false false W args v W' := by
  have hW' := hW
  obtain ⟨p, q, hA0, hV, hbef, _, _⟩ := hW
  have hA : DataW.TrodAll enc Try.prog W 0 (fun _ => true) true Try.f3.params.toList args.toList ds p := hA0
  have hA1 := hA
  rw [Try.params3] at hA hval hsz
  obtain ⟨v0, vs0, d0, ds0, p0, q0, hargs, rfl, rfl, h0, r0⟩ := trodAll_cons hA
  obtain ⟨rfl, rfl, rfl⟩ := trodAll_nil r0
  obtain rfl : args = #[v0] := by cases args; simp_all
  obtain ⟨rfl, rfl⟩ := trodVars_none hV
  clear hA hargs
  obtain ⟨A0, c0, a0, rfl, n0, l0, b0⟩ := Net.arg_ops (hval 0 22 v0 rfl rfl) h0 (Wgt.wt_arg hsz (j := 0) rfl rfl)
  refine (walk W A0 c0 a0 n0 b0 l0).mono fun e W' ⟨he, hb⟩ => ?_
  subst he
  exact ⟨_, rfl, law_post Facts.laid (by rfl) Try.underlying4 (by rw [Try.params3]; decide +kernel) hW' hA1 rfl hbef rfl rfl rfl hb⟩

set_option maxRecDepth 100000 in
theorem lifted (os : Os) (started : os.Started) (H : Type) (enc : TypeId × Value → H) :
    ReturnsInHanded {} Try.checked os 3 .any (Rows.netPlaysSpec.pre6 enc Try.prog Try.f3 Rows.netPlaysRow.domain false) (Rows.netPlaysSpec.post enc Try.prog Try.f3 false true false false) := by
  refine returnsInHanded_of_change_sized (C := Try.checked) Facts.own started (by kernel_rfl) Try.func3
    (ChangeSpec.witness6 (enc := enc) (C := Try.checked) false ⟨#[], #[.slice none 0 0], []⟩ 8 (by kernel_rfl) (by kernel_rfl) (by kernel_rfl) (by kernel_rfl)) ?_
  intro W base args ds gs before hval hW _ hsz _
  exact contract H enc W base args ds gs before hval hW hsz

theorem holds : Rows.NetPlaysSaid :=
  OpenClaim.holds_of_wide 3 Try.f3 rfl rfl rfl rfl rfl rfl rfl ⟨rfl, rfl, rfl, rfl, rfl⟩ rfl rfl rfl rfl rfl (by kernel_rfl) Try.func3 (by kernel_rfl)
    (of_decide_eq_true (by kernel_rfl)) (by unfold Func.isWrapper; first | (rw [if_pos (by decide +kernel)]; kernel_rfl) | (rw [if_neg (by decide +kernel)]; exact ⟨rfl, rfl⟩))
    (fun os started H enc _ => lifted os started H enc)
-- ROW END
end NetPlays
end Go.Proofs.Ytinbaiblbbfnnaa
