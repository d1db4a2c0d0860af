/-
  disk: Rename (layer 7).
-/
import Derived.Test.YtdcppjpjlhbanaaDiskTail
import Derived.Test.YtdcppjpjlhbanaaDiskRemove
namespace Go.Proofs.Ytdcppjpjlhbanaa
namespace Disk
open Go.RowKit Blk Go.Maps
attribute [local go_sem ↓] Go.wp_at_zero Go.wp_at_succ
section
variable {F : Nat → Prop} {own : Nat → Nat} {w : World} {db N : Nat} {room : Int} {es : Es} {r : List Un}
theorem oldF_nil (es : Es) (s : Nm) (h : find es s = none) : oldF es 0 s = ⟨[], none, 0, 0⟩ := by unfold oldF; rw [h]; rfl
set_option maxRecDepth 100000 in
set_option maxHeartbeats 8000000 in
theorem rename_ok (h : DK F own N w db room es r) (hN : N < 10000000000000) (fr tn : Nm) (hs : 1 ≤ fr.size ∧ fr.size ≤ 16) (ht : 1 ≤ tn.size ∧ tn.size ≤ 16) (y : Fl) (hy : find es fr = some y) :
    Calls Try.prog 23 #[hd db, .string fr, .string tn] w (fun e w' => e = .returned (.int .i64 0) ∧ Hid (DoneP F N w db room (wit (wout es fr) tn y) r (Undone es (wit (wout es fr) tn y)) w')) := by
  obtain ⟨mb, A, n, c, hp⟩ := h.parts
  obtain ⟨k, hk⟩ : ∃ k, y.d.length = k := ⟨_, rfl⟩
  obtain ⟨y2, hy2⟩ : ∃ x, oldF es 0 tn = x := ⟨_, rfl⟩
  obtain ⟨k2, hk2⟩ : ∃ k, y2.d.length = k := ⟨_, rfl⟩
  obtain ⟨ot, hot⟩ : ∃ b, (find es tn).isSome = b := ⟨_, rfl⟩
  obtain ⟨bd, hbd⟩ : ∃ b, w.heap.size = b := ⟨_, rfl⟩
  obtain ⟨U0, hU0⟩ : ∃ V, w.alloc (.cells #[hd db] 24) = V := ⟨_, rfl⟩
  have bU0 : Below w.heap.size w U0 := by rw [← hU0]; exact (Below.refl _ w).alloc (Nat.le_refl _) _
  have D0 : Bn bd 24 [hd db] U0 := by rw [← hU0, ← hbd]; exact heap_alloc_new w _
  obtain ⟨bf, hbf⟩ : ∃ b, U0.heap.size = b := ⟨_, rfl⟩
  obtain ⟨U1, hU1⟩ : ∃ V, U0.alloc (.cells #[.string fr] 9) = V := ⟨_, rfl⟩
  have eU1 : Below U0.heap.size U0 U1 := by rw [← hU1]; exact (Below.refl _ U0).alloc (Nat.le_refl _) _
  have bU1 : Below w.heap.size w U1 := bU0.trans (eU1.mono bU0.size)
  have N0 : Bn bf 9 [.string fr] U1 := by rw [← hU1, ← hbf]; exact heap_alloc_new U0 _
  have D0_U1 := D0.same (eU1.block bd D0.lt)
  obtain ⟨bt, hbt⟩ : ∃ b, U1.heap.size = b := ⟨_, rfl⟩
  obtain ⟨U2, hU2⟩ : ∃ V, U1.alloc (.cells #[.string tn] 9) = V := ⟨_, rfl⟩
  have eU2 : Below U1.heap.size U1 U2 := by rw [← hU2]; exact (Below.refl _ U1).alloc (Nat.le_refl _) _
  have bU2 : Below w.heap.size w U2 := bU1.trans (eU2.mono bU1.size)
  have N1 : Bn bt 9 [.string tn] U2 := by rw [← hU2, ← hbt]; exact heap_alloc_new U1 _
  have D0_U1_U2 := D0_U1.same (eU2.block bd D0_U1.lt)
  have N0_U2 := N0.same (eU2.block bf N0.lt)
  have H1 := right_any fr U2
  rw [decide_eq_true hs] at H1
  have H1 := Lib.hid H1
  have H1b := right_any tn U2
  rw [decide_eq_true ht] at H1b
  have H1b := Lib.hid H1b
  have hC := hp.1.below bU2
  have c1 := (D0_U1_U2.cell 0).trans rfl
  have c2 := (N0_U2.cell 0).trans rfl
  have c3 := (N1.cell 0).trans rfl
  have k2' := (hC.1.cell 2).trans rfl
  have hall : ∀ V, Below U2.heap.size U2 V → (V.cell? ⟨bd, 0, none⟩ = some (hd db) ∧ V.cell? ⟨bf, 0, none⟩ = some (.string fr) ∧ V.cell? ⟨db, 2, none⟩ = some (.map (some mb)) ∧ (Instr.lookup 57 (.map (some mb)) (.string fr) true).run Try.prog V = .ok (.tuple #[.slice y.A k y.c, .bool true]) V) ∧ (V.cell? ⟨bt, 0, none⟩ = some (.string tn) ∧ (Instr.lookup 57 (.map (some mb)) (.string tn) true).run Try.prog V = .ok (.tuple #[.slice y2.A k2 y2.c, .bool ot]) V) := fun V hV =>
    ⟨⟨(hV.cell D0_U1_U2.lt).trans c1, (hV.cell N0_U2.lt).trans c2, (hV.cell hC.1.lt).trans k2', by
      have q := MI.look_ok (w := V) (hC.below hV).2 fr (ok_of hs.2)
      rw [find_map, hy] at q
      rw [← hk]
      exact q⟩, (hV.cell N1.lt).trans c3, by
      have q := MI.look_ok (w := V) (hC.below hV).2 tn (ok_of ht.2)
      rw [find_map, Option.isSome_map, hot, oldF_v es 0 tn, hy2] at q
      rw [← hk2]
      exact q⟩
  obtain ⟨⟨xa0, xb0, xc0, xd0⟩, xe0, xf0⟩ := hall U2.drew (show Below U2.heap.size U2 U2.drew from (Below.refl _ U2).drew)
  obtain ⟨⟨xa1, xb1, xc1, xd1⟩, xe1, xf1⟩ := hall (U2.alloc (.cells #[.slice none 0 0] 29)).drew (show Below U2.heap.size U2 (U2.alloc (.cells #[.slice none 0 0] 29)).drew from ((Below.refl _ U2).alloc (Nat.le_refl _) _).drew)
  have HALL := Lib.hid hall
  have hyk0 := hp.2.2.1.1 _ (find_some hy)
  have hy2k0 := oldF_ok hp.2.2.1.1 0 tn
  rw [hy2] at hy2k0
  have HU := Lib.hid (And.intro hp (And.intro bU2 (And.intro D0_U1_U2 (And.intro N0_U2 (And.intro N1 (And.intro hC (And.intro hy (And.intro hk (And.intro hyk0 (And.intro hy2 (And.intro hk2 (And.intro hot hy2k0))))))))))))
  have HS : Hid (w.heap.size ≤ bf ∧ w.heap.size ≤ bt) := Lib.hid ⟨by rw [← hbf]; exact bU0.size, by rw [← hbt]; exact bU1.size⟩
  have hn13 : n ≤ 10000000000000 := by have := hp.2.1.1; have := hp.2.2.2.2.1.2.2.2.1; omega
  clear hp bU2 D0_U1_U2 N0_U2 N1 hC hy hk D0 bU0 eU1 eU2 bU1 hall h hyk0 hy2 hk2 hot hy2k0
  go_enter Try.func23, Try.ntmps23
  go_wp2_with fail
  refine H1.out.mono ?_
  rintro e w1 ⟨rfl, rfl⟩
  go_wp2_with fail
  refine H1b.out.mono ?_
  rintro e w2 ⟨rfl, rfl⟩
  go_wp2_with fail
  go_cut [7, 8] (fun v5 v6 V => ∃ bm, v5 = pt bm ∧ v6 = .bool true ∧ Hid (Bn bm 29 [.slice y.A k y.c] V ∧ Below w2.heap.size w2 V ∧ w2.heap.size ≤ bm))
  case first =>
    go_region
    all_goals
      go_wp2_with fail
      go_meet
      exact ⟨_, rfl, rfl, Lib.hid (by have q := one_new w2 29 (.slice y.A k y.c); exact ⟨q.1, q.2.drew, Nat.le_refl _⟩)⟩
  case rest =>
  obtain ⟨bm, rfl, rfl, hbm⟩ := hcut
  obtain ⟨wa, hwa⟩ : ∃ V, V = wc := ⟨_, rfl⟩
  subst hwa
  clear xa0 xa1 xb0 xb1 xc0 xc1 xd0 xd1 xe0 xe1 xf0 xf1
  have hall2 : ∀ V, Below wa.heap.size wa V → V.cell? ⟨bd, 0, none⟩ = some (hd db) ∧ V.cell? ⟨bt, 0, none⟩ = some (.string tn) ∧ V.cell? ⟨db, 2, none⟩ = some (.map (some mb)) ∧ (Instr.lookup 57 (.map (some mb)) (.string tn) true).run Try.prog V = .ok (.tuple #[.slice y2.A k2 y2.c, .bool ot]) V := fun V hV => by
    have q := HALL.out V (hbm.out.2.1.trans (hV.mono hbm.out.2.1.size))
    exact ⟨q.1.1, q.2.1, q.1.2.2.1, q.2.2⟩
  obtain ⟨xa0, xb0, xc0, xd0⟩ := hall2 (wa).drew (show Below wa.heap.size wa (wa).drew from ((Below.refl wa.heap.size wa)).drew)
  obtain ⟨xa1, xb1, xc1, xd1⟩ := hall2 (wa.alloc (.cells #[.slice none 0 0] 29)).drew (show Below wa.heap.size wa (wa.alloc (.cells #[.slice none 0 0] 29)).drew from ((((Below.refl wa.heap.size wa)).alloc (by simp) (.cells #[.slice none 0 0] 29))).drew)
  obtain ⟨xa2, xb2, xc2, xd2⟩ := hall2 (wa.alloc (.cells #[.bool false] 4)).drew (show Below wa.heap.size wa (wa.alloc (.cells #[.bool false] 4)).drew from ((((Below.refl wa.heap.size wa)).alloc (by simp) (.cells #[.bool false] 4))).drew)
  obtain ⟨xa3, xb3, xc3, xd3⟩ := hall2 ((wa.alloc (.cells #[.slice none 0 0] 29)).alloc (.cells #[.bool false] 4)).drew (show Below wa.heap.size wa ((wa.alloc (.cells #[.slice none 0 0] 29)).alloc (.cells #[.bool false] 4)).drew from ((((((Below.refl wa.heap.size wa)).alloc (by simp) (.cells #[.slice none 0 0] 29))).alloc (by simp) (.cells #[.bool false] 4))).drew)
  obtain ⟨xa4, xb4, xc4, xd4⟩ := hall2 ((wa.alloc (.cells #[.bool false] 4)).alloc (.cells #[.slice none 0 0] 29)).drew (show Below wa.heap.size wa ((wa.alloc (.cells #[.bool false] 4)).alloc (.cells #[.slice none 0 0] 29)).drew from ((((((Below.refl wa.heap.size wa)).alloc (by simp) (.cells #[.bool false] 4))).alloc (by simp) (.cells #[.slice none 0 0] 29))).drew)
  clear hall2
  go_wp2_with fail
  go_cut [9, 10] (fun v7 v8 V => ∃ bw bo, v7 = pt bw ∧ v8 = pt bo ∧ Hid (Bn bw 29 [.slice y2.A k2 y2.c] V ∧ Bn bo 4 [.bool ot] V ∧ Below wa.heap.size wa V ∧ wa.heap.size ≤ bw ∧ wa.heap.size ≤ bo))
  case first =>
    go_region
    all_goals
      go_wp2_with fail
      go_meet
      first
        | exact ⟨_, _, rfl, rfl, Lib.hid (by have q := two_new wa 29 4 (.slice y2.A k2 y2.c) (.bool ot); exact ⟨q.1, q.2.1, q.2.2.drew, by simp, by simp⟩)⟩
        | exact ⟨_, _, rfl, rfl, Lib.hid (by have q := two_new wa 4 29 (.bool ot) (.slice y2.A k2 y2.c); exact ⟨q.2.1, q.1, q.2.2.drew, by simp, by simp⟩)⟩
  case rest =>
  obtain ⟨bw, bo, rfl, rfl, hbx⟩ := hcut
  have b2c : Below w2.heap.size w2 wc := hbm.out.2.1.trans (hbx.out.2.2.1.mono hbm.out.2.1.size)
  have bwc : Below w.heap.size w wc := HU.out.2.1.trans (b2c.mono HU.out.2.1.size)
  have D2 := HU.out.2.2.1.same (b2c.block bd HU.out.2.2.1.lt)
  have F2 := HU.out.2.2.2.1.same (b2c.block bf HU.out.2.2.2.1.lt)
  have T2 := HU.out.2.2.2.2.1.same (b2c.block bt HU.out.2.2.2.2.1.lt)
  have M2 := hbm.out.1.same (hbx.out.2.2.1.block bm hbm.out.1.lt)
  have C2 := HU.out.2.2.2.2.2.1.below b2c
  have hus : used (fsE es) ≤ 1073741824 := by have := HU.out.1.good.2.2.2.2.1; rwa [fs_xs] at this
  have H2 := Lib.hid (drop_any C2 fr (ok_of hs.2) (by omega))
  have q1 := (D2.cell 0).trans rfl
  have q2 := (F2.cell 0).trans rfl
  have HC := Lib.hid (And.intro bwc (And.intro D2 (And.intro F2 (And.intro T2 (And.intro M2 (And.intro C2 (And.intro hbx.out (And.intro hbm.out hus))))))))
  clear xa0 xa1 xa2 xa3 xa4 xb0 xb1 xb2 xb3 xb4 xc0 xc1 xc2 xc3 xc4 xd0 xd1 xd2 xd3 xd4 b2c bwc D2 F2 T2 M2 C2 hus hbx hbm k2' c1 c2 c3
  go_wp2_with fail
  refine H2.out.mono ?_
  rintro e wd ⟨rfl, h3⟩
  have Cd := h3.out.1
  have Td := h3.out.2
  have Dd := bn_two HC.out.2.2.2.2.2.1 HC.out.2.1 (by decide) Td
  have Fd := bn_two HC.out.2.2.2.2.2.1 HC.out.2.2.1 (by decide) Td
  have Nd := bn_two HC.out.2.2.2.2.2.1 HC.out.2.2.2.1 (by decide) Td
  have Md := bn_two HC.out.2.2.2.2.2.1 HC.out.2.2.2.2.1 (by decide) Td
  have Wd := bn_two HC.out.2.2.2.2.2.1 HC.out.2.2.2.2.2.2.1.1 (by decide) Td
  have Od := bn_two HC.out.2.2.2.2.2.1 HC.out.2.2.2.2.2.2.1.2.1 (by decide) Td
  have p1 := (Dd.cell 0).trans rfl
  have p2 := (Nd.cell 0).trans rfl
  have p3 := (Md.cell 0).trans rfl
  have hul : used (fsE (wout es fr)) ≤ 1099511627776 := by
    have h2 := used_wout (HU.out.1.1.srt.map Fl.d) fr
    rw [show fsE (wout es fr) = wout (fsE es) fr from map_wout _ _ _]
    have h3 : used (mapV Fl.d es) = used (fsE es) := rfl
    have h4 : used (wout (mapV Fl.d es) fr) = used (wout (fsE es) fr) := rfl
    have := HC.out.2.2.2.2.2.2.2.2
    omega
  have H4 := Lib.hid (set_any Cd tn (ok_of ht.2) y k HU.out.2.2.2.2.2.2.2.1 (Nat.le_trans hul (by omega)) (by have h1 := HU.out.2.2.2.2.2.2.2.1; have h2 := HU.out.2.2.2.2.2.2.2.2.1.2.2.1; omega) (by have h1 : (wout es fr).length ≤ es.length := List.length_filter_le _ _; have := HU.out.1.len; omega))
  have HD := Lib.hid (And.intro Td (And.intro Cd (And.intro Dd (And.intro Fd (And.intro Nd (And.intro Md (And.intro Wd Od)))))))
  clear Td Cd Dd Fd Nd Md Wd Od h3 H2 q1 q2 hul
  go_wp2_with fail
  refine H4.out.mono ?_
  rintro e w3 ⟨rfl, h4⟩
  have C3 := h4.out.1
  have T4 := h4.out.2
  have D3 := bn_two HD.out.2.1 HD.out.2.2.1 (by decide) T4
  have F3 := bn_two HD.out.2.1 HD.out.2.2.2.1 (by decide) T4
  have N3 := bn_two HD.out.2.1 HD.out.2.2.2.2.1 (by decide) T4
  have M3 := bn_two HD.out.2.1 HD.out.2.2.2.2.2.1 (by decide) T4
  have W3 := bn_two HD.out.2.1 HD.out.2.2.2.2.2.2.1 (by decide) T4
  have O3 := bn_two HD.out.2.1 HD.out.2.2.2.2.2.2.2 (by decide) T4
  have T3 := Chg.two HD.out.1 T4
  have hr3 := HU.out.1.row3 HC.out.1 T3
  have hfin : ∀ (g7 cap7 : Nat) (w7 : World), w7.ownsRow 0 76 1 (.slice (some ⟨g7, 0, none⟩) (n + 1) cap7) (n + 1) (r.reverse.map Un.v ++ [(Value.func (Fn.func 41) #[] #[pt bd, pt bt, pt bo, pt bw, pt bf, pt bm])]) → (w3.alloc (.cells #[(Value.func (Fn.func 41) #[] #[pt bd, pt bt, pt bo, pt bw, pt bf, pt bm])] 76)).grownBy w7 (Value.slice A n c).ownBlock → ((Value.slice A n c).ownBlock = some g7 ∨ w3.heap.size ≤ g7) → g7 < w7.heap.size → DoneP F N w db room (wit (wout es fr) tn y) r (Undone es (wit (wout es fr) tn y)) (w7.setCell ⟨db, 3, none⟩ (.slice (some ⟨g7, 0, none⟩) (n + 1) cap7)) := fun g7 cap7 w7 o7 gr7 at7 hl7 => by
    have hy := HU.out.2.2.2.2.2.2.1
    have hkk := HU.out.2.2.2.2.2.2.2.1
    have hyk := HU.out.2.2.2.2.2.2.2.2.1
    have hy2 := HU.out.2.2.2.2.2.2.2.2.2.1
    have hkk2 := HU.out.2.2.2.2.2.2.2.2.2.2.1
    have hot := HU.out.2.2.2.2.2.2.2.2.2.2.2.1
    have hy2k := HU.out.2.2.2.2.2.2.2.2.2.2.2.2
    have hX : xsE (wit (wout es fr) tn y) = wit (wout (xsE es) fr) tn y.x := by rw [show xsE (wit (wout es fr) tn y) = mapV Fl.x (wit (wout es fr) tn y) from rfl, map_wit, map_wout]
    have hXf : fsE (wit (wout es fr) tn y) = wit (wout (fsE es) fr) tn y.d := by rw [show fsE (wit (wout es fr) tn y) = mapV Fl.d (wit (wout es fr) tn y) from rfl, map_wit, map_wout]
    have hsX := HU.out.1.good.1
    have hsF := HU.out.1.1.srt.map Fl.d
    have hm0 : (fr, y.x) ∈ xsE es := List.mem_map.2 ⟨_, find_some hy, rfl⟩
    have fo1 : ot = true → find es tn = some y2 := fun e => by
      rw [e] at hot
      obtain ⟨v, hv⟩ := Option.isSome_iff_exists.1 hot
      rw [hv, ← hy2]
      unfold oldF
      rw [hv]
      rfl
    have fo2 : ot = false → find es tn = none := fun e => by
      rw [e] at hot
      cases h0 : find es tn with
      | none => rfl
      | some v => rw [h0] at hot; cases hot
    have hu : undoX (.ren bd bt bo bw bf bm tn fr ot y2 y) 0 (xsE (wit (wout es fr) tn y)) = xsE es := by
      rw [hX]
      exact undo_ren_G _ _ hsX (by rw [show xsE es = mapV Fl.x es from rfl, find_map, hy]; rfl) (fun e => by rw [show xsE es = mapV Fl.x es from rfl, find_map, fo1 e]; rfl) (fun e => by rw [show xsE es = mapV Fl.x es from rfl, find_map, fo2 e]; rfl) bd bt bo bw bf bm 0
    refine HU.out.1.tail hN HC.out.1 T3 C3 (e := .ren bd bt bo bw bf bm tn fr ot y2 y) ⟨hu, fun t => ?exF⟩ (fun x hx => ?hrok) ?he (fun x hx hc => ?hcap) ?hgood trivial hu ?hused ((Below.refl _ w3).alloc (Nat.le_refl _) _) o7 gr7 at7 hl7
    case exF =>
      rw [hXf]
      exact undo_ren_G _ _ hsF (by rw [find_map, hy]; rfl) (fun e => by rw [find_map, fo1 e]; rfl) (fun e => by rw [find_map, fo2 e]; rfl) bd bt bo bw bf bm t
    case hrok =>
      rcases mem_wit.1 hx with rfl | ⟨hx, _⟩
      · exact hyk
      · exact HU.out.1.2.2.1.1 x (mem_wout.1 hx).1
    case he =>
      have hsz := HU.out.2.1.size
      refine ⟨⟨D3, .inr ⟨?_, D3.lt⟩⟩, ⟨N3, .inr ⟨HS.out.2, N3.lt⟩⟩, ⟨O3, .inr ⟨?_, O3.lt⟩⟩, ⟨by rw [show y2.v = .slice y2.A k2 y2.c by rw [← hkk2]; rfl]; exact W3, .inr ⟨?_, W3.lt⟩⟩, ⟨F3, .inr ⟨HS.out.1, F3.lt⟩⟩, ⟨by rw [show y.v = .slice y.A k y.c by rw [← hkk]; rfl]; exact M3, .inr ⟨?_, M3.lt⟩⟩, ht.2, hs.2, HU.out.1.lift HC.out.1 T3 hy2k, HU.out.1.lift HC.out.1 T3 hyk⟩
      · rw [← hbd]; exact Nat.le_refl _
      · have := HC.out.2.2.2.2.2.2.1.2.2.2.2; have := HC.out.2.2.2.2.2.2.2.1.2.1.size; omega
      · have := HC.out.2.2.2.2.2.2.1.2.2.2.1; have := HC.out.2.2.2.2.2.2.2.1.2.1.size; omega
      · have := HC.out.2.2.2.2.2.2.2.1.2.2; omega
    case hcap =>
      have aux : ∀ z y', find es z = some y' → ∀ x ∈ es, x.1 ≠ z → y'.A = x.2.A → y'.A ≠ none → False := fun z y' hz x hxm hne q1 q2 => by
        have hi := rok_own (HU.out.1.2.2.1.1 _ (find_some hz)) (HU.out.1.2.2.1.1 x hxm) q1 q2
        have := nodup_id HU.out.1.good.2.1 (x := (z, y'.x)) (y := (x.1, x.2.x)) (List.mem_map.2 ⟨_, find_some hz, rfl⟩) (List.mem_map.2 ⟨x, hxm, rfl⟩) hi
        exact hne (congrArg Prod.fst this).symm
      have y2c : ∀ x ∈ es, (x.1 = tn → x.2 = y) → x.2.A = y2.A → y2.A ≠ none → x.2.c ≠ x.2.d.length → y2.d.length ≤ x.2.d.length := fun x hxm hxt q1 q2 _ => by
        rcases Bool.eq_false_or_eq_true ot with e | e
        · by_cases hne : x.1 = tn
          · have h1 := find_mem HU.out.1.1.srt hxm
            rw [hne, fo1 e] at h1
            injection h1 with h1
            rw [h1]
            exact Nat.le_refl _
          · exact (aux tn y2 (fo1 e) x hxm hne q1.symm q2).elim
        · have h1 := oldF_nil es tn (fo2 e)
          rw [hy2] at h1
          rw [h1] at q2
          exact absurd rfl q2
      rcases mem_wit.1 hx with rfl | ⟨hxm, hne⟩
      · refine ⟨fun y' hy' q1 q2 => ?_, (fr, y), find_some hy, rfl, hc, Nat.le_refl _⟩
        simp [Un.caps] at hy'
        rcases hy' with rfl | rfl
        · rcases Bool.eq_false_or_eq_true ot with e | e
          · by_cases hft : fr = tn
            · have h1 := fo1 e
              rw [← hft, hy] at h1
              injection h1 with h1
              rw [h1]
              exact Nat.le_refl _
            · exact (aux tn y' (fo1 e) (fr, y) (find_some hy) hft q1 q2).elim
          · have h1 := oldF_nil es tn (fo2 e)
            rw [hy2] at h1
            rw [h1] at q2
            exact absurd rfl q2
        · exact Nat.le_refl _
      · obtain ⟨hxm, hnf⟩ := mem_wout.1 hxm
        refine ⟨fun y' hy' q1 q2 => ?_, x, hxm, rfl, hc, Nat.le_refl _⟩
        simp [Un.caps] at hy'
        rcases hy' with rfl | rfl
        · exact y2c x hxm (fun e => absurd e hne) q1.symm q2 hc
        · exact (aux fr y' hy x hxm hnf q1 q2).elim
    case hgood =>
      obtain ⟨g1, g2, g3, g4, g5, g6⟩ := HU.out.1.good
      rw [hX]
      refine ⟨(g1.wout _).wit _ _, nodup_wit (nodup_wout g2 fr) fun x hx hne he => (mem_wout.1 hx).2 (congrArg Prod.fst (nodup_id g2 (mem_wout.1 hx).1 hm0 he)), fun x hx => ?_, fun x hx => ?_, ?_, ?_⟩
      · rcases mem_wit.1 hx with rfl | ⟨hx, _⟩
        · have := g3 _ hm0
          simp only at this ⊢
          omega
        · have := g3 x (mem_wout.1 hx).1
          omega
      · rcases mem_wit.1 hx with rfl | ⟨hx, _⟩
        · exact ht
        · exact g4 x (mem_wout.1 hx).1
      · rw [show fsX (wit (wout (xsE es) fr) tn y.x) = wit (wout (fsX (xsE es)) fr) tn y.d by rw [show fsX (wit (wout (xsE es) fr) tn y.x) = mapV Prod.fst (wit (wout (xsE es) fr) tn y.x) from rfl, map_wit, map_wout]; rfl]
        have h2 := used_wit ((g1.map Prod.fst).wout fr) tn y.d
        have h3 := used_wout (g1.map Prod.fst) fr
        have h5 : used (mapV Prod.fst (xsE es)) ≤ 1073741824 := g5
        have h6 : ((find (mapV Prod.fst (xsE es)) fr).getD []).length = y.d.length := by rw [find_map, show xsE es = mapV Fl.x es from rfl, find_map, hy]; rfl
        rw [h6] at h3
        show used (wit (wout (mapV Prod.fst (xsE es)) fr) tn y.d) ≤ _
        omega
      · rw [wit, len_ins]
        have h1 : (wout (wout (xsE es) fr) tn).length ≤ (wout (xsE es) fr).length := List.length_filter_le _ _
        have h2 : (wout (xsE es) fr).length ≤ (xsE es).length := List.length_filter_le _ _
        omega
    case hused =>
      have h1 := HU.out.1.2.2.2.2.1.2.1.head
      have h2 := used_wit (hsF.wout fr) tn y.d
      have h3 := used_wout hsF fr
      have h6 : ((find (mapV Fl.d es) fr).getD []).length = y.d.length := by rw [find_map, hy]; rfl
      rw [h6] at h3
      rw [hXf]
      have h4 : used (mapV Fl.d es) = used (fsE es) := rfl
      have h5 : used (wit (wout (mapV Fl.d es) fr) tn y.d) = used (wit (wout (fsE es) fr) tn y.d) := rfl
      omega
  have HFIN := Lib.hid hfin
  have HR3 := Lib.hid (And.intro hr3 (And.intro C3 D3))
  clear hfin hr3 C3 T3 T4 D3 F3 N3 M3 W3 O3 h4 H4 p1 p2 p3
  obtain ⟨i0, hi0, hz0, hz1, hz2⟩ := info_parts info_undo
  have bV : Below w3.heap.size w3 (w3.alloc (.cells #[(Value.func (Fn.func 41) #[] #[pt bd, pt bt, pt bo, pt bw, pt bf, pt bm])] 76)) := (Below.refl _ w3).alloc (Nat.le_refl _) _
  have hrV := own_below HR3.out.1 bV (Nat.le_refl _)
  have CV := HR3.out.2.1.below bV
  have DV := HR3.out.2.2.same (bV.block bd HR3.out.2.2.lt)
  have q1 : w3.drew.cell? ⟨bd, 0, none⟩ = some (hd db) := (HR3.out.2.2.cell 0).trans rfl
  have q2 : w3.drew.cell? ⟨db, 3, none⟩ = some (.slice A n c) := (HR3.out.2.1.1.cell 3).trans rfl
  have q3 : (w3.alloc (.cells #[(Value.func (Fn.func 41) #[] #[pt bd, pt bt, pt bo, pt bw, pt bf, pt bm])] 76)).drew.cell? ⟨bd, 0, none⟩ = some (hd db) := (DV.cell 0).trans rfl
  have q4 : (w3.alloc (.cells #[(Value.func (Fn.func 41) #[] #[pt bd, pt bt, pt bo, pt bw, pt bf, pt bm])] 76)).drew.cell? ⟨db, 3, none⟩ = some (.slice A n c) := (CV.1.cell 3).trans rfl
  have HV := Lib.hid (And.intro hrV (And.intro CV DV))
  clear hrV CV DV bV
  go_wp2_with fail
  go_region_law (first
    | (refine step_append_lies _ (by rfl) _ _ _ (by rfl) 0 76 i0 _ 1 8 Try.underlying58 hi0 hz0 hz1 hz2 (by rfl) (by omega) (.slice A n c) n (r.reverse.map Un.v) (by rfl) HV.out.1 ⟨w3.heap.size, 0, none⟩ 1 1 [(Value.func (Fn.func 41) #[] #[pt bd, pt bt, pt bo, pt bw, pt bf, pt bm])] (by rfl) (by rfl) (World.news_of_block (heap_alloc_new w3 _)) (by simp [Value.oneCell']) (by omega) (by unfold maxLen; omega) (by omega) (Nat.zero_le _) (w3.heap.size + 1) (by simp) ?_; intro g7 cap7 w7 o7 gr6 at7 hl7; have gr7 : (w3.alloc (.cells #[(Value.func (Fn.func 41) #[] #[pt bd, pt bt, pt bo, pt bw, pt bf, pt bm])] 76)).grownBy w7 (Value.slice A n c).ownBlock := ⟨gr6.os, gr6.tape, gr6.output, gr6.size, gr6.block⟩; clear gr6; have r0 := (HV.out.2.1.1.kept gr7 (fun q => own_ne HV.out.1 HV.out.2.1.1 (by decide) q.symm)).cell 3; have r1 := (HV.out.2.1.1.kept gr7 (fun q => own_ne HV.out.1 HV.out.2.1.1 (by decide) q.symm)).frozen 3; have r2 := (HV.out.2.2.kept gr7 (fun q => own_ne HV.out.1 HV.out.2.2 (by decide) q.symm)).cell 0; simp only [List.getElem?_cons_zero, List.getElem?_cons_succ] at r0 r2))
  all_goals
    have HE := Lib.hid (HFIN.out g7 cap7 w7 o7 gr7 (at7.imp id fun q => by omega) hl7)
    clear o7 gr7 at7 hl7
    go_wp2_with fail
    go_ret
    exact ⟨rfl, HE⟩
end
end Disk
end Go.Proofs.Ytdcppjpjlhbanaa
