/-
 PullKeeps (P19.5): what is handed in stays, and isn't kept; what is told is new memory. For every input.
-/
import Derived.Test.YtkfdplfgaddkmaaGreatK38
import Derived.Test.YtkfdplfgaddkmaaGreatK34
import Derived.Test.YtkfdplfgaddkmaaGreatK35
namespace Go.Proofs.YtkfdplfgaddkmaaGreat
namespace PullKeeps
open Go.ChangeShapes Go.WideShapes Go.ChangeAt Go.RowKit Vers Num Ring Disk Blk Tree Mend Pull
open Go.Proofs.YtkfdplfgaddkmaaGreat.Code hiding Bn
attribute [local go_sem ↓] Go.wp_at_zero Go.wp_at_succ
theorem get_up (A : Option Addr) (c n : Nat) (b : List Rc) (hn : b.length = n) (hbig : n ≤ 140737488355328) (key : Nm) (V : World) (hr : Rs V 0 V.heap.size A b) :
  Calls Tryz.prog 38 #[.slice A n c, .string key] V (fun e w' => ∃ A m c, e = .returned (.slice A m c) ∧ Hid ((getF b key).length = m ∧ m ≤ 140737488355328 ∧ Vs V 0 V.heap.size A (getF b key)) ∧ V = w') := by
 refine (get_any A c n V.heap.size b hn key V (Nat.le_refl _) (rs_rb hr) hbig).mono ?_
 rintro e w' ⟨A, m, c, rfl, h, rfl⟩
 exact ⟨A, m, c, rfl, Lib.hid ⟨h.out.1, h.out.2.2.1, h.out.2.2.2⟩, rfl⟩
def Cells2 (U : World) (b off : Nat) (x y : Value) (X : World) : Prop := X.cell? ⟨b, off, none⟩ = some x ∧ X.cell? ⟨b, off + 1, none⟩ = some y ∧ Below U.heap.size U X ∧ b < U.heap.size
theorem cells2_below {U X Y : World} {b off : Nat} {x y : Value} (hb : Below X.heap.size X Y) (h : Cells2 U b off x y X) : Cells2 U b off x y Y := by
 obtain ⟨h1, h2, h3, h4⟩ := h
 have hs := h3.size
 exact ⟨(hb.cell (p := ⟨b, off, none⟩) (by show b < _; omega)).trans h1, (hb.cell (p := ⟨b, off + 1, none⟩) (by show b < _; omega)).trans h2, h3.trans (hb.mono hs), h4⟩
def Copies (B : Nat) (l : List Rc) (n : Nat) (w V : World) (v q : Value) (wr : World) : Prop :=
 ∃ (i : Nat) (A1 : Option Addr) (c1 : Nat), q = .int .i64 i ∧ i ≤ n ∧ v = .slice A1 i c1 ∧ Hid (∃ ps : List Pr, ps.map Prod.fst = l.take i ∧ ps.length = i ∧ RowR B wr.heap.size wr (.slice A1 i c1) ps ∧ Below B V wr ∧ Below w.heap.size w wr)
def Rnd (Fc : Nat → Prop) (w : World) (cb pb : Nat) (cut own : List Rc) (q : Value) (wr : World) : Prop :=
 ∃ i : Nat, q = .int .i64 i ∧ i ≤ 299 ∧ ∃ Fp T W st, Hid (PP Fc Fp w wr cb 1 [3, 4] cut pb 1 own true [3, 4] W st ∧ Tl own cut T W st ∧ i + work W ≤ 299)
theorem info_intP : (Tryz.prog.info? 3).map (fun i => (i.zero, i.size, i.bytes)) = some (some (.int .i64 0), 1, 8) := by kernel_rfl
set_option maxRecDepth 100000 in
set_option maxHeartbeats 16000000 in
theorem walk (w : World) (A : Option Addr) (c : Nat) (own : List Rc) (ha : Rs w 0 w.heap.size A own) (hb : own.length * 40 ≤ 140737488351232) (_hc : own.length ≤ c) (A' : Option Addr) (c' : Nat) (cut : List Rc) (ha' : Rs w 0 w.heap.size A' cut) (hb' : cut.length * 40 ≤ 140737488351232) (_hc' : cut.length ≤ c') (hz : ∀ r ∈ cut, SzR r) :
  Calls Tryz.prog 9 #[.slice A own.length c, .slice A' cut.length c'] w fun e w' => e = .returned (.bool true) ∧ Below w.heap.size w w' := by
 obtain ⟨i0, hi0, hz0, hz1, hz2⟩ := info_parts info_rec'
 obtain ⟨j0, hj0, hy0, hy1, hy2⟩ := info_parts info_intP
 obtain ⟨n, hn⟩ : ∃ n, own.length = n := ⟨_, rfl⟩
 obtain ⟨n', hn'⟩ : ∃ n, cut.length = n := ⟨_, rfl⟩
 rw [hn] at hb ⊢
 rw [hn'] at hb' ⊢
 have HP : Hid ((∀ W, Below w.heap.size w W → Rs W 0 W.heap.size A own) ∧ (∀ W, Below w.heap.size w W → Rs W 0 W.heap.size A' cut) ∧ own.length = n ∧ cut.length = n' ∧ (∀ r ∈ cut, SzR r) ∧ ∀ r ∈ cut, r.1.size ≤ 140737488355328 ∧ r.2.length ≤ 140737488355328) := Lib.hid ⟨fun W h => (ha.below h).more h.size, fun W h => (ha'.below h).more h.size, hn, hn', hz, rs_size ha'⟩
 have HIJ := Lib.hid (And.intro (And.intro hi0 (And.intro hz0 (And.intro hz1 hz2))) (And.intro hj0 (And.intro hy0 (And.intro hy1 hy2))))
 have H0 := Lib.hid (awake_any w)
 clear ha ha' hn hn' hz hi0 hz0 hz1 hz2 hj0 hy0 hy1 hy2
 go_enter Tryz.func9, Tryz.ntmps9
 go_wp2_with fail
 refine H0.out.mono ?_
 rintro e1 w1 ⟨rfl, b1⟩
 have B1 := Lib.hid b1
 clear b1 H0
 go_wp2_with fail
 go_loopw [5, 6] (fun v q wr => Copies w1.heap.size cut n' w w1 v q wr) (fun _ q _ => n' - (intOf q).toNat)
 case atStart => exact ⟨0, none, 0, rfl, by omega, rfl, Lib.hid ⟨[], by simp, rfl, rowR_nil _ _ _, Below.refl _ _, B1.out⟩⟩
 case round =>
  obtain ⟨i, A1, c1, rfl, hi, rfl, hst⟩ := hrel
  obtain ⟨ps, hst⟩ := hst.out
  have hst := Lib.hid hst
  by_cases hlt : i < n'
  ·have d3 : (0 : Int) ≤ (i : Int) := by omega
   have d4 : (i : Int) < (n' : Int) := by omega
   obtain ⟨pb, off, A4, c4, rfl, _, hbB, k0, k1, k2, k3⟩ := (rs_rb (HP.out.2.1 _ B1.out)).at HP.out.2.2.2.1 (Nat.le_refl _) hst.out.2.2.2.1 hlt rfl
   have hia : i < cut.length := by rw [HP.out.2.2.2.1]; exact hlt
   obtain ⟨r, hrr⟩ : ∃ r, cut.getD i r0 = r := ⟨_, rfl⟩
   have hmem := getD_mem hia
   have hT := Mend.take_at hia
   rw [hrr] at k0 k1 k2 k3 hmem hT
   have hzr := HP.out.2.2.2.2.1 _ hmem
   obtain ⟨key, lv⟩ := r
   simp only at k0 k1 k2 k3
   obtain ⟨ml, hml⟩ : ∃ ml, lv.length = ml := ⟨_, rfl⟩
   rw [hml] at k1 k3
   have hsz := hst.out.2.2.2.1.size
   have HO := Lib.hid (Own.own_any key A4 c4 ml lv hml (by have := hzr.1; simp only at this; omega) hzr.2 wr (k2.more hsz))
   have HK := Lib.hid (And.intro hT hml)
   clear k2 k3 hia hrr hmem hzr hT hml
   go_wp2_with fail
   refine HO.out.mono ?_
   rintro e2 w2 ⟨A5, c5, pv, rfl, h5, b5⟩
   have hro := hst.out.2.2.1.1
   rw [hst.out.2.1] at hro
   have hro := own_below hro b5 (Nat.le_refl _)
   have hl2 : (i + 1) * 40 ≤ 140737488355328 := by omega
   have hsz3 : w1.heap.size ≤ w2.heap.size := Nat.le_trans hsz b5.size
   have hlm : pv.length = ml := by rw [← HK.out.2, ← h5.out.1, List.length_map]
   have hsw := hst.out.2.2.2.2.size
   have HR2 := Lib.hid (And.intro hst.out.2.2.1 (And.intro h5.out (And.intro hlm (And.intro b5 (And.intro (hst.out.2.2.2.1.trans (b5.mono hsz)) (hst.out.2.2.2.2.trans (b5.mono hsw)))))))
   clear h5 b5 hlm k0 k1 HO
   have hml := HK.out.2
   obtain ⟨hi0, hz0, hz1, hz2⟩ := HIJ.out.1
   go_wp2_with (at_builtin; refine wpList_append_r _ rfl (.tmp 33) (.tmp 39) 23 rfl w1.heap.size 70 i0 _ 40 Tryz.underlying23 hi0 hz0 hz1 hz2 rfl _ i ps rfl hro ((key, lv), A5, c5) ml hml 1 rfl hl2 (by omega) hsz3 ?_; intro v4 w4 o4 g4 at4; obtain ⟨A6, c6, rfl⟩ := own_form o4)
   have HF : Hid (∃ ps : List Pr, ps.map Prod.fst = cut.take (i + 1) ∧ ps.length = i + 1 ∧ RowR w1.heap.size w4.heap.size w4 (.slice A6 (i + 1) c6) ps ∧ Below w1.heap.size w1 w4 ∧ Below w.heap.size w w4) := Lib.hid ⟨ps ++ [((key, lv), A5, c5)], by
    rw [List.map_append, hst.out.1, HK.out.1]
    rfl, by simp [hst.out.2.1], HR2.out.1.add (fun k _ hk => HR2.out.2.2.2.1.block k hk) HR2.out.2.2.2.1.size ⟨by
     have h9 := HR2.out.2.1.2.1
     rw [HR2.out.2.2.1] at h9
     simp only [hml]
     exact (own_low h9).1, pv, HR2.out.2.1.1, by simp only [hml]; exact HR2.out.2.1.2⟩ hsz (by rw [hst.out.2.1]; exact o4) g4 at4, HR2.out.2.2.2.2.1.grown g4 hsz3 (fun j hj => (hro.lt j hj).1), HR2.out.2.2.2.2.2.grown g4 (Nat.le_trans B1.out.size hsz3) (fun j hj => Nat.le_trans B1.out.size (hro.lt j hj).1)⟩
   clear o4 g4 at4 hro HR2 HK hst hi0 hz0 hz1 hz2
   go_roundw
   case rel => exact ⟨i + 1, A6, c6, by go_num, by omega, rfl, HF⟩
   case measure => simp only [intOf]; omega
  ·have hkm : i = n' := by omega
   subst hkm
   have hfull : cut.take i = cut := List.take_of_length_le (by have := HP.out.2.2.2.1; omega)
   have HM : Hid (ps.map Prod.fst = cut ∧ ps.length = i ∧ RowR w1.heap.size wr.heap.size wr (.slice A1 i c1) ps) := Lib.hid ⟨by rw [hst.out.1, hfull], hst.out.2.1, hst.out.2.2.1⟩
   have hbw := hst.out.2.2.2.2
   have hs1 := hst.out.2.2.2.1.size
   have hsw := B1.out.size
   obtain ⟨U, hU⟩ : ∃ U, wr.alloc (.cells #[.int .i64 3, .int .i64 4] 2) = U := ⟨_, rfl⟩
   have bU1 : Below wr.heap.size wr U := by rw [← hU]; exact (Below.refl _ wr).alloc (Nat.le_refl _) _
   have bU : Below w.heap.size w U := hbw.trans (bU1.mono hbw.size)
   have nU : Ns .i64 U U.heap.size (some ⟨wr.heap.size, 0, none⟩) [3, 4] := by rw [← hU]; exact ns_two wr 3 4
   have vU : Bn wr.heap.size 2 [.int .i64 3, .int .i64 4] U := by rw [← hU]; exact heap_alloc_new wr _
   have hUs : U.heap.size = wr.heap.size + 1 := by rw [← hU]; simp
   obtain ⟨vb, hvb⟩ : ∃ vb, wr.heap.size = vb := ⟨_, rfl⟩
   have hrm : Rs U 0 U.heap.size A1 cut := by
    have h := (HM.out.2.2.rs (Nat.le_refl _) fun p hp => HP.out.2.2.2.2.2 p.1 (by rw [← HM.out.1]; exact List.mem_map_of_mem hp)).less (Nat.zero_le w1.heap.size)
    rw [HM.out.1] at h
    exact (h.below bU1).more bU1.size
   have rU : RowR w1.heap.size wr.heap.size U (.slice A1 i c1) ps := HM.out.2.2.keep fun k _ hk => bU1.block k hk
   rw [hvb] at nU vU hUs hs1 rU
   have K1 := Lib.hid (newcut_any bU 1 (some ⟨vb, 0, none⟩) A1 2 2 i c1 [3, 4] cut rfl HP.out.2.2.2.1 (by omega) (by omega) nU hrm)
   have HU := Lib.hid (And.intro bU (And.intro vU (And.intro hUs (And.intro hs1 (And.intro rU (And.intro HM.out.1 HM.out.2.1))))))
   clear bU1 bU nU vU hUs hrm hbw hst hfull HM rU
   go_wp2_with fail
   clear hU hvb hs1
   refine K1.out.mono ?_
   rintro e2 w2 (⟨_, hokc, cb, rfl, h2, b2⟩ | ⟨hnoc, rfl, b2⟩)
   ·have bw2 : Below w.heap.size w w2 := HU.out.1.trans (b2.mono HU.out.1.size)
    have K2 := Lib.hid (newpull_any bw2 1 A n c own HP.out.2.2.1 (by omega) (HP.out.1 w2 bw2))
    have H2 := Lib.hid (And.intro h2.out (And.intro b2 (And.intro bw2 hokc)))
    clear h2 b2 bw2 hokc K1
    unfold hd
    go_wp2_with fail
    refine K2.out.mono ?_
    rintro e3 w3 (⟨hoko, pb, rfl, h3, b3⟩ | ⟨hnoo, rfl, b3⟩)
    ·obtain ⟨Fc, hcn, hcF⟩ := H2.out.1
     obtain ⟨Fp, hpj, hpn⟩ := h3.out
     have hU2 := H2.out.2.1.size
     have p3 := pp_made hcn b3 hpj hpn
     have b3U : Below U.heap.size U w3 := H2.out.2.1.trans (b3.mono hU2)
     have v3 : Bn vb 2 [.int .i64 3, .int .i64 4] w3 := HU.out.2.1.same (b3U.block _ HU.out.2.1.lt)
     have r3 : RowR w1.heap.size vb w3 (.slice A1 i c1) ps := HU.out.2.2.2.2.1.keep fun k _ hk => b3U.block k (by have := HU.out.2.2.1; omega)
     have hUF : ∀ k, Un Fc Fp k → vb < k := fun k hk => by
      have := HU.out.2.2.1
      rcases hk with q | q
      ·have := hcF k q; omega
      ·have := hpn k q; omega
     have hvw : w.heap.size ≤ vb := by have := HU.out.2.2.2.1; omega
     have x0 := v3.cell 0
     have xf := v3.frozen 0
     simp only [List.getElem?_cons_zero] at x0
     obtain ⟨X1, hX1⟩ : ∃ X, w3.setCell ⟨vb, 0, none⟩ (.int .i64 (-1)) = X := ⟨_, rfl⟩
     have p1 := p3.set vb 0 (.int .i64 (-1)) (fun k hk => by have := hUF k hk; omega) hvw
     have c1' := chg_set w3 vb 0 (.int .i64 (-1))
     rw [hX1] at p1 c1'
     have r1 : RowR w1.heap.size vb X1 (.slice A1 i c1) ps := r3.keep fun k _ hk => c1'.block k (by have := v3.lt; omega) (by omega)
     have s1 := soil_row r1 HU.out.2.2.2.2.2.2 fun p hp => (HP.out.2.2.2.2.2 p.1 (by rw [← HU.out.2.2.2.2.2.1]; exact List.mem_map_of_mem hp)).2
     have K3 := Lib.hid (spoil_any (c := c1) (by omega) s1)
     have H3 := Lib.hid (And.intro p1 (And.intro hUF (And.intro hvw H2.out.2.2.2)))
     clear p3 b3U v3 r3 hUF p1 c1' r1 s1 hcn hcF hpj hpn h3 b3 hU2 K2 H2
     unfold hd
     go_wp2_with fail
     clear x0 xf hX1
     refine K3.out.mono ?_
     rintro e4 w4 ⟨rfl, h4⟩
     have p4 := H3.out.1.spo h4 (fun k hk => .inr (Nat.le_of_lt (H3.out.2.1 k hk))) (by have := B1.out.size; exact this)
     have K4 := Lib.hid p4.cvec
     have H4 := Lib.hid (And.intro p4 H3.out.2)
     unfold hd at K4
     clear p4 h4 K3 H3
     go_wp2_with fail
     refine K4.out.mono ?_
     rintro e5 w5 ⟨A5, c5, n5, rfl, h5, b5⟩
     obtain rfl : 2 = n5 := h5.out.1
     obtain ⟨gv, rfl, hg1, hg2, ⟨zv, hzv⟩, hfv⟩ := own_store h5.out.2.2.2 (show 1 < 2 by omega)
     have p5 := H4.out.1.below b5
     obtain ⟨X5, hX5⟩ : ∃ X, w5.setCell ⟨gv, 1, none⟩ (.int .i64 (-1)) = X := ⟨_, rfl⟩
     have q5 := p5.set gv 1 (.int .i64 (-1)) (fun k hk e => by have := H4.out.1.lt hk; omega) (by have := H4.out.1.cut.old.size; omega)
     rw [hX5] at q5
     have K5 := Lib.hid q5.open_own
     have H5 := Lib.hid (And.intro q5 H4.out.2)
     unfold hd at K5
     clear h5 b5 p5 q5 hg1 hg2 K4 H4
     go_wp2_with fail
     clear hzv hfv hX5
     refine K5.out.mono ?_
     rintro e6 w6 ⟨gh, rfl, h6⟩
     have K6 := Lib.hid h6.out.2.2.1.cvec
     have H6 := Lib.hid (And.intro h6.out (And.intro (fun k hk => H5.out.1.lt hk : ∀ k, Un Fc Fp k → k < X5.heap.size) (And.intro H5.out.1.cut.old.size H5.out.2)))
     unfold hd at K6
     clear h6 K5 H5
     go_wp2_with fail
     refine K6.out.mono ?_
     rintro e7 w7 ⟨A7, c7, n7, rfl, h7, b7⟩
     obtain rfl : 2 = n7 := h7.out.1
     have p7 := H6.out.1.2.2.1.below b7
     have v7 := H6.out.1.2.1.same (b7.block _ H6.out.1.2.1.lt)
     have hx := H6.out.1.1
     have s7 : Sta (Un Fc Fp) w7 (fun X => Ns .u64 X X.heap.size (some ⟨gh, 0, none⟩) (kidsF (layF cut) [])) := sta_high (bn_ns v7) (fun a _ ha => by injection ha with ha; subst ha; exact hx) H6.out.2.1
     have K7 := Lib.hid (p7.pull.begin_yes (by simp) A7 (some ⟨gh, 0, none⟩) c7 16 2 16 [3, 4] (kidsF (layF cut) []) rfl (kids_root_len _) (by decide) (h7.out.2.2.1.less fun k hk => .inr hk) (s7.less fun k hk => .inr hk))
     have H7 := Lib.hid (And.intro p7 (And.intro v7 (And.intro (fun k hk e => by have := H6.out.2.1 k hk; omega : ∀ k, Un Fc Fp k → k ≠ gh) (And.intro (Nat.le_trans H6.out.2.2.1 hx) H6.out.2.2.2))))
     unfold hd at K7
     clear h7 b7 p7 v7 hx s7 K6 H6
     go_wp2_with fail
     refine K7.out.mono ?_
     rintro e8 w8 ⟨rfl, F8, h8⟩
     have HI8 : Hid (PP Fc F8 w w8 cb 1 [3, 4] (layF cut) pb 1 (layF own) true [3, 4] (wantF (layF own) [] (kidsF (layF cut) [])) [] ∧ ∃ zs : List Int, zs.length = 16 ∧ Bn gh 78 (nums .u64 zs) w8) := Lib.hid ⟨(H7.out.1.step h8.out.1 h8.out.2).1, _, kids_root_len (layF cut), H7.out.2.1.same (h8.out.2.1.block gh H7.out.2.1.lt fun e => H7.out.2.2.1 gh (.inr e) rfl)⟩
     have HG : Hid ((∀ k, Un Fc F8 k → k ≠ gh) ∧ w.heap.size ≤ gh) := Lib.hid ⟨fun k hk => by
      rcases hk with q | q
      ·exact H7.out.2.2.1 k (.inl q)
      ·rcases h8.out.2.2 k q with q | q
       ·exact H7.out.2.2.1 k (.inr q)
       ·have := H7.out.2.1.lt; omega, H7.out.2.2.2.1⟩
     have HOK := Lib.hid H7.out.2.2.2.2.2.2
     clear h8 K7 H7
     go_wp2_with fail
     go_loopw [14] (fun q wr => ∃ i : Nat, q = .int .i64 i ∧ i ≤ 16 ∧ Hid (PP Fc F8 w wr cb 1 [3, 4] (layF cut) pb 1 (layF own) true [3, 4] (wantF (layF own) [] (kidsF (layF cut) [])) [] ∧ ∃ zs : List Int, zs.length = 16 ∧ Bn gh 78 (nums .u64 zs) wr)) (fun q _ => 16 - (intOf q).toNat)
     case atStart => exact ⟨0, rfl, by omega, HI8⟩
     case round =>
      clear HI8
      obtain ⟨j, rfl, hj, hst⟩ := hrel
      by_cases hlt : j < 16
      ·have f1 : (0 : Int) ≤ (j : Int) := by omega
       have f2 : (j : Int) < 16 := by omega
       obtain ⟨hpp, zs, hzl, hbn⟩ := hst.out
       have z0 := hbn.cell j
       have zf := hbn.frozen j
       rw [List.getElem?_eq_getElem (show j < (nums .u64 zs).length by rw [nums_length]; omega)] at z0
       obtain ⟨zz, hzz⟩ : ∃ z, (nums .u64 zs)[j]'(by rw [nums_length]; omega) = z := ⟨_, rfl⟩
       rw [hzz] at z0
       have HN : Hid (PP Fc F8 w (wr.setCell ⟨gh, j, none⟩ (.int .u64 1)) cb 1 [3, 4] (layF cut) pb 1 (layF own) true [3, 4] (wantF (layF own) [] (kidsF (layF cut) [])) [] ∧ ∃ zs : List Int, zs.length = 16 ∧ Bn gh 78 (nums .u64 zs) (wr.setCell ⟨gh, j, none⟩ (.int .u64 1))) := Lib.hid ⟨hpp.set gh j _ HG.out.1 HG.out.2, zs.set j 1, by simpa using hzl, by
        have h := hbn.set j (.int .u64 1)
        rwa [show (nums .u64 zs).set j (.int .u64 1) = nums .u64 (zs.set j 1) by simp [nums, List.map_set]] at h⟩
       clear hpp hzl hbn hzz hst
       go_wp2_with fail
       go_roundw
       case rel => exact ⟨j + 1, by go_num, by omega, HN⟩
       case measure => simp only [intOf]; omega
      ·have hjn : ¬ (j : Int) < 16 := by omega
       have HI9 : Hid (Rnd Fc w cb pb (layF cut) (layF own) (.int .i64 0) wr) := Lib.hid ⟨0, rfl, by omega, F8, _, _, _, Lib.hid ⟨hst.out.1, Tl.start _ _, by have := work_start (layF own) (layF cut); omega⟩⟩
       clear hst HG
       go_wp2_with fail
       go_loopw [15] (fun q wr => Rnd Fc w cb pb (layF cut) (layF own) q wr) (fun q _ => 300 - (intOf q).toNat)
       case atStart => exact HI9.out
       case round =>
        clear HI9
        obtain ⟨k, rfl, hk, Fp1, T1, W1, st1, hst⟩ := hrel
        have g1 : (k : Int) < 300 := by omega
        have K1 := Lib.hid (PJ.wants_any hst.out.1.pull (tl_ok hst.out.2.1))
        have hN := hst.out.1.cut.few
        unfold hd at K1
        by_cases hW : W1 = []
        ·subst hW
         go_wp2_with fail
         refine K1.out.mono ?_
         rintro e9 w9 ⟨A9, m9, c9, es, rfl, h9, b9⟩
         obtain rfl : 0 = m9 := h9.out.2.1
         have p9 := hst.out.1.below b9
         have hsl := hst.out.2.1.stlen
         have Ks := Lib.hid (p9.pull.staged_any (by omega))
         have H9 := Lib.hid (And.intro p9 hst.out.2.1)
         unfold hd at Ks
         clear h9 b9 p9 K1 hst
         go_wp2_with fail
         refine Ks.out.mono ?_
         rintro e10 w10 ⟨A10, n10, c10, ps10, rfl, h10, b10⟩
         obtain ⟨q1, q2, q3, q4⟩ := h10.out
         have hn10 : n10 ≤ 140737488355328 := by omega
         have hp10 : ps10.length = n10 := by rw [q2, ← q1, List.length_map]
         have Kp := Lib.hid (spoil_any (c := c10) hn10 (soil_got q4 hp10))
         have H10 := Lib.hid (And.intro (H9.out.1.below b10) (fun k hk => H9.out.1.lt hk : ∀ k, Un Fc Fp1 k → k < w9.heap.size))
         clear q1 q2 q3 q4 h10 b10 Ks hn10 hp10
         go_wp2_with fail
         refine Kp.out.mono ?_
         rintro e11 w11 ⟨rfl, h11⟩
         have p11 := H10.out.1.spo h11 (fun k hk => .inl (H10.out.2 k hk)) H9.out.1.cut.old.size
         have Ks := Lib.hid (p11.pull.staged_any (by omega))
         have H11 := Lib.hid p11
         unfold hd at Ks
         clear h11 p11 Kp H10
         go_wp2_with fail
         refine Ks.out.mono ?_
         rintro e12 w12 ⟨Ai, ni, ci, pss, rfl, hs, bs⟩
         obtain ⟨q1, q2, q3, q4⟩ := hs.out
         have hri : Rs w12 0 w12.heap.size Ai st1 := by
          have h := q4.rs.less (Nat.zero_le _)
          rwa [q1] at h
         have p12 := H11.out.below bs
         have Kh := Lib.hid (held_up A' c' i cut HP.out.2.2.2.1 (by omega) w12 (HP.out.2.1 w12 p12.cut.old))
         have H12 := Lib.hid (And.intro p12 (And.intro hri q2.symm))
         have hni : ni ≤ 3518437208882 := by omega
         clear q1 q2 q3 q4 hri hs bs p12 Ks H11
         go_wp2_with fail
         refine Kh.out.mono ?_
         rintro e13 w13 (⟨_, Ab, nb, cb', rfl, h13, b13⟩ | ⟨hno, _, _⟩)
         rotate_left
         ·exact absurd HOK.out hno
         have HT : Hid (∀ r ∈ st1, getF (heldF cut) r.1 = r.2) := Lib.hid fun r hr => H9.out.2.theirs hr
         have HR : Hid (PP Fc Fp1 w w13 cb 1 [3, 4] (layF cut) pb 1 (layF own) true [3, 4] [] st1 ∧ Rs w13 0 w13.heap.size Ab (heldF cut) ∧ Rs w13 0 w13.heap.size Ai st1 ∧ st1.length = ni ∧ (heldF cut).length = nb) := Lib.hid ⟨H12.out.1.below b13, h13.out.2.2.2, (H12.out.2.1.below b13).more b13.size, H12.out.2.2, h13.out.1⟩
         have hnb : nb ≤ 3518437208780 := by have := h13.out.2.2.1; omega
         clear h13 b13 Kh H12 H9
         obtain ⟨b, hbb⟩ : ∃ b, heldF cut = b := ⟨_, rfl⟩
         rw [hbb] at HR HT
         clear hbb
         obtain ⟨Wb, hWb⟩ : ∃ X, X = w13 := ⟨_, rfl⟩
         subst hWb
         go_wp2_with fail
         go_loopw [24] (fun q wq => ∃ j : Nat, q = .int .i64 j ∧ j ≤ ni ∧ Hid (Below Wb.heap.size Wb wq)) (fun q _ => ni - (intOf q).toNat)
         case atStart => exact ⟨0, rfl, by omega, Lib.hid (Below.refl _ _)⟩
         case round =>
          obtain ⟨j, rfl, hj, hst⟩ := hrel
          by_cases hlj : j < ni
          ·have f1 : (0 : Int) ≤ (j : Int) := by omega
           have f2 : (j : Int) < (ni : Int) := by omega
           obtain ⟨gi, oi, A4, c4, rfl, _, hgi, k0, k1, k2, k3⟩ := HR.out.2.2.1.at HR.out.2.2.2.1 hst.out hlj rfl
           obtain ⟨r, hrr⟩ : ∃ r, st1.getD j r0 = r := ⟨_, rfl⟩
           have hmem : r ∈ st1 := by rw [← hrr]; exact getD_mem (by have := HR.out.2.2.2.1; omega)
           rw [hrr] at k0 k1 k2 k3
           obtain ⟨key, lv⟩ := r
           simp only at k0 k1 k2 k3
           have hgl : getF b key = lv := HT.out _ hmem
           obtain ⟨ml, hml⟩ : ∃ ml, lv.length = ml := ⟨_, rfl⟩
           rw [hml] at k1 k3
           have hs := hst.out.size
           have hgwr : gi < wr.heap.size := by omega
           have hC1 : ∀ X, Cells2 wr gi (oi + j * 2) (.string key) (.slice A4 ml c4) X → Calls Tryz.prog 38 #[.slice Ab nb cb', .string key] X (fun e w' => ∃ A m c, e = .returned (.slice A m c) ∧ Hid ((getF b key).length = m ∧ m ≤ 140737488355328 ∧ Vs X 0 X.heap.size A (getF b key)) ∧ X = w') := fun X hX => get_up Ab cb' nb b HR.out.2.2.2.2 (by omega) key X ((HR.out.2.1.below (hst.out.trans (hX.2.2.1.mono hs))).more (Nat.le_trans hs hX.2.2.1.size))
           have hC2 : ∀ X A m c, Cells2 wr gi (oi + j * 2) (.string key) (.slice A4 ml c4) X → Hid ((getF b key).length = m ∧ m ≤ 140737488355328 ∧ Vs X 0 X.heap.size A (getF b key)) → Calls Tryz.prog 39 #[.slice A m c, .slice A4 ml c4] X (fun e w' => e = .returned (.bool true) ∧ Below X.heap.size X w') := fun X A m c hX hh => by
            have h := ref_sameV_any A A4 c c4 m ml (getF b key) lv hh.out.1 hml X hh.out.2.2 (((k2.more hs).below hX.2.2.1).more hX.2.2.1.size) hh.out.2.1 k3.2.1
            rwa [decide_eq_true hgl] at h
           have HC := Lib.hid (And.intro hC1 hC2)
           have HS : Hid (Cells2 wr gi (oi + j * 2) (.string key) (.slice A4 ml c4) wr.drew) := Lib.hid ⟨k0, k1, (Below.refl _ _).drew, hgwr⟩
           have HN0 := Lib.hid hst.out
           clear hgl hml k2 k3 hrr hmem hs hC1 hC2 hst k0 k1
           go_wp2_with fail
           go_region_held3 (fun X => X.cell? ⟨gi, oi + j * 2, none⟩ = some (.string key) ∧ X.cell? ⟨gi, oi + j * 2 + 1, none⟩ = some (.slice A4 ml c4) ∧ Below wr.heap.size wr X ∧ gi < wr.heap.size)
            (first
             | exact HS.out
             | assumption
             | exact cells2_below (by assumption) (by assumption))
            (first
             | (go_at_call 38; refine (HC.out.1 _ (by assumption)).mono ?_; rintro e17 w17 ⟨A17, m17, c17, rfl, h17, hw17⟩; obtain rfl := hw17)
             | (go_at_call 39; refine (HC.out.2 _ _ _ _ (by assumption) h17).mono ?_; rintro e18 w18 ⟨rfl, b18⟩))
           all_goals
            have HN := Lib.hid (HN0.out.trans (((show Below wr.heap.size wr w18 from ((Below.refl _ wr).drew).trans b18)).mono HN0.out.size))
            clear b18
            go_wp2_with fail
            go_roundw
            case rel => exact ⟨j + 1, by go_num, by omega, HN⟩
            case measure => simp only [intOf]; omega
          ·have hjn : j = ni := by omega
           subst hjn
           have p14 := HR.out.1.below hst.out
           have Kd := Lib.hid p14.pull.done_any
           have H14 := Lib.hid p14
           rw [show ((true && decide (([] : List (List Int)) = [])) = true) from rfl] at Kd
           unfold hd at Kd
           clear hst p14
           go_wp2_with fail
           refine Kd.out.mono ?_
           rintro e15 w15 ⟨rfl, hw15⟩
           obtain rfl := hw15.symm
           have Kv := Lib.hid H14.out.cvec
           unfold hd at Kv
           clear Kd
           go_wp2_with fail
           refine Kv.out.mono ?_
           rintro e16 w16 ⟨A16, c16, n16, rfl, h16, b16⟩
           obtain rfl : 2 = n16 := h16.out.1
           have n16' : Ns .i64 w16 w16.heap.size A16 [3, 4] := own_ns (zs := [3, 4]) h16.out.2.2.2
           obtain ⟨U6, hU6⟩ : ∃ U, w16.alloc (.cells #[.int .i64 3, .int .i64 4] 2) = U := ⟨_, rfl⟩
           have bU6 : Below w16.heap.size w16 U6 := by rw [← hU6]; exact (Below.refl _ w16).alloc (Nat.le_refl _) _
           have nU6 : Ns .i64 U6 U6.heap.size (some ⟨w16.heap.size, 0, none⟩) [3, 4] := by rw [← hU6]; exact ns_two w16 3 4
           have Kw := Code.svec_any A16 (some ⟨w16.heap.size, 0, none⟩) c16 2 2 2 [3, 4] [3, 4] rfl rfl U6 ((n16'.below bU6).more bU6.size) nU6 (by omega) (by omega)
           rw [decide_eq_true rfl] at Kw
           have Kw := Lib.hid Kw
           have H16 := Lib.hid ((H14.out.below b16).below bU6)
           clear h16 b16 n16' bU6 nU6 Kv H14
           go_wp2_with fail
           clear hU6
           refine Kw.out.mono ?_
           rintro e17 w17 ⟨rfl, b17⟩
           have p17 := H16.out.below b17
           have Kv := Lib.hid p17.pull.vec_any
           have H17 := Lib.hid p17.cut.old
           unfold hd at Kv
           clear b17 p17 Kw H16
           go_wp2_with fail
           refine Kv.out.mono ?_
           rintro e18 w18 ⟨A18, c18, n18, rfl, h18, b18⟩
           obtain rfl : 2 = n18 := h18.out.1
           have n18' : Ns .i64 w18 w18.heap.size A18 [3, 4] := own_ns (zs := [3, 4]) h18.out.2.2
           obtain ⟨U8, hU8⟩ : ∃ U, w18.alloc (.cells #[.int .i64 3, .int .i64 4] 2) = U := ⟨_, rfl⟩
           have bU8 : Below w18.heap.size w18 U8 := by rw [← hU8]; exact (Below.refl _ w18).alloc (Nat.le_refl _) _
           have nU8 : Ns .i64 U8 U8.heap.size (some ⟨w18.heap.size, 0, none⟩) [3, 4] := by rw [← hU8]; exact ns_two w18 3 4
           have Kw := Code.svec_any A18 (some ⟨w18.heap.size, 0, none⟩) c18 2 2 2 [3, 4] [3, 4] rfl rfl U8 ((n18'.below bU8).more bU8.size) nU8 (by omega) (by omega)
           rw [decide_eq_true rfl] at Kw
           have Kw := Lib.hid Kw
           have h8 := b18.trans (bU8.mono b18.size)
           have H18 := Lib.hid (H17.out.trans (h8.mono H17.out.size))
           clear h18 b18 n18' bU8 nU8 h8 Kv H17
           go_wp2_with fail
           clear hU8
           refine Kw.out.mono ?_
           rintro e19 w19 ⟨rfl, b19⟩
           have HF := Lib.hid (H18.out.trans (b19.mono H18.out.size))
           clear b19 Kw
           go_wp2_with fail
           go_ret
           exact ⟨rfl, HF.out⟩
        ·go_wp2_with fail
         refine K1.out.mono ?_
         rintro e9 w9 ⟨A9, m9, c9, es, rfl, h9, b9⟩
         have hm0 : 0 < m9 := by
          rw [← h9.out.2.1]
          exact List.length_pos_iff.2 hW
         have hm9 : m9 ≤ 299 := by
          have h2 := work_len W1
          have h3 := hst.out.2.2
          rw [h9.out.2.1] at h2
          omega
         have e1 : ((m9 : Int) == 0) = false := by simp; omega
         have e2 : (0 : Int) < (m9 : Int) := by omega
         obtain ⟨g, Aj, cj, rfl, hbg, hgl, hg, hcj, hrow⟩ := h9.out.2.2.2.at h9.out.1 hm0 rfl
         have hin : W1.getD 0 [] ∈ W1 := getD_in (by have := h9.out.2.1; omega)
         obtain ⟨p, hp⟩ : ∃ p, W1.getD 0 [] = p := ⟨_, rfl⟩
         rw [hp] at hg hcj hrow hin
         have HW : Hid (PP Fc Fp1 w w9 cb 1 [3, 4] (layF cut) pb 1 (layF own) true [3, 4] W1 st1 ∧ Tl (layF own) (layF cut) T1 W1 st1 ∧ k + work W1 ≤ 299 ∧ (∀ j, Un Fc Fp1 j → j < wr.heap.size) ∧ W1.length = m9 ∧ wr.heap.size ≤ w9.heap.size ∧ w.heap.size ≤ wr.heap.size) := Lib.hid ⟨hst.out.1.below b9, hst.out.2.1, hst.out.2.2, fun j hj => hst.out.1.lt hj, h9.out.2.1, b9.size, hst.out.1.cut.old.size⟩
         clear h9 b9 K1 hst hW hp
         have hokp := tl_ok HW.out.2.1 p hin
         obtain ⟨hj0, hy0, hy1, hy2⟩ := HIJ.out.2
         rcases okW_form hokp with ⟨d, rfl⟩ | ⟨d, d', rfl⟩
         ·have ns9 : Ns .i64 w9 w9.heap.size Aj [d] := own_ns (zs := [d]) hrow
          go_wp2_with (at_builtin; refine wpList_append_ns _ rfl (.tmp 106) (.tmp 109) 24 rfl w9.heap.size 3 j0 _ 8 Tryz.underlying24 hj0 hy0 hy1 hy2 rfl _ 0 [] rfl (World.ownsRow_nil _ _ _ _) .i64 _ Aj 1 cj [d] rfl rfl ns9 (by omega) (by omega) (Nat.le_refl _) ?_; intro v10 w10 o10 g10 at10; obtain ⟨A10, c10, rfl⟩ := own_form o10; rw [Nat.zero_add, List.nil_append] at o10; have b10 : Below w9.heap.size w9 w10 := (Below.refl _ w9).grown g10 (Nat.le_refl _) (fun j hj => by cases hj); have g0 := (b10.cell (p := ⟨g, 0, none⟩) hgl).trans hg; have K10 := Lib.hid (CN.want_any (HW.out.1.cut.below b10) Aj cj 1 [d] rfl (by omega) ((ns9.below b10).more b10.size)); unfold hd at K10; have H10 := Lib.hid (And.intro o10 b10); clear o10 g10 at10 b10)
          refine K10.out.mono ?_
          rintro e11 w11 (⟨hok2, hl2, A5, m5, c5, rfl, h5⟩ | ⟨hok2, hl2, _⟩ | ⟨hno2, _⟩)
          rotate_left
          ·simp at hl2
          ·exact absurd ⟨hokp.1, hokp.2⟩ hno2
          have pB := HW.out.1.below H10.out.2
          obtain ⟨q1, q2, q3, q4, q5, q6⟩ := h5.out
          have h2 := pB.told q5 q6
          have sP : Sta (Un Fc Fp1) w10 (fun X => Ns .i64 X X.heap.size A10 [d]) := sta_row H10.out.1 rfl fun g hg hF => by have := (H10.out.1.lt g hg).1; have := HW.out.2.2.2.1 g hF; have := HW.out.2.2.2.2.2.1; omega
          have K11 := Lib.hid (PJ.tell_one h2.1.pull (tl_ok HW.out.2.1) (by have := HW.out.2.2.2.2.1; omega) A10 A5 none c10 c5 0 m5 0 [d] (kidsF (layF cut) [d]) rfl q1 ((sta_stp sP h2.2).less fun k hk => .inr hk) (sta_high q3 (fun a hp ha => q4 a (by omega) ha) fun k hk => pB.lt (.inr hk)) hin)
          have HNX := Lib.hid (HW.out.2.1.one hin)
          have H11 := Lib.hid (And.intro h2.1 (And.intro h2.2.1.size (And.intro (fun q h1 h3 => h2.2.1.block q h3 fun e => by have := HW.out.2.2.2.1 q e; omega : ∀ q, wr.heap.size ≤ q → q < w10.heap.size → w11.heap[q]? = w10.heap[q]?) trivial)))
          unfold hd at K11
          clear q1 q2 q3 q4 q5 q6 h2 h5 K10 hg hokp pB sP
          go_wp2_with fail
          refine K11.out.mono ?_
          rintro e12 w12 ⟨rfl, F', h12⟩
          have s12 := H11.out.1.step h12.out.1 h12.out.2
          have hun : ∀ k, Un Fc F' k → k < wr.heap.size ∨ w11.heap.size ≤ k := fun k hk => by
           rcases hk with q | q
           ·exact .inl (HW.out.2.2.2.1 k (.inl q))
           ·exact (h12.out.2.2 k q).imp (fun q => HW.out.2.2.2.1 k (.inr q)) id
          have hb12 : ∀ q, wr.heap.size ≤ q → q < w11.heap.size → w12.heap[q]? = w11.heap[q]? := fun q h1 h3 => h12.out.2.1.block q h3 fun e => by have := HW.out.2.2.2.1 q (.inr e); omega
          have h10s := H10.out.2.size
          have hs12 := h12.out.2.1.size
          have K12 := Lib.hid (spoil_any (lo := w10.heap.size) (hi := w11.heap.size) (n := 0) (c := 0) (A := none) (W := w12) (by omega) soil_nil)
          have H12 := Lib.hid (And.intro s12.1 (And.intro hun (fun q h1 h3 => (hb12 q h1 (by have := H11.out.2.1; omega)).trans (H11.out.2.2.1 q h1 h3) : ∀ q, wr.heap.size ≤ q → q < w10.heap.size → w12.heap[q]? = w10.heap[q]?)))
          clear h12 s12 hun hb12 K11
          go_wp2_with fail
          refine K12.out.mono ?_
          rintro e13 w13 ⟨rfl, h13⟩
          have hk13 : ∀ q, wr.heap.size ≤ q → q < w10.heap.size → w13.heap[q]? = w10.heap[q]? := fun q h1 h3 => (h13.1.block q h3).trans (H12.out.2.2 q h1 h3)
          have hws := HW.out.2.2.2.2.2.1
          have hw0 := HW.out.2.2.2.2.2.2
          have p13 := H12.out.1.spo h13 (fun k hk => (H12.out.2.1 k hk).imp (fun q => by omega) id) (by omega)
          have row13 := own_keep H10.out.1 fun q hq => hk13 q (by have := (H10.out.1.lt q hq).1; omega) (H10.out.1.lt q hq).2
          have rowj := own_keep (own_below hrow H10.out.2 (Nat.le_refl _)) fun q hq => hk13 q (own_below hrow H10.out.2 (Nat.le_refl _) |>.lt q hq).1 (own_below hrow H10.out.2 (Nat.le_refl _) |>.lt q hq).2
          obtain ⟨ga, rfl, ga1, ga2, ⟨za, hza⟩, hfa⟩ := own_store row13 (show 0 < 1 by omega)
          have gal := (H10.out.1.lt ga rfl).2
          obtain ⟨X13, hX13⟩ : ∃ X, w13.setCell ⟨ga, 0, none⟩ (.int .i64 99) = X := ⟨_, rfl⟩
          have q13 := p13.set ga 0 (.int .i64 99) (fun k hk e => by have := H12.out.2.1 k hk; have := H11.out.2.1; omega) (by omega)
          have cg13 := chg_set w13 ga 0 (.int .i64 99)
          rw [hX13] at q13 cg13
          have gl13 : w10.heap.size ≤ w13.heap.size := Nat.le_trans (Nat.le_trans H11.out.2.1 hs12) h13.1.size
          have g13 : X13.cell? ⟨g, 0, none⟩ = some (.slice Aj 1 cj) := (World.cell?_of_block (cg13.block g (by show g < _; omega) (by show ¬ g = ga; omega))).trans ((World.cell?_of_block (hk13 g hbg (by omega))).trans g0)
          obtain ⟨gj, rfl, gj1, gj2, ⟨zj, hzj⟩, hfj⟩ := own_store (own_keep rowj fun q hq => cg13.block q (rowj.lt q hq).2 (by show ¬ q = ga; have := (hrow.lt q hq).2; omega)) (show 0 < 1 by omega)
          have gjl := (hrow.lt gj rfl).2
          obtain ⟨X14, hX14⟩ : ∃ X, X13.setCell ⟨gj, 0, none⟩ (.int .i64 98) = X := ⟨_, rfl⟩
          have q14 := q13.set gj 0 (.int .i64 98) (fun k hk e => by have := H12.out.2.1 k hk; have := H11.out.2.1; omega) (by omega)
          rw [hX14] at q14
          have HF : Hid (Rnd Fc w cb pb (layF cut) (layF own) (.int .i64 ((k : Int) + 1)) X14) := Lib.hid ⟨k + 1, by go_num, by have := HW.out.2.2.1; have := HNX.out.2; omega, F', _, _, _, Lib.hid ⟨q14, HNX.out.1, by have := HW.out.2.2.1; have := HNX.out.2; omega⟩⟩
          clear h13 hk13 p13 row13 rowj q13 cg13 q14 K12 H12 H11 ns9
          go_wp2_with fail
          clear hX13 hX14
          go_roundw
          case rel => exact HF.out
          case measure => simp only [intOf]; omega
         ·have ns9 : Ns .i64 w9 w9.heap.size Aj [d, d'] := own_ns (zs := [d, d']) hrow
          go_wp2_with (at_builtin; refine wpList_append_ns _ rfl (.tmp 106) (.tmp 109) 24 rfl w9.heap.size 3 j0 _ 8 Tryz.underlying24 hj0 hy0 hy1 hy2 rfl _ 0 [] rfl (World.ownsRow_nil _ _ _ _) .i64 _ Aj 2 cj [d, d'] rfl rfl ns9 (by omega) (by omega) (Nat.le_refl _) ?_; intro v10 w10 o10 g10 at10; obtain ⟨A10, c10, rfl⟩ := own_form o10; rw [Nat.zero_add, List.nil_append] at o10; have b10 : Below w9.heap.size w9 w10 := (Below.refl _ w9).grown g10 (Nat.le_refl _) (fun j hj => by cases hj); have g0 := (b10.cell (p := ⟨g, 0, none⟩) hgl).trans hg; have K10 := Lib.hid (CN.want_any (HW.out.1.cut.below b10) Aj cj 2 [d, d'] rfl (by omega) ((ns9.below b10).more b10.size)); unfold hd at K10; have H10 := Lib.hid (And.intro o10 b10); clear o10 g10 at10 b10)
          refine K10.out.mono ?_
          rintro e11 w11 (⟨hok2, hl2, _⟩ | ⟨hok2, hl2, A5, m5, c5, ps5, rfl, h5⟩ | ⟨hno2, _⟩)
          ·simp at hl2
          rotate_left
          ·exact absurd ⟨hokp.1, hokp.2⟩ hno2
          have pB := HW.out.1.below H10.out.2
          obtain ⟨q1, q2, q3, q4, q5, q6⟩ := h5.out
          have h2 := pB.told q5 (Chg.of_below q6)
          have sP : Sta (Un Fc Fp1) w10 (fun X => Ns .i64 X X.heap.size A10 [d, d']) := sta_row H10.out.1 rfl fun g hg hF => by have := (H10.out.1.lt g hg).1; have := HW.out.2.2.2.1 g hF; have := HW.out.2.2.2.2.2.1; omega
          have hrec : recsF (layF cut) [d, d'] = beneath (layF cut) [d, d'] := by unfold recsF; rw [if_pos hok2]
          have HNX := Lib.hid (HW.out.2.1.two (okA_lst HW.out.1.cut.okA) hin)
          have hroom := HW.out.2.1.room (okA_lst HW.out.1.cut.okA) hin
          have K11 := Lib.hid (PJ.tell_two h2.1.pull (tl_ok HW.out.2.1) (by have := HW.out.2.2.2.2.1; omega) A10 none A5 c10 0 c5 0 m5 [d, d'] (recsF (layF cut) [d, d']) rfl q2.symm ((sta_stp sP h2.2).less fun k hk => .inr hk) (by have h := sta_got (F := Fp1) q4 (fun k hk => pB.lt (.inr hk)); rwa [q1] at h) hin (by rw [hrec]; exact HNX.out.2.2) (by rw [q2, hrec]; omega))
          rw [hrec] at K11
          have hm5 : m5 ≤ 140737488355328 := by rw [q2, hrec]; omega
          have H11 := Lib.hid (And.intro h2.1 (And.intro h2.2.1.size (And.intro (fun q h1 h3 => h2.2.1.block q h3 fun e => by have := HW.out.2.2.2.1 q e; omega : ∀ q, wr.heap.size ≤ q → q < w10.heap.size → w11.heap[q]? = w10.heap[q]?) (And.intro q4 (show ps5.length = m5 by rw [q2, ← q1, List.length_map])))))
          unfold hd at K11
          clear q1 q2 q3 q4 q5 q6 h2 h5 K10 hg hokp pB sP hrec hroom
          go_wp2_with fail
          refine K11.out.mono ?_
          rintro e12 w12 ⟨rfl, F', h12⟩
          have s12 := H11.out.1.step h12.out.1 h12.out.2
          have hun : ∀ k, Un Fc F' k → k < wr.heap.size ∨ w11.heap.size ≤ k := fun k hk => by
           rcases hk with q | q
           ·exact .inl (HW.out.2.2.2.1 k (.inl q))
           ·exact (h12.out.2.2 k q).imp (fun q => HW.out.2.2.2.1 k (.inr q)) id
          have hb12 : ∀ q, wr.heap.size ≤ q → q < w11.heap.size → w12.heap[q]? = w11.heap[q]? := fun q h1 h3 => h12.out.2.1.block q h3 fun e => by have := HW.out.2.2.2.1 q (.inr e); omega
          have h10s := H10.out.2.size
          have hs12 := h12.out.2.1.size
          have K12 := Lib.hid (spoil_any (c := c5) hm5 (soil_told H11.out.2.2.2.1 H11.out.2.2.2.2 fun q h1 h3 => hb12 q (by have := HW.out.2.2.2.2.2.1; omega) h3))
          have H12 := Lib.hid (And.intro s12.1 (And.intro hun (fun q h1 h3 => (hb12 q h1 (by have := H11.out.2.1; omega)).trans (H11.out.2.2.1 q h1 h3) : ∀ q, wr.heap.size ≤ q → q < w10.heap.size → w12.heap[q]? = w10.heap[q]?)))
          clear h12 s12 hun hb12 K11
          go_wp2_with fail
          refine K12.out.mono ?_
          rintro e13 w13 ⟨rfl, h13⟩
          have hk13 : ∀ q, wr.heap.size ≤ q → q < w10.heap.size → w13.heap[q]? = w10.heap[q]? := fun q h1 h3 => (h13.1.block q h3).trans (H12.out.2.2 q h1 h3)
          have hws := HW.out.2.2.2.2.2.1
          have hw0 := HW.out.2.2.2.2.2.2
          have p13 := H12.out.1.spo h13 (fun k hk => (H12.out.2.1 k hk).imp (fun q => by omega) id) (by omega)
          have row13 := own_keep H10.out.1 fun q hq => hk13 q (by have := (H10.out.1.lt q hq).1; omega) (H10.out.1.lt q hq).2
          have rowj := own_keep (own_below hrow H10.out.2 (Nat.le_refl _)) fun q hq => hk13 q (own_below hrow H10.out.2 (Nat.le_refl _) |>.lt q hq).1 (own_below hrow H10.out.2 (Nat.le_refl _) |>.lt q hq).2
          obtain ⟨ga, rfl, ga1, ga2, ⟨za, hza⟩, hfa⟩ := own_store row13 (show 0 < 2 by omega)
          have gal := (H10.out.1.lt ga rfl).2
          obtain ⟨X13, hX13⟩ : ∃ X, w13.setCell ⟨ga, 0, none⟩ (.int .i64 99) = X := ⟨_, rfl⟩
          have q13 := p13.set ga 0 (.int .i64 99) (fun k hk e => by have := H12.out.2.1 k hk; have := H11.out.2.1; omega) (by omega)
          have cg13 := chg_set w13 ga 0 (.int .i64 99)
          rw [hX13] at q13 cg13
          have gl13 : w10.heap.size ≤ w13.heap.size := Nat.le_trans (Nat.le_trans H11.out.2.1 hs12) h13.1.size
          have g13 : X13.cell? ⟨g, 0, none⟩ = some (.slice Aj 2 cj) := (World.cell?_of_block (cg13.block g (by show g < _; omega) (by show ¬ g = ga; omega))).trans ((World.cell?_of_block (hk13 g hbg (by omega))).trans g0)
          obtain ⟨gj, rfl, gj1, gj2, ⟨zj, hzj⟩, hfj⟩ := own_store (own_keep rowj fun q hq => cg13.block q (rowj.lt q hq).2 (by show ¬ q = ga; have := (hrow.lt q hq).2; omega)) (show 0 < 2 by omega)
          have gjl := (hrow.lt gj rfl).2
          obtain ⟨X14, hX14⟩ : ∃ X, X13.setCell ⟨gj, 0, none⟩ (.int .i64 98) = X := ⟨_, rfl⟩
          have q14 := q13.set gj 0 (.int .i64 98) (fun k hk e => by have := H12.out.2.1 k hk; have := H11.out.2.1; omega) (by omega)
          rw [hX14] at q14
          have HF : Hid (Rnd Fc w cb pb (layF cut) (layF own) (.int .i64 ((k : Int) + 1)) X14) := Lib.hid ⟨k + 1, by go_num, by have := HW.out.2.2.1; have := HNX.out.2.1; omega, F', _, _, _, Lib.hid ⟨q14, HNX.out.1, by have := HW.out.2.2.1; have := HNX.out.2.1; omega⟩⟩
          clear h13 hk13 p13 row13 rowj q13 cg13 q14 K12 H12 H11 ns9
          go_wp2_with fail
          clear hX13 hX14
          go_roundw
          case rel => exact HF.out
          case measure => simp only [intOf]; omega
    ·have HF := Lib.hid (H2.out.2.2.1.trans (b3.mono H2.out.2.2.1.size))
     clear b3 K2
     go_wp2_with fail
     go_ret
     exact ⟨rfl, HF.out⟩
   ·have bw2 : Below w.heap.size w w2 := HU.out.1.trans (b2.mono HU.out.1.size)
    have K2 := Lib.hid (newpull_any bw2 1 A n c own HP.out.2.2.1 (by omega) (HP.out.1 w2 bw2))
    have H2 := Lib.hid bw2
    clear b2 bw2 K1 hnoc
    go_wp2_with fail
    refine K2.out.mono ?_
    rintro e3 w3 (⟨hoko, pb, rfl, h3, b3⟩ | ⟨hnoo, rfl, b3⟩)
    ·have HF := Lib.hid (H2.out.trans (b3.mono H2.out.size))
     clear h3 b3 K2
     unfold hd
     go_wp2_with fail
     go_ret
     exact ⟨rfl, HF.out⟩
    ·have HF := Lib.hid (H2.out.trans (b3.mono H2.out.size))
     clear b3 K2
     go_wp2_with fail
     go_ret
     exact ⟨rfl, HF.out⟩
-- ROW BEGIN
set_option maxRecDepth 100000 in
theorem contract (H : Type) (enc : TypeId × Value → H) (W : World) (base : Nat) (args : Array Value) (ds gs : List (DataW H)) (before : List MemPlace)
  (hval : ∀ (j : Nat) t v, Tryz.f9.params[j]? = some t → args[j]? = some v → Value.okWide Tryz.prog W .any base t v)
  (hW : DataW.Whole enc Tryz.prog Tryz.f9.params.toList Rows.pullKeepsSpec.vars false W args.toList ds gs before)
  (hsz : (DataW.weightsEach Tryz.prog (Tryz.f9.params.toList ++ Rows.pullKeepsSpec.plain.varTypes Tryz.prog) (ds ++ gs)).all (· ≤ reachBytes) = true) :
  Calls Tryz.prog 9 args W fun e W' => ∃ v, e = .returned v ∧ Rows.pullKeepsSpec.post enc Tryz.prog Tryz.f9 false true false false W args v W' := by
 have hW' := hW
 obtain ⟨p, q, hA0, hV, hbef, _, _⟩ := hW
 have hA : DataW.TrodAll enc Tryz.prog W 0 (fun _ => true) true Tryz.f9.params.toList args.toList ds p := hA0
 have hA1 := hA
 rw [Tryz.params9] at hA hval hsz
 obtain ⟨v0, vs0, d0, ds0, p0, q0, hargs, rfl, rfl, h0, r0⟩ := trodAll_cons hA
 obtain ⟨v1, vs1, d1, ds1, p1, q1, rfl, rfl, rfl, h1, r1⟩ := trodAll_cons r0
 obtain ⟨rfl, rfl, rfl⟩ := trodAll_nil r1
 obtain rfl : args = #[v0, v1] := by cases args; simp_all
 obtain ⟨rfl, rfl⟩ := trodVars_none hV
 clear hA hargs
 obtain ⟨A0, c0, a0, rfl, n0, l0, b0⟩ := Tree.arg_recs (hval 0 23 v0 rfl rfl) h0 (Vers.wt_arg hsz (j := 0) rfl rfl)
 obtain ⟨A1, c1, a1, rfl, n1, l1, b1, z1⟩ := Mend.arg_recz (hval 1 23 v1 rfl rfl) h1 (Vers.wt_arg hsz (j := 1) rfl rfl)
 refine (walk W A0 c0 a0 n0 b0 l0 A1 c1 a1 n1 b1 l1 z1).mono fun e W' ⟨he, hb⟩ => ?_
 subst he
 exact ⟨_, rfl, law_post Facts.laid (by rfl) Tryz.underlying4 (by rw [Tryz.params9]; decide +kernel) hW' hA1 rfl hbef rfl rfl rfl hb⟩

set_option maxRecDepth 100000 in
theorem lifted (os : Os) (started : os.Started) (H : Type) (enc : TypeId × Value → H) :
  ReturnsInHanded {} Tryz.checked os 9 .any (Rows.pullKeepsSpec.pre6 enc Tryz.prog Tryz.f9 Rows.pullKeepsRow.domain false) (Rows.pullKeepsSpec.post enc Tryz.prog Tryz.f9 false true false false) := by
 refine returnsInHanded_of_change_sized (C := Tryz.checked) Facts.own started (by kernel_rfl) Tryz.func9
  (ChangeSpec.witness6 (enc := enc) (C := Tryz.checked) false ⟨#[], #[.slice none 0 0, .slice none 0 0], []⟩ 8 (by kernel_rfl) (by kernel_rfl) (by kernel_rfl) (by kernel_rfl)) ?_
 intro W base args ds gs before hval hW _ hsz _
 exact contract H enc W base args ds gs before hval hW hsz

theorem holds : Rows.PullKeepsSaid :=
 OpenClaim.holds_of_wide 9 Tryz.f9 rfl rfl rfl rfl rfl rfl rfl ⟨rfl, rfl, rfl, rfl, rfl⟩ rfl rfl rfl rfl rfl (by kernel_rfl) Tryz.func9 (by kernel_rfl)
  (of_decide_eq_true (by kernel_rfl)) (by unfold Func.isWrapper; first | (rw [if_pos (by decide +kernel)]; kernel_rfl) | (rw [if_neg (by decide +kernel)]; exact ⟨rfl, rfl⟩))
  (fun os started H enc _ => lifted os started H enc)
-- ROW END
end PullKeeps
end Go.Proofs.YtkfdplfgaddkmaaGreat
