/-
 PullRefuses: what isn't wanted, or isn't beneath its path, is refused and changes nothing.
-/
import Derived.Test.YtkfdplfgaddkmaaGreatK39
import Derived.Test.YtkfdplfgaddkmaaGreatK36
namespace Go.Proofs.YtkfdplfgaddkmaaGreat
namespace PullRefuses
open Go.ChangeShapes Go.WideShapes Go.ChangeAt Go.RowKit Vers Num Ring Disk Blk Tree Mend Pull
open Go.Proofs.YtkfdplfgaddkmaaGreat.Code hiding Bn
attribute [local go_sem ↓] Go.wp_at_zero Go.wp_at_succ
theorem wat_ns {base n c : Nat} {X : World} {A : Option Addr} {zs : List Int} (h : X.ownsRow base 3 1 (.slice A n c) n (nums .i64 zs)) (hn : zs.length = n) : Ns .i64 X X.heap.size A zs := by
 subst hn
 exact own_ns h
def Cell2 (U : World) (b o b' o' : Nat) (x y : Value) (X : World) : Prop := X.cell? ⟨b, o, none⟩ = some x ∧ X.cell? ⟨b', o', none⟩ = some y ∧ Below U.heap.size U X ∧ b < U.heap.size ∧ b' < U.heap.size
theorem cell2_below {U X Y : World} {b o b' o' : Nat} {x y : Value} (hb : Below X.heap.size X Y) (h : Cell2 U b o b' o' x y X) : Cell2 U b o b' o' x y Y := by
 obtain ⟨h1, h2, h3, h4, h5⟩ := h
 have hs := h3.size
 exact ⟨(hb.cell (p := ⟨b, o, none⟩) (by show b < _; omega)).trans h1, (hb.cell (p := ⟨b', o', none⟩) (by show b' < _; omega)).trans h2, h3.trans (hb.mono hs), h4, h5⟩
set_option maxRecDepth 100000 in
set_option maxHeartbeats 1000000 in
theorem paths_same (base base' m c c' : Nat) (A A' : Option Addr) (es es' : List Pw) (W : List (List Int)) (V : World) (h : OwnP base V (.slice A m c) m es) (h' : OwnP base' V (.slice A' m c') m es') (hW : es.map Pw.p = W) (hW' : es'.map Pw.p = W) (hl : W.length = m) (hok : ∀ p ∈ W, okW p) (hm : m ≤ 1024) :
  Calls Tryz.prog 30 #[.slice A m c, .slice A' m c'] V (fun e w' => e = .returned (.bool true) ∧ Below V.heap.size V w') := by
 have HP := Lib.hid (And.intro h (And.intro h' (And.intro hW (And.intro hW' (And.intro hl hok)))))
 clear h h' hW hW' hl hok
 go_enter Tryz.func30, Tryz.ntmps30
 go_wp2_with fail
 go_loopw [5] (fun q wr => ∃ k : Nat, q = .int .i64 k ∧ k ≤ m ∧ Hid (Below V.heap.size V wr)) (fun q _ => m - (intOf q).toNat)
 case atStart => exact ⟨0, rfl, by omega, Lib.hid (Below.refl _ _)⟩
 case round =>
  obtain ⟨k, rfl, hk, hst⟩ := hrel
  by_cases hlt : k < m
  ·have d1 : (0 : Int) ≤ (k : Int) := by omega
   have d2 : (k : Int) < (m : Int) := by omega
   obtain ⟨p, hp⟩ : ∃ p, W.getD k [] = p := ⟨_, rfl⟩
   obtain ⟨g, A1, c1, rfl, _, hgl, hg, _, hr⟩ := (HP.out.1.below hst.out).at HP.out.2.2.1 hlt hp
   obtain ⟨g', A2, c2, rfl, _, hgl', hg', _, hr'⟩ := (HP.out.2.1.below hst.out).at HP.out.2.2.2.1 hlt hp
   have hokp := HP.out.2.2.2.2.2 p (by rw [← hp]; exact getD_in (by have := HP.out.2.2.2.2.1; omega))
   obtain ⟨np, hnp⟩ : ∃ n, p.length = n := ⟨_, rfl⟩
   rw [hnp] at hg hg' hr hr'
   have hnp2 : np ≤ 2 := by have := hokp.2; omega
   have hc : ∀ X, Cell2 wr g k g' k (.slice A1 np c1) (.slice A2 np c2) X → Calls Tryz.prog 41 #[.slice A1 np c1, .slice A2 np c2] X (fun e w' => e = .returned (.bool true) ∧ Below X.heap.size X w') := fun X hX => by
    have h := Code.sints_any A1 A2 c1 c2 np np p p hnp hnp X (((wat_ns hr hnp).below hX.2.2.1).more hX.2.2.1.size) (((wat_ns hr' hnp).below hX.2.2.1).more hX.2.2.1.size) (by omega) (by omega)
    rwa [decide_eq_true rfl] at h
   have HC := Lib.hid hc
   have HS : Hid (Cell2 wr g k g' k (.slice A1 np c1) (.slice A2 np c2) wr.drew) := Lib.hid ⟨hg, hg', (Below.refl _ _).drew, hgl, hgl'⟩
   have HN := Lib.hid hst.out
   clear hst hp hr hr' hokp hnp hc hg hg'
   go_wp2_with fail
   go_region_held3 (fun X => X.cell? ⟨g, k, none⟩ = some (.slice A1 np c1) ∧ X.cell? ⟨g', k, none⟩ = some (.slice A2 np c2) ∧ Below wr.heap.size wr X ∧ g < wr.heap.size ∧ g' < wr.heap.size)
    (first
     | exact HS.out
     | exact cell2_below (by assumption) (by assumption))
    (first
     | (go_at_call 41; refine (HC.out _ (by assumption)).mono ?_; rintro e w5 ⟨rfl, b5⟩))
   all_goals
    have HF := Lib.hid (HN.out.trans (((show Below wr.heap.size wr w5 from ((Below.refl _ wr).drew).trans b5)).mono HN.out.size))
    clear b5
    go_wp2_with fail
    go_roundw
    case rel => exact ⟨k + 1, by go_num, by omega, HF⟩
    case measure => simp only [intOf]; omega
  ·have hkm : k = m := by omega
   subst hkm
   go_wp2_with fail
   go_ret
   exact ⟨rfl, hst.out⟩
theorem want_wok {own : List Rc} {hs : List Int} : ∀ p ∈ wantF own [] hs, okW p ∧ p.length = 1 := fun p hp => by
 unfold wantF at hp
 obtain ⟨d, hd, rfl⟩ := List.mem_map.1 hp
 unfold diffF at hd
 obtain ⟨i, hi, rfl⟩ := List.mem_map.1 hd
 have := List.mem_range.1 (List.mem_filter.1 hi).1
 exact ⟨⟨ok_one.2 (by omega), .inl rfl⟩, rfl⟩
theorem want_two {own : List Rc} {d : Int} (hd : 0 ≤ d ∧ d < 16) {hs : List Int} : ∀ p ∈ wantF own [d] hs, okW p ∧ p.length = 2 := fun p hp => by
 unfold wantF at hp
 obtain ⟨e, he, rfl⟩ := List.mem_map.1 hp
 unfold diffF at he
 obtain ⟨i, hi, rfl⟩ := List.mem_map.1 he
 have := List.mem_range.1 (List.mem_filter.1 hi).1
 exact ⟨⟨ok_two.2 ⟨hd, by omega⟩, .inr rfl⟩, rfl⟩
set_option maxRecDepth 100000 in
set_option maxHeartbeats 8000000 in
theorem walk (w : World) (A : Option Addr) (c : Nat) (own : List Rc) (ha : Rs w 0 w.heap.size A own) (hb : own.length * 40 ≤ 140737488351232) (_hc : own.length ≤ c) (A' : Option Addr) (c' : Nat) (cut : List Rc) (ha' : Rs w 0 w.heap.size A' cut) (hb' : cut.length * 40 ≤ 140737488351232) (_hc' : cut.length ≤ c') (o : Oq) (ho : OkO w o) :
  Calls Tryz.prog 8 #[.slice A own.length c, .slice A' cut.length c', .agg (oc o).toArray] w fun e w' => e = .returned (.bool true) ∧ Below w.heap.size w w' := by
 obtain ⟨n, hn⟩ : ∃ n, own.length = n := ⟨_, rfl⟩
 obtain ⟨n', hn'⟩ : ∃ n, cut.length = n := ⟨_, rfl⟩
 obtain ⟨kd, ⟨v, Av, cv⟩, ⟨p, Ap, cp⟩, ⟨hs, Ah, ch⟩, ⟨l, Al, cl⟩⟩ := o
 obtain ⟨nv, hnv⟩ : ∃ n, v.length = n := ⟨_, rfl⟩
 obtain ⟨np, hnp⟩ : ∃ n, p.length = n := ⟨_, rfl⟩
 obtain ⟨nh, hnh⟩ : ∃ n, hs.length = n := ⟨_, rfl⟩
 obtain ⟨nl, hnl⟩ : ∃ n, l.length = n := ⟨_, rfl⟩
 rw [hn] at hb ⊢
 rw [hn'] at hb' ⊢
 rw [show (oc (kd, (v, Av, cv), (p, Ap, cp), (hs, Ah, ch), l, Al, cl)).toArray = #[.int .i64 kd, .slice Av nv cv, .slice Ap np cp, .slice Ah nh ch, .slice Al nl cl] by unfold oc; simp [hnv, hnp, hnh, hnl]]
 have hpb : np ≤ 17592186043904 := by have := ho.pathb; simp only at this; omega
 have hlb : nl ≤ 3518437208882 := by have := ho.listb; simp only at this; omega
 have HP : Hid ((∀ W, Below w.heap.size w W → Rs W 0 W.heap.size A own) ∧ (∀ W, Below w.heap.size w W → Rs W 0 W.heap.size A' cut) ∧ own.length = n ∧ cut.length = n' ∧ p.length = np ∧ hs.length = nh ∧ l.length = nl) := Lib.hid ⟨fun W h => (ha.below h).more h.size, fun W h => (ha'.below h).more h.size, hn, hn', hnp, hnh, hnl⟩
 have HO := Lib.hid (And.intro ho.path (And.intro ho.hash ho.list))
 obtain ⟨W0, hW0⟩ : ∃ W, w.alloc (.cells #[.int .i64 kd, .slice Av nv cv, .slice Ap np cp, .slice Ah nh ch, .slice Al nl cl] 54) = W := ⟨_, rfl⟩
 obtain ⟨ob, hob⟩ : ∃ ob, w.heap.size = ob := ⟨_, rfl⟩
 have b0 : Below w.heap.size w W0 := by rw [← hW0]; exact (Below.refl _ w).alloc (Nat.le_refl _) _
 have B0 : Blk.Bn ob 54 [.int .i64 kd, .slice Av nv cv, .slice Ap np cp, .slice Ah nh ch, .slice Al nl cl] W0 := by rw [← hW0, ← hob]; exact World.alloc_heap_new _ _
 have HB0 := Lib.hid (And.intro b0 (And.intro B0 hob))
 have H0 := Lib.hid (awake_any W0)
 clear ha ha' hn hn' ho hnv hnp hnh hnl b0 B0
 go_enter Tryz.func8, Tryz.ntmps8
 go_wp2_with fail
 clear hW0
 refine H0.out.mono ?_
 rintro e1 w1 ⟨rfl, b1⟩
 obtain ⟨U, hU⟩ : ∃ U, w1.alloc (.cells #[.int .i64 5] 2) = U := ⟨_, rfl⟩
 have bU1 : Below w1.heap.size w1 U := by rw [← hU]; exact (Below.refl _ w1).alloc (Nat.le_refl _) _
 have bU0 : Below W0.heap.size W0 U := b1.trans (bU1.mono b1.size)
 have bU : Below w.heap.size w U := HB0.out.1.trans (bU0.mono HB0.out.1.size)
 have nU : Ns .i64 U U.heap.size (some ⟨w1.heap.size, 0, none⟩) [5] := by rw [← hU]; exact ns_lit w1 5
 obtain ⟨vb, hvb⟩ : ∃ vb, w1.heap.size = vb := ⟨_, rfl⟩
 rw [hvb] at nU
 have K1 := Lib.hid (newcut_any bU0 1 (some ⟨vb, 0, none⟩) A' 1 1 n' c' [5] cut rfl HP.out.2.2.2.1 (by omega) (by omega) nU (HP.out.2.1 U bU))
 have HB := Lib.hid (And.intro bU bU0)
 clear b1 bU1 bU bU0 nU H0 hob
 go_wp2_with fail
 clear hU hvb
 refine K1.out.mono ?_
 rintro e2 w2 (⟨_, hokc, cb, rfl, h2, b2⟩ | ⟨hnoc, rfl, b2⟩)
 ·have bw2 : Below W0.heap.size W0 w2 := HB.out.2.trans (b2.mono HB.out.2.size)
  have bw2' : Below w.heap.size w w2 := HB0.out.1.trans (bw2.mono HB0.out.1.size)
  have K2 := Lib.hid (newpull_any bw2 1 A n c own HP.out.2.2.1 (by omega) (HP.out.1 w2 bw2'))
  have H2 := Lib.hid (And.intro h2.out (And.intro bw2 bw2'))
  clear h2 b2 bw2 bw2' K1 hokc
  unfold hd
  go_wp2_with fail
  refine K2.out.mono ?_
  rintro e3 w3 (⟨hoko, pb, rfl, h3, b3⟩ | ⟨hnoo, rfl, b3⟩)
  ·obtain ⟨Fc, hcn, _⟩ := H2.out.1
   obtain ⟨Fp, hpj, hpn⟩ := h3.out
   have p3 := pp_made hcn b3 hpj hpn
   -- the asking's own place, and what it leads to, is none of the pull's
   have hop : ∀ X, Below W0.heap.size W0 X → X.cell? ⟨ob, 2, none⟩ = some (.slice Ap np cp) ∧ X.cell? ⟨ob, 3, none⟩ = some (.slice Ah nh ch) ∧ X.cell? ⟨ob, 4, none⟩ = some (.slice Al nl cl) := fun X hX => by
    have hB := HB0.out.2.1.same (hX.block ob HB0.out.2.1.lt)
    have c2 := hB.cell 2
    have c3 := hB.cell 3
    have c4 := hB.cell 4
    simp only [List.getElem?_cons_zero, List.getElem?_cons_succ] at c2 c3 c4
    exact ⟨c2, c3, c4⟩
   have HOP := Lib.hid hop
   obtain ⟨x2, x3, x4⟩ := hop w3 p3.cut.old
   have hwX : ∀ X, Below W0.heap.size W0 X → Below w.heap.size w X := fun X hX => HB0.out.1.trans (hX.mono HB0.out.1.size)
   have HWX := Lib.hid hwX
   have bw3 := hwX w3 p3.cut.old
   have K3 := Lib.hid (PJ.tell_no p3.pull (by simp) Ap Ah Al cp ch cl np nh nl p l HP.out.2.2.2.2.1 HP.out.2.2.2.2.2.2 (by omega) hlb ((HO.out.1.below bw3).more bw3.size) ((HO.out.2.2.below bw3).more bw3.size) (.inl (by simp)))
   have P3 := Lib.hid p3
   unfold hd at K3 ⊢
   clear h3 b3 hcn hpj hpn p3 K2 H2 hoko hop hwX bw3
   go_wp2_with fail
   clear x2 x3 x4
   refine K3.out.mono ?_
   rintro e4 w4 ⟨rfl, b4⟩
   have P4 := Lib.hid (P3.out.below b4)
   have K4 := Lib.hid P4.out.pull.done_any
   rw [show ((false && decide (([] : List (List Int)) = [])) = false) from rfl] at K4
   unfold hd at K4
   clear b4 P3 K3
   go_wp2_with fail
   refine K4.out.mono ?_
   rintro e5 w5 ⟨rfl, hw5⟩
   subst hw5
   have K5 := Lib.hid (PJ.wants_any P4.out.pull (by simp))
   unfold hd at K5
   clear K4
   go_wp2_with fail
   refine K5.out.mono ?_
   rintro e6 w6 ⟨A6, m6, c6, es6, rfl, h6, b6⟩
   obtain rfl : 0 = m6 := h6.out.2.1
   have P6 := Lib.hid (P4.out.below b6)
   have K6 := Lib.hid P6.out.cvec
   unfold hd at K6
   clear h6 b6 P4 K5
   go_wp2_with fail
   refine K6.out.mono ?_
   rintro e7 w7 ⟨A7, c7, n7, rfl, h7, b7⟩
   obtain rfl : 1 = n7 := h7.out.1
   have t7 := P6.out.below b7
   have Kb := Lib.hid t7.open_any
   have T7 := Lib.hid (And.intro t7 h7.out.2.2.1)
   unfold hd at Kb
   clear h7 b7 t7 K6 P6
   go_wp2_with fail
   refine Kb.out.mono ?_
   rintro e8 w8 ⟨A8, m8, c8, rfl, h8⟩
   have hs8 := h8.out.2.2.2
   have Kc := Lib.hid (h8.out.2.2.1.pull.begin_yes (by simp) A7 A8 c7 c8 1 m8 [5] (kidsF (layF cut) []) rfl h8.out.1 (by decide) ((sta_stp T7.out.2 hs8).less fun k hk => .inr hk) (h8.out.2.1.less fun k hk => .inr hk))
   have T8 := Lib.hid h8.out.2.2.1
   unfold hd at Kc
   clear h8 hs8 Kb T7
   go_wp2_with fail
   refine Kc.out.mono ?_
   rintro e9 w9 ⟨rfl, F9, h9⟩
   obtain ⟨W, hWW⟩ : ∃ W, wantF (layF own) [] (kidsF (layF cut) []) = W := ⟨_, rfl⟩
   have s9 := (T8.out.step h9.out.1 h9.out.2).1
   rw [List.nil_append, hWW] at s9
   have hokW : ∀ q ∈ W, okW q := fun q hq => (want_wok q (by rw [hWW]; exact hq)).1
   have HW1 : Hid ((∀ q ∈ W, okW q ∧ q.length = 1) ∧ W.Nodup ∧ W.length ≤ 16) := Lib.hid ⟨fun q hq => want_wok q (by rw [hWW]; exact hq), by
    have h := (Tl.start (layF own) (layF cut)).nd
    rwa [hWW] at h, by rw [← hWW]; unfold wantF; rw [List.length_map]; exact diff_16 _ _⟩
   have P9 := Lib.hid s9
   have K9 := Lib.hid (PJ.wants_any s9.pull hokW)
   unfold hd at K9
   clear h9 s9 Kc T8 hWW hokW
   go_wp2_with fail
   refine K9.out.mono ?_
   rintro e10 w10 ⟨A10, m10, c10, es, rfl, h10, b10⟩
   have P10 := Lib.hid (P9.out.below b10)
   have hm16 : m10 ≤ 16 := by rw [← h10.out.2.1]; exact HW1.out.2.2
   have HE := Lib.hid h10.out
   clear h10 b10 P9 K9
   go_wp2_with fail
   go_loopw [12, 13] (fun z q wr => ∃ k : Nat, q = .int .i64 k ∧ z = .bool (decide (p ∈ W.take k)) ∧ k ≤ m10 ∧ Hid (Below w10.heap.size w10 wr)) (fun _ q _ => m10 - (intOf q).toNat)
   case atStart => exact ⟨0, rfl, by simp, by omega, Lib.hid (Below.refl _ _)⟩
   case round =>
    obtain ⟨k, rfl, rfl, hk, hst⟩ := hrel
    by_cases hlt : k < m10
    ·have d1 : (0 : Int) ≤ (k : Int) := by omega
     have d2 : (k : Int) < (m10 : Int) := by omega
     obtain ⟨x, hx⟩ : ∃ x, W.getD k [] = x := ⟨_, rfl⟩
     have hsn := get_snoc (show k < W.length by have := HE.out.2.1; omega) hx
     obtain ⟨g, A1, c1, rfl, _, hgl, hg, _, hr⟩ := (HE.out.2.2.2.below hst.out).at HE.out.1 hlt hx
     have hxl : x.length = 1 := (HW1.out.1 x (by rw [← hx]; exact getD_in (by have := HE.out.2.1; omega))).2
     rw [hxl] at hg hr
     have bwr : Below W0.heap.size W0 wr := P10.out.cut.old.trans (hst.out.mono P10.out.cut.old.size)
     obtain ⟨x2, _, _⟩ := HOP.out wr bwr
     have holt : ob < wr.heap.size := Nat.lt_of_lt_of_le HB0.out.2.1.lt bwr.size
     have hc : ∀ X, Cell2 wr g k ob 2 (.slice A1 1 c1) (.slice Ap np cp) X → Calls Tryz.prog 41 #[.slice A1 1 c1, .slice Ap np cp] X (fun e w' => e = .returned (.bool (decide (x = p))) ∧ Below X.heap.size X w') := fun X hX => by
      have bX := HWX.out X (bwr.trans (hX.2.2.1.mono bwr.size))
      exact Code.sints_any A1 Ap c1 cp 1 np x p hxl HP.out.2.2.2.2.1 X (((wat_ns hr hxl).below hX.2.2.1).more hX.2.2.1.size) ((HO.out.1.below bX).more bX.size) (by omega) (by omega)
     have hmem : decide (p ∈ W.take (k + 1)) = (decide (p ∈ W.take k) || decide (x = p)) := by
      rw [hsn]
      by_cases h1 : p ∈ W.take k
      ·simp [h1]
      ·by_cases h2 : x = p
       ·simp [h2]
       ·have h3 : ¬ p = x := fun e => h2 e.symm
        simp [h1, h2, h3]
     have HC := Lib.hid hc
     have HN := Lib.hid (And.intro hst.out hmem)
     clear hc hmem hsn hx hxl hr bwr hst
     by_cases hin : p ∈ W.take k
     ·rw [decide_eq_true hin] at HN ⊢
      have HIN := Lib.hid hin
      clear hin hg x2
      go_wp2_with fail
      go_quiet (fail)
      have HF := Lib.hid (HN.out.1.trans (belowN _ wr nq))
      go_wp2_with fail
      go_roundw
      case rel => exact ⟨k + 1, by go_num, by rw [HN.out.2]; rfl, by omega, Lib.hid (HF.out.mono (Nat.le_refl _))⟩
      case measure => simp only [intOf]; omega
     ·rw [decide_eq_false hin] at HN ⊢
      have HIN := Lib.hid hin
      obtain ⟨E, hE⟩ : ∃ E, decide (x = p) = E := ⟨_, rfl⟩
      rw [hE] at HC HN
      have HS : Hid (Cell2 wr g k ob 2 (.slice A1 1 c1) (.slice Ap np cp) wr.drew) := Lib.hid ⟨hg, x2, (Below.refl _ _).drew, hgl, holt⟩
      clear hin hE hg x2
      go_wp2_with fail
      go_region_held3 (fun X => X.cell? ⟨g, k, none⟩ = some (.slice A1 1 c1) ∧ X.cell? ⟨ob, 2, none⟩ = some (.slice Ap np cp) ∧ Below wr.heap.size wr X ∧ g < wr.heap.size ∧ ob < wr.heap.size)
       (first
        | exact HS.out
        | exact cell2_below (by assumption) (by assumption))
       (first
        | (go_at_call 41; refine (HC.out _ (by assumption)).mono ?_; rintro e11 w11 ⟨rfl, b11⟩))
      all_goals
       have HF := Lib.hid (HN.out.1.trans (((show Below wr.heap.size wr w11 from ((Below.refl _ wr).drew).trans b11)).mono HN.out.1.size))
       clear b11
       go_wp2_with fail
       go_roundw
       case rel => exact ⟨k + 1, by go_num, by rw [HN.out.2]; rfl, by omega, HF⟩
       case measure => simp only [intOf]; omega
    ·have hkm : k = m10 := by omega
     subst hkm
     have hfull : W.take k = W := List.take_of_length_le (by have := HE.out.2.1; omega)
     rw [hfull]
     have P11 := Lib.hid (P10.out.below hst.out)
     have HE11 := Lib.hid (HE.out.2.2.2.below hst.out)
     have bwr := HWX.out wr P11.out.cut.old
     obtain ⟨x2, x3, x4⟩ := HOP.out wr P11.out.cut.old
     have hFw : ∀ j, F9 j → w.heap.size ≤ j := fun j hj => Nat.le_trans HB0.out.1.size (P11.out.pull.new hj)
     have hSp := sta_ns (F := F9) (HO.out.1.below bwr) bwr.size hFw
     have hSh := sta_ns (F := F9) (HO.out.2.1.below bwr) bwr.size hFw
     clear hfull hst P10 hlt
     by_cases hin : p ∈ W
     ·have hp1 : p.length = 1 := (HW1.out.1 p hin).2
      have hnp1 : np = 1 := by rw [← HP.out.2.2.2.2.1]; exact hp1
      subst hnp1
      rw [decide_eq_true hin]
      have K11 := Lib.hid (PJ.tell_one P11.out.pull (fun q hq => (HW1.out.1 q hq).1) (by have := HW1.out.2.2; omega) Ap Ah Al cp ch cl nh nl p hs hp1 HP.out.2.2.2.2.2.1 hSp hSh hin)
      have HIN := Lib.hid (And.intro hin hp1)
      unfold hd at K11
      clear hSp hSh hin hp1 bwr hFw
      go_wp2_with fail
      clear x2 x3 x4
      refine K11.out.mono ?_
      rintro e12 w12 ⟨rfl, F12, h12⟩
      obtain ⟨d, rfl⟩ := list_one HIN.out.2
      have hdr : 0 ≤ d ∧ d < 16 := (HW1.out.1 _ HIN.out.1).1.1.1 d (by simp)
      have hok2 : ∀ q ∈ W.erase [d] ++ wantF (layF own) [d] hs, okW q := fun q hq => by
       rcases List.mem_append.1 hq with hq | hq
       ·exact (HW1.out.1 q (List.mem_of_mem_erase hq)).1
       ·exact (want_two hdr q hq).1
      have hno2 : [d] ∉ W.erase [d] ++ wantF (layF own) [d] hs := fun hq => by
       rcases List.mem_append.1 hq with hq | hq
       ·exact (HW1.out.2.1.mem_erase_iff.1 hq).1 rfl
       ·have := (want_two hdr _ hq).2
        simp at this
      obtain ⟨x2, x3, x4⟩ := HOP.out w12 h12.out.1.old
      have bw12 := HWX.out w12 h12.out.1.old
      have K12 := Lib.hid (PJ.tell_no h12.out.1 hok2 Ap Ah Al cp ch cl 1 nh nl [d] l rfl HP.out.2.2.2.2.2.2 (by omega) hlb ((HO.out.1.below bw12).more bw12.size) ((HO.out.2.2.below bw12).more bw12.size) (.inl hno2))
      have HB12 := Lib.hid bw12
      unfold hd at K12
      clear h12 hdr hok2 hno2 K11 bw12
      go_wp2_with fail
      clear x2 x3 x4
      refine K12.out.mono ?_
      rintro e13 w13 ⟨rfl, b13⟩
      have HF := Lib.hid (HB12.out.trans (b13.mono HB12.out.size))
      clear b13 K12
      go_wp2_with fail
      go_ret
      exact ⟨rfl, HF.out⟩
     ·rw [decide_eq_false hin]
      have K11 := Lib.hid (PJ.tell_no P11.out.pull (fun q hq => (HW1.out.1 q hq).1) Ap Ah Al cp ch cl np nh nl p l HP.out.2.2.2.2.1 HP.out.2.2.2.2.2.2 (by omega) hlb ((HO.out.1.below bwr).more bwr.size) ((HO.out.2.2.below bwr).more bwr.size) (.inl hin))
      unfold hd at K11
      clear hSp hSh hin bwr hFw
      go_wp2_with fail
      clear x2 x3 x4
      refine K11.out.mono ?_
      rintro e12 w12 ⟨rfl, b12⟩
      have P12 := Lib.hid (P11.out.below b12)
      have HE12 := Lib.hid (HE11.out.below b12)
      have K12 := Lib.hid (PJ.wants_any P12.out.pull (fun q hq => (HW1.out.1 q hq).1))
      unfold hd at K12
      clear b12 K11 P11 HE11
      go_wp2_with fail
      refine K12.out.mono ?_
      rintro e13 w13 ⟨A13, m13, c13, es13, rfl, h13, b13⟩
      have hm13 : m13 = k := by rw [← h13.out.2.1, ← HE.out.2.1]
      subst hm13
      have K13 := Lib.hid (paths_same _ _ m13 c13 c10 A13 A10 es13 es W w13 h13.out.2.2.2 (HE12.out.below b13) h13.out.1 HE.out.1 h13.out.2.1 (fun q hq => (HW1.out.1 q hq).1) (by omega))
      have P13 := Lib.hid (P12.out.below b13)
      clear h13 b13 K12 P12 HE12
      go_wp2_with fail
      refine K13.out.mono ?_
      rintro e14 w14 ⟨rfl, b14⟩
      have P14 := Lib.hid (P13.out.below b14)
      have K14 := Lib.hid (P14.out.pull.staged_any (by simp))
      unfold hd at K14
      clear b14 K13 P13
      go_wp2_with fail
      refine K14.out.mono ?_
      rintro e15 w15 ⟨A15, n15, c15, ps15, rfl, h15, b15⟩
      obtain rfl : n15 = 0 := h15.out.2.1
      have bf := HWX.out w14 P14.out.cut.old
      have HF := Lib.hid (bf.trans (b15.mono bf.size))
      clear h15 b15 K14 P14 bf
      go_wp2_with fail
      go_ret
      exact ⟨rfl, HF.out⟩
  ·have HF := Lib.hid (H2.out.2.2.trans (b3.mono H2.out.2.2.size))
   clear b3 K2 H2
   go_wp2_with fail
   go_ret
   exact ⟨rfl, HF.out⟩
 ·have bw2 : Below W0.heap.size W0 w2 := HB.out.2.trans (b2.mono HB.out.2.size)
  have bw2' : Below w.heap.size w w2 := HB0.out.1.trans (bw2.mono HB0.out.1.size)
  have K2 := Lib.hid (newpull_any bw2 1 A n c own HP.out.2.2.1 (by omega) (HP.out.1 w2 bw2'))
  have H2 := Lib.hid bw2'
  clear b2 bw2 bw2' K1 hnoc
  go_wp2_with fail
  refine K2.out.mono ?_
  rintro e3 w3 (⟨hoko, pb, rfl, h3, b3⟩ | ⟨hnoo, rfl, b3⟩)
  ·have HF := Lib.hid (H2.out.trans (b3.mono H2.out.size))
   clear h3 b3 K2 H2
   unfold hd
   go_wp2_with fail
   go_ret
   exact ⟨rfl, HF.out⟩
  ·have HF := Lib.hid (H2.out.trans (b3.mono H2.out.size))
   clear b3 K2 H2
   go_wp2_with fail
   go_ret
   exact ⟨rfl, HF.out⟩
-- ROW BEGIN
set_option maxRecDepth 100000 in
theorem contract (H : Type) (enc : TypeId × Value → H) (W : World) (base : Nat) (args : Array Value) (ds gs : List (DataW H)) (before : List MemPlace)
  (hval : ∀ (j : Nat) t v, Tryz.f8.params[j]? = some t → args[j]? = some v → Value.okWide Tryz.prog W .any base t v)
  (hW : DataW.Whole enc Tryz.prog Tryz.f8.params.toList Rows.pullRefusesSpec.vars false W args.toList ds gs before)
  (hsz : (DataW.weightsEach Tryz.prog (Tryz.f8.params.toList ++ Rows.pullRefusesSpec.plain.varTypes Tryz.prog) (ds ++ gs)).all (· ≤ reachBytes) = true) :
  Calls Tryz.prog 8 args W fun e W' => ∃ v, e = .returned v ∧ Rows.pullRefusesSpec.post enc Tryz.prog Tryz.f8 false true false false W args v W' := by
 have hW' := hW
 obtain ⟨p, q, hA0, hV, hbef, _, _⟩ := hW
 have hA : DataW.TrodAll enc Tryz.prog W 0 (fun _ => true) true Tryz.f8.params.toList args.toList ds p := hA0
 have hA1 := hA
 rw [Tryz.params8] at hA hval hsz
 obtain ⟨v0, vs0, d0, ds0, p0, q0, hargs, rfl, rfl, h0, r0⟩ := trodAll_cons hA
 obtain ⟨v1, vs1, d1, ds1, p1, q1, rfl, rfl, rfl, h1, r1⟩ := trodAll_cons r0
 obtain ⟨v2, vs2, d2, ds2, p2, q2, rfl, rfl, rfl, h2, r2⟩ := trodAll_cons r1
 obtain ⟨rfl, rfl, rfl⟩ := trodAll_nil r2
 obtain rfl : args = #[v0, v1, v2] := by cases args; simp_all
 obtain ⟨rfl, rfl⟩ := trodVars_none hV
 clear hA hargs
 obtain ⟨A0, c0, a0, rfl, n0, l0, b0⟩ := Tree.arg_recs (hval 0 23 v0 rfl rfl) h0 (Vers.wt_arg hsz (j := 0) rfl rfl)
 obtain ⟨A1, c1, a1, rfl, n1, l1, b1⟩ := Tree.arg_recs (hval 1 23 v1 rfl rfl) h1 (Vers.wt_arg hsz (j := 1) rfl rfl)
 obtain ⟨a2, rfl, n2⟩ := Pull.arg_op (hval 2 54 v2 rfl rfl) h2 (Wgt.wt_arg hsz (j := 2) rfl rfl)
 refine (walk W A0 c0 a0 n0 b0 l0 A1 c1 a1 n1 b1 l1 a2 n2).mono fun e W' ⟨he, hb⟩ => ?_
 subst he
 exact ⟨_, rfl, law_post Facts.laid (by rfl) Tryz.underlying4 (by rw [Tryz.params8]; decide +kernel) hW' hA1 rfl hbef rfl rfl rfl hb⟩

set_option maxRecDepth 100000 in
theorem lifted (os : Os) (started : os.Started) (H : Type) (enc : TypeId × Value → H) :
  ReturnsInHanded {} Tryz.checked os 8 .any (Rows.pullRefusesSpec.pre6 enc Tryz.prog Tryz.f8 Rows.pullRefusesRow.domain false) (Rows.pullRefusesSpec.post enc Tryz.prog Tryz.f8 false true false false) := by
 refine returnsInHanded_of_change_sized (C := Tryz.checked) Facts.own started (by kernel_rfl) Tryz.func8
  (ChangeSpec.witness6 (enc := enc) (C := Tryz.checked) false ⟨#[], #[.slice none 0 0, .slice none 0 0, .agg #[.int .i64 0, .slice none 0 0, .slice none 0 0, .slice none 0 0, .slice none 0 0]], []⟩ 8 (by kernel_rfl) (by kernel_rfl) (by kernel_rfl) (by kernel_rfl)) ?_
 intro W base args ds gs before hval hW _ hsz _
 exact contract H enc W base args ds gs before hval hW hsz

theorem holds : Rows.PullRefusesSaid :=
 OpenClaim.holds_of_wide 8 Tryz.f8 rfl rfl rfl rfl rfl rfl rfl ⟨rfl, rfl, rfl, rfl, rfl⟩ rfl rfl rfl rfl rfl (by kernel_rfl) Tryz.func8 (by kernel_rfl)
  (of_decide_eq_true (by kernel_rfl)) (by unfold Func.isWrapper; first | (rw [if_pos (by decide +kernel)]; kernel_rfl) | (rw [if_neg (by decide +kernel)]; exact ⟨rfl, rfl⟩))
  (fun os started H enc _ => lifted os started H enc)
-- ROW END
end PullRefuses
end Go.Proofs.YtkfdplfgaddkmaaGreat
