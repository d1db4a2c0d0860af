/-
 Several texts of this family in one: TreeDoc, TreeDocRecs, TreeDocHash, TreeDocKids, TreeLaw, TreeWith, TreeArgs.
-/
import Derived.Test.YtekhaejhmlebbaaGreatQHTreeA
import Derived.Test.YtekhaejhmlebbaaGreatQHTreeB
import Derived.WalkLawsBesides
import Derived.Test.YtekhaejhmlebbaaGreatQHTreeC
import Derived.Deep.RegionHeld3
import Derived.Deep.DrawnRows
import Derived.Deep.DeepCutAuto
import Derived.Deep.CutBlock
import Derived.Test.YtekhaejhmlebbaaGreatQGArg
import Derived.Test.YtekhaejhmlebbaaGreatQGBase
import Derived.Test.YtekhaejhmlebbaaGreatQRow
/-
 The document's side: a key's place, paths, a hash as bytes, the mark of a key with its versions.
-/
namespace Go.Proofs.YtekhaejhmlebbaaGreat
namespace Tree
open Go.RowKit Vers Num Ring Disk Blk
open Go.Proofs.YtekhaejhmlebbaaGreat.Code hiding Bn
attribute [local go_sem ↓] Go.wp_at_zero Go.wp_at_succ

set_option maxRecDepth 100000 in
theorem ref_place_any (k : Nm) (w : World) (hbig : k.size ≤ 140737488355328) : Calls Tryz.prog 32 #[.string k] w (Placed k w) := by
 obtain ⟨c, V, hcv, hns, hb⟩ := text_bytes k w
 have H1 := Lib.hid (ref_hash_any _ c k.size (strNums k) (strNums_length k) (strNums_bytes k) V hns hbig)
 have hr := hash_range (strNums k)
 have HD : Hid (dig0 k = keyH k / 1152921504606846976 ∧ dig1 k = keyH k / 72057594037927936 % 16) := Lib.hid ⟨rfl, rfl⟩
 unfold keyH at HD
 obtain ⟨x, hx⟩ : ∃ x, hashL (strNums k) = x := ⟨_, rfl⟩
 rw [hx] at H1 hr HD
 have HB := Lib.hid hb
 obtain ⟨r0, r1⟩ := hr
 clear hns hb hx
 go_enter Tryz.func32, Tryz.ntmps32
 go_wp2_with fail
 refine H1.out.mono ?_
 rintro e w1 ⟨rfl, rfl⟩
 go_wp2_with fail
 go_ret
 exact ⟨V.heap.size, rfl, Lib.hid ⟨by rw [HD.out.1, HD.out.2]; exact ns_two V _ _, HB.out.size⟩, HB.out.alloc HB.out.size _⟩

set_option maxRecDepth 100000 in
theorem halves_any (A : Option Addr) (c n : Nat) (zs : List Int) (hn : zs.length = n) (hbig : n ≤ 70368744177664) (h : Int) (hh : U h) (base : Nat) (w : World) (hb : base ≤ w.heap.size) (ho : w.ownsRow base 5 1 (.slice A n c) n (nums .u8 zs)) :
  Calls Tryz.prog 87 #[.slice A n c, .int .u64 h] w (OwnB base (zs ++ halves h) w) := by
 obtain ⟨i0, hi0, hz0, hz1, hz2⟩ := info_parts info_u8
 unfold U at hh
 obtain ⟨r0, r1⟩ := hh
 obtain ⟨x, hx⟩ : ∃ x, h / 4294967296 = x := ⟨_, rfl⟩
 obtain ⟨y, hy⟩ : ∃ y, h % 4294967296 = y := ⟨_, rfl⟩
 have x0 : 0 ≤ x := by omega
 have x1 : x < 4294967296 := by omega
 have y0 : 0 ≤ y := by omega
 have y1 : y < 4294967296 := by omega
 have l1 := putL_len x
 have l2 := putL_len y
 have HX := Lib.hid (show halves h = putL x ++ putL y by unfold halves; rw [hx, hy])
 have HN := Lib.hid hn
 clear hn
 go_enter Tryz.func87, Tryz.ntmps87
 go_wp2_with fail
 refine (ref_putnum_pos x ⟨x0, by omega⟩ w).mono ?_
 rintro e w1 ⟨A1, c1, rfl, o1, b1⟩
 have s1 := b1.size
 have ho1 := own_below ho b1 (Nat.le_refl _)
 have ns1 := own_ns o1
 obtain ⟨k1, hk1⟩ : ∃ k, (putL x).length = k := ⟨_, rfl⟩
 rw [hk1] at l1 ⊢
 go_wp2_with (at_builtin; refine wpList_append_ns _ rfl (.tmp 5) (.tmp 9) 98 rfl base 5 i0 _ 1 Tryz.underlying98 hi0 hz0 hz1 hz2 rfl _ n (nums .u8 zs) rfl ho1 .u8 w1.heap.size A1 k1 c1 (putL x) hk1 rfl ns1 (by omega) (by omega) (by omega) ?_; intro v2 w2 o2 g2 at2)
 have b2 : Below base w w2 := (b1.mono hb).grown g2 (by omega) (fun j hj => (ho1.lt j hj).1)
 obtain ⟨A2, c2, rfl⟩ := own_form o2
 have hb2 : base ≤ w2.heap.size := Nat.le_trans hb b2.size
 have o2' : w2.ownsRow base 5 1 (.slice A2 (n + k1) c2) (n + k1) (nums .u8 (zs ++ putL x)) := by
  have e : nums .u8 (zs ++ putL x) = nums .u8 zs ++ nums .u8 (putL x) := by simp [nums]
  rw [e]; exact o2
 have HB2 := Lib.hid b2
 clear o1 b1 s1 ho1 ns1 o2 g2 at2 b2 ho
 refine (ref_putnum_pos y ⟨y0, by omega⟩ w2).mono ?_
 rintro e w3 ⟨A3, c3, rfl, o3, b3⟩
 have s3 := b3.size
 have ho3 := own_below o2' b3 (Nat.le_refl _)
 have ns3 := own_ns o3
 have HK1 := Lib.hid hk1
 obtain ⟨k2, hk2⟩ : ∃ k, (putL y).length = k := ⟨_, rfl⟩
 rw [hk2] at l2 ⊢
 clear hk1
 go_wp2_with (at_builtin; refine wpList_append_ns _ rfl (.tmp 11) (.tmp 15) 98 rfl base 5 i0 _ 1 Tryz.underlying98 hi0 hz0 hz1 hz2 rfl _ (n + k1) (nums .u8 (zs ++ putL x)) rfl ho3 .u8 w3.heap.size A3 k2 c3 (putL y) hk2 rfl ns3 (by omega) (by omega) (by omega) ?_; intro v4 w4 o4 g4 at4)
 have b4 : Below base w w4 := (HB2.out.trans (b3.mono hb2)).grown g4 (by omega) (fun j hj => (ho3.lt j hj).1)
 obtain ⟨A4, c4, rfl⟩ := own_form o4
 have e4 : n + k1 + k2 = (zs ++ halves h).length := by rw [HX.out, ← HK1.out, ← hk2, ← HN.out]; simp [Nat.add_assoc]
 have e5 : nums .u8 (zs ++ putL x) ++ nums .u8 (putL y) = nums .u8 (zs ++ halves h) := by rw [HX.out]; simp [nums]
 rw [e5, e4] at o4
 have HF := Lib.hid (And.intro o4 (And.intro b4 e4))
 clear o4 b4 g4 at4 e4 e5 o3 b3 ho3 ns3 hk2
 go_ret
 rw [HF.out.2.2]
 exact ⟨A4, c4, rfl, Lib.hid HF.out.1, HF.out.2.1⟩

set_option maxRecDepth 100000 in
theorem ref_mark_any (key : Nm) (A : Option Addr) (c m : Nat) (l : List Vr) (hm : l.length = m) (hkey : key.size ≤ 32) (hl : RightV l) (w : World) (hv : Vs w 0 w.heap.size A l) :
  Calls Tryz.prog 88 #[.string key, .slice A m c] w (fun e w' => e = .returned (.int .u64 (markF (key, l))) ∧ Below w.heap.size w w') := by
 obtain ⟨i0, hi0, hz0, hz1, hz2⟩ := info_parts info_u8
 have hm2 : m ≤ 512 := by have := hl.1; omega
 have HV := Lib.hid (And.intro hv (And.intro hm (right_nums hl)))
 clear hv hm hl
 go_enter Tryz.func88, Tryz.ntmps88
 go_wp2_with fail
 refine (ref_puttext key (by omega) w).mono ?_
 rintro e w1 ⟨A1, c1, rfl, o1, b1⟩
 have hl1 : (textL key).length ≤ 41 := by
  have h := putL_len (key.size : Int)
  unfold textL
  rw [List.length_append, strNums_length]
  omega
 obtain ⟨n1, hn1⟩ : ∃ n, (textL key).length = n := ⟨_, rfl⟩
 rw [hn1] at o1 hl1 ⊢
 have HI : Hid (Marking' key l m w (.slice A1 n1 c1) (.int .i64 0) w1) := Lib.hid ⟨0, n1, A1, c1, rfl, by omega, rfl, by omega, Lib.hid ⟨by simpa using hn1, by simpa using o1⟩, b1⟩
 clear o1 b1 hn1 hl1
 go_wp2_with fail
 go_loopw [5, 6] (fun v q wr => Marking' key l m w v q wr) (fun _ q _ => m - (intOf q).toNat)
 case atStart => exact HI.out
 case round =>
  clear HI
  obtain ⟨k, n, A2, c2, rfl, hk, rfl, hn41, hst, hb⟩ := hrel
  by_cases hlt : k < m
  ·obtain ⟨pb, off, A3, c3, rfl, _, hbB, a0, a1, a2, a3, a4, _⟩ := HV.out.1.at HV.out.2.1 hb hlt rfl
   have hkl : k < l.length := by have := HV.out.2.1; omega
   have hmem : l.getD k v0 ∈ l := by
    rw [List.getD_eq_getElem?_getD, List.getElem?_eq_getElem hkl]
    exact List.getElem_mem _
   obtain ⟨⟨z0, z1⟩, z2, z3⟩ := HV.out.2.2 _ hmem
   have HT : Hid (l.take (k + 1) = l.take k ++ [l.getD k v0]) := Lib.hid (by
    rw [List.take_succ_eq_append_getElem hkl]
    simp [List.getD_eq_getElem?_getD, hkl])
   obtain ⟨v, hvv⟩ : ∃ v, l.getD k v0 = v := ⟨_, rfl⟩
   rw [hvv] at a0 a1 a2 a3 a4 HT z0 z1 z2 z3
   obtain ⟨s, vn, vp, vg, vx⟩ := v
   simp only at a0 a1 a2 a3 a4 z0 z1 z2 z3
   obtain ⟨kp, hkp⟩ : ∃ kp, vp.length = kp := ⟨_, rfl⟩
   rw [hkp] at a2
   have d1 : (0 : Int) ≤ (k : Int) := by omega
   have d2 : (k : Int) < (m : Int) := by omega
   have l1 := putL_len s
   have l2 := putL_len vn
   have hsz := hb.size
   have HB := Lib.hid hb
   clear hb hvv hkp hmem
   have o0 := hst.out.2
   have HS := Lib.hid (And.intro hst.out.1 (And.intro a1 hbB))
   clear hst a1 a2 a3 a4
   go_wp2_with fail
   refine (ref_putnum_pos s ⟨z0, z1⟩ wr).mono ?_
   rintro e w2 ⟨B1, e1, rfl, o1, b1⟩
   have s1 := b1.size
   have o2 := own_below o0 b1 (Nat.le_refl _)
   have ns1 := own_ns o1
   obtain ⟨k1, hk1⟩ : ∃ k, (putL s).length = k := ⟨_, rfl⟩
   rw [hk1] at l1 ⊢
   have hw2 : w.heap.size ≤ w2.heap.size := Nat.le_trans hsz s1
   have HB2 := Lib.hid (HB.out.trans (b1.mono hsz))
   have HB1 := Lib.hid b1
   have HCV : Hid (∀ w3, w2.grownBy w3 (Value.slice A2 n c2).ownBlock → w3.cell? ⟨pb, off + k * 5 + 1, none⟩ = some (.int .i64 vn)) := Lib.hid fun w3 g3 => by
    have hne : some pb ≠ Value.ownBlock (.slice A2 n c2) := fun q => by have := (o2.lt pb q.symm).1; have := HS.out.2.2; omega
    exact (World.cell?_of_block (g3.block pb (by have := HS.out.2.2; omega) hne)).trans ((World.cell?_of_block (HB1.out.block pb (by have := HS.out.2.2; omega))).trans HS.out.2.1)
   clear b1 o1 o0
   go_wp2_with (at_builtin; refine wpList_append_ns _ rfl (.tmp 15) (.tmp 22) 98 rfl w.heap.size 5 i0 _ 1 Tryz.underlying98 hi0 hz0 hz1 hz2 rfl _ n (nums .u8 (textL key ++ (l.take k).flatMap dotL)) rfl o2 .u8 w2.heap.size B1 k1 e1 (putL s) hk1 rfl ns1 (by omega) (by omega) hw2 ?_; intro v3 w3 o3 g3 at3; obtain ⟨B3, e3, rfl⟩ := own_form o3; have cv := HCV.out _ g3; have HB3 := Lib.hid (HB2.out.grown g3 hw2 (fun j hj => (o2.lt j hj).1)))
   have hw3 : w.heap.size ≤ w3.heap.size := HB3.out.size
   have HK1 := Lib.hid hk1
   clear o2 g3 at3 ns1 HB2 hk1
   refine (ref_putnum_pos vn ⟨z2, z3⟩ w3).mono ?_
   rintro e w4 ⟨B4, e4, rfl, o4, b4⟩
   have s4 := b4.size
   have o5 := own_below o3 b4 (Nat.le_refl _)
   have ns4 := own_ns o4
   obtain ⟨k2, hk2⟩ : ∃ k, (putL vn).length = k := ⟨_, rfl⟩
   rw [hk2] at l2 ⊢
   have HB4 := Lib.hid (HB3.out.trans (b4.mono hw3))
   have hw4 : w.heap.size ≤ w4.heap.size := HB4.out.size
   clear b4 o4 o3 HB3 cv
   go_wp2_with (at_builtin; refine wpList_append_ns _ rfl (.tmp 24) (.tmp 31) 98 rfl w.heap.size 5 i0 _ 1 Tryz.underlying98 hi0 hz0 hz1 hz2 rfl _ (n + k1) (nums .u8 (textL key ++ (l.take k).flatMap dotL) ++ nums .u8 (putL s)) rfl o5 .u8 w4.heap.size B4 k2 e4 (putL vn) hk2 rfl ns4 (by omega) (by omega) hw4 ?_; intro v6 w6 o6 g6 at6; obtain ⟨B6, e6, rfl⟩ := own_form o6; have HB6 := Lib.hid (HB4.out.grown g6 hw4 (fun j hj => (o5.lt j hj).1)))
   have HF : Hid (Marking' key l m w (.slice B6 (n + k1 + k2) e6) (.int .i64 ((k : Int) + 1)) w6) := Lib.hid ⟨k + 1, n + k1 + k2, B6, e6, by go_num, by omega, rfl, by omega, Lib.hid ⟨by
     rw [HT.out, List.flatMap_append, ← List.append_assoc, List.length_append, HS.out.1]
     simp [dotL, HK1.out, hk2, Nat.add_assoc], by
     have h := o6
     rw [HT.out]
     simpa [nums, dotL, List.append_assoc] using h⟩, HB6.out⟩
   clear o6 g6 at6 o5 ns4 HB4 hk2
   go_roundw
   case rel => exact HF.out
   case measure => simp only [intOf]; omega
  ·have hkm : k = m := by omega
   subst hkm
   have hfull : l.take k = l := List.take_of_length_le (by have := HV.out.2.1; omega)
   rw [hfull] at hst
   have hby : ∀ z ∈ textL key ++ l.flatMap dotL, 0 ≤ z ∧ z ≤ 255 := fun z hz => by
    rcases List.mem_append.1 hz with hz | hz
    ·unfold textL at hz
     rcases List.mem_append.1 hz with hz | hz
     ·exact putL_bytes _ (by omega) z hz
     ·exact strNums_bytes key z hz
    ·refine flat_bytes dotL l (fun v hv z hz => ?_) z hz
     have h1 := HV.out.2.2 v hv
     unfold dotL at hz
     rcases List.mem_append.1 hz with hz | hz
     ·exact putL_bytes _ h1.1.1 z hz
     ·exact putL_bytes _ h1.2.1 z hz
   have HK := Lib.hid (ref_hash_any A2 c2 n (textL key ++ l.flatMap dotL) hst.out.1 hby wr (own_ns (n := n) (by have h := hst.out.2; rw [hst.out.1]; exact h)) (by omega))
   have HB := Lib.hid hb
   clear hst hb hfull hby
   go_wp2_with fail
   refine HK.out.mono ?_
   rintro e w2 ⟨rfl, rfl⟩
   go_wp2_with fail
   go_ret
   exact ⟨rfl, HB.out⟩

/-! ### Paths -/
set_option maxRecDepth 100000 in
theorem path_any (A : Option Addr) (c n : Nat) (p : List Int) (hn : p.length = n) (hbig : n ≤ 140737488355328) (w : World) (hr : Ns .i64 w w.heap.size A p) :
  Calls Tryz.prog 35 #[.slice A n c] w (fun e w' => e = .returned (.bool (decide (okP p))) ∧ w = w') := by
 obtain ⟨D, hD⟩ : ∃ D, decide (okP p) = D := ⟨_, rfl⟩
 rw [hD]
 have HS := Lib.hid (And.intro hr (And.intro hn hD))
 clear hr hn hD
 go_enter Tryz.func35, Tryz.ntmps35
 go_wp2_with fail
 go_loop [3] (fun q => ∃ k : Nat, q = .int .i64 k ∧ k ≤ n ∧ Hid (∀ x ∈ p.take k, 0 ≤ x ∧ x < 16)) (fun q => n - (intOf q).toNat)
 case atStart => exact ⟨0, rfl, by omega, Lib.hid (by simp)⟩
 case round =>
  obtain ⟨k, rfl, hk, hst⟩ := hrel
  have hn := HS.out.2.1
  by_cases hlt : k < n
  ·have d1 : (0 : Int) ≤ (k : Int) := by omega
   have d2 : (k : Int) < (n : Int) := by omega
   have hbad := all_bad (R := fun x => 0 ≤ x ∧ x < 16) (0 : Int) (show k < p.length by omega)
   have hstep := all_step (R := fun x => 0 ≤ x ∧ x < 16) (0 : Int) (show k < p.length by omega) hst.out
   obtain ⟨pb, off, rfl, hpb, hc⟩ := HS.out.1 (by omega)
   have c0 := hc k (by omega)
   obtain ⟨x, hxx⟩ : ∃ x, p.getD k 0 = x := ⟨_, rfl⟩
   rw [hxx] at c0 hbad hstep
   by_cases cA : 0 ≤ x ∧ x < 16
   ·have HN := Lib.hid (hstep cA)
    obtain ⟨a1, a2⟩ := cA
    have e1 : decide (x < 0) = false := decide_eq_false (by omega)
    have e2 : decide (15 < x) = false := decide_eq_false (by omega)
    clear hstep hbad hst hn hxx hc
    go_wp2_with fail
    go_round
    case rel => exact ⟨k + 1, rfl, by omega, HN⟩
    case measure => simp only [intOf]; omega
   ·have HN := Lib.hid (HS.out.2.2.symm.trans (decide_eq_false (fun h => by
     have := of_decide_eq_false (hbad cA)
     exact this fun y hy => h.1 y hy)))
    clear hstep hbad hst hn hxx hc
    by_cases a1 : x < 0
    ·have e1 : decide (x < 0) = true := decide_eq_true a1
     clear cA
     go_wp2_with fail
     go_ret
     exact ⟨by rw [HN.out]; rfl, rfl⟩
    ·have e1 : decide (x < 0) = false := decide_eq_false a1
     have a2 : 16 ≤ x := by omega
     have e2 : decide (15 < x) = true := decide_eq_true a2
     clear cA
     go_wp2_with fail
     go_ret
     exact ⟨by rw [HN.out]; rfl, rfl⟩
  ·have hkn : k = n := by omega
   subst hkn
   have hall : ∀ x ∈ p, 0 ≤ x ∧ x < 16 := by
    have h := hst.out
    rwa [List.take_of_length_le (by omega)] at h
   have HN : Hid (D = decide ((k : Int) ≤ 2)) := Lib.hid (by
    rw [← HS.out.2.2]
    exact decide_eq_decide.2 ⟨fun h => by have := h.2; omega, fun h => ⟨hall, by omega⟩⟩)
   clear hst hn hall
   by_cases h2 : (k : Int) ≤ 2
   ·rw [decide_eq_true h2] at HN
    go_wp2_with fail
    go_ret
    exact ⟨by rw [HN.out]; rfl, rfl⟩
   ·rw [decide_eq_false h2] at HN
    go_wp2_with fail
    go_ret
    exact ⟨by rw [HN.out]; rfl, rfl⟩

set_option maxRecDepth 100000 in
theorem ref_longer_any (A : Option Addr) (c n : Nat) (p : List Int) (hn : p.length = n) (hbig : n ≤ 1024) (d : Int) (w : World) (hr : Ns .i64 w w.heap.size A p) :
  Calls Tryz.prog 37 #[.slice A n c, .int .i64 d] w (OwnI (p ++ [d]) (n + 1) w) := by
 obtain ⟨i0, hi0, hz0, hz1, hz2⟩ := info_parts info_int
 have HH := Lib.hid (And.intro hn hr)
 clear hn hr
 go_enter Tryz.func37, Tryz.ntmps37
 go_wp2_with (first
  | (at_builtin; refine wpList_append_ns _ rfl (.tmp 6) (.tmp 7) 23 rfl w.heap.size 3 i0 _ 8 Tryz.underlying23 hi0 hz0 hz1 hz2 rfl _ 0 [] rfl (World.ownsRow_nil _ _ _ _) .i64 w.heap.size A n c p HH.out.1 rfl HH.out.2 (by omega) (by omega) (Nat.le_refl _) ?_; intro v1 w1 o1 g1 at1; obtain ⟨A1, c1, rfl⟩ := own_form o1; have hs1 := g1.size; have HB1 := Lib.hid ((Below.refl w.heap.size w).grown g1 (Nat.le_refl _) (fun j hj => by cases hj)); have o1' : w1.ownsRow w.heap.size 3 1 (.slice A1 n c1) n (nums .i64 p) := by simpa using o1)
  | (at_builtin; refine wpList_append_one _ rfl (.tmp 9) (.tmp 11) 23 rfl w.heap.size 3 i0 _ 8 Tryz.underlying23 hi0 hz0 hz1 hz2 rfl _ n (nums .i64 p) rfl o1' (.int .i64 d) 1 rfl rfl (by omega) (by omega) hs1 ?_; intro v2 w2 o2 g2 at2)
  | fail)
 have b2 := HB1.out.grown g2 hs1 (fun j hj => (o1'.lt j hj).1)
 obtain ⟨A2, c2, rfl⟩ := own_form o2
 have HF := Lib.hid (And.intro o2 b2)
 clear o2 b2 g2 at2 o1 o1' g1 at1
 go_ret
 exact ⟨A2, c2, rfl, Lib.hid (by have h := HF.out.1; rwa [show nums .i64 p ++ [Value.int .i64 d] = nums .i64 (p ++ [d]) by simp [nums]] at h), HF.out.2⟩
end Tree
end Go.Proofs.YtekhaejhmlebbaaGreat

/-
 The document's records beneath a path; records with one in the place of its key's.
-/
namespace Go.Proofs.YtekhaejhmlebbaaGreat
namespace Tree
open Go.RowKit Vers Num Ring Disk Blk
open Go.Proofs.YtekhaejhmlebbaaGreat.Code hiding Bn
attribute [local go_sem ↓] Go.wp_at_zero Go.wp_at_succ

theorem info_rec' : (Tryz.prog.info? 53).map (fun i => (i.zero, i.size, i.bytes)) = some (some (.agg #[.string ⟨#[]⟩, .slice none 0 0]), 2, 40) := by kernel_rfl
def RowS (base : Nat) (w : World) (v : Value) (ps : List Pr) : Prop :=
 w.ownsRow base 53 2 v ps.length (rcs ps) ∧ ∀ p ∈ ps, Vs w 0 base p.2.1 p.1.2 ∧ p.1.2.length ≤ p.2.2 ∧ p.1.2.length ≤ 140737488355328 ∧ p.1.1.size ≤ 140737488355328
theorem rowS_nil (base : Nat) (w : World) : RowS base w (.slice none 0 0) [] := ⟨World.ownsRow_nil _ _ _ _, fun p hp => by cases hp⟩
theorem RowS.below {base : Nat} {w w' : World} {v : Value} {ps : List Pr} (h : RowS base w v ps) (hb : Below w.heap.size w w') (hB : base ≤ w.heap.size) : RowS base w' v ps :=
 ⟨own_below h.1 hb (Nat.le_refl _), fun p hp => ⟨(h.2 p hp).1.below (hb.mono hB), (h.2 p hp).2⟩⟩
theorem RowS.add {base : Nat} {w w' : World} {v v' : Value} {ps : List Pr} {p : Pr} (h : RowS base w v ps) (ho : w'.ownsRow base 53 2 v' (ps.length + 1) (rcs (ps ++ [p]))) (hg : w.grownBy w' v.ownBlock) (hB : base ≤ w.heap.size) (hp : Vs w 0 base p.2.1 p.1.2 ∧ p.1.2.length ≤ p.2.2 ∧ p.1.2.length ≤ 140737488355328 ∧ p.1.1.size ≤ 140737488355328) : RowS base w' v' (ps ++ [p]) := by
 have hb : Below base w w' := (Below.refl _ _).grown hg hB (fun j hj => (h.1.lt j hj).1)
 refine ⟨by simpa using ho, fun q hq => ?_⟩
 rcases List.mem_append.1 hq with hq | hq
 ·exact ⟨(h.2 q hq).1.below hb, (h.2 q hq).2⟩
 ·rw [List.mem_singleton.1 hq]
  exact ⟨hp.1.below hb, hp.2⟩
theorem RowS.rs {base n c : Nat} {w : World} {A : Option Addr} {ps : List Pr} (h : RowS base w (.slice A n c) ps) (hB : base ≤ w.heap.size) : Rs w 0 w.heap.size A (ps.map Prod.fst) := fun hp => by
 rw [List.length_map] at hp
 obtain ⟨ho, hpa⟩ := h
 rcases ho.2 with ⟨_, h0⟩ | ⟨g, cap, cur, hv, hbg, hg, rest⟩
 ·omega
 ·injection hv with h1 h2 h3
  subst h1
  refine ⟨g, 0, rfl, Nat.zero_le _, (Array.getElem?_eq_some_iff.1 hg).1, fun j hj => ?_⟩
  rw [List.length_map] at hj
  have e : (ps.map Prod.fst).getD j r0 = (ps.getD j (r0, none, 0)).1 := by simp [List.getD_eq_getElem?_getD, hj]
  have hm : ps.getD j (r0, none, 0) ∈ ps := by
   rw [List.getD_eq_getElem?_getD, List.getElem?_eq_getElem hj]
   exact List.getElem_mem _
  rw [e]
  have hat : ∀ r, r < 2 → ∀ u, (rcc (ps.getD j (r0, none, 0)))[r]? = some u → w.cell? ⟨g, 0 + j * 2 + r, none⟩ = some u := fun r hr u hu => by
   have hc := ho.cells (g := g) rfl (j * 2 + r) u (by rw [rcs_at ps j hj r hr]; exact hu)
   rw [Vers.add_plain] at hc
   rw [show 0 + j * 2 + r = 0 + (j * 2 + r) by omega]
   exact hc
  obtain ⟨q1, q2, q3, q4⟩ := hpa _ hm
  exact ⟨_, _, hat 0 (by omega) _ (by simp [rcc]), hat 1 (by omega) _ (by simp [rcc]), q1.more hB, q2, q3, q4⟩
def NewS (l : List Rc) (w : World) (e : Ending) (w' : World) : Prop :=
 ∃ A m c ps, e = .returned (.slice A m c) ∧ Hid (ps.map Prod.fst = l ∧ l.length = m ∧ m ≤ c ∧ RowS w.heap.size w' (.slice A m c) ps) ∧ Below w.heap.size w w'

def inK (key : Nm) (p : List Int) (k : Nat) : Bool := (List.range k).all fun (j : Nat) => decide (([dig0 key, dig1 key].getD j 0 : Int) = p.getD j 0)
theorem inK_succ (key : Nm) (p : List Int) (k : Nat) : inK key p (k + 1) = (inK key p k && decide (([dig0 key, dig1 key].getD k 0 : Int) = p.getD k 0)) := by simp [inK, List.range_succ]
theorem inK_full {p : List Int} (hp : okP p) (key : Nm) : inK key p p.length = inP p key := by
 rcases ok_cases hp with rfl | ⟨a, rfl, _⟩ | ⟨a, b, rfl, _, _⟩
 ·rfl
 ·simp [inK, inP, List.range_succ]
 ·simp [inK, inP, List.range_succ]
theorem take_filter {all : List Rc} {p : List Int} {k : Nat} (hk : k < all.length) : beneath (all.take (k + 1)) p = beneath (all.take k) p ++ (if inP p (all.getD k r0).1 = true then [all.getD k r0] else []) := by
 unfold beneath
 rw [List.take_succ_eq_append_getElem hk, List.filter_append]
 congr 1
 have e : all.getD k r0 = all[k] := by simp [List.getD_eq_getElem?_getD, hk]
 rw [e]
 by_cases h : inP p all[k].1 = true
 ·rw [if_pos h, List.filter_cons, if_pos h]; rfl
 ·rw [if_neg h, List.filter_cons, if_neg h]; rfl
set_option maxRecDepth 100000 in
set_option maxHeartbeats 2000000 in
theorem ref_recs_no (A A' : Option Addr) (c c' n m : Nat) (all : List Rc) (p : List Int) (_hm : all.length = m) (hm2 : m ≤ 3518437208882) (hn : p.length = n) (hbig : n ≤ 140737488355328) (w : World) (hr : Ns .i64 w w.heap.size A' p) (hp : ¬ okP p) :
  Calls Tryz.prog 46 #[.slice A m c, .slice A' n c'] w (NewS (recsF all p) w) := by
 have hF : recsF all p = [] := by unfold recsF; rw [if_neg hp]
 rw [hF]
 have hP := path_any A' c' n p hn hbig w hr
 rw [decide_eq_false hp] at hP
 have HP := Lib.hid hP
 clear hF hP hp hn hr
 go_enter Tryz.func46, Tryz.ntmps46
 go_wp2_with fail
 refine wp_loop_rounds 1 ?_
 rw [rounds_succ]
 by_cases hm0 : m = 0
 ·have e1 : ¬ 0 < m := by omega
  clear hm0
  go_wp2_with fail
  go_ret
  exact ⟨none, 0, 0, [], rfl, Lib.hid ⟨rfl, rfl, Nat.le_refl _, rowS_nil _ _⟩, Below.refl _ _⟩
 ·have e1 : 0 < m := by omega
  clear hm0
  go_wp2_with fail
  refine HP.out.mono ?_
  rintro e w1 ⟨rfl, rfl⟩
  go_wp2_with fail
  go_ret
  exact ⟨none, 0, 0, [], rfl, Lib.hid ⟨rfl, rfl, Nat.le_refl _, rowS_nil _ _⟩, Below.refl _ _⟩
set_option maxRecDepth 100000 in
set_option maxHeartbeats 2000000 in
theorem ref_recs_any (A A' : Option Addr) (c c' n m : Nat) (all : List Rc) (p : List Int) (hm : all.length = m) (hm2 : m ≤ 3518437208882) (hn : p.length = n) (hbig : n ≤ 140737488355328) (w : World) (hv : Rs w 0 w.heap.size A all) (hr : Ns .i64 w w.heap.size A' p) (hp : okP p) :
  Calls Tryz.prog 46 #[.slice A m c, .slice A' n c'] w (NewS (recsF all p) w) := by
 obtain ⟨i0, hi, hz0, hz1, hz2⟩ := info_parts info_rec'
 have hF : recsF all p = beneath all p := by unfold recsF; rw [if_pos hp]
 rw [hF]
 have hn2 : n ≤ 2 := by have := hp.2; omega
 have HP : Hid (∀ W, Below w.heap.size w W → Calls Tryz.prog 35 #[.slice A' n c'] W (fun e w' => e = .returned (.bool true) ∧ W = w')) := Lib.hid fun W hW => by
  have h := path_any A' c' n p hn hbig W ((hr.below hW).more hW.size)
  rwa [decide_eq_true hp] at h
 have HV := Lib.hid (And.intro hv (And.intro hm (And.intro hr (And.intro hn hp))))
 clear hv hm hr hn hp hF
 go_enter Tryz.func46, Tryz.ntmps46
 go_wp2_with fail
 go_loopw [5, 6] (fun v q wr => ∃ (k x : Nat) (A1 : Option Addr) (c1 : Nat) (ps : List Pr), q = .int .i64 k ∧ k ≤ m ∧ v = .slice A1 x c1 ∧ x ≤ k ∧ Hid (ps.map Prod.fst = beneath (all.take k) p ∧ ps.length = x ∧ RowS w.heap.size wr (.slice A1 x c1) ps ∧ Below w.heap.size w wr)) (fun _ q _ => m - (intOf q).toNat)
 case atStart => exact ⟨0, 0, none, 0, [], rfl, by omega, rfl, by omega, Lib.hid ⟨rfl, rfl, rowS_nil _ _, Below.refl _ _⟩⟩
 case round =>
  obtain ⟨k, x, A1, c1, ps, rfl, hk, rfl, hxk, hst⟩ := hrel
  by_cases hlt : k < m
  ·have d1 : (0 : Int) ≤ (k : Int) := by omega
   have d2 : (k : Int) < (m : Int) := by omega
   have hb := hst.out.2.2.2
   obtain ⟨pb, off, A4, c4, rfl, _, hbB, k0, k1, k2, k3⟩ := HV.out.1.at HV.out.2.1 hb hlt rfl
   have hkl : k < all.length := by have := HV.out.2.1; omega
   have HTk := Lib.hid (take_filter (p := p) hkl)
   obtain ⟨r, hrr⟩ : ∃ r, all.getD k r0 = r := ⟨_, rfl⟩
   rw [hrr] at k0 k1 k2 k3 HTk
   obtain ⟨key, lv⟩ := r
   simp only at k0 k1 k2 k3
   obtain ⟨ml, hml⟩ : ∃ ml, lv.length = ml := ⟨_, rfl⟩
   rw [hml] at k1 k3
   have hPL := Lib.hid (HP.out wr hb)
   have hsz := hb.size
   have hPC := Lib.hid (ref_place_any key wr k3.2.2)
   have HST := Lib.hid (And.intro hst.out (And.intro k0 (And.intro k1 (And.intro k2 (And.intro k3 (And.intro hml hbB))))))
   clear hst hb hrr hkl k1 k2 k3 hml
   go_wp2_with fail
   refine hPL.out.mono ?_
   rintro e w1 ⟨rfl, rfl⟩
   go_wp2_with fail
   refine hPC.out.mono ?_
   rintro e w2 ⟨g, rfl, hpl, b2⟩
   have hns := hpl.out.1
   have hgl := hpl.out.2
   obtain ⟨dd0, hdd0⟩ : ∃ d, dig0 key = d := ⟨_, rfl⟩
   obtain ⟨dd1, hdd1⟩ : ∃ d, dig1 key = d := ⟨_, rfl⟩
   have HPP : Hid (Ns .i64 w2 w2.heap.size (some ⟨g, 0, none⟩) [dig0 key, dig1 key] ∧ Below wr.heap.size wr w2 ∧ Ns .i64 w2 w2.heap.size A' p) := Lib.hid ⟨hns, b2, by
    have hbw := HST.out.1.2.2.2.trans (b2.mono hsz)
    exact (HV.out.2.2.1.below hbw).more hbw.size⟩
   clear hpl hns b2 hPL hPC k0
   obtain ⟨wo, hwo⟩ : ∃ W, W = wr := ⟨_, rfl⟩
   subst hwo
   go_wp2_with fail
   go_loopw [8, 9] (fun z q wr => ∃ (j : Nat) (b : Bool), q = .int .i64 j ∧ z = .bool b ∧ j ≤ n ∧ Hid (b = inK key p j) ∧ Hid (∃ t, wr = w2.drewN t)) (fun _ q _ => n - (intOf q).toNat)
   case atStart => exact ⟨0, true, rfl, rfl, by omega, Lib.hid rfl, Lib.hid ⟨0, rfl⟩⟩
   case round =>
    obtain ⟨j, b, rfl, rfl, hj, hbj, hwt⟩ := hrel
    by_cases hltj : j < n
    ·have j1 : (0 : Int) ≤ (j : Int) := by omega
     have j2 : (j : Int) < (n : Int) := by omega
     have j3 : (j : Int) < 2 := by omega
     obtain ⟨t, rfl⟩ := hwt.out
     obtain ⟨b', off', e9, _, hc9⟩ := HPP.out.1 (by simp)
     injection e9 with e9
     injection e9 with e9 e10
     subst e9 e10
     have c9 := hc9 j (by simp; omega)
     obtain ⟨qb, qo, rfl, _, hc8⟩ := HPP.out.2.2 (by have := HV.out.2.2.2.1; omega)
     have c8 := hc8 j (by have := HV.out.2.2.2.1; omega)
     have hin := inK_succ key p j
     obtain ⟨x9, hx9⟩ : ∃ x9, ([dig0 key, dig1 key].getD j 0 : Int) = x9 := ⟨_, rfl⟩
     obtain ⟨x8, hx8⟩ : ∃ x8, p.getD j 0 = x8 := ⟨_, rfl⟩
     rw [hx9] at c9 hin
     rw [hx8] at c8 hin
     rw [Nat.zero_add] at c9
     have HIN := Lib.hid hin
     clear hin hx9 hx8 hc9 hc8
     cases b
     ·have HF : Hid (false = inK key p (j + 1)) := Lib.hid (by rw [HIN.out, ← hbj.out]; rfl)
      clear hbj hwt
      go_wp2_with fail
      go_quiet (fail)
      go_wp2_with fail
      go_roundw
      case rel => exact ⟨j + 1, false, by go_num, rfl, by omega, HF, Lib.hid ⟨_, by first | rfl | (simp only [World.drewN_drewN]; rfl)⟩⟩
      case measure => simp only [intOf]; omega
     ·by_cases hxx : x9 = x8
      ·subst hxx
       have e1 : (x9 == x9) = true := by simp
       have HF : Hid (true = inK key p (j + 1)) := Lib.hid (by rw [HIN.out, ← hbj.out]; simp)
       clear hbj hwt
       go_wp2_with fail
       go_quiet (fail)
       go_wp2_with fail
       go_roundw
       case rel => exact ⟨j + 1, true, by go_num, rfl, by omega, HF, Lib.hid ⟨_, by first | rfl | (simp only [World.drewN_drewN]; rfl)⟩⟩
       case measure => simp only [intOf]; omega
      ·have e1 : (x9 == x8) = false := by simpa using hxx
       have HF : Hid (false = inK key p (j + 1)) := Lib.hid (by rw [HIN.out, ← hbj.out]; simp [hxx])
       clear hbj hwt hxx
       go_wp2_with fail
       go_quiet (fail)
       go_wp2_with fail
       go_roundw
       case rel => exact ⟨j + 1, false, by go_num, rfl, by omega, HF, Lib.hid ⟨_, by first | rfl | (simp only [World.drewN_drewN]; rfl)⟩⟩
       case measure => simp only [intOf]; omega
    ·have hjn : j = n := by omega
     subst hjn
     obtain ⟨t, rfl⟩ := hwt.out
     have hbi : b = inP p key := by
      rw [hbj.out, ← inK_full HV.out.2.2.2.2 key, HV.out.2.2.2.1]
     have hbw2 : Below w.heap.size w (w2.drewN t) := (HST.out.1.2.2.2.trans (HPP.out.2.1.mono hsz)).trans ⟨rfl, rfl, rfl, Nat.le_refl _, fun _ _ => rfl⟩
     have hrow : RowS w.heap.size (w2.drewN t) (.slice A1 x c1) ps := (HST.out.1.2.2.1.below HPP.out.2.1 hsz).below ⟨rfl, rfl, rfl, Nat.le_refl _, fun _ _ => rfl⟩ (Nat.le_trans hsz HPP.out.2.1.size)
     obtain ⟨W3, hW3⟩ : ∃ W3, w2.drewN t = W3 := ⟨_, rfl⟩
     rw [hW3] at hbw2 hrow ⊢
     have HR3 := Lib.hid (And.intro hrow hbw2)
     have HW23 : Hid (Below w.heap.size wo W3) := Lib.hid (by rw [← hW3]; exact (HPP.out.2.1.mono hsz).trans ⟨rfl, rfl, rfl, Nat.le_refl _, fun _ _ => rfl⟩)
     have hsz3 := hbw2.size
     cases b
     ·have HF : Hid (ps.map Prod.fst = beneath (all.take (k + 1)) p ∧ ps.length = x ∧ RowS w.heap.size W3 (.slice A1 x c1) ps ∧ Below w.heap.size w W3) := Lib.hid ⟨by
       rw [HTk.out, ← hbi, HST.out.1.1]; simp, HST.out.1.2.1, hrow, hbw2⟩
      clear hbj hwt hbi hbw2 hrow hW3
      go_wp2_with fail
      go_roundw
      case rel => exact ⟨k + 1, x, A1, c1, ps, by go_num, by omega, rfl, by omega, HF⟩
      case measure => simp only [intOf]; omega
     ·have q0 : W3.cell? ⟨pb, off + k * 2, none⟩ = some (.string key) := by
       rw [← hW3]
       exact (World.cell?_of_block (HPP.out.2.1.block pb (by have := HST.out.2.2.2.2.2.2; omega))).trans HST.out.2.1
      have q1 : W3.cell? ⟨pb, off + k * 2 + 1, none⟩ = some (.slice A4 ml c4) := by
       rw [← hW3]
       exact (World.cell?_of_block (HPP.out.2.1.block pb (by have := HST.out.2.2.2.2.2.2; omega))).trans HST.out.2.2.1
      have hro := hrow.1
      rw [HST.out.1.2.1] at hro
      have HE : Hid (∀ A2 c2, (ps ++ [(((key, lv) : Rc), A2, c2)]).map Prod.fst = beneath (all.take (k + 1)) p) := Lib.hid fun A2 c2 => by rw [List.map_append, HTk.out, ← hbi, HST.out.1.1]; rfl
      have hl1 : x + 1 ≤ 3518437208883 := by omega
      have hl2 : (x + 1) * 40 ≤ 140737488355328 := by omega
      clear hbj hwt hbi hbw2 hrow hW3
      go_wp2_with (at_builtin; refine wpList_append_r _ rfl (.tmp 45) (.tmp 50) 22 rfl w.heap.size 53 i0 _ 40 Tryz.underlying22 hi hz0 hz1 hz2 rfl _ x ps rfl hro ((key, lv), A4, c4) ml HST.out.2.2.2.2.2.1 1 rfl hl2 (by omega) hsz3 ?_; intro v4 w4 o4 g4 at4; obtain ⟨A5, c5, rfl⟩ := own_form o4)
      have HF : Hid ((ps ++ [(((key, lv) : Rc), A4, c4)]).map Prod.fst = beneath (all.take (k + 1)) p ∧ (ps ++ [(((key, lv) : Rc), A4, c4)]).length = x + 1 ∧ RowS w.heap.size w4 (.slice A5 (x + 1) c5) (ps ++ [((key, lv), A4, c4)]) ∧ Below w.heap.size w w4) := Lib.hid ⟨HE.out _ _, by simp [HST.out.1.2.1], by
       refine HR3.out.1.add (v' := .slice A5 (x + 1) c5) (p := ((key, lv), A4, c4)) (by rw [HST.out.1.2.1]; exact o4) g4 hsz3 ⟨?_, ?_, ?_, ?_⟩
       ·exact HST.out.2.2.2.1.below HW23.out
       ·rw [HST.out.2.2.2.2.2.1]; exact HST.out.2.2.2.2.1.1
       ·rw [HST.out.2.2.2.2.2.1]; exact HST.out.2.2.2.2.1.2.1
       ·exact HST.out.2.2.2.2.1.2.2, HR3.out.2.grown g4 hsz3 (fun j hj => (hro.lt j hj).1)⟩
      clear o4 g4 at4 hro q0 q1
      go_roundw
      case rel => exact ⟨k + 1, x + 1, A5, c5, _, by go_num, by omega, rfl, by omega, HF⟩
      case measure => simp only [intOf]; omega
  ·have hkm : k = m := by omega
   subst hkm
   have hfull : all.take k = all := List.take_of_length_le (by have := HV.out.2.1; omega)
   rw [hfull] at hst
   have HF : Hid (NewS (beneath all p) w (.returned (.slice A1 x c1)) wr) := Lib.hid ⟨A1, x, c1, ps, rfl, Lib.hid ⟨hst.out.1, by rw [← hst.out.1, List.length_map]; exact hst.out.2.1, by have h9 := hst.out.2.2.1.1; rw [hst.out.2.1] at h9; exact (own_low h9).1, hst.out.2.2.1⟩, hst.out.2.2.2⟩
   clear hst hfull
   go_wp2_with fail
   go_ret
   exact HF.out
end Tree
end Go.Proofs.YtekhaejhmlebbaaGreat

/-
 The document's hashes.
-/
namespace Go.Proofs.YtekhaejhmlebbaaGreat
namespace Tree
open Go.RowKit Vers Num Ring Disk Blk
open Go.Proofs.YtekhaejhmlebbaaGreat.Code hiding Bn
attribute [local go_sem ↓] Go.wp_at_zero Go.wp_at_succ

def textF : Nat → List Rc → List Int → List Int
 | 0, all, p => leafT (beneath all p)
 | k + 1, all, p => kidsT (fun (d : Nat) => hF k all (p ++ [(d : Int)])) 16
theorem hF_text (k : Nat) (all : List Rc) (p : List Int) : hF k all p = if beneath all p = [] then 0 else hashL (textF k all p) := by cases k <;> rfl
def RHashC (k : Nat) : Prop := ∀ (w : World) (A : Option Addr) (c m : Nat) (all : List Rc), all.length = m → m ≤ 3518437208882 → (∀ r ∈ all, okR r) → Rs w 0 w.heap.size A all →
 ∀ (A' : Option Addr) (c' n : Nat) (p : List Int), p.length = n → okP p → p.length + k = 2 → Ns .i64 w w.heap.size A' p → Calls Tryz.prog 36 #[.slice A m c, .slice A' n c'] w (fun e w' => e = .returned (.int .u64 (hF k all p)) ∧ Below w.heap.size w w')
def RTextC (k : Nat) : Prop := ∀ (w : World) (A : Option Addr) (c m : Nat) (all : List Rc), all.length = m → m ≤ 3518437208882 → (∀ r ∈ all, okR r) → Rs w 0 w.heap.size A all →
 ∀ (A' : Option Addr) (c' n : Nat) (p : List Int), p.length = n → okP p → p.length + k = 2 → Ns .i64 w w.heap.size A' p → Calls Tryz.prog 62 #[.slice A m c, .slice A' n c'] w (OwnB w.heap.size (textF k all p) w)

set_option maxRecDepth 100000 in
set_option maxHeartbeats 2000000 in
theorem rtext_zero : RTextC 0 := by
 intro w A c m all hm hm2 hok hv A' c' n p hn hp hk hr
 obtain rfl : n = 2 := by omega
 have hR := ref_recs_any A A' c c' 2 m all p hm hm2 hn (by omega) w hv hr hp
 rw [show recsF all p = beneath all p by unfold recsF; rw [if_pos hp]] at hR
 have HR := Lib.hid hR
 have hx : textF 0 all p = leafT (beneath all p) := rfl
 have hlen := beneath_len all p
 have HOK : Hid (∀ r ∈ beneath all p, okR r) := Lib.hid fun r hr => hok r (beneath_mem.1 hr).1
 obtain ⟨R, hRR⟩ : ∃ R, beneath all p = R := ⟨_, rfl⟩
 rw [hRR] at hx hlen HR HOK
 rw [hx]
 clear hR hx hRR hn hp hr hk hv hok
 go_enter Tryz.func62, Tryz.ntmps62
 go_wp2_with fail
 refine HR.out.mono ?_
 rintro e w2 ⟨A2, m2, c2, ps, rfl, h2, b2⟩
 have hm3 : m2 ≤ 3518437208882 := by have := h2.out.2.1; omega
 have hrs := h2.out.2.2.2.rs b2.size
 rw [h2.out.1] at hrs
 have HB2 := Lib.hid (And.intro b2 (And.intro h2.out.2.1 hrs))
 have HI : Hid (Written (leafK R) m2 w2.heap.size w2 (.slice none 0 0) (.int .i64 0) w2) := Lib.hid ⟨0, 0, none, 0, rfl, by omega, rfl, by omega, Lib.hid ⟨by simp [leafT, leafK], World.ownsRow_nil _ _ _ _, Below.refl _ _⟩⟩
 clear h2 b2 HR hrs
 go_wp2_with fail
 go_loopw [5, 7] (fun v q wr => Written (leafK R) m2 w2.heap.size w2 v q wr) (fun _ q _ => m2 - (intOf q).toNat)
 case atStart => exact HI.out
 case round =>
  clear HI
  obtain ⟨i, n, A3, c3, rfl, hi, rfl, hn10, hst⟩ := hrel
  by_cases hlt : i < m2
  ·have d1 : (0 : Int) ≤ (i : Int) := by omega
   have d2 : (i : Int) < (m2 : Int) := by omega
   have hRl : R.length = m2 := HB2.out.2.1
   obtain ⟨pb, off, A4, c4, rfl, _, hbB, k0, k1, k2, k3⟩ := HB2.out.2.2.at hRl hst.out.2.2 hlt rfl
   have hRi : i < R.length := by omega
   have hmem : R.getD i r0 ∈ R := by
    rw [List.getD_eq_getElem?_getD, List.getElem?_eq_getElem hRi]
    exact List.getElem_mem _
   have hok := HOK.out _ hmem
   have HTk : Hid (R.take (i + 1) = R.take i ++ [R.getD i r0]) := Lib.hid (by
    rw [List.take_succ_eq_append_getElem hRi]
    simp [List.getD_eq_getElem?_getD, hRi])
   obtain ⟨r, hrr⟩ : ∃ r, R.getD i r0 = r := ⟨_, rfl⟩
   rw [hrr] at k0 k1 k2 k3 hok HTk
   obtain ⟨key, lv⟩ := r
   simp only at k0 k1 k2 k3
   obtain ⟨ml, hml⟩ : ∃ ml, lv.length = ml := ⟨_, rfl⟩
   rw [hml] at k1 k3
   have hsz := hst.out.2.2.size
   have hvs : Vs wr.drew 0 wr.drew.heap.size A4 lv := k2.more hsz
   have hM := ref_mark_any key A4 c4 ml lv hml hok.2.1 hok.2.2 wr.drew hvs
   have hU : U (markF (key, lv)) := hash_range _
   obtain ⟨x, hx⟩ : ∃ x, markF (key, lv) = x := ⟨_, rfl⟩
   rw [hx] at hM hU
   have hl10 := halves_len10 hU
   have HP : Hid (Calls Tryz.prog 88 #[.string key, .slice A4 ml c4] wr.drew fun e w3 => e = .returned (.int .u64 x) ∧ w3.cell? ⟨pb, off + i * 2, none⟩ = some (.string key) ∧ w3.cell? ⟨pb, off + i * 2 + 1, none⟩ = some (.slice A4 ml c4) ∧ Hid (Calls Tryz.prog 87 #[.slice A3 n c3, .int .u64 x] w3 fun e w4 => ∃ A5 n5 c5, e = .returned (.slice A5 n5 c5) ∧ w4.cell? ⟨pb, off + i * 2, none⟩ = some (.string key) ∧ w4.cell? ⟨pb, off + i * 2 + 1, none⟩ = some (.slice A4 ml c4) ∧ Hid (Written (leafK R) m2 w2.heap.size w2 (.slice A5 n5 c5) (.int .i64 ((i : Int) + 1)) w4))) := Lib.hid (by
    refine hM.mono ?_
    rintro e w3 ⟨he, b3⟩
    have b3' : Below wr.heap.size wr w3 := (show Below wr.heap.size wr wr.drew from (Below.refl _ _).drew).trans b3
    have o3 := own_below hst.out.2.1 b3' (Nat.le_refl _)
    have s3 := b3'.size
    have hHv := halves_any A3 c3 n (leafK R i) hst.out.1 (by omega) x hU w2.heap.size w3 (by omega) o3
    refine ⟨he, (World.cell?_of_block (b3'.block pb (by omega))).trans k0, (World.cell?_of_block (b3'.block pb (by omega))).trans k1, Lib.hid (hHv.mono ?_)⟩
    rintro e2 w4 ⟨A5, c5, he2, o5, b5⟩
    have hLK : leafK R (i + 1) = leafK R i ++ halves x := by unfold leafK; rw [HTk.out]; simp only [leafT, List.flatMap_append, List.flatMap_cons, List.flatMap_nil, List.append_nil, hx]
    refine ⟨A5, _, c5, he2, (World.cell?_of_block (b5.block pb hbB)).trans ((World.cell?_of_block (b3'.block pb (by omega))).trans k0), (World.cell?_of_block (b5.block pb hbB)).trans ((World.cell?_of_block (b3'.block pb (by omega))).trans k1), Lib.hid ⟨i + 1, _, A5, c5, by go_num, by omega, rfl, by rw [List.length_append, hst.out.1]; omega, Lib.hid ⟨by rw [hLK], by rw [hLK]; exact o5.out, (hst.out.2.2.trans (b3'.mono hsz)).trans b5⟩⟩⟩)
   clear hst hvs hx k2 k3 hmem hok hml hU hM hrr hl10
   go_wp2_with fail
   go_region_held3 (fun V => V.cell? ⟨pb, off + i * 2, none⟩ = some (.string key) ∧ V.cell? ⟨pb, off + i * 2 + 1, none⟩ = some (.slice A4 ml c4))
    (first | exact ⟨k0, k1⟩ | (refine ⟨?_, ?_⟩ <;> assumption))
    (first
     | (go_at_call 88; refine HP.out.mono ?_; rintro e w3 ⟨rfl, q0, q1, HH⟩)
     | (go_at_call 87; refine HH.out.mono ?_; rintro e w4 ⟨A5, n5, c5, rfl, z0, z1, HF⟩))
   all_goals
    go_wp2_with fail
    go_roundw
    case rel => exact HF.out
    case measure => simp only [intOf]; omega
  ·have him : i = m2 := by omega
   subst him
   have hfull : R.take i = R := List.take_of_length_le (by have := HB2.out.2.1; omega)
   have hst' := hst.out
   unfold leafK at hst'
   simp only [hfull] at hst'
   have HF : Hid (OwnB w.heap.size (leafT R) w (.returned (.slice A3 n c3)) wr) := Lib.hid (by
    have h9 := hst'.2.1
    have h8 := hst'.1
    rw [← h8] at h9
    refine ⟨A3, c3, by rw [h8], Lib.hid (own_base h9 HB2.out.1.size), HB2.out.1.trans (hst'.2.2.mono HB2.out.1.size)⟩)
   clear hst hst' hfull
   go_wp2_with fail
   go_ret
   exact HF.out

set_option maxRecDepth 100000 in
set_option maxHeartbeats 2000000 in
theorem rtext_succ {k : Nat} (HK : RHashC k) : RTextC (k + 1) := by
 intro w A c m all hm hm2 hok hv A' c' n p hn hp hk hr
 have hn2 : n < 2 := by omega
 have e1 : ((n : Int) == 2) = false := by simp; omega
 have hR := ref_recs_any A A' c c' n m all p hm hm2 hn (by omega) w hv hr hp
 rw [show recsF all p = beneath all p by unfold recsF; rw [if_pos hp]] at hR
 have HR := Lib.hid hR
 have hlen := beneath_len all p
 have HH : Hid (∀ (W : World) (A2 : Option Addr) (c2 m2 : Nat) (A3 : Option Addr) (c3 d : Nat), d < 16 → m2 = (beneath all p).length → Rs W 0 W.heap.size A2 (beneath all p) → Ns .i64 W W.heap.size A3 (p ++ [(d : Int)]) → Calls Tryz.prog 36 #[.slice A2 m2 c2, .slice A3 (n + 1) c3] W (fun e w' => e = .returned (.int .u64 (hF k all (p ++ [(d : Int)]))) ∧ Below W.heap.size W w')) := Lib.hid fun W A2 c2 m2 A3 c3 d hd hm3 hrs hns => by
  have hq := ok_longer hp (by omega) hd
  have h9 := HK W A2 c2 m2 (beneath all p) hm3.symm (by omega) (fun r hr => hok r (beneath_mem.1 hr).1) hrs A3 c3 (n + 1) (p ++ [(d : Int)]) (by simp [hn]) hq (by simp; omega) hns
  rwa [hF_beneath k all p (d : Int) hq (by omega)] at h9
 have hL := fun (W : World) (d : Nat) (hW : Ns .i64 W W.heap.size A' p) => ref_longer_any A' c' n p hn (by omega) (d : Int) W hW
 have HL := Lib.hid hL
 obtain ⟨h', hh'⟩ : ∃ h' : Nat → Int, (fun (d : Nat) => hF k all (p ++ [(d : Int)])) = h' := ⟨_, rfl⟩
 have HU : Hid (∀ d : Nat, U (h' d)) := Lib.hid fun d => by rw [← hh']; exact hF_range _ _ _
 have HV : Hid (∀ d : Nat, hF k all (p ++ [(d : Int)]) = h' d) := Lib.hid fun d => congrFun hh' d
 have hx : textF (k + 1) all p = kidsT h' 16 := by rw [← hh']; rfl
 rw [hx]
 have HN := Lib.hid (And.intro hr hn)
 obtain ⟨R, hRR⟩ : ∃ R, beneath all p = R := ⟨_, rfl⟩
 rw [hRR] at HR HH hlen
 clear hR hx hRR hn hp hr hk hv hok hL hh' HK
 go_enter Tryz.func62, Tryz.ntmps62
 go_wp2_with fail
 refine HR.out.mono ?_
 rintro e w2 ⟨A2, m2, c2, ps, rfl, h2, b2⟩
 have hrs := h2.out.2.2.2.rs b2.size
 rw [h2.out.1] at hrs
 have HB2 := Lib.hid (And.intro b2 (And.intro h2.out.2.1 hrs))
 have HI : Hid (Written (kidsT h') 16 w2.heap.size w2 (.slice none 0 0) (.int .i64 0) w2) := Lib.hid ⟨0, 0, none, 0, rfl, by omega, rfl, by omega, Lib.hid ⟨rfl, World.ownsRow_nil _ _ _ _, Below.refl _ _⟩⟩
 clear h2 b2 HR hrs
 go_wp2_with fail
 go_loopw [5, 8] (fun v q wr => Written (kidsT h') 16 w2.heap.size w2 v q wr) (fun _ q _ => 16 - (intOf q).toNat)
 case atStart => exact HI.out
 case round =>
  clear HI
  obtain ⟨i, n', A3, c3, rfl, hi, rfl, hn10, hst⟩ := hrel
  by_cases hlt : i < 16
  ·have d1 : (0 : Int) ≤ (i : Int) := by omega
   have d2 : (i : Int) < 16 := by omega
   have hb := hst.out.2.2
   have hbw := HB2.out.1.trans (hb.mono HB2.out.1.size)
   have hsz := hb.size
   have hK := Lib.hid (HL.out wr i ((HN.out.1.below hbw).more hbw.size))
   have HO := Lib.hid hst.out
   clear hst hb hbw
   go_wp2_with fail
   refine hK.out.mono ?_
   rintro e w3 ⟨A4, c4, rfl, o4, b4⟩
   have s4 := b4.size
   have hns : Ns .i64 w3 w3.heap.size A4 (p ++ [(i : Int)]) := by
    have h := o4.out
    rw [show n + 1 = (p ++ [(i : Int)]).length by simp [HN.out.2]] at h
    exact own_ns h
   have hbb := HO.out.2.2.trans (b4.mono hsz)
   have hH := HH.out w3 A2 c2 m2 A4 c4 i hlt HB2.out.2.1.symm ((HB2.out.2.2.below hbb).more hbb.size) hns
   rw [HV.out i] at hH
   have hH' := Lib.hid hH
   have ho4 := own_below HO.out.2.1 b4 (Nat.le_refl _)
   have HO4 := Lib.hid (And.intro ho4 (And.intro hbb b4))
   clear o4 b4 hns hH hbb ho4 hK
   go_wp2_with fail
   refine hH'.out.mono ?_
   rintro e w5 ⟨rfl, b5⟩
   have o5 := own_below HO4.out.1 b5 (Nat.le_refl _)
   have s5 := b5.size
   obtain ⟨x, hx⟩ : ∃ x, h' i = x := ⟨_, rfl⟩
   have hU : U x := by rw [← hx]; exact HU.out i
   rw [hx]
   have hl10 := halves_len10 hU
   have hP := Lib.hid (halves_any A3 c3 n' (kidsT h' i) HO.out.1 (by omega) x hU w2.heap.size w5 (by omega) o5)
   have HX := Lib.hid hx
   have HB5 := Lib.hid (HO4.out.2.1.trans (b5.mono (by omega)))
   clear o5 b5 hU hx hH'
   go_wp2_with fail
   refine hP.out.mono ?_
   rintro e w6 ⟨A5, c5, rfl, o6, b6⟩
   have HF : Hid (Written (kidsT h') 16 w2.heap.size w2 (.slice A5 (kidsT h' i ++ halves x).length c5) (.int .i64 ((i : Int) + 1)) w6) := Lib.hid ⟨i + 1, _, A5, c5, by go_num, by omega, rfl, by rw [List.length_append, HO.out.1]; omega, Lib.hid ⟨by
     rw [kidsT_succ, HX.out], by
     have h := o6.out
     rw [kidsT_succ, HX.out]
     exact h, HB5.out.trans b6⟩⟩
   obtain ⟨n5, hn5⟩ : ∃ n5, (kidsT h' i ++ halves x).length = n5 := ⟨_, rfl⟩
   rw [hn5] at HF ⊢
   clear o6 b6 hP hn5 hl10
   go_wp2_with fail
   go_roundw
   case rel => exact HF.out
   case measure => simp only [intOf]; omega
  ·have him : i = 16 := by omega
   subst him
   have HF : Hid (OwnB w.heap.size (kidsT h' 16) w (.returned (.slice A3 n' c3)) wr) := Lib.hid (by
    have h9 := hst.out.2.1
    have h8 := hst.out.1
    rw [← h8] at h9
    refine ⟨A3, c3, by rw [h8], Lib.hid (own_base h9 HB2.out.1.size), HB2.out.1.trans (hst.out.2.2.mono HB2.out.1.size)⟩)
   clear hst
   go_wp2_with fail
   go_ret
   exact HF.out

set_option maxRecDepth 100000 in
set_option maxHeartbeats 2000000 in
theorem rhash_text {k : Nat} (HT : RTextC k) : RHashC k := by
 intro w A c m all hm hm2 hok hv A' c' n p hn hp hk hr
 have hPa := path_any A' c' n p hn (by omega) w hr
 rw [decide_eq_true hp] at hPa
 have HPa := Lib.hid hPa
 have hR := ref_recs_any A A' c c' n m all p hm hm2 hn (by omega) w hv hr hp
 rw [show recsF all p = beneath all p by unfold recsF; rw [if_pos hp]] at hR
 have HR := Lib.hid hR
 have HTT : Hid (∀ W, Below w.heap.size w W → Calls Tryz.prog 62 #[.slice A m c, .slice A' n c'] W (OwnB W.heap.size (textF k all p) W)) := Lib.hid fun W hW => HT W A c m all hm hm2 hok ((hv.below hW).more hW.size) A' c' n p hn hp hk ((hr.below hW).more hW.size)
 have hx := hF_text k all p
 have hlen := beneath_len all p
 have HBY : Hid ((∀ z ∈ textF k all p, 0 ≤ z ∧ z ≤ 255) ∧ (textF k all p).length ≤ 140737488355328) := Lib.hid (by
  cases k with
  | zero => exact ⟨leafT_bytes _, by have := leafT_len (beneath all p); show (leafT (beneath all p)).length ≤ _; omega⟩
  | succ k => exact ⟨kidsT_bytes _ 16 fun d => hF_range _ _ _, by have := kidsT_len (fun (d : Nat) => hF k all (p ++ [(d : Int)])) 16 fun d => hF_range _ _ _; show (kidsT _ 16).length ≤ _; omega⟩)
 obtain ⟨T, hTT⟩ : ∃ T, textF k all p = T := ⟨_, rfl⟩
 rw [hTT] at hx HTT HBY
 rw [hx]
 obtain ⟨R, hRR⟩ : ∃ R, beneath all p = R := ⟨_, rfl⟩
 rw [hRR] at HR ⊢
 obtain ⟨V, hV⟩ : ∃ V, (if R = [] then 0 else hashL T) = V := ⟨_, rfl⟩
 rw [hV]
 have HVV := Lib.hid hV
 clear hPa hR hx hlen hTT hRR hn hp hk hr hv hok hm HT hV
 go_enter Tryz.func36, Tryz.ntmps36
 go_wp2_with fail
 refine HPa.out.mono ?_
 rintro e w1 ⟨rfl, rfl⟩
 go_wp2_with fail
 refine HR.out.mono ?_
 rintro e w2 ⟨A2, m2, c2, ps, rfl, h2, b2⟩
 have HM := Lib.hid h2.out.2.1
 have HB2 := Lib.hid b2
 clear h2 b2 HR HPa
 by_cases hm0 : m2 = 0
 ·have e1 : ((m2 : Int) == 0) = true := by rw [hm0]; rfl
  have HR0 : Hid (R = []) := Lib.hid (List.eq_nil_of_length_eq_zero (by rw [HM.out, hm0]))
  clear hm0
  go_wp2_with fail
  go_ret
  exact ⟨by rw [← HVV.out, if_pos HR0.out]; rfl, HB2.out⟩
 ·have e1 : ((m2 : Int) == 0) = false := by simp; omega
  have HR0 : Hid (R ≠ []) := Lib.hid fun h => by have := HM.out; rw [h] at this; simp at this; omega
  clear hm0
  go_wp2_with fail
  refine (HTT.out w2 HB2.out).mono ?_
  rintro e w3 ⟨A5, c5, rfl, o5, b5⟩
  have hs5 := b5
  have hK := Lib.hid (ref_hash_any A5 c5 T.length T rfl HBY.out.1 w3 (own_ns o5.out) HBY.out.2)
  have HB5 := Lib.hid (HB2.out.trans (b5.mono HB2.out.size))
  obtain ⟨n5, hn5⟩ : ∃ n5, T.length = n5 := ⟨_, rfl⟩
  rw [hn5] at hK ⊢
  clear o5 b5 hs5 hn5
  go_wp2_with fail
  refine hK.out.mono ?_
  rintro e w4 ⟨rfl, rfl⟩
  go_wp2_with fail
  go_ret
  exact ⟨by rw [← HVV.out, if_neg HR0.out]; rfl, HB5.out⟩
theorem rhash_all : ∀ k, RHashC k
 | 0 => rhash_text rtext_zero
 | k + 1 => rhash_text (rtext_succ (rhash_all k))

set_option maxRecDepth 100000 in
theorem ref_hash_tell (w : World) (A : Option Addr) (c m : Nat) (all : List Rc) (hm : all.length = m) (hm2 : m ≤ 3518437208882) (hok : ∀ r ∈ all, okR r) (hv : Rs w 0 w.heap.size A all) (A' : Option Addr) (c' n : Nat) (p : List Int) (hn : p.length = n) (hbig : n ≤ 140737488355328) (hr : Ns .i64 w w.heap.size A' p) :
  Calls Tryz.prog 36 #[.slice A m c, .slice A' n c'] w (fun e w' => e = .returned (.int .u64 (hashF all p)) ∧ Below w.heap.size w w') := by
 by_cases hp : okP p
 ·have e : hashF all p = hF (2 - p.length) all p := by unfold hashF; rw [if_pos hp]
  rw [e]
  exact rhash_all (2 - p.length) w A c m all hm hm2 hok hv A' c' n p hn hp (by have := hp.2; omega) hr
 ·have e : hashF all p = 0 := by unfold hashF; rw [if_neg hp]
  rw [e]
  have hPa := path_any A' c' n p hn hbig w hr
  rw [decide_eq_false hp] at hPa
  have HPa := Lib.hid hPa
  clear hPa hp e hn hr hv hok hm
  go_enter Tryz.func36, Tryz.ntmps36
  go_wp2_with fail
  refine HPa.out.mono ?_
  rintro e w1 ⟨rfl, rfl⟩
  go_wp2_with fail
  go_ret
  exact ⟨rfl, Below.refl _ _⟩
end Tree
end Go.Proofs.YtekhaejhmlebbaaGreat

/-
 The document's lists of hashes; records, whatever the path.
-/
namespace Go.Proofs.YtekhaejhmlebbaaGreat
namespace Tree
open Go.RowKit Vers Num Ring Disk Blk
open Go.Proofs.YtekhaejhmlebbaaGreat.Code hiding Bn
attribute [local go_sem ↓] Go.wp_at_zero Go.wp_at_succ

theorem ref_recs_tell (A A' : Option Addr) (c c' n m : Nat) (all : List Rc) (p : List Int) (hm : all.length = m) (hm2 : m ≤ 3518437208882) (hn : p.length = n) (hbig : n ≤ 140737488355328) (w : World) (hv : Rs w 0 w.heap.size A all) (hr : Ns .i64 w w.heap.size A' p) :
  Calls Tryz.prog 46 #[.slice A m c, .slice A' n c'] w (NewS (recsF all p) w) := by
 by_cases hp : okP p
 ·exact ref_recs_any A A' c c' n m all p hm hm2 hn hbig w hv hr hp
 ·exact ref_recs_no A A' c c' n m all p hm hm2 hn hbig w hr hp
end Tree
end Go.Proofs.YtekhaejhmlebbaaGreat

/-
 Trees of a law's own (layer 11): what is done with them, from a world on.
-/
namespace Go.Proofs.YtekhaejhmlebbaaGreat
namespace Tree
open Go.RowKit Vers Num Ring Disk Blk
open Go.Proofs.YtekhaejhmlebbaaGreat.Code hiding Bn
def On (F : Nat → Prop) (w V : World) (tb : Nat) (all : List Rc) : Prop := (∃ mv f, TR F V tb mv f all fun _ => False) ∧ Below w.heap.size w V ∧ ∀ j, F j → w.heap.size ≤ j
theorem ns_nil {k : IntKind} {w : World} {L : Nat} {A : Option Addr} : Ns k w L A [] := fun h => by simp at h
section
variable {F G : Nat → Prop} {w V V' : World} {tb : Nat} {all : List Rc}
theorem On.old (h : On F w V tb all) : Below w.heap.size w V := h.2.1
theorem On.own (h : On F w V tb all) : F tb := by
 obtain ⟨⟨mv, f, h⟩, _⟩ := h
 exact h.own
theorem On.lt (h : On F w V tb all) {k : Nat} (hk : F k) : k < V.heap.size := by
 obtain ⟨⟨mv, f, h⟩, _⟩ := h
 exact h.lt k hk
theorem On.okA (h : On F w V tb all) : okAll all := by
 obtain ⟨⟨mv, f, h⟩, _⟩ := h
 exact h.ok
theorem On.chg (h : On F w V tb all) (hc : Chg G V V') (hG : ∀ k, F k → ¬ G k) (hw : ∀ k, G k → w.heap.size ≤ k) : On F w V' tb all := by
 obtain ⟨⟨mv, f, h1⟩, h2, h3⟩ := h
 exact ⟨⟨mv, f, h1.chg hc hG⟩, h2.trans (hc.below hw h2.size), h3⟩
theorem On.below (h : On F w V tb all) (hb : Below V.heap.size V V') : On F w V' tb all := h.chg (G := fun _ => False) (Chg.of_below hb) (fun _ _ h => h) fun _ h => h.elim
theorem On.hash (h : On F w V tb all) (hN : all.length ≤ 3518437208882) (A : Option Addr) (c n : Nat) (p : List Int) (hn : p.length = n) (hbig : n ≤ 140737488355328) (hr : Ns .i64 V V.heap.size A p) :
  Calls Tryz.prog 65 #[hd tb, .slice A n c] V (fun e w' => e = .returned (.int .u64 (hashF all p)) ∧ Hid (On F w w' tb all ∧ Chg (fun k => k = tb) V w')) := by
 obtain ⟨⟨mv, f, h1⟩, h2, h3⟩ := h
 refine (hash_tell h1 hN A c n p hn hbig hr).mono ?_
 rintro e w' ⟨rfl, hx⟩
 exact ⟨rfl, Lib.hid ⟨⟨⟨mv, f, hx.out.1⟩, h2.trans (hx.out.2.below (fun k e => by rw [e]; exact h3 _ h1.own) h2.size), h3⟩, hx.out.2⟩⟩
theorem On.kids (h : On F w V tb all) (hN : all.length ≤ 3518437208882) (A : Option Addr) (c n : Nat) (p : List Int) (hn : p.length = n) (hbig : n ≤ 140737488355328) (hr : Ns .i64 V V.heap.size A p) :
  Calls Tryz.prog 39 #[hd tb, .slice A n c] V (fun e w' => ∃ A m c, e = .returned (.slice A m c) ∧ Hid ((kidsF all p).length = m ∧ m ≤ c ∧ Ns .u64 w' w'.heap.size A (kidsF all p) ∧ (∀ a, 0 < m → A = some a → V.heap.size ≤ a.block) ∧ On F w w' tb all ∧ Chg (fun k => k = tb) V w')) := by
 obtain ⟨⟨mv, f, h1⟩, h2, h3⟩ := h
 refine (kids_tell h1 hN A c n p hn hbig hr).mono ?_
 rintro e w' ⟨A', m, c', rfl, hx⟩
 obtain ⟨q1, q2, q3, q4, q5, q6⟩ := hx.out
 exact ⟨A', m, c', rfl, Lib.hid ⟨q1, q2, q3, q4, ⟨⟨mv, f, q5⟩, h2.trans (q6.below (fun k e => by rw [e]; exact h3 _ h1.own) h2.size), h3⟩, q6⟩⟩
theorem On.recs (h : On F w V tb all) (hN : all.length ≤ 3518437208882) (A : Option Addr) (c n : Nat) (p : List Int) (hn : p.length = n) (hbig : n ≤ 140737488355328) (hr : Ns .i64 V V.heap.size A p) :
  Calls Tryz.prog 43 #[hd tb, .slice A n c] V (fun e w' => ∃ A n c ps, e = .returned (.slice A n c) ∧ Hid (ps.map Prod.fst = recsF all p ∧ n = (recsF all p).length ∧ n ≤ c ∧ Got V.heap.size w' A ps ∧ On F w w' tb all ∧ Below V.heap.size V w')) := by
 have hO := h
 obtain ⟨⟨mv, f, h1⟩, h2, h3⟩ := h
 refine (recs_tell h1 hN A c n p hn hbig hr).mono ?_
 rintro e w' ⟨A', n', c', ps, rfl, hx, hb⟩
 obtain ⟨q1, q2, q3, q4⟩ := hx.out
 exact ⟨A', n', c', ps, rfl, Lib.hid ⟨q1, q2, q3, q4, hO.below hb, hb⟩⟩
theorem On.set (h : On F w V tb all) (hN : all.length ≤ 3518437208882) (key : Nm) (A : Option Addr) (c m : Nat) (lv : List Vr) (hm : lv.length = m) (hv : Vs V 0 V.heap.size A lv) (hok : okR (key, lv)) :
  Calls Tryz.prog 63 #[hd tb, .agg #[.string key, .slice A m c]] V (fun e w' => e = .returned (.int .i64 0) ∧ Hid (∃ F', On F' w w' tb (withR all (key, lv)) ∧ Stp F V F' w')) := by
 obtain ⟨⟨mv, f, h1⟩, h2, h3⟩ := h
 refine (set_ok h1 hN key A c m lv hm hv hok).mono ?_
 rintro e w' ⟨F', mv', f', rfl, hx⟩
 refine ⟨rfl, Lib.hid ⟨F', ⟨⟨mv', f', hx.out.1⟩, h2.trans (hx.out.2.1.below h3 h2.size), fun j hj => ?_⟩, hx.out.2⟩⟩
 rcases hx.out.2.2 j hj with q | q
 ·exact h3 j q
 ·exact Nat.le_trans h2.size q
theorem on_new (hb : Below w.heap.size w V) (A : Option Addr) (c n : Nat) (l : List Rc) (hn : l.length = n) (hbig : n ≤ 3518437208882) (hr : Rs V 0 V.heap.size A l) (hok : ∀ r ∈ l, okR r) :
  Calls Tryz.prog 38 #[.slice A n c] V (fun e w' => ∃ tb, e = .returned (.tuple #[hd tb, .int .i64 0]) ∧ Hid (∃ F, On F w w' tb (layF l) ∧ (∀ k, F k → V.heap.size ≤ k) ∧ Below V.heap.size V w')) := by
 refine (new_any A c n l hn hbig V hr).mono ?_
 rintro e w' (⟨_, F, tb, mv, f, rfl, hx⟩ | ⟨hno, _⟩)
 ·exact ⟨tb, rfl, Lib.hid ⟨F, ⟨⟨mv, f, hx.out.1⟩, hb.trans (hx.out.2.2.mono hb.size), fun j hj => Nat.le_trans hb.size (hx.out.2.1 j hj)⟩, hx.out.2⟩⟩
 ·exact absurd hok hno
theorem no_new (A : Option Addr) (c n : Nat) (l : List Rc) (hn : l.length = n) (hbig : n ≤ 3518437208882) (hr : Rs V 0 V.heap.size A l) (hno : ¬ ∀ r ∈ l, okR r) :
  Calls Tryz.prog 38 #[.slice A n c] V (fun e w' => e = .returned (.tuple #[.pointer none, .int .i64 1]) ∧ Below V.heap.size V w') := by
 refine (new_any A c n l hn hbig V hr).mono ?_
 rintro e w' (⟨hok, _⟩ | ⟨_, rfl, hb⟩)
 ·exact absurd hok hno
 ·exact ⟨rfl, hb⟩
end
theorem rs_nil {w : World} {L B : Nat} {A : Option Addr} : Rs w L B A [] := fun h => by simp at h
end Tree
end Go.Proofs.YtekhaejhmlebbaaGreat

/-
 firthref10.With: records, with one in the place of its key's.
-/
namespace Go.Proofs.YtekhaejhmlebbaaGreat
namespace Tree
open Go.RowKit Vers Num Ring Disk Blk
open Go.Proofs.YtekhaejhmlebbaaGreat.Code hiding Bn
attribute [local go_sem ↓] Go.wp_at_zero Go.wp_at_succ

def wf : List Rc → Rc → Bool → List Rc
 | [], r, laid => if laid then [] else [r]
 | x :: l, r, laid => if x.1 = r.1 then wf l r laid else if (!laid && nlt r.1 x.1) = true then r :: x :: wf l r true else x :: wf l r laid
theorem wf_true (r : Rc) : ∀ l : List Rc, wf l r true = wout l r.1
 | [] => rfl
 | x :: l => by
  have ih := wf_true r l
  unfold wf
  by_cases h : x.1 = r.1
  ·rw [if_pos h, ih]
   unfold wout
   rw [List.filter_cons, if_neg (by simp [h])]
  ·rw [if_neg h, if_neg (by simp), ih]
   unfold wout
   rw [List.filter_cons, if_pos (by simp [h])]
theorem wf_false (r : Rc) : ∀ l : List Rc, wf l r false = wit l r.1 r.2
 | [] => rfl
 | x :: l => by
  have ih := wf_false r l
  unfold wf
  by_cases h : x.1 = r.1
  ·rw [if_pos h, ih]
   unfold wit wout
   rw [List.filter_cons, if_neg (by simp [h])]
  ·rw [if_neg h]
   have e : wit (x :: l) r.1 r.2 = ins (x :: wout l r.1) r.1 r.2 := by
    unfold wit wout
    rw [List.filter_cons, if_pos (by simp [h])]
   rw [e]
   by_cases hn : nlt r.1 x.1 = true
   ·rw [if_pos (by simp [hn]), wf_true]
    unfold ins
    rw [if_pos hn]
   ·rw [if_neg (by simp [hn]), ih]
    unfold ins
    rw [if_neg hn]
    rfl
theorem wf_start (l : List Rc) (r : Rc) : wf l r (decide (r.2 = [])) = withR l r := by
 unfold withR
 by_cases h : r.2 = []
 ·rw [if_pos h, decide_eq_true h, wf_true]
 ·rw [if_neg h, decide_eq_false h, wf_false]
theorem wf_keep {x r : Rc} {l : List Rc} {laid : Bool} (hne : ¬ x.1 = r.1) (h : (!laid && nlt r.1 x.1) = false) : wf (x :: l) r laid = x :: wf l r laid := by
 rw [wf, if_neg hne, if_neg (by rw [h]; simp)]
theorem wf_lay {x r : Rc} {l : List Rc} (hne : ¬ x.1 = r.1) (h : nlt r.1 x.1 = true) : wf (x :: l) r false = r :: x :: wf l r true := by
 rw [wf, if_neg hne, if_pos (by rw [h]; rfl)]
theorem two_more {x k n : Nat} (h : x ≤ k) (h1 : k < n) (h2 : n ≤ 3518437208881) : (x + 1 + 1) * 40 ≤ 140737488355328 := by omega
theorem drop_at {l : List Rc} {k : Nat} (hk : k < l.length) : l.drop k = l.getD k r0 :: l.drop (k + 1) := by
 rw [List.drop_eq_getElem_cons hk]
 simp [List.getD_eq_getElem?_getD, hk]
def RowX (base B : Nat) (w : World) (v : Value) (ps : List Pr) : Prop :=
 w.ownsRow base 53 2 v ps.length (rcs ps) ∧ ∀ p ∈ ps, Vs w 0 B p.2.1 p.1.2 ∧ p.1.2.length ≤ p.2.2 ∧ p.1.2.length ≤ 140737488355328 ∧ p.1.1.size ≤ 140737488355328
theorem rowX_nil (base B : Nat) (w : World) : RowX base B w (.slice none 0 0) [] := ⟨World.ownsRow_nil _ _ _ _, fun p hp => by cases hp⟩
theorem RowX.drewN {base B : Nat} {w : World} {v : Value} {ps : List Pr} (h : RowX base B w v ps) (q : Nat) : RowX base B (w.drewN q) v ps :=
 ⟨own_below h.1 ⟨rfl, rfl, rfl, Nat.le_refl _, fun _ _ => rfl⟩ (Nat.le_refl _), fun p hp => ⟨(h.2 p hp).1.keep fun _ _ _ => rfl, (h.2 p hp).2⟩⟩
theorem RowX.add {base B : Nat} {w w' : World} {v v' : Value} {ps : List Pr} {p : Pr} (h : RowX base B w v ps) (ho : w'.ownsRow base 53 2 v' (ps.length + 1) (rcs (ps ++ [p]))) (hg : w.grownBy w' v.ownBlock) (hB : B ≤ base) (hbw : base ≤ w.heap.size) (hp : Vs w 0 B p.2.1 p.1.2 ∧ p.1.2.length ≤ p.2.2 ∧ p.1.2.length ≤ 140737488355328 ∧ p.1.1.size ≤ 140737488355328) : RowX base B w' v' (ps ++ [p]) := by
 have hb : Below B w w' := (Below.refl _ _).grown hg (Nat.le_trans hB hbw) (fun j hj => Nat.le_trans hB (h.1.lt j hj).1)
 refine ⟨by simpa using ho, fun q hq => ?_⟩
 rcases List.mem_append.1 hq with hq | hq
 ·exact ⟨(h.2 q hq).1.below hb, (h.2 q hq).2⟩
 ·rw [List.mem_singleton.1 hq]
  exact ⟨hp.1.below hb, hp.2⟩
theorem RowX.low {base base' B : Nat} {w : World} {v : Value} {ps : List Pr} (h : RowX base B w v ps) (hB : base' ≤ base) : RowX base' B w v ps := ⟨own_base h.1 hB, h.2⟩
def Rb (w : World) (B : Nat) (A : Option Addr) (l : List Rc) : Prop :=
 0 < l.length → ∃ b off, A = some ⟨b, off, none⟩ ∧ b < w.heap.size ∧ ∀ j, j < l.length → ∃ A' c', Rat w 0 B b (off + j * 2) (l.getD j r0) A' c'
theorem Rb.at {w w' : World} {B n k : Nat} {A : Option Addr} {l : List Rc} {r : Rc} (h : Rb w B A l) (hn : l.length = n) (hB : B ≤ w.heap.size) (hb : Below w.heap.size w w') (hk : k < n) (hv : l.getD k r0 = r) : ∃ b off A' c', A = some ⟨b, off, none⟩ ∧ 0 ≤ b ∧ b < w.heap.size ∧ Rat w' 0 B b (off + k * 2) r A' c' := by
 obtain ⟨b, off, e, hbB, hc⟩ := h (by omega)
 obtain ⟨A', c', h0, h1, h2, h3⟩ := hc k (by omega)
 rw [hv] at h0 h1 h2 h3
 exact ⟨b, off, A', c', e, Nat.zero_le _, hbB, (hb.cell (p := ⟨b, _, none⟩) hbB).trans h0, (hb.cell (p := ⟨b, _, none⟩) hbB).trans h1, h2.below (hb.mono hB), h3⟩
theorem RowX.rb {base B n c : Nat} {w : World} {A : Option Addr} {ps : List Pr} (h : RowX base B w (.slice A n c) ps) : Rb w B A (ps.map Prod.fst) := fun hp => by
 rw [List.length_map] at hp
 obtain ⟨ho, hpa⟩ := h
 rcases ho.2 with ⟨_, h0⟩ | ⟨g, cap, cur, hv, hbg, hg, rest⟩
 ·omega
 ·injection hv with h1 h2 h3
  subst h1
  refine ⟨g, 0, rfl, (Array.getElem?_eq_some_iff.1 hg).1, fun j hj => ?_⟩
  rw [List.length_map] at hj
  have e : (ps.map Prod.fst).getD j r0 = (ps.getD j (r0, none, 0)).1 := by simp [List.getD_eq_getElem?_getD, hj]
  have hm : ps.getD j (r0, none, 0) ∈ ps := by
   rw [List.getD_eq_getElem?_getD, List.getElem?_eq_getElem hj]
   exact List.getElem_mem _
  rw [e]
  have hat : ∀ r, r < 2 → ∀ u, (rcc (ps.getD j (r0, none, 0)))[r]? = some u → w.cell? ⟨g, 0 + j * 2 + r, none⟩ = some u := fun r hr u hu => by
   have hc := ho.cells (g := g) rfl (j * 2 + r) u (by rw [rcs_at ps j hj r hr]; exact hu)
   rw [Vers.add_plain] at hc
   rw [show 0 + j * 2 + r = 0 + (j * 2 + r) by omega]
   exact hc
  obtain ⟨q1, q2, q3, q4⟩ := hpa _ hm
  exact ⟨_, _, hat 0 (by omega) _ (by simp [rcc]), hat 1 (by omega) _ (by simp [rcc]), q1, q2, q3, q4⟩
def Withing (l : List Rc) (r : Rc) (n B : Nat) (U : World) (v z q : Value) (wr : World) : Prop :=
 ∃ (k x : Nat) (A1 : Option Addr) (c1 : Nat) (ps : List Pr) (laid : Bool), q = .int .i64 k ∧ k ≤ n ∧ v = .slice A1 x c1 ∧ z = .bool laid ∧ x ≤ k + 1 ∧ Hid ((laid = false → x ≤ k) ∧ ps.map Prod.fst ++ wf (l.drop k) r laid = withR l r ∧ ps.length = x ∧ RowX U.heap.size B wr (.slice A1 x c1) ps ∧ Below U.heap.size U wr)
def NewX (B : Nat) (l : List Rc) (w : World) (e : Ending) (w' : World) : Prop :=
 ∃ A m c ps, e = .returned (.slice A m c) ∧ Hid (ps.map Prod.fst = l ∧ l.length = m ∧ m ≤ c ∧ RowX w.heap.size B w' (.slice A m c) ps) ∧ Below w.heap.size w w'
theorem RowX.put {base B x c1 : Nat} {A1 A4 : Option Addr} {c4 ml : Nat} {ps : List Pr} {key : Nm} {lv : List Vr} {W w4 U : World} {v4 : Value} (hr : RowX base B W (.slice A1 x c1) ps) (hps : ps.length = x) (hB : B ≤ base) (hbw : base ≤ W.heap.size) (hU : Below base U W) (hml : lv.length = ml) (hv : Vs W 0 B A4 lv) (hz : ml ≤ c4 ∧ ml ≤ 140737488355328 ∧ key.size ≤ 140737488355328)
  (o4 : w4.ownsRow base 53 2 v4 (x + 1) (rcs (ps ++ [((key, lv), A4, c4)]))) (g4 : W.grownBy w4 (Value.slice A1 x c1).ownBlock) : RowX base B w4 v4 (ps ++ [((key, lv), A4, c4)]) ∧ Below base U w4 := by
 subst hml
 refine ⟨hr.add (by rw [hps]; exact o4) g4 hB hbw ⟨hv, hz⟩, hU.grown g4 hbw (fun j hj => (hr.1.lt j hj).1)⟩
set_option maxRecDepth 100000 in
set_option maxHeartbeats 4000000 in
theorem with_any (A Av : Option Addr) (c cv n m B : Nat) (l : List Rc) (key : Nm) (lv : List Vr) (hn : l.length = n) (hn2 : n ≤ 3518437208881) (hm : lv.length = m) (hz : m ≤ cv ∧ m ≤ 140737488355328 ∧ key.size ≤ 140737488355328) (w : World) (hBw : B ≤ w.heap.size) (hl : Rb w B A l) (hv : Vs w 0 B Av lv) :
  Calls Tryz.prog 34 #[.slice A n c, .agg #[.string key, .slice Av m cv]] w (NewX B (withR l (key, lv)) w) := by
 obtain ⟨i0, hi, hz0, hz1, hz2⟩ := info_parts info_rec'
 obtain ⟨rb, hrb⟩ : ∃ rb, w.heap.size = rb := ⟨_, rfl⟩
 obtain ⟨U, hU⟩ : ∃ U, w.alloc (.cells #[.string key, .slice Av m cv] 53) = U := ⟨_, rfl⟩
 have bU : Below w.heap.size w U := by rw [← hU]; exact (Below.refl _ w).alloc (Nat.le_refl _) _
 have BU : Bn rb 53 [.string key, .slice Av m cv] U := by rw [← hU, ← hrb]; exact World.alloc_heap_new _ _
 have x0 := BU.cell 0
 have x1 := BU.cell 1
 simp only [List.getElem?_cons_zero, List.getElem?_cons_succ] at x0 x1
 have hUs : U.heap.size = rb + 1 := by rw [← hU, ← hrb]; simp
 have HI : Hid (Withing l (key, lv) n B U (.slice none 0 0) (.bool (decide (m = 0))) (.int .i64 0) U) := Lib.hid ⟨0, 0, none, 0, [], decide (m = 0), rfl, by omega, rfl, rfl, by omega, Lib.hid ⟨fun _ => Nat.le_refl _, by
  have e : decide (m = 0) = decide ((key, lv).2 = []) := decide_eq_decide.2 (by rw [← hm]; exact ⟨fun h => List.eq_nil_of_length_eq_zero h, fun h => by simp at h; rw [h]; rfl⟩)
  rw [e]
  simpa using wf_start l (key, lv), rfl, rowX_nil _ _ _, Below.refl _ _⟩⟩
 have HH := Lib.hid (And.intro hl (And.intro hn (And.intro hv (And.intro hm (And.intro hz (And.intro bU (And.intro BU (And.intro hrb hUs))))))))
 obtain ⟨z0, hz0'⟩ : ∃ z0, decide (m = 0) = z0 := ⟨_, rfl⟩
 have e0 : ((m : Int) == 0) = z0 := by rw [← hz0']; by_cases h : m = 0 <;> simp [h]
 rw [hz0'] at HI
 clear hl hn hv hm hz bU BU hz0' hUs
 go_enter Tryz.func34, Tryz.ntmps34
 go_wp2_with fail
 clear hU e0 x0 x1 hrb
 go_loopw [5, 6, 7] (fun v z q wr => Withing l (key, lv) n B U v z q wr) (fun _ _ q _ => n - (intOf q).toNat)
 case atStart => exact HI.out
 case round =>
  clear HI
  obtain ⟨k, x, A1, c1, ps, laid, rfl, hk, rfl, rfl, hxk, hst⟩ := hrel
  have hbU := hst.out.2.2.2.2
  have hszU := hbU.size
  have hB1 := HH.out.2.2.2.2.2.2.1.same (hbU.block rb HH.out.2.2.2.2.2.2.1.lt)
  have x0 := hB1.cell 0
  have x1 := hB1.cell 1
  simp only [List.getElem?_cons_zero, List.getElem?_cons_succ] at x0 x1
  have hUw : w.heap.size ≤ U.heap.size := by have := HH.out.2.2.2.2.2.2.2; omega
  have hUB : B ≤ U.heap.size := Nat.le_trans hBw hUw
  have hbw : Below w.heap.size w wr := HH.out.2.2.2.2.2.1.trans (hbU.mono hUw)
  by_cases hlt : k < n
  ·have d1 : (0 : Int) ≤ (k : Int) := by omega
   have d2 : (k : Int) < (n : Int) := by omega
   obtain ⟨pb, off, A4, c4, rfl, _, hbB, k0, k1, k2, k3⟩ := HH.out.1.at HH.out.2.1 hBw hbw hlt rfl
   have hkl : k < l.length := by have := HH.out.2.1; omega
   have HTk := Lib.hid (drop_at hkl)
   obtain ⟨r, hrr⟩ : ∃ r, l.getD k r0 = r := ⟨_, rfl⟩
   rw [hrr] at k0 k1 k2 k3 HTk
   obtain ⟨key', lv'⟩ := r
   simp only at k0 k1 k2 k3
   obtain ⟨ml, hml⟩ : ∃ ml, lv'.length = ml := ⟨_, rfl⟩
   rw [hml] at k1 k3
   have hvr := HH.out.2.2.1.below (hbw.mono hBw)
   have HST := Lib.hid (And.intro hst.out (And.intro hUB (And.intro k2 (And.intro k3 (And.intro hml hvr)))))
   clear hst hbU hB1 hbw hrr hkl hml hvr k2 k3
   by_cases hkk : key' = key
   ·have e1 : (key'.toList == key.toList) = true := by rw [hkk]; simp
    have HF : Hid (∀ W, (∃ q, W = wr.drewN q) → Withing l (key, lv) n B U (.slice A1 x c1) (.bool laid) (.int .i64 ((k : Int) + 1)) W) := Lib.hid fun W ⟨q, hq⟩ => ⟨k + 1, x, A1, c1, ps, laid, by go_num, by omega, rfl, rfl, by omega, Lib.hid ⟨fun h => by have := HST.out.1.1 h; omega, by
      have h9 := HST.out.1.2.1
      rw [HTk.out] at h9
      rw [wf, if_pos hkk] at h9
      exact h9, HST.out.1.2.2.1, by rw [hq]; exact HST.out.1.2.2.2.1.drewN q, by rw [hq]; exact HST.out.1.2.2.2.2.trans ⟨rfl, rfl, rfl, Nat.le_refl _, fun _ _ => rfl⟩⟩⟩
    clear hkk
    go_wp2_with fail
    go_quiet (fail)
    have HF2 := Lib.hid (HF.out (wr.drewN nq) ⟨nq, rfl⟩)
    go_wp2_with fail
    go_roundw
    case rel => exact HF2.out
    case measure => simp only [intOf]; omega
   ·have e1 : (key'.toList == key.toList) = false := by rw [nm_eq]; exact decide_eq_false hkk
    have HKK := Lib.hid hkk
    clear hkk
    have HKP : Hid ((!laid && nlt key key') = false → ∀ (We w4 : World) (A5 : Option Addr) (c5 : Nat), RowX U.heap.size B We (.slice A1 x c1) ps → Below U.heap.size U We → U.heap.size ≤ We.heap.size → w4.ownsRow U.heap.size 53 2 (.slice A5 (x + 1) c5) (x + 1) (rcs (ps ++ [((key', lv'), A4, c4)])) → We.grownBy w4 (Value.slice A1 x c1).ownBlock → Withing l (key, lv) n B U (.slice A5 (x + 1) c5) (.bool laid) (.int .i64 ((k : Int) + 1)) w4) := Lib.hid fun hno We w4 A5 c5 hRE hUe hsz3 o4 g4 => by
     have hp := RowX.put (key := key') (lv := lv') (ml := ml) hRE HST.out.1.2.2.1 HST.out.2.1 hsz3 hUe HST.out.2.2.2.2.1 (HST.out.2.2.1.keep fun p _ hp => ((hUe.mono HST.out.2.1).cell hp).trans ((HST.out.1.2.2.2.2.mono HST.out.2.1).cell hp).symm) HST.out.2.2.2.1 o4 g4
     have h9 := HST.out.1.2.1
     rw [HTk.out, wf_keep HKK.out hno] at h9
     exact ⟨k + 1, x + 1, A5, c5, ps ++ [((key', lv'), A4, c4)], laid, by go_num, by omega, rfl, rfl, by omega, Lib.hid ⟨fun h => by have := HST.out.1.1 h; omega, by rw [← h9]; simp, by simp [HST.out.1.2.2.1], hp.1, hp.2⟩⟩
    have HD0 : Hid (∀ q, RowX U.heap.size B (wr.drewN q) (.slice A1 x c1) ps ∧ Below U.heap.size U (wr.drewN q)) := Lib.hid fun q => ⟨HST.out.1.2.2.2.1.drewN q, HST.out.1.2.2.2.2.trans ⟨rfl, rfl, rfl, Nat.le_refl _, fun _ _ => rfl⟩⟩
    go_wp2_with fail
    go_quiet (fail)
    obtain ⟨Wd, hWd⟩ : ∃ Wd, wr.drewN nq = Wd := ⟨_, rfl⟩
    have HD1 : Hid (∀ q, RowX U.heap.size B (Wd.drewN q) (.slice A1 x c1) ps ∧ Below U.heap.size U (Wd.drewN q)) := Lib.hid fun q => by
     rw [← hWd]
     exact ⟨(HST.out.1.2.2.2.1.drewN nq).drewN q, HST.out.1.2.2.2.2.trans ⟨rfl, rfl, rfl, Nat.le_refl _, fun _ _ => rfl⟩⟩
    have hz9 : wr.heap = Wd.heap := by rw [← hWd]; rfl
    have cc : ∀ a, wr.cell? a = Wd.cell? a := fun a => by rw [← hWd]; rfl
    rw [cc] at k0 k1 x0 x1
    rw [hWd]
    clear hWd cc hz9
    cases laid
    ·obtain ⟨lt, hlt3⟩ : ∃ lt, Op.bytesLess key.toList key'.toList = lt := ⟨_, rfl⟩
     cases lt
     ·go_wp2_with fail
      go_quiet (fail)
      obtain ⟨We, hWe⟩ : ∃ We, Wd.drewN nq = We := ⟨_, rfl⟩
      have hde := HD1.out nq
      have k0e : (Wd.drewN nq).cell? _ = _ := k0
      have k1e : (Wd.drewN nq).cell? _ = _ := k1
      rw [hWe] at hde k0e k1e ⊢
      obtain ⟨hRE, hUe⟩ := hde
      have hsz3 := hUe.size
      have hro := hRE.1
      have HRE := Lib.hid (And.intro hRE hUe)
      rw [HST.out.1.2.2.1] at hro
      have hl2 : (x + 1) * 40 ≤ 140737488355328 := by omega
      clear hWe hRE hUe k0 k1
      go_wp2_with (at_builtin; refine wpList_append_r _ rfl (.tmp 42) (.tmp 47) 22 rfl U.heap.size 53 i0 _ 40 Tryz.underlying22 hi hz0 hz1 hz2 rfl _ x ps rfl hro ((key', lv'), A4, c4) ml HST.out.2.2.2.2.1 1 rfl hl2 (by omega) hsz3 ?_; intro v4 w4 o4 g4 at4; obtain ⟨A5, c5, rfl⟩ := own_form o4)
      have HF2 := Lib.hid (HKP.out (by show (true && Op.bytesLess key.toList key'.toList) = false; rw [hlt3]; rfl) We w4 A5 c5 HRE.out.1 HRE.out.2 hsz3 o4 g4)
      clear o4 g4 at4 hro
      go_roundw
      case rel => exact HF2.out
      case measure => simp only [intOf]; omega
     ·go_wp2_with fail
      go_quiet (fail)
      obtain ⟨We, hWe⟩ : ∃ We, Wd.drewN nq = We := ⟨_, rfl⟩
      have hde := HD1.out nq
      have k0e : (Wd.drewN nq).cell? _ = _ := k0
      have k1e : (Wd.drewN nq).cell? _ = _ := k1
      have x0e : (Wd.drewN nq).cell? _ = _ := x0
      have x1e : (Wd.drewN nq).cell? _ = _ := x1
      rw [hWe] at hde k0e k1e x0e x1e ⊢
      obtain ⟨hRE, hUe⟩ := hde
      have hsz3 := hUe.size
      have hro := hRE.1
      have HRE := Lib.hid (And.intro hRE hUe)
      rw [HST.out.1.2.2.1] at hro
      have hl2 : (x + 1) * 40 ≤ 140737488355328 := by omega
      have HX : Hid (∀ o, (⟨pb, o, none⟩ : Addr).block < U.heap.size) := Lib.hid (fun o => by show pb < _; omega)
      have HLAID : Hid (x ≤ k) := Lib.hid (HST.out.1.1 (by simp))
      clear hWe hRE hUe k0 k1 x0 x1
      have hl3 := two_more HLAID.out hlt hn2
      have HFF : Hid (∀ (w4 w5 : World) (A5 A6 : Option Addr) (c5 c6 : Nat), w4.ownsRow U.heap.size 53 2 (.slice A5 (x + 1) c5) (x + 1) (rcs (ps ++ [((key, lv), Av, cv)])) → We.grownBy w4 (Value.slice A1 x c1).ownBlock → w5.ownsRow U.heap.size 53 2 (.slice A6 (x + 1 + 1) c6) (x + 1 + 1) (rcs ((ps ++ [((key, lv), Av, cv)]) ++ [((key', lv'), A4, c4)])) → w4.grownBy w5 (Value.slice A5 (x + 1) c5).ownBlock → Withing l (key, lv) n B U (.slice A6 (x + 1 + 1) c6) (.bool true) (.int .i64 ((k : Int) + 1)) w5) := Lib.hid fun w4 w5 A5 A6 c5 c6 o4 g4 o5 g5 => by
       have hp := RowX.put (key := key) (lv := lv) (ml := m) HRE.out.1 HST.out.1.2.2.1 HST.out.2.1 hsz3 HRE.out.2 HH.out.2.2.2.1 (HH.out.2.2.1.keep fun p _ hp => ((HRE.out.2.mono HST.out.2.1).cell hp).trans ((HH.out.2.2.2.2.2.1.mono hBw).cell hp)) HH.out.2.2.2.2.1 o4 g4
       have hp2 := RowX.put (key := key') (lv := lv') (ml := ml) hp.1 (by simp [HST.out.1.2.2.1]) HST.out.2.1 hp.2.size hp.2 HST.out.2.2.2.2.1 (HST.out.2.2.1.keep fun p _ hq => ((hp.2.mono HST.out.2.1).cell hq).trans ((HST.out.1.2.2.2.2.mono HST.out.2.1).cell hq).symm) HST.out.2.2.2.1 o5 g5
       have h9 := HST.out.1.2.1
       rw [HTk.out, wf_lay (x := (key', lv')) (r := (key, lv)) HKK.out hlt3] at h9
       exact ⟨k + 1, x + 1 + 1, A6, c6, (ps ++ [((key, lv), Av, cv)]) ++ [((key', lv'), A4, c4)], true, by go_num, by omega, rfl, rfl, by have := HLAID.out; omega, Lib.hid ⟨(fun h => absurd h (by simp)), by rw [← h9]; simp, by simp [HST.out.1.2.2.1], hp2.1, hp2.2⟩⟩
      go_wp2_with (at_builtin; first
       | (refine wpList_append_r _ rfl (.tmp 38) (.tmp 40) 22 rfl U.heap.size 53 i0 _ 40 Tryz.underlying22 hi hz0 hz1 hz2 rfl _ x ps rfl hro ((key, lv), Av, cv) m HH.out.2.2.2.1 1 rfl hl2 (by omega) hsz3 ?_; intro v4 w4 o4 g4 at4; obtain ⟨A5, c5, rfl⟩ := own_form o4; have bl := (Below.refl U.heap.size We).grown g4 hsz3 (fun j hj => (hro.lt j hj).1); have k0f := (bl.cell (HX.out _)).trans k0e; have k1f := (bl.cell (HX.out _)).trans k1e; have hsz4 := Nat.le_trans hsz3 bl.size; have HG4 := Lib.hid g4; clear k0e k1e x0e x1e bl g4 at4)
       | (refine wpList_append_r _ rfl (.tmp 42) (.tmp 47) 22 rfl U.heap.size 53 i0 _ 40 Tryz.underlying22 hi hz0 hz1 hz2 rfl _ (x + 1) (ps ++ [((key, lv), Av, cv)]) rfl o4 ((key', lv'), A4, c4) ml HST.out.2.2.2.2.1 1 rfl hl3 (by omega) hsz4 ?_; intro v5 w5 o5 g5 at5; obtain ⟨A6, c6, rfl⟩ := own_form o5))
      have HF2 := Lib.hid (HFF.out w4 w5 A5 A6 c5 c6 o4 HG4.out o5 g5)
      clear o4 o5 g5 at5 hro k0f k1f
      go_roundw
      case rel => exact HF2.out
      case measure => simp only [intOf]; omega
    ·go_wp2_with fail
     go_quiet (fail)
     obtain ⟨We, hWe⟩ : ∃ We, Wd.drewN nq = We := ⟨_, rfl⟩
     have hde := HD1.out nq
     have k0e : (Wd.drewN nq).cell? _ = _ := k0
     have k1e : (Wd.drewN nq).cell? _ = _ := k1
     rw [hWe] at hde k0e k1e ⊢
     obtain ⟨hRE, hUe⟩ := hde
     have hsz3 := hUe.size
     have hro := hRE.1
     have HRE := Lib.hid (And.intro hRE hUe)
     rw [HST.out.1.2.2.1] at hro
     have hl2 : (x + 1) * 40 ≤ 140737488355328 := by omega
     clear hWe hRE hUe k0 k1
     go_wp2_with (at_builtin; refine wpList_append_r _ rfl (.tmp 42) (.tmp 47) 22 rfl U.heap.size 53 i0 _ 40 Tryz.underlying22 hi hz0 hz1 hz2 rfl _ x ps rfl hro ((key', lv'), A4, c4) ml HST.out.2.2.2.2.1 1 rfl hl2 (by omega) hsz3 ?_; intro v4 w4 o4 g4 at4; obtain ⟨A5, c5, rfl⟩ := own_form o4)
     have HF2 := Lib.hid (HKP.out rfl We w4 A5 c5 HRE.out.1 HRE.out.2 hsz3 o4 g4)
     clear o4 g4 at4 hro
     go_roundw
     case rel => exact HF2.out
     case measure => simp only [intOf]; omega
  ·have hkm : k = n := by omega
   subst hkm
   have hdr : l.drop k = [] := List.drop_eq_nil_of_le (by have := HH.out.2.1; omega)
   rw [hdr] at hst
   clear hdr
   cases laid
   ·have hro := hst.out.2.2.2.1.1
    rw [hst.out.2.2.1] at hro
    have hl2 : (x + 1) * 40 ≤ 140737488355328 := by omega
    have HF : Hid (∀ (w4 : World) (A5 : Option Addr) (c5 : Nat), w4.ownsRow U.heap.size 53 2 (.slice A5 (x + 1) c5) (x + 1) (rcs (ps ++ [((key, lv), Av, cv)])) → wr.grownBy w4 (Value.slice A1 x c1).ownBlock → NewX B (withR l (key, lv)) w (.returned (.slice A5 (x + 1) c5)) w4) := Lib.hid fun w4 A5 c5 o4 g4 => by
     have hp := RowX.put (key := key) (lv := lv) (ml := m) hst.out.2.2.2.1 hst.out.2.2.1 hUB hszU hst.out.2.2.2.2 HH.out.2.2.2.1 (HH.out.2.2.1.below (hbw.mono hBw)) HH.out.2.2.2.2.1 o4 g4
     have hE : (ps ++ [(((key, lv) : Rc), Av, cv)]).map Prod.fst = withR l (key, lv) := by
      rw [List.map_append]
      exact hst.out.2.1
     have hL : (ps ++ [(((key, lv) : Rc), Av, cv)]).length = x + 1 := by simp [hst.out.2.2.1]
     exact ⟨A5, x + 1, c5, _, rfl, Lib.hid ⟨hE, by rw [← hE, List.length_map]; exact hL, (own_low o4).1, hp.1.low hUw⟩, HH.out.2.2.2.2.2.1.trans (hp.2.mono hUw)⟩
    clear hst hbU hB1 hbw
    go_wp2_with (at_builtin; refine wpList_append_r _ rfl (.tmp 51) (.tmp 53) 22 rfl U.heap.size 53 i0 _ 40 Tryz.underlying22 hi hz0 hz1 hz2 rfl _ x ps rfl hro ((key, lv), Av, cv) m HH.out.2.2.2.1 1 rfl hl2 (by omega) hszU ?_; intro v4 w4 o4 g4 at4; obtain ⟨A5, c5, rfl⟩ := own_form o4)
    have HF2 := Lib.hid (HF.out w4 A5 c5 o4 g4)
    clear o4 g4 at4
    go_ret
    exact HF2.out
   ·have HF : Hid (NewX B (withR l (key, lv)) w (.returned (.slice A1 x c1)) wr) := Lib.hid ⟨A1, x, c1, ps, rfl, by
     have h9 := hst.out.2.1
     have hE : ps.map Prod.fst = withR l (key, lv) := by rw [← h9]; simp [wf]
     have h8 := hst.out.2.2.2.1.1
     rw [hst.out.2.2.1] at h8
     exact Lib.hid ⟨hE, by rw [← hE, List.length_map]; exact hst.out.2.2.1, (own_low h8).1, hst.out.2.2.2.1.low hUw⟩, hbw⟩
    clear hst hbU hB1 hbw
    go_wp2_with fail
    go_ret
    exact HF.out
end Tree
end Go.Proofs.YtekhaejhmlebbaaGreat

/-
 Records, and lists of them, among a law's arguments (layer 11).
-/
namespace Go.Proofs.YtekhaejhmlebbaaGreat
theorem Facts.cells3 : Tryz.prog.cellsOf 3 = 1 := by kernel_rfl
theorem Facts.bytes3 : Tryz.prog.bytesOf 3 = 8 := by kernel_rfl
namespace Tree
open Go.ChangeShapes Go.WideShapes Go.ChangeAt Go.RowKit Go.Joins Go.Deep Span Vers Num
open Go.Proofs.YtekhaejhmlebbaaGreat.Code
set_option maxRecDepth 100000 in
theorem arg_recs {H : Type} {enc : TypeId × Value → H} {W : World} {v : Value} {d : DataW H} {p : List MemPlace} {r : Reach} {b0 : Nat} (hv : Value.okWide Tryz.prog W r b0 22 v) (h : DataW.Trod enc Tryz.prog W 0 (fun _ => true) true 22 v d p) (hw : Wt Tryz.prog 22 d) :
  ∃ (A : Option Addr) (c : Nat) (l : List Rc), v = .slice A l.length c ∧ Rs W 0 W.heap.size A l ∧ l.length ≤ c ∧ l.length * 40 ≤ 140737488351232 := by
 obtain ⟨A0, len0, c0, rfl⟩ := okWide_slice Tryz.underlying22 hv
 obtain ⟨fuel, hf⟩ := h
 obtain ⟨A, c, ps, hcs, hc, hb, hq, hp⟩ := slice_at Tryz.underlying22 hf hw cells_rec bytes_rec (by omega) rcc (fun p => Vs W 0 W.heap.size p.2.1 p.1.2 ∧ (p.1.2.length ≤ p.2.2 ∧ p.1.2.length ≤ 140737488355328 ∧ p.1.1.size ≤ 140737488355328)) (r0, none, 0) (fun _ => rfl) (fun n cs D Pl h hw => rec_at h hw)
 simp [Value.cells] at hcs
 obtain ⟨rfl, rfl, rfl⟩ := hcs
 refine ⟨A0, c0, ps.map Prod.fst, by rw [List.length_map], fun h0 => ?_, by rw [List.length_map]; exact hc, by rw [List.length_map]; omega⟩
 rw [List.length_map] at h0
 obtain ⟨b, off, e, hbl, hat⟩ := hp h0
 refine ⟨b, off, e, Nat.zero_le _, hbl, fun j hj => ?_⟩
 rw [List.length_map] at hj
 have e2 : (ps.map Prod.fst).getD j r0 = (ps.getD j (r0, none, 0)).1 := by simp [List.getD_eq_getElem?_getD, hj]
 have hm : ps.getD j (r0, none, 0) ∈ ps := by
  rw [List.getD_eq_getElem?_getD, List.getElem?_eq_getElem hj]
  exact List.getElem_mem _
 rw [e2]
 exact ⟨_, _, hat j hj 0 _ (by simp [rcc]), hat j hj 1 _ (by simp [rcc]), (hq _ hm).1, (hq _ hm).2⟩
end Tree
end Go.Proofs.YtekhaejhmlebbaaGreat
