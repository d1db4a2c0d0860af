/-
  Several texts of this family in one: TreeMark, TreeDoc.
-/
import Derived.Test.YtkfdplfgaddkmaaGreatK15
import Derived.Deep.RegionHeld3
import Derived.Laws.IdiomStrings
import Derived.Laws.BitsAllLaws
/-
 A key's place, a path with a digit more, a hash as bytes, the mark of a key with its versions.
-/
namespace Go.Proofs.YtkfdplfgaddkmaaGreat
namespace Tree
open Go.RowKit Vers Num Ring Disk Blk
open Go.Proofs.YtkfdplfgaddkmaaGreat.Code hiding Bn
attribute [local go_sem ↓] Go.wp_at_zero Go.wp_at_succ

theorem text_bytes (s : ByteArray) (V : World) : ∃ c V', (convert 9 146 (.string s)).run Tryz.prog V = .ok (.slice (some ⟨V.heap.size, 0, none⟩) s.size c) V' ∧ Ns .u8 V' V'.heap.size (some ⟨V.heap.size, 0, none⟩) (strNums s) ∧ Below V.heap.size V V' := by
 refine ⟨_, _, run_bytes_of_string V _ _ 5 s Tryz.underlying9 Tryz.underlying146 Tryz.underlying5, ?_, ?_⟩
 ·intro _
  refine ⟨V.heap.size, 0, rfl, by show V.heap.size < (V.heap.push _).size; rw [Array.size_push]; omega, fun j hj => ?_⟩
  rw [strNums_length] at hj
  have h1 := bytesRow_at s (grownCap V s.size 0 5) j hj
  refine (World.cell?_alloc_mark V.drew _ _ _ _).trans ?_
  rw [Nat.zero_add, h1]
  have hj' : j < s.data.size := hj
  simp [strNums, List.getD_eq_getElem?_getD]
  rw [Array.getElem?_eq_getElem hj']
  rfl
 ·exact ((Below.refl V.heap.size V).drew).alloc (Nat.le_refl _) _

theorem and_15 {x : Int} (hx : U x) : bits .and .u64 x 15 = x % 16 := by
 unfold U at hx
 rw [u64_and x 15 hx.1 hx.2 (by omega) (by omega)]
 have h := Nat.and_two_pow_sub_one_eq_mod x.toNat 4
 simp only [Nat.reducePow, Nat.reduceSub] at h
 rw [show (15 : Int).toNat = 15 from rfl, h]
 omega
theorem and_low {x : Int} (hx : U x) : bits .and .u64 x 4294967295 = x % 4294967296 := by
 unfold U at hx
 rw [u64_and x 4294967295 hx.1 hx.2 (by omega) (by omega)]
 have h := Nat.and_two_pow_sub_one_eq_mod x.toNat 32
 simp only [Nat.reducePow, Nat.reduceSub] at h
 rw [show (4294967295 : Int).toNat = 4294967295 from rfl, h]
 omega

def Placed (k : Nm) (w : World) (e : Ending) (w' : World) : Prop :=
 ∃ g, e = .returned (.slice (some ⟨g, 0, none⟩) 2 2) ∧ Hid (Ns .i64 w' w'.heap.size (some ⟨g, 0, none⟩) [dig0 k, dig1 k] ∧ w.heap.size ≤ g) ∧ Below w.heap.size w w'
theorem ns_two (w : World) (x y : Int) : Ns .i64 (w.alloc (.cells #[.int .i64 x, .int .i64 y] 3)) (w.alloc (.cells #[.int .i64 x, .int .i64 y] 3)).heap.size (some ⟨w.heap.size, 0, none⟩) [x, y] := fun _ =>
 ⟨w.heap.size, 0, rfl, by simp, fun j hj => by
  obtain rfl | rfl : j = 0 ∨ j = 1 := by simp at hj; omega
  all_goals simp⟩
set_option maxRecDepth 100000 in
theorem place_any (k : Nm) (w : World) (hbig : k.size ≤ 140737488355328) : Calls Tryz.prog 84 #[.string k] w (Placed k w) := by
 obtain ⟨c, V, hcv, hns, hb⟩ := text_bytes k w
 have H1 := Lib.hid (hash_any _ c k.size (strNums k) (strNums_length k) (strNums_bytes k) V hns hbig)
 have hr := hash_range (strNums k)
 have HD : Hid (dig0 k = keyH k / 1152921504606846976 ∧ dig1 k = keyH k / 72057594037927936 % 16) := Lib.hid ⟨rfl, rfl⟩
 unfold keyH at HD
 obtain ⟨x, hx⟩ : ∃ x, hashL (strNums k) = x := ⟨_, rfl⟩
 rw [hx] at H1 hr HD
 have HB := Lib.hid hb
 have HA := Lib.hid (and_15 (x := x / 72057594037927936) (by unfold U at *; omega))
 obtain ⟨r0, r1⟩ := hr
 have a15 := HA.out
 clear hns hb hx
 go_enter Tryz.func84, Tryz.ntmps84
 go_wp2_with fail
 refine H1.out.mono ?_
 rintro e w1 ⟨rfl, rfl⟩
 go_wp2_with fail
 go_ret
 exact ⟨V.heap.size, rfl, Lib.hid ⟨by rw [HD.out.1, HD.out.2]; exact ns_two V _ _, HB.out.size⟩, HB.out.alloc HB.out.size _⟩

set_option maxRecDepth 100000 in
theorem longer_any (A : Option Addr) (c n : Nat) (p : List Int) (hn : p.length = n) (hbig : n ≤ 1024) (d : Int) (w : World) (hr : Ns .i64 w w.heap.size A p) :
  Calls Tryz.prog 75 #[.slice A n c, .int .i64 d] w (OwnI (p ++ [d]) (n + 1) w) := by
 obtain ⟨i0, hi0, hz0, hz1, hz2⟩ := info_parts info_int
 have H1 := Lib.hid (clonei_any A c n p hn w hr (by omega))
 clear hr hn
 go_enter Tryz.func75, Tryz.ntmps75
 go_wp2_with fail
 refine H1.out.mono ?_
 rintro e w1 ⟨A1, c1, rfl, h1, b1⟩
 have hs := b1.size
 go_wp2_with (at_builtin; refine wpList_append_one _ rfl _ _ 24 rfl w.heap.size 3 i0 _ 8 Tryz.underlying24 hi0 hz0 hz1 hz2 rfl _ n (nums .i64 p) rfl h1.out (.int .i64 d) 1 rfl rfl (by omega) (by omega) hs ?_; intro v2 w2 o2 g2 at2)
 have b2 := b1.grown g2 hs (fun j hj => (h1.out.lt j hj).1)
 obtain ⟨A2, c2, rfl⟩ := own_form o2
 have HF := Lib.hid (And.intro o2 b2)
 clear o2 b2 g2 at2
 go_ret
 exact ⟨A2, c2, rfl, Lib.hid (by have h := HF.out.1; rwa [show nums .i64 p ++ [Value.int .i64 d] = nums .i64 (p ++ [d]) by simp [nums]] at h), HF.out.2⟩

theorem info_u8 : (Tryz.prog.info? 5).map (fun i => (i.zero, i.size, i.bytes)) = some (some (.int .u8 0), 1, 1) := by kernel_rfl
def OwnB (base : Nat) (zs : List Int) (w : World) (e : Ending) (w' : World) : Prop :=
 ∃ A' c', e = .returned (.slice A' zs.length c') ∧ Hid (w'.ownsRow base 5 1 (.slice A' zs.length c') zs.length (nums .u8 zs)) ∧ Below base w w'
set_option maxRecDepth 100000 in
theorem putHash_any (A : Option Addr) (c n : Nat) (zs : List Int) (hn : zs.length = n) (hbig : n ≤ 70368744177664) (h : Int) (hh : U h) (base : Nat) (w : World) (hb : base ≤ w.heap.size) (ho : w.ownsRow base 5 1 (.slice A n c) n (nums .u8 zs)) :
  Calls Tryz.prog 119 #[.slice A n c, .int .u64 h] w (OwnB base (zs ++ halves h) w) := by
 obtain ⟨i0, hi0, hz0, hz1, hz2⟩ := info_parts info_u8
 have hlow := and_low hh
 unfold U at hh
 obtain ⟨r0, r1⟩ := hh
 obtain ⟨x, hx⟩ : ∃ x, h / 4294967296 = x := ⟨_, rfl⟩
 obtain ⟨y, hy⟩ : ∃ y, h % 4294967296 = y := ⟨_, rfl⟩
 have x0 : 0 ≤ x := by omega
 have x1 : x < 4294967296 := by omega
 have y0 : 0 ≤ y := by omega
 have y1 : y < 4294967296 := by omega
 have l1 := putL_len x
 have l2 := putL_len y
 have HX := Lib.hid (show halves h = putL x ++ putL y by unfold halves; rw [hx, hy])
 rw [hy] at hlow
 have HN := Lib.hid hn
 clear hn hy
 go_enter Tryz.func119, Tryz.ntmps119
 go_wp2_with fail
 refine (putnum_pos x ⟨x0, by omega⟩ w).mono ?_
 rintro e w1 ⟨A1, c1, rfl, o1, b1⟩
 have s1 := b1.size
 have ho1 := own_below ho b1 (Nat.le_refl _)
 have ns1 := own_ns o1
 obtain ⟨k1, hk1⟩ : ∃ k, (putL x).length = k := ⟨_, rfl⟩
 rw [hk1] at l1 ⊢
 go_wp2_with (at_builtin; refine wpList_append_ns _ rfl (.tmp 5) (.tmp 9) 146 rfl base 5 i0 _ 1 Tryz.underlying146 hi0 hz0 hz1 hz2 rfl _ n (nums .u8 zs) rfl ho1 .u8 w1.heap.size A1 k1 c1 (putL x) hk1 rfl ns1 (by omega) (by omega) (by omega) ?_; intro v2 w2 o2 g2 at2)
 have b2 : Below base w w2 := (b1.mono hb).grown g2 (by omega) (fun j hj => (ho1.lt j hj).1)
 obtain ⟨A2, c2, rfl⟩ := own_form o2
 have hb2 : base ≤ w2.heap.size := Nat.le_trans hb b2.size
 have o2' : w2.ownsRow base 5 1 (.slice A2 (n + k1) c2) (n + k1) (nums .u8 (zs ++ putL x)) := by
  have e : nums .u8 (zs ++ putL x) = nums .u8 zs ++ nums .u8 (putL x) := by simp [nums]
  rw [e]; exact o2
 have HB2 := Lib.hid b2
 clear o1 b1 s1 ho1 ns1 o2 g2 at2 b2 ho
 refine (putnum_pos y ⟨y0, by omega⟩ w2).mono ?_
 rintro e w3 ⟨A3, c3, rfl, o3, b3⟩
 have s3 := b3.size
 have ho3 := own_below o2' b3 (Nat.le_refl _)
 have ns3 := own_ns o3
 have HK1 := Lib.hid hk1
 obtain ⟨k2, hk2⟩ : ∃ k, (putL y).length = k := ⟨_, rfl⟩
 rw [hk2] at l2 ⊢
 clear hk1
 go_wp2_with (at_builtin; refine wpList_append_ns _ rfl (.tmp 11) (.tmp 15) 146 rfl base 5 i0 _ 1 Tryz.underlying146 hi0 hz0 hz1 hz2 rfl _ (n + k1) (nums .u8 (zs ++ putL x)) rfl ho3 .u8 w3.heap.size A3 k2 c3 (putL y) hk2 rfl ns3 (by omega) (by omega) (by omega) ?_; intro v4 w4 o4 g4 at4)
 have b4 : Below base w w4 := (HB2.out.trans (b3.mono hb2)).grown g4 (by omega) (fun j hj => (ho3.lt j hj).1)
 obtain ⟨A4, c4, rfl⟩ := own_form o4
 have e4 : n + k1 + k2 = (zs ++ halves h).length := by rw [HX.out, ← HK1.out, ← hk2, ← HN.out]; simp [Nat.add_assoc]
 have e5 : nums .u8 (zs ++ putL x) ++ nums .u8 (putL y) = nums .u8 (zs ++ halves h) := by rw [HX.out]; simp [nums]
 rw [e5, e4] at o4
 have HF := Lib.hid (And.intro o4 (And.intro b4 e4))
 clear o4 b4 g4 at4 e4 e5 o3 b3 ho3 ns3 hk2
 go_ret
 rw [HF.out.2.2]
 exact ⟨A4, c4, rfl, Lib.hid HF.out.1, HF.out.2.1⟩

def Marking' (key : Nm) (l : List Vr) (m : Nat) (w : World) (v q : Value) (wr : World) : Prop :=
 ∃ (k n : Nat) (A : Option Addr) (c : Nat), q = .int .i64 k ∧ k ≤ m ∧ v = .slice A n c ∧ n ≤ 41 + 18 * k ∧ Hid ((textL key ++ (l.take k).flatMap dotL).length = n ∧ wr.ownsRow w.heap.size 5 1 (.slice A n c) n (nums .u8 (textL key ++ (l.take k).flatMap dotL))) ∧ Below w.heap.size w wr
theorem right_nums {l : List Vr} (h : RightV l) : ∀ v ∈ l, (0 ≤ v.s ∧ v.s ≤ 9223372036854775807) ∧ 0 ≤ v.n ∧ v.n ≤ 9223372036854775807 := fun v hv => by
 have := (h.2.1.1 v hv).1
 unfold okD at this
 omega
set_option maxRecDepth 100000 in
theorem mark_any (key : Nm) (A : Option Addr) (c m : Nat) (l : List Vr) (hm : l.length = m) (hkey : key.size ≤ 32) (hl : RightV l) (w : World) (hv : Vs w 0 w.heap.size A l) :
  Calls Tryz.prog 120 #[.string key, .slice A m c] w (fun e w' => e = .returned (.int .u64 (markF (key, l))) ∧ Below w.heap.size w w') := by
 obtain ⟨i0, hi0, hz0, hz1, hz2⟩ := info_parts info_u8
 have hm2 : m ≤ 512 := by have := hl.1; omega
 have HV := Lib.hid (And.intro hv (And.intro hm (right_nums hl)))
 clear hv hm hl
 go_enter Tryz.func120, Tryz.ntmps120
 go_wp2_with fail
 refine (puttext key (by omega) w).mono ?_
 rintro e w1 ⟨A1, c1, rfl, o1, b1⟩
 have hl1 : (textL key).length ≤ 41 := by
  have h := putL_len (key.size : Int)
  unfold textL
  rw [List.length_append, strNums_length]
  omega
 obtain ⟨n1, hn1⟩ : ∃ n, (textL key).length = n := ⟨_, rfl⟩
 rw [hn1] at o1 hl1 ⊢
 have HI : Hid (Marking' key l m w (.slice A1 n1 c1) (.int .i64 0) w1) := Lib.hid ⟨0, n1, A1, c1, rfl, by omega, rfl, by omega, Lib.hid ⟨by simpa using hn1, by simpa using o1⟩, b1⟩
 clear o1 b1 hn1 hl1
 go_wp2_with fail
 go_loopw [5, 12] (fun v q wr => Marking' key l m w v q wr) (fun _ q _ => m - (intOf q).toNat)
 case atStart => exact HI.out
 case round =>
  clear HI
  obtain ⟨k, n, A2, c2, rfl, hk, rfl, hn41, hst, hb⟩ := hrel
  by_cases hlt : k < m
  ·obtain ⟨pb, off, A3, c3, rfl, _, hbB, a0, a1, a2, a3, a4, _⟩ := HV.out.1.at HV.out.2.1 hb hlt rfl
   have hkl : k < l.length := by have := HV.out.2.1; omega
   have hmem : l.getD k v0 ∈ l := by
    rw [List.getD_eq_getElem?_getD, List.getElem?_eq_getElem hkl]
    exact List.getElem_mem _
   obtain ⟨⟨z0, z1⟩, z2, z3⟩ := HV.out.2.2 _ hmem
   have HT : Hid (l.take (k + 1) = l.take k ++ [l.getD k v0]) := Lib.hid (by
    rw [List.take_succ_eq_append_getElem hkl]
    simp [List.getD_eq_getElem?_getD, hkl])
   obtain ⟨v, hvv⟩ : ∃ v, l.getD k v0 = v := ⟨_, rfl⟩
   rw [hvv] at a0 a1 a2 a3 a4 HT z0 z1 z2 z3
   obtain ⟨s, vn, vp, vg, vx⟩ := v
   simp only at a0 a1 a2 a3 a4 z0 z1 z2 z3
   obtain ⟨kp, hkp⟩ : ∃ kp, vp.length = kp := ⟨_, rfl⟩
   rw [hkp] at a2
   have d1 : (0 : Int) ≤ (k : Int) := by omega
   have d2 : (k : Int) < (m : Int) := by omega
   have l1 := putL_len s
   have l2 := putL_len vn
   have hsz := hb.size
   have HB := Lib.hid hb
   clear hb hvv hkp hmem
   go_wp2_with fail
   have b0 : Below w.heap.size w (wr.alloc (.cells #[.int .i64 s, .int .i64 vn, .slice A3 kp c3, .bool vg, .string vx] 119)) := HB.out.alloc hsz _
   obtain ⟨bv, hbv⟩ : ∃ bv, wr.heap.size = bv := ⟨_, rfl⟩
   obtain ⟨V, hV⟩ : ∃ V, wr.alloc (.cells #[.int .i64 s, .int .i64 vn, .slice A3 kp c3, .bool vg, .string vx] 119) = V := ⟨_, rfl⟩
   have hBV : Bn bv 119 [.int .i64 s, .int .i64 vn, .slice A3 kp c3, .bool vg, .string vx] V := by rw [← hV, ← hbv]; exact World.alloc_heap_new _ _
   have oV := own_below hst.out.2 ((Below.refl wr.heap.size wr).alloc (Nat.le_refl _) (.cells #[.int .i64 s, .int .i64 vn, .slice A3 kp c3, .bool vg, .string vx] 119)) (Nat.le_refl _)
   rw [hV] at b0 oV ⊢
   rw [hbv]
   have sV : V.heap.size = bv + 1 := by rw [← hV, ← hbv]; simp
   have HS := Lib.hid (And.intro hst.out.1 (And.intro hV hbv))
   clear hst hV hbv
   refine (putnum_pos s ⟨z0, z1⟩ V).mono ?_
   rintro e w2 ⟨B1, e1, rfl, o1, b1⟩
   have s1 := b1.size
   have o2 := own_below oV b1 (Nat.le_refl _)
   have ns1 := own_ns o1
   obtain ⟨k1, hk1⟩ : ∃ k, (putL s).length = k := ⟨_, rfl⟩
   rw [hk1] at l1 ⊢
   have BV2 := hBV.same (b1.block _ hBV.lt)
   have hw2 : w.heap.size ≤ w2.heap.size := Nat.le_trans b0.size s1
   have HB2 := Lib.hid (b0.trans (b1.mono b0.size))
   clear b0 b1 oV o1 hBV
   go_wp2_with (at_builtin; refine wpList_append_ns _ rfl (.tmp 16) (.tmp 20) 146 rfl w.heap.size 5 i0 _ 1 Tryz.underlying146 hi0 hz0 hz1 hz2 rfl _ n (nums .u8 (textL key ++ (l.take k).flatMap dotL)) rfl o2 .u8 w2.heap.size B1 k1 e1 (putL s) hk1 rfl ns1 (by omega) (by omega) hw2 ?_; intro v3 w3 o3 g3 at3; obtain ⟨B3, e3, rfl⟩ := own_form o3; have BV3 := BV2.kept g3 (fun q => own_ne o2 BV2 (by decide) q.symm); have cv := BV3.cell 1; simp only [List.getElem?_cons_zero, List.getElem?_cons_succ] at cv; have HB3 := Lib.hid (HB2.out.grown g3 hw2 (fun j hj => (o2.lt j hj).1)))
   have hw3 : w.heap.size ≤ w3.heap.size := HB3.out.size
   have HK1 := Lib.hid hk1
   clear o2 g3 at3 ns1 BV2 HB2 hk1 cv
   refine (putnum_pos vn ⟨z2, z3⟩ w3).mono ?_
   rintro e w4 ⟨B4, e4, rfl, o4, b4⟩
   have s4 := b4.size
   have o5 := own_below o3 b4 (Nat.le_refl _)
   have ns4 := own_ns o4
   obtain ⟨k2, hk2⟩ : ∃ k, (putL vn).length = k := ⟨_, rfl⟩
   rw [hk2] at l2 ⊢
   have HB4 := Lib.hid (HB3.out.trans (b4.mono hw3))
   have hw4 : w.heap.size ≤ w4.heap.size := HB4.out.size
   clear b4 o4 o3 HB3 BV3
   go_wp2_with (at_builtin; refine wpList_append_ns _ rfl (.tmp 22) (.tmp 26) 146 rfl w.heap.size 5 i0 _ 1 Tryz.underlying146 hi0 hz0 hz1 hz2 rfl _ (n + k1) (nums .u8 (textL key ++ (l.take k).flatMap dotL) ++ nums .u8 (putL s)) rfl o5 .u8 w4.heap.size B4 k2 e4 (putL vn) hk2 rfl ns4 (by omega) (by omega) hw4 ?_; intro v6 w6 o6 g6 at6; obtain ⟨B6, e6, rfl⟩ := own_form o6; have HB6 := Lib.hid (HB4.out.grown g6 hw4 (fun j hj => (o5.lt j hj).1)))
   have HF : Hid (Marking' key l m w (.slice B6 (n + k1 + k2) e6) (.int .i64 ((k : Int) + 1)) w6) := Lib.hid ⟨k + 1, n + k1 + k2, B6, e6, by go_num, by omega, rfl, by omega, Lib.hid ⟨by
     rw [HT.out, List.flatMap_append, ← List.append_assoc, List.length_append, HS.out.1]
     simp [dotL, HK1.out, hk2, Nat.add_assoc], by
     have h := o6
     rw [HT.out]
     simpa [nums, dotL, List.append_assoc] using h⟩, HB6.out⟩
   clear o6 g6 at6 o5 ns4 HB4 hk2
   go_roundw
   case rel => exact HF.out
   case measure => simp only [intOf]; omega
  ·have hkm : k = m := by omega
   subst hkm
   have hfull : l.take k = l := List.take_of_length_le (by have := HV.out.2.1; omega)
   rw [hfull] at hst
   have hby : ∀ z ∈ textL key ++ l.flatMap dotL, 0 ≤ z ∧ z ≤ 255 := fun z hz => by
    rcases List.mem_append.1 hz with hz | hz
    ·unfold textL at hz
     rcases List.mem_append.1 hz with hz | hz
     ·exact putL_bytes _ (by omega) z hz
     ·exact strNums_bytes key z hz
    ·refine flat_bytes dotL l (fun v hv z hz => ?_) z hz
     have h1 := HV.out.2.2 v hv
     unfold dotL at hz
     rcases List.mem_append.1 hz with hz | hz
     ·exact putL_bytes _ h1.1.1 z hz
     ·exact putL_bytes _ h1.2.1 z hz
   have HK := Lib.hid (hash_any A2 c2 n (textL key ++ l.flatMap dotL) hst.out.1 hby wr (own_ns (n := n) (by have h := hst.out.2; rw [hst.out.1]; exact h)) (by omega))
   have HB := Lib.hid hb
   clear hst hb hfull hby
   go_wp2_with fail
   refine HK.out.mono ?_
   rintro e w2 ⟨rfl, rfl⟩
   go_wp2_with fail
   go_ret
   exact ⟨rfl, HB.out⟩
end Tree
end Go.Proofs.YtkfdplfgaddkmaaGreat

/-
 The document's side: a key's place, paths, a hash as bytes, the mark of a key with its versions.
-/
namespace Go.Proofs.YtkfdplfgaddkmaaGreat
namespace Tree
open Go.RowKit Vers Num Ring Disk Blk
open Go.Proofs.YtkfdplfgaddkmaaGreat.Code hiding Bn
attribute [local go_sem ↓] Go.wp_at_zero Go.wp_at_succ

set_option maxRecDepth 100000 in
theorem ref_place_any (k : Nm) (w : World) (hbig : k.size ≤ 140737488355328) : Calls Tryz.prog 65 #[.string k] w (Placed k w) := by
 obtain ⟨c, V, hcv, hns, hb⟩ := text_bytes k w
 have H1 := Lib.hid (ref_hash_any _ c k.size (strNums k) (strNums_length k) (strNums_bytes k) V hns hbig)
 have hr := hash_range (strNums k)
 have HD : Hid (dig0 k = keyH k / 1152921504606846976 ∧ dig1 k = keyH k / 72057594037927936 % 16) := Lib.hid ⟨rfl, rfl⟩
 unfold keyH at HD
 obtain ⟨x, hx⟩ : ∃ x, hashL (strNums k) = x := ⟨_, rfl⟩
 rw [hx] at H1 hr HD
 have HB := Lib.hid hb
 obtain ⟨r0, r1⟩ := hr
 clear hns hb hx
 go_enter Tryz.func65, Tryz.ntmps65
 go_wp2_with fail
 refine H1.out.mono ?_
 rintro e w1 ⟨rfl, rfl⟩
 go_wp2_with fail
 go_ret
 exact ⟨V.heap.size, rfl, Lib.hid ⟨by rw [HD.out.1, HD.out.2]; exact ns_two V _ _, HB.out.size⟩, HB.out.alloc HB.out.size _⟩

set_option maxRecDepth 100000 in
theorem halves_any (A : Option Addr) (c n : Nat) (zs : List Int) (hn : zs.length = n) (hbig : n ≤ 70368744177664) (h : Int) (hh : U h) (base : Nat) (w : World) (hb : base ≤ w.heap.size) (ho : w.ownsRow base 5 1 (.slice A n c) n (nums .u8 zs)) :
  Calls Tryz.prog 96 #[.slice A n c, .int .u64 h] w (OwnB base (zs ++ halves h) w) := by
 obtain ⟨i0, hi0, hz0, hz1, hz2⟩ := info_parts info_u8
 unfold U at hh
 obtain ⟨r0, r1⟩ := hh
 obtain ⟨x, hx⟩ : ∃ x, h / 4294967296 = x := ⟨_, rfl⟩
 obtain ⟨y, hy⟩ : ∃ y, h % 4294967296 = y := ⟨_, rfl⟩
 have x0 : 0 ≤ x := by omega
 have x1 : x < 4294967296 := by omega
 have y0 : 0 ≤ y := by omega
 have y1 : y < 4294967296 := by omega
 have l1 := putL_len x
 have l2 := putL_len y
 have HX := Lib.hid (show halves h = putL x ++ putL y by unfold halves; rw [hx, hy])
 have HN := Lib.hid hn
 clear hn
 go_enter Tryz.func96, Tryz.ntmps96
 go_wp2_with fail
 refine (ref_putnum_pos x ⟨x0, by omega⟩ w).mono ?_
 rintro e w1 ⟨A1, c1, rfl, o1, b1⟩
 have s1 := b1.size
 have ho1 := own_below ho b1 (Nat.le_refl _)
 have ns1 := own_ns o1
 obtain ⟨k1, hk1⟩ : ∃ k, (putL x).length = k := ⟨_, rfl⟩
 rw [hk1] at l1 ⊢
 go_wp2_with (at_builtin; refine wpList_append_ns _ rfl (.tmp 5) (.tmp 9) 146 rfl base 5 i0 _ 1 Tryz.underlying146 hi0 hz0 hz1 hz2 rfl _ n (nums .u8 zs) rfl ho1 .u8 w1.heap.size A1 k1 c1 (putL x) hk1 rfl ns1 (by omega) (by omega) (by omega) ?_; intro v2 w2 o2 g2 at2)
 have b2 : Below base w w2 := (b1.mono hb).grown g2 (by omega) (fun j hj => (ho1.lt j hj).1)
 obtain ⟨A2, c2, rfl⟩ := own_form o2
 have hb2 : base ≤ w2.heap.size := Nat.le_trans hb b2.size
 have o2' : w2.ownsRow base 5 1 (.slice A2 (n + k1) c2) (n + k1) (nums .u8 (zs ++ putL x)) := by
  have e : nums .u8 (zs ++ putL x) = nums .u8 zs ++ nums .u8 (putL x) := by simp [nums]
  rw [e]; exact o2
 have HB2 := Lib.hid b2
 clear o1 b1 s1 ho1 ns1 o2 g2 at2 b2 ho
 refine (ref_putnum_pos y ⟨y0, by omega⟩ w2).mono ?_
 rintro e w3 ⟨A3, c3, rfl, o3, b3⟩
 have s3 := b3.size
 have ho3 := own_below o2' b3 (Nat.le_refl _)
 have ns3 := own_ns o3
 have HK1 := Lib.hid hk1
 obtain ⟨k2, hk2⟩ : ∃ k, (putL y).length = k := ⟨_, rfl⟩
 rw [hk2] at l2 ⊢
 clear hk1
 go_wp2_with (at_builtin; refine wpList_append_ns _ rfl (.tmp 11) (.tmp 15) 146 rfl base 5 i0 _ 1 Tryz.underlying146 hi0 hz0 hz1 hz2 rfl _ (n + k1) (nums .u8 (zs ++ putL x)) rfl ho3 .u8 w3.heap.size A3 k2 c3 (putL y) hk2 rfl ns3 (by omega) (by omega) (by omega) ?_; intro v4 w4 o4 g4 at4)
 have b4 : Below base w w4 := (HB2.out.trans (b3.mono hb2)).grown g4 (by omega) (fun j hj => (ho3.lt j hj).1)
 obtain ⟨A4, c4, rfl⟩ := own_form o4
 have e4 : n + k1 + k2 = (zs ++ halves h).length := by rw [HX.out, ← HK1.out, ← hk2, ← HN.out]; simp [Nat.add_assoc]
 have e5 : nums .u8 (zs ++ putL x) ++ nums .u8 (putL y) = nums .u8 (zs ++ halves h) := by rw [HX.out]; simp [nums]
 rw [e5, e4] at o4
 have HF := Lib.hid (And.intro o4 (And.intro b4 e4))
 clear o4 b4 g4 at4 e4 e5 o3 b3 ho3 ns3 hk2
 go_ret
 rw [HF.out.2.2]
 exact ⟨A4, c4, rfl, Lib.hid HF.out.1, HF.out.2.1⟩

set_option maxRecDepth 100000 in
theorem ref_mark_any (key : Nm) (A : Option Addr) (c m : Nat) (l : List Vr) (hm : l.length = m) (hkey : key.size ≤ 32) (hl : RightV l) (w : World) (hv : Vs w 0 w.heap.size A l) :
  Calls Tryz.prog 97 #[.string key, .slice A m c] w (fun e w' => e = .returned (.int .u64 (markF (key, l))) ∧ Below w.heap.size w w') := by
 obtain ⟨i0, hi0, hz0, hz1, hz2⟩ := info_parts info_u8
 have hm2 : m ≤ 512 := by have := hl.1; omega
 have HV := Lib.hid (And.intro hv (And.intro hm (right_nums hl)))
 clear hv hm hl
 go_enter Tryz.func97, Tryz.ntmps97
 go_wp2_with fail
 refine (ref_puttext key (by omega) w).mono ?_
 rintro e w1 ⟨A1, c1, rfl, o1, b1⟩
 have hl1 : (textL key).length ≤ 41 := by
  have h := putL_len (key.size : Int)
  unfold textL
  rw [List.length_append, strNums_length]
  omega
 obtain ⟨n1, hn1⟩ : ∃ n, (textL key).length = n := ⟨_, rfl⟩
 rw [hn1] at o1 hl1 ⊢
 have HI : Hid (Marking' key l m w (.slice A1 n1 c1) (.int .i64 0) w1) := Lib.hid ⟨0, n1, A1, c1, rfl, by omega, rfl, by omega, Lib.hid ⟨by simpa using hn1, by simpa using o1⟩, b1⟩
 clear o1 b1 hn1 hl1
 go_wp2_with fail
 go_loopw [5, 6] (fun v q wr => Marking' key l m w v q wr) (fun _ q _ => m - (intOf q).toNat)
 case atStart => exact HI.out
 case round =>
  clear HI
  obtain ⟨k, n, A2, c2, rfl, hk, rfl, hn41, hst, hb⟩ := hrel
  by_cases hlt : k < m
  ·obtain ⟨pb, off, A3, c3, rfl, _, hbB, a0, a1, a2, a3, a4, _⟩ := HV.out.1.at HV.out.2.1 hb hlt rfl
   have hkl : k < l.length := by have := HV.out.2.1; omega
   have hmem : l.getD k v0 ∈ l := by
    rw [List.getD_eq_getElem?_getD, List.getElem?_eq_getElem hkl]
    exact List.getElem_mem _
   obtain ⟨⟨z0, z1⟩, z2, z3⟩ := HV.out.2.2 _ hmem
   have HT : Hid (l.take (k + 1) = l.take k ++ [l.getD k v0]) := Lib.hid (by
    rw [List.take_succ_eq_append_getElem hkl]
    simp [List.getD_eq_getElem?_getD, hkl])
   obtain ⟨v, hvv⟩ : ∃ v, l.getD k v0 = v := ⟨_, rfl⟩
   rw [hvv] at a0 a1 a2 a3 a4 HT z0 z1 z2 z3
   obtain ⟨s, vn, vp, vg, vx⟩ := v
   simp only at a0 a1 a2 a3 a4 z0 z1 z2 z3
   obtain ⟨kp, hkp⟩ : ∃ kp, vp.length = kp := ⟨_, rfl⟩
   rw [hkp] at a2
   have d1 : (0 : Int) ≤ (k : Int) := by omega
   have d2 : (k : Int) < (m : Int) := by omega
   have l1 := putL_len s
   have l2 := putL_len vn
   have hsz := hb.size
   have HB := Lib.hid hb
   clear hb hvv hkp hmem
   have o0 := hst.out.2
   have HS := Lib.hid (And.intro hst.out.1 (And.intro a1 hbB))
   clear hst a1 a2 a3 a4
   go_wp2_with fail
   refine (ref_putnum_pos s ⟨z0, z1⟩ wr).mono ?_
   rintro e w2 ⟨B1, e1, rfl, o1, b1⟩
   have s1 := b1.size
   have o2 := own_below o0 b1 (Nat.le_refl _)
   have ns1 := own_ns o1
   obtain ⟨k1, hk1⟩ : ∃ k, (putL s).length = k := ⟨_, rfl⟩
   rw [hk1] at l1 ⊢
   have hw2 : w.heap.size ≤ w2.heap.size := Nat.le_trans hsz s1
   have HB2 := Lib.hid (HB.out.trans (b1.mono hsz))
   have HB1 := Lib.hid b1
   have HCV : Hid (∀ w3, w2.grownBy w3 (Value.slice A2 n c2).ownBlock → w3.cell? ⟨pb, off + k * 5 + 1, none⟩ = some (.int .i64 vn)) := Lib.hid fun w3 g3 => by
    have hne : some pb ≠ Value.ownBlock (.slice A2 n c2) := fun q => by have := (o2.lt pb q.symm).1; have := HS.out.2.2; omega
    exact (World.cell?_of_block (g3.block pb (by have := HS.out.2.2; omega) hne)).trans ((World.cell?_of_block (HB1.out.block pb (by have := HS.out.2.2; omega))).trans HS.out.2.1)
   clear b1 o1 o0
   go_wp2_with (at_builtin; refine wpList_append_ns _ rfl (.tmp 15) (.tmp 22) 146 rfl w.heap.size 5 i0 _ 1 Tryz.underlying146 hi0 hz0 hz1 hz2 rfl _ n (nums .u8 (textL key ++ (l.take k).flatMap dotL)) rfl o2 .u8 w2.heap.size B1 k1 e1 (putL s) hk1 rfl ns1 (by omega) (by omega) hw2 ?_; intro v3 w3 o3 g3 at3; obtain ⟨B3, e3, rfl⟩ := own_form o3; have cv := HCV.out _ g3; have HB3 := Lib.hid (HB2.out.grown g3 hw2 (fun j hj => (o2.lt j hj).1)))
   have hw3 : w.heap.size ≤ w3.heap.size := HB3.out.size
   have HK1 := Lib.hid hk1
   clear o2 g3 at3 ns1 HB2 hk1
   refine (ref_putnum_pos vn ⟨z2, z3⟩ w3).mono ?_
   rintro e w4 ⟨B4, e4, rfl, o4, b4⟩
   have s4 := b4.size
   have o5 := own_below o3 b4 (Nat.le_refl _)
   have ns4 := own_ns o4
   obtain ⟨k2, hk2⟩ : ∃ k, (putL vn).length = k := ⟨_, rfl⟩
   rw [hk2] at l2 ⊢
   have HB4 := Lib.hid (HB3.out.trans (b4.mono hw3))
   have hw4 : w.heap.size ≤ w4.heap.size := HB4.out.size
   clear b4 o4 o3 HB3 cv
   go_wp2_with (at_builtin; refine wpList_append_ns _ rfl (.tmp 24) (.tmp 31) 146 rfl w.heap.size 5 i0 _ 1 Tryz.underlying146 hi0 hz0 hz1 hz2 rfl _ (n + k1) (nums .u8 (textL key ++ (l.take k).flatMap dotL) ++ nums .u8 (putL s)) rfl o5 .u8 w4.heap.size B4 k2 e4 (putL vn) hk2 rfl ns4 (by omega) (by omega) hw4 ?_; intro v6 w6 o6 g6 at6; obtain ⟨B6, e6, rfl⟩ := own_form o6; have HB6 := Lib.hid (HB4.out.grown g6 hw4 (fun j hj => (o5.lt j hj).1)))
   have HF : Hid (Marking' key l m w (.slice B6 (n + k1 + k2) e6) (.int .i64 ((k : Int) + 1)) w6) := Lib.hid ⟨k + 1, n + k1 + k2, B6, e6, by go_num, by omega, rfl, by omega, Lib.hid ⟨by
     rw [HT.out, List.flatMap_append, ← List.append_assoc, List.length_append, HS.out.1]
     simp [dotL, HK1.out, hk2, Nat.add_assoc], by
     have h := o6
     rw [HT.out]
     simpa [nums, dotL, List.append_assoc] using h⟩, HB6.out⟩
   clear o6 g6 at6 o5 ns4 HB4 hk2
   go_roundw
   case rel => exact HF.out
   case measure => simp only [intOf]; omega
  ·have hkm : k = m := by omega
   subst hkm
   have hfull : l.take k = l := List.take_of_length_le (by have := HV.out.2.1; omega)
   rw [hfull] at hst
   have hby : ∀ z ∈ textL key ++ l.flatMap dotL, 0 ≤ z ∧ z ≤ 255 := fun z hz => by
    rcases List.mem_append.1 hz with hz | hz
    ·unfold textL at hz
     rcases List.mem_append.1 hz with hz | hz
     ·exact putL_bytes _ (by omega) z hz
     ·exact strNums_bytes key z hz
    ·refine flat_bytes dotL l (fun v hv z hz => ?_) z hz
     have h1 := HV.out.2.2 v hv
     unfold dotL at hz
     rcases List.mem_append.1 hz with hz | hz
     ·exact putL_bytes _ h1.1.1 z hz
     ·exact putL_bytes _ h1.2.1 z hz
   have HK := Lib.hid (ref_hash_any A2 c2 n (textL key ++ l.flatMap dotL) hst.out.1 hby wr (own_ns (n := n) (by have h := hst.out.2; rw [hst.out.1]; exact h)) (by omega))
   have HB := Lib.hid hb
   clear hst hb hfull hby
   go_wp2_with fail
   refine HK.out.mono ?_
   rintro e w2 ⟨rfl, rfl⟩
   go_wp2_with fail
   go_ret
   exact ⟨rfl, HB.out⟩

/-! ### Paths -/
set_option maxRecDepth 100000 in
theorem path_any (A : Option Addr) (c n : Nat) (p : List Int) (hn : p.length = n) (hbig : n ≤ 140737488355328) (w : World) (hr : Ns .i64 w w.heap.size A p) :
  Calls Tryz.prog 52 #[.slice A n c] w (fun e w' => e = .returned (.bool (decide (okP p))) ∧ w = w') := by
 obtain ⟨D, hD⟩ : ∃ D, decide (okP p) = D := ⟨_, rfl⟩
 rw [hD]
 have HS := Lib.hid (And.intro hr (And.intro hn hD))
 clear hr hn hD
 go_enter Tryz.func52, Tryz.ntmps52
 go_wp2_with fail
 go_loop [3] (fun q => ∃ k : Nat, q = .int .i64 k ∧ k ≤ n ∧ Hid (∀ x ∈ p.take k, 0 ≤ x ∧ x < 16)) (fun q => n - (intOf q).toNat)
 case atStart => exact ⟨0, rfl, by omega, Lib.hid (by simp)⟩
 case round =>
  obtain ⟨k, rfl, hk, hst⟩ := hrel
  have hn := HS.out.2.1
  by_cases hlt : k < n
  ·have d1 : (0 : Int) ≤ (k : Int) := by omega
   have d2 : (k : Int) < (n : Int) := by omega
   have hbad := all_bad (R := fun x => 0 ≤ x ∧ x < 16) (0 : Int) (show k < p.length by omega)
   have hstep := all_step (R := fun x => 0 ≤ x ∧ x < 16) (0 : Int) (show k < p.length by omega) hst.out
   obtain ⟨pb, off, rfl, hpb, hc⟩ := HS.out.1 (by omega)
   have c0 := hc k (by omega)
   obtain ⟨x, hxx⟩ : ∃ x, p.getD k 0 = x := ⟨_, rfl⟩
   rw [hxx] at c0 hbad hstep
   by_cases cA : 0 ≤ x ∧ x < 16
   ·have HN := Lib.hid (hstep cA)
    obtain ⟨a1, a2⟩ := cA
    have e1 : decide (x < 0) = false := decide_eq_false (by omega)
    have e2 : decide (15 < x) = false := decide_eq_false (by omega)
    clear hstep hbad hst hn hxx hc
    go_wp2_with fail
    go_round
    case rel => exact ⟨k + 1, rfl, by omega, HN⟩
    case measure => simp only [intOf]; omega
   ·have HN := Lib.hid (HS.out.2.2.symm.trans (decide_eq_false (fun h => by
     have := of_decide_eq_false (hbad cA)
     exact this fun y hy => h.1 y hy)))
    clear hstep hbad hst hn hxx hc
    by_cases a1 : x < 0
    ·have e1 : decide (x < 0) = true := decide_eq_true a1
     clear cA
     go_wp2_with fail
     go_ret
     exact ⟨by rw [HN.out]; rfl, rfl⟩
    ·have e1 : decide (x < 0) = false := decide_eq_false a1
     have a2 : 16 ≤ x := by omega
     have e2 : decide (15 < x) = true := decide_eq_true a2
     clear cA
     go_wp2_with fail
     go_ret
     exact ⟨by rw [HN.out]; rfl, rfl⟩
  ·have hkn : k = n := by omega
   subst hkn
   have hall : ∀ x ∈ p, 0 ≤ x ∧ x < 16 := by
    have h := hst.out
    rwa [List.take_of_length_le (by omega)] at h
   have HN : Hid (D = decide ((k : Int) ≤ 2)) := Lib.hid (by
    rw [← HS.out.2.2]
    exact decide_eq_decide.2 ⟨fun h => by have := h.2; omega, fun h => ⟨hall, by omega⟩⟩)
   clear hst hn hall
   by_cases h2 : (k : Int) ≤ 2
   ·rw [decide_eq_true h2] at HN
    go_wp2_with fail
    go_ret
    exact ⟨by rw [HN.out]; rfl, rfl⟩
   ·rw [decide_eq_false h2] at HN
    go_wp2_with fail
    go_ret
    exact ⟨by rw [HN.out]; rfl, rfl⟩

set_option maxRecDepth 100000 in
theorem ref_longer_any (A : Option Addr) (c n : Nat) (p : List Int) (hn : p.length = n) (hbig : n ≤ 1024) (d : Int) (w : World) (hr : Ns .i64 w w.heap.size A p) :
  Calls Tryz.prog 55 #[.slice A n c, .int .i64 d] w (OwnI (p ++ [d]) (n + 1) w) := by
 obtain ⟨i0, hi0, hz0, hz1, hz2⟩ := info_parts info_int
 have HH := Lib.hid (And.intro hn hr)
 clear hn hr
 go_enter Tryz.func55, Tryz.ntmps55
 go_wp2_with (first
  | (at_builtin; refine wpList_append_ns _ rfl (.tmp 6) (.tmp 7) 24 rfl w.heap.size 3 i0 _ 8 Tryz.underlying24 hi0 hz0 hz1 hz2 rfl _ 0 [] rfl (World.ownsRow_nil _ _ _ _) .i64 w.heap.size A n c p HH.out.1 rfl HH.out.2 (by omega) (by omega) (Nat.le_refl _) ?_; intro v1 w1 o1 g1 at1; obtain ⟨A1, c1, rfl⟩ := own_form o1; have hs1 := g1.size; have HB1 := Lib.hid ((Below.refl w.heap.size w).grown g1 (Nat.le_refl _) (fun j hj => by cases hj)); have o1' : w1.ownsRow w.heap.size 3 1 (.slice A1 n c1) n (nums .i64 p) := by simpa using o1)
  | (at_builtin; refine wpList_append_one _ rfl (.tmp 9) (.tmp 11) 24 rfl w.heap.size 3 i0 _ 8 Tryz.underlying24 hi0 hz0 hz1 hz2 rfl _ n (nums .i64 p) rfl o1' (.int .i64 d) 1 rfl rfl (by omega) (by omega) hs1 ?_; intro v2 w2 o2 g2 at2)
  | fail)
 have b2 := HB1.out.grown g2 hs1 (fun j hj => (o1'.lt j hj).1)
 obtain ⟨A2, c2, rfl⟩ := own_form o2
 have HF := Lib.hid (And.intro o2 b2)
 clear o2 b2 g2 at2 o1 o1' g1 at1
 go_ret
 exact ⟨A2, c2, rfl, Lib.hid (by have h := HF.out.1; rwa [show nums .i64 p ++ [Value.int .i64 d] = nums .i64 (p ++ [d]) by simp [nums]] at h), HF.out.2⟩
end Tree
end Go.Proofs.YtkfdplfgaddkmaaGreat
