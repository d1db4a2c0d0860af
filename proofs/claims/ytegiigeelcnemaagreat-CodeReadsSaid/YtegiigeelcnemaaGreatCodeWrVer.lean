/-
  The writer of layer 6: texts, addresses, hashes, versions, records and lists of them.
-/
import Derived.Test.YtegiigeelcnemaaGreatGCodeB
import Derived.Test.YtegiigeelcnemaaGreatCodeRdRec
namespace Go.Proofs.YtegiigeelcnemaaGreat
namespace Code
open Go.RowKit Num Span Vers
attribute [local go_sem ↓] Go.wp_at_zero Go.wp_at_succ

theorem txtL_len (s : ByteArray) : 1 ≤ (txtL (strNums s)).length ∧ (txtL (strNums s)).length ≤ 9 + s.size := by
  have := putL_len ((strNums s).length : Int)
  unfold txtL
  rw [List.length_append, strNums_length] at *
  omega
theorem wtext_put (s : ByteArray) (hs : s.size ≤ 4294967296) (w : World) : Calls Tryz.prog 104 #[.string s] w (MadeNs 5 .u8 (txtL (strNums s)) w) := by
  have h := puttext s (by omega) w
  unfold txtL
  rw [strNums_length]
  exact h
set_option maxRecDepth 100000 in
theorem wtext_any (base g : Nat) (L : List Int) (v : Value) (s : ByteArray) (hs : s.size ≤ 4294967296) (w : World) (hw : Wr base g L v w) (hbig : L.length ≤ 70368744177664) :
    Calls Tryz.prog 55 #[.pointer (some ⟨g, 0, none⟩), .string s] w (Wrote base g (L ++ txtL (strNums s)) v w) := by
  obtain ⟨i0, hi0, hz0, hz1, hz2⟩ := info_parts Facts.info5
  have h1 := fun W => wtext_put s hs W
  obtain ⟨hX1, hX9⟩ := txtL_len s
  obtain ⟨X, hX⟩ : ∃ X, txtL (strNums s) = X := ⟨_, rfl⟩
  rw [hX] at h1 hX1 hX9 ⊢
  obtain ⟨⟨A, c, rfl⟩, hlt⟩ := And.intro hw.2.1 hw.lt
  have c0 : Bxd w.drew g (.slice A L.length c) := ⟨hw.1.cell, hw.1.frozen⟩
  have hbs := hw.base_le
  have hne := hw.far
  have HW := Lib.hid hw
  have H1 := Lib.hid h1
  clear h1 hw hX
  go_enter Tryz.func55, Tryz.ntmps55
  go_wp2_with fail
  have c00 := c0.1
  have c01 := c0.2
  have hcf : ∀ (a : Array Value) (w : World), (callFunc 104 a).run Tryz.prog w = .ok (.enter 104 a) w := fun a w => by simp [go_sem]
  go_region_law (first
      | (refine step_call (by rfl) 104 _ _ (by rfl) (hcf _ _) #[.string s] (by simp [Act.eval, Act.put]) (H1.out _) made_ret ?_; rintro v2 w2 ⟨A2, c2, hv2, o2, b2⟩; injection hv2 with hv2; subst hv2; obtain ⟨pb, off, rfl, _, _⟩ := (own_ns o2) (by omega); have q0 := (box_below c0 b2).1)
      | (refine step_append_lies _ (by rfl) _ _ _ (by rfl) base 5 i0 _ 1 1 Tryz.underlying25 hi0 hz0 hz1 hz2 (by rfl) (by omega) (.slice A L.length c) L.length (nums .u8 L) (by rfl) (own_below (w := w.drew) HW.out.2.2.1 b2 (Nat.le_refl _)) ⟨pb, off, none⟩ X.length c2 (nums .u8 X) (by rfl) (by rw [nums_length]; omega) (ns_news (own_ns o2)) (nums_cell _ _) (by omega) (by unfold maxLen; omega) (by omega) (Nat.le_trans hbs b2.size) w2.heap.size (by rfl) ?_; intro g7 cap7 w7 o7 gr7 at7 hl7; have r0 := (box_below2 c0 b2 gr7 hne).1; have r1 := (box_below2 c0 b2 gr7 hne).2))
  all_goals
    refine ⟨rfl, _, results_none rfl _ _ _, rfl, ?_⟩
    obtain ⟨v', rfl, hw1, hk1⟩ := wr_appended HW.out ((show Below w.heap.size w w.drew from (Below.refl _ w).drew).trans b2) o7 gr7 at7
    exact ⟨_, hw1, hk1⟩


theorem Bn.kp {g B : Nat} {v v' : Value} {w w' : World} {t : TypeId} {cs : List Value} (h : Bn B t cs w) (hk : Kp g v w v' w') (hg : B ≠ g) (hv : some B ≠ v.ownBlock) : Bn B t cs w' ∧ some B ≠ v'.ownBlock := hk.block h hg hv
theorem ofInt64_nat (a : Nat) (ha : a < 18446744073709551616) : (BitVec.ofInt 64 (a : Int)).toNat = a := ofInt_nat64 a ha
theorem hsh_low {h : Int} (hh : 0 ≤ h ∧ h < 18446744073709551616) : bits .and .u64 h 4294967295 = h % 4294967296 := by
  obtain ⟨m, rfl⟩ := Int.eq_ofNat_of_zero_le hh.1
  show IntKind.u64.wrap ((BitVec.ofInt 64 (m : Int) &&& BitVec.ofInt 64 ((4294967295 : Nat) : Int)).toNat : Int) = _
  have h1 : m &&& 4294967295 = m % 4294967296 := Nat.and_two_pow_sub_one_eq_mod m 32
  rw [BitVec.toNat_and, ofInt_nat64 _ (by omega), ofInt_nat64 _ (by omega), h1, show IntKind.u64.wrap ((m % 4294967296 : Nat) : Int) = ((m % 4294967296 : Nat) : Int) from (Int.emod_eq_of_lt (by omega) (by omega) : ((m % 4294967296 : Nat) : Int) % 18446744073709551616 = _)]
  omega

set_option maxRecDepth 100000 in
theorem waddr_any (base g : Nat) (L : List Int) (v : Value) (x : Int × Int) (hx : (0 ≤ x.1 ∧ x.1 ≤ 2147483647) ∧ (0 ≤ x.2 ∧ x.2 ≤ 2147483647)) (w : World) (hw : Wr base g L v w) (hbig : L.length + (addrL x).length ≤ 70368744000000) :
    Calls Tryz.prog 79 #[.pointer (some ⟨g, 0, none⟩), .agg #[.int .i64 x.1, .int .i64 x.2]] w (Wrote base g (L ++ addrL x) v w) := by
  obtain ⟨s, m⟩ := x
  simp only at hx ⊢
  have l1 := putL_len s
  have l2 := putL_len m
  have hl : (addrL (s, m)).length = (putL s).length + (putL m).length := by unfold addrL; rw [List.length_append]
  obtain ⟨B, hBe⟩ : ∃ B, w.heap.size = B := ⟨_, rfl⟩
  obtain ⟨W, hW⟩ : ∃ W, w.alloc (.cells #[.int .i64 s, .int .i64 m] 40) = W := ⟨_, rfl⟩
  have hB : Bn B 40 [.int .i64 s, .int .i64 m] W := by rw [← hW, ← hBe]; exact heap_alloc_new _ _
  obtain ⟨hBg, hBv⟩ := hw.new_far
  rw [hBe] at hBg hBv
  have hw0 : Wr base g L v W := by rw [← hW]; exact hw.alloc _
  have hkW : Kp g v w v W := by rw [← hW]; exact Kp.alloc _ _ _ _
  have HSRC := Lib.hid (And.intro hw trivial)
  clear hw
  have k0 := hB.cell 0
  have k1 := hB.cell 1
  simp only [List.getElem?_cons_zero, List.getElem?_cons_succ] at k0 k1
  have h := wwhole_any base g L v s (by omega) W hw0 (by omega)
  have H := Lib.hid h
  have HS := Lib.hid (And.intro hB (And.intro hBv hkW))
  clear h hB hBv hkW hw0
  go_enter Tryz.func79, Tryz.ntmps79
  go_wp2_with fail
  refine H.out.mono ?_
  rintro e w1 ⟨rfl, v1, hw0, hk⟩
  obtain ⟨hB0, hBv0, hk0⟩ := HS.out
  obtain ⟨hB, hBv⟩ := hB0.kp hk hBg hBv0
  have hkW := hk0.trans hk
  clear hB0 hBv0 hk0 hk H HS
  have k0 := hB.cell 0
  have k1 := hB.cell 1
  simp only [List.getElem?_cons_zero, List.getElem?_cons_succ] at k0 k1
  have h := wwhole_any base g _ v1 m (by omega) w1 hw0 (by rw [List.length_append]; omega)
  have H := Lib.hid h
  have HS := Lib.hid (And.intro hB (And.intro hBv hkW))
  clear h hB hBv hkW hw0
  go_wp2_with fail
  refine H.out.mono ?_
  rintro e w2 ⟨rfl, v2, hw0, hk⟩
  obtain ⟨hB0, hBv0, hk0⟩ := HS.out
  obtain ⟨hB, hBv⟩ := hB0.kp hk hBg hBv0
  have hkW := hk0.trans hk
  clear hB0 hBv0 hk0 hk H HS
  have HE := Lib.hid (And.intro hw0 hkW)
  clear hw0 hkW hB hBv
  go_wp2_with fail
  refine ⟨rfl, _, results_none rfl _ _ _, rfl, v2, ?_, HE.out.2⟩
  unfold addrL
  simp only [← List.append_assoc]
  exact HE.out.1

set_option maxRecDepth 100000 in
theorem whash_any (base g : Nat) (L : List Int) (v : Value) (x : Int) (hx : 0 ≤ x ∧ x < 18446744073709551616) (w : World) (hw : Wr base g L v w) (hbig : L.length + (hshL x).length ≤ 70368744000000) :
    Calls Tryz.prog 85 #[.pointer (some ⟨g, 0, none⟩), .int .u64 x] w (Wrote base g (L ++ hshL x) v w) := by
  have l1 := putL_len (x / 4294967296)
  have l2 := putL_len (x % 4294967296)
  have hl : (hshL x).length = (putL (x / 4294967296)).length + (putL (x % 4294967296)).length := by unfold hshL; rw [List.length_append]
  have h1 := wnum_any base g L v (x / 4294967296) (by omega) w hw (by omega)
  have hlow := hsh_low hx
  have e1 : IntKind.i64.wrap (x / 4294967296) = x / 4294967296 := Go.IntWalk.i64_in _ (by omega)
  have e2 : IntKind.i64.wrap (x % 4294967296) = x % 4294967296 := Go.IntWalk.i64_in _ (by omega)
  have H := Lib.hid h1
  clear h1 hw
  go_enter Tryz.func85, Tryz.ntmps85
  go_wp2_with fail
  refine H.out.mono ?_
  rintro e w1 ⟨rfl, v1, hw1, hk1⟩
  have h2 := wnum_any base g _ v1 (x % 4294967296) (by omega) w1 hw1 (by rw [List.length_append]; omega)
  have H2 := Lib.hid h2
  have HK := Lib.hid hk1
  clear h2 hw1 hk1 H
  go_wp2_with fail
  refine H2.out.mono ?_
  rintro e w2 ⟨rfl, v2, hw2, hk2⟩
  have HE := Lib.hid (And.intro hw2 (HK.out.trans hk2))
  clear hw2 hk2 H2
  go_wp2_with fail
  refine ⟨rfl, _, results_none rfl _ _ _, rfl, v2, ?_, HE.out.2⟩
  unfold hshL
  simp only [← List.append_assoc]
  exact HE.out.1

theorem verL_lens (s vn : Int) (vp : List Sp) (vg : Bool) (vx : ByteArray) : (verL ⟨s, vn, vp, vg, vx⟩).length = (putL s).length + (putL vn).length + (setL vp).length + (tailL ⟨s, vn, vp, vg, vx⟩).length := by
  unfold verL
  simp only [List.length_append]
theorem setL_all {l : List Sp} : (setL l).length ≤ 9 + l.length * 27 := by
  have h1 := putL_len (l.length : Int)
  have h2 := flat_le (l := l) (enc := spL) (m := 27) (fun x _ => (spL_len x).2)
  unfold setL seqL
  rw [List.length_append]
  omega
set_option maxRecDepth 100000 in
theorem wver_any (base g : Nat) (L : List Int) (v : Value) (A : Option Addr) (c kp : Nat) (s vn : Int) (vp : List Sp) (vg : Bool) (vx : ByteArray) (hkp : vp.length = kp) (hx : okV ⟨s, vn, vp, vg, vx⟩) (S : Nat) (w : World) (hr : Ss w S A vp) (hS : S ≤ base) (hw : Wr base g L v w) (hbig : L.length + (verL ⟨s, vn, vp, vg, vx⟩).length ≤ 70368744000000) :
    Calls Tryz.prog 57 #[.pointer (some ⟨g, 0, none⟩), .agg #[.int .i64 s, .int .i64 vn, .slice A kp c, .bool vg, .string vx]] w (Wrote base g (L ++ verL ⟨s, vn, vp, vg, vx⟩) v w) := by
  have hmf : ∀ (fn : Fn) (first cap : Array Value) (w : World), (Instr.makeFunc fn first cap).run Tryz.prog w = .ok (.func fn first cap) w := fun _ _ _ _ => rfl
  have l1 := putL_len s
  have l2 := putL_len vn
  have l3 := setL_all (l := vp)
  have hl := verL_lens s vn vp vg vx
  obtain ⟨hd, hR, _, hval, _⟩ := hx
  unfold okD at hd
  simp only at hd hR hval
  have hpl := hR.1
  obtain ⟨B, hBe⟩ : ∃ B, w.heap.size = B := ⟨_, rfl⟩
  obtain ⟨W, hW⟩ : ∃ W, w.alloc (.cells #[.int .i64 s, .int .i64 vn, .slice A kp c, .bool vg, .string vx] 105) = W := ⟨_, rfl⟩
  have hB : Bn B 105 [.int .i64 s, .int .i64 vn, .slice A kp c, .bool vg, .string vx] W := by rw [← hW, ← hBe]; exact heap_alloc_new _ _
  obtain ⟨hBg, hBv⟩ := hw.new_far
  rw [hBe] at hBg hBv
  have hw0 : Wr base g L v W := by rw [← hW]; exact hw.alloc _
  have hkW : Kp g v w v W := by rw [← hW]; exact Kp.alloc _ _ _ _
  have HSRC := Lib.hid (And.intro hw (And.intro hr hR))
  clear hw hr hR
  have k0 := hB.cell 0
  have k1 := hB.cell 1
  have k2 := hB.cell 2
  have k3 := hB.cell 3
  have k4 := hB.cell 4
  simp only [List.getElem?_cons_zero, List.getElem?_cons_succ] at k0 k1 k2 k3 k4
  have h := wwhole_any base g L v s (by omega) W hw0 (by omega)
  have H := Lib.hid h
  have HS := Lib.hid (And.intro hB (And.intro hBv hkW))
  clear h hB hBv hkW hw0
  go_enter Tryz.func57, Tryz.ntmps57
  go_wp2_with fail
  refine H.out.mono ?_
  rintro e w1 ⟨rfl, v1, hw0, hk⟩
  obtain ⟨hB0, hBv0, hk0⟩ := HS.out
  obtain ⟨hB, hBv⟩ := hB0.kp hk hBg hBv0
  have hkW := hk0.trans hk
  clear hB0 hBv0 hk0 hk H HS
  have k0 := hB.cell 0
  have k1 := hB.cell 1
  have k2 := hB.cell 2
  have k3 := hB.cell 3
  have k4 := hB.cell 4
  simp only [List.getElem?_cons_zero, List.getElem?_cons_succ] at k0 k1 k2 k3 k4
  have h := wnum_any base g _ v1 vn (by omega) w1 hw0 (by rw [List.length_append]; omega)
  have H := Lib.hid h
  have HS := Lib.hid (And.intro hB (And.intro hBv hkW))
  clear h hB hBv hkW hw0
  go_wp2_with fail
  refine H.out.mono ?_
  rintro e w2 ⟨rfl, v2, hw0, hk⟩
  obtain ⟨hB0, hBv0, hk0⟩ := HS.out
  obtain ⟨hB, hBv⟩ := hB0.kp hk hBg hBv0
  have hkW := hk0.trans hk
  clear hB0 hBv0 hk0 hk H HS
  have k0 := hB.cell 0
  have k1 := hB.cell 1
  have k2 := hB.cell 2
  have k3 := hB.cell 3
  have k4 := hB.cell 4
  simp only [List.getElem?_cons_zero, List.getElem?_cons_succ] at k0 k1 k2 k3 k4
  have h := wspans_any base g _ v2 A c kp vp hkp HSRC.out.2.2.2.1 S w2 (HSRC.out.2.1.below ((hkW.below HSRC.out.1).mono hS)) hS hw0 (by simp only [List.length_append]; omega)
  have H := Lib.hid h
  have HS := Lib.hid (And.intro hB (And.intro hBv hkW))
  clear h hB hBv hkW hw0
  go_wp2_with fail
  refine H.out.mono ?_
  rintro e w3 ⟨rfl, v3, hw0, hk⟩
  obtain ⟨hB0, hBv0, hk0⟩ := HS.out
  obtain ⟨hB, hBv⟩ := hB0.kp hk hBg hBv0
  have hkW := hk0.trans hk
  clear hB0 hBv0 hk0 hk H HS
  rcases vg with _ | _
  · have ht : tailL ⟨s, vn, vp, false, vx⟩ = putL 0 ++ txtL (strNums vx) := rfl
    rw [ht, List.length_append] at hl
    have l5 := putL_len 0
    have k0 := hB.cell 0
    have k1 := hB.cell 1
    have k2 := hB.cell 2
    have k3 := hB.cell 3
    have k4 := hB.cell 4
    simp only [List.getElem?_cons_zero, List.getElem?_cons_succ] at k0 k1 k2 k3 k4
    have h := wnum_any base g _ v3 0 (by omega) w3 hw0 (by simp only [List.length_append]; omega)
    have H := Lib.hid h
    have HS := Lib.hid (And.intro hB (And.intro hBv hkW))
    clear h hB hBv hkW hw0
    go_wp2_with fail
    refine H.out.mono ?_
    rintro e w4 ⟨rfl, v4, hw0, hk⟩
    obtain ⟨hB0, hBv0, hk0⟩ := HS.out
    obtain ⟨hB, hBv⟩ := hB0.kp hk hBg hBv0
    have hkW := hk0.trans hk
    clear hB0 hBv0 hk0 hk H HS
    have k0 := hB.cell 0
    have k1 := hB.cell 1
    have k2 := hB.cell 2
    have k3 := hB.cell 3
    have k4 := hB.cell 4
    simp only [List.getElem?_cons_zero, List.getElem?_cons_succ] at k0 k1 k2 k3 k4
    have h := wtext_any base g _ v4 vx (by omega) w4 hw0 (by simp only [List.length_append]; omega)
    have H := Lib.hid h
    have HS := Lib.hid (And.intro hB (And.intro hBv hkW))
    clear h hB hBv hkW hw0
    go_wp2_with fail
    refine H.out.mono ?_
    rintro e w5 ⟨rfl, v5, hw0, hk⟩
    obtain ⟨hB0, hBv0, hk0⟩ := HS.out
    obtain ⟨hB, hBv⟩ := hB0.kp hk hBg hBv0
    have hkW := hk0.trans hk
    clear hB0 hBv0 hk0 hk H HS
    have HE := Lib.hid (And.intro hw0 hkW)
    clear hw0 hkW hB hBv
    go_wp2_with fail
    refine ⟨rfl, _, results_none rfl _ _ _, rfl, v5, ?_, HE.out.2⟩
    have hv : verL ⟨s, vn, vp, false, vx⟩ = putL s ++ putL vn ++ setL vp ++ (putL 0 ++ txtL (strNums vx)) := rfl
    rw [hv]
    simp only [← List.append_assoc]
    exact HE.out.1
  · have k0 := hB.cell 0
    have k1 := hB.cell 1
    have k2 := hB.cell 2
    have k3 := hB.cell 3
    have k4 := hB.cell 4
    simp only [List.getElem?_cons_zero, List.getElem?_cons_succ] at k0 k1 k2 k3 k4
    have h := wnum_any base g _ v3 1 (by omega) w3 hw0 (by simp only [List.length_append]; omega)
    have H := Lib.hid h
    have HS := Lib.hid (And.intro hB (And.intro hBv hkW))
    clear h hB hBv hkW hw0
    go_wp2_with fail
    refine H.out.mono ?_
    rintro e w4 ⟨rfl, v4, hw0, hk⟩
    obtain ⟨hB0, hBv0, hk0⟩ := HS.out
    obtain ⟨hB, hBv⟩ := hB0.kp hk hBg hBv0
    have hkW := hk0.trans hk
    clear hB0 hBv0 hk0 hk H HS
    have HE := Lib.hid (And.intro hw0 hkW)
    clear hw0 hkW hB hBv
    go_wp2_with fail
    refine ⟨rfl, _, results_none rfl _ _ _, rfl, v4, ?_, HE.out.2⟩
    have hv : verL ⟨s, vn, vp, true, vx⟩ = putL s ++ putL vn ++ setL vp ++ putL 1 := rfl
    rw [hv]
    simp only [← List.append_assoc]
    exact HE.out.1
end Code
end Go.Proofs.YtegiigeelcnemaaGreat
