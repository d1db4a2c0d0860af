/-
  firthref06.Inner, firthref06.PutMsg: messages as the document writes them.
-/
import Derived.Test.YtegiigeelcnemaaGreatCodeRefWr
import Derived.Test.YtegiigeelcnemaaGreatGFrm
namespace Go.Proofs.YtegiigeelcnemaaGreat
namespace Code
open Go.RowKit Num Span Vers
attribute [local go_sem ↓] Go.wp_at_zero Go.wp_at_succ

theorem apart_low {k : IntKind} {w w' : World} {base S : Nat} {e : TypeId} {size n : Nat} {v : Value} {xs : List Value} {A : Option Addr} {zs : List Int} {m : Nat} (hm : zs.length = m) (h : Ns k w S A zs) (ho : w'.ownsRow base e size v n xs) (hS : S ≤ base) : Apart A m v := fun hp a ha e => by
  obtain ⟨b, off, e2, hb, _⟩ := h (by omega)
  rw [ha] at e2
  injection e2 with e2
  subst e2
  have := (ho.lt _ e.symm).1
  simp only at this
  omega
theorem nums_two_drew (base : Nat) (L : List Int) (A : Option Addr) (c n : Nat) (hn : L.length = n) (x y : Int) (hx : 0 ≤ x ∧ x ≤ 9223372036854775807) (hy : 0 ≤ y ∧ y ≤ 9223372036854775807) (w : World) (ho : w.ownsRow base 5 1 (.slice A n c) n (nums .u8 L)) (hb : base ≤ w.heap.size) (hbig : n + 18 ≤ 70368744177600) :
    Calls Tryz.prog 62 #[.slice A n c, .slice (some ⟨w.heap.size, 0, none⟩) 2 2] (w.alloc (.cells #[.int .i64 x, .int .i64 y] 2)).drew (GotK base (.slice A n c) (L ++ (putL x ++ putL y)) (w.alloc (.cells #[.int .i64 x, .int .i64 y] 2)).drew) := by
  have h := ref_nums_k base L A c n hn (w.heap.size + 1) (some ⟨w.heap.size, 0, none⟩) 2 2 [x, y] rfl (by intro z hz; simp at hz; omega) (w.alloc (.cells #[.int .i64 x, .int .i64 y] 2)).drew (ho.alloc _) (by simp; omega) (ns_lit2 _ _ _ _) (apart_new ho 2) (by simp) (by omega)
  rwa [show [x, y].flatMap putL = putL x ++ putL y by simp] at h
theorem wrap_u64 {x : Int} (hx : 0 ≤ x ∧ x < 18446744073709551616) : IntKind.u64.wrap x = x := by
  have h : IntKind.u64.wrap x = x % 18446744073709551616 := by simp [IntKind.wrap, IntKind.signed, IntKind.bits]
  rw [h]
  omega
theorem ns_lit9 (w : World) (e : TypeId) (x0 x1 x2 x3 x4 x5 x6 x7 x8 : Int) : Ns .i64 (w.alloc (.cells #[.int .i64 x0, .int .i64 x1, .int .i64 x2, .int .i64 x3, .int .i64 x4, .int .i64 x5, .int .i64 x6, .int .i64 x7, .int .i64 x8] e)) (w.heap.size + 1) (some ⟨w.heap.size, 0, none⟩) [x0, x1, x2, x3, x4, x5, x6, x7, x8] := fun _ =>
  ⟨w.heap.size, 0, rfl, by omega, fun j hj => by
    match j, hj with
    | 0, _ => simp
    | 1, _ => simp
    | 2, _ => simp
    | 3, _ => simp
    | 4, _ => simp
    | 5, _ => simp
    | 6, _ => simp
    | 7, _ => simp
    | 8, _ => simp⟩

set_option maxRecDepth 100000 in
set_option maxHeartbeats 8000000 in
theorem inner_any (kind f1 f2 t1 t2 id nn for_ code : Int) (key : ByteArray) (recs : List Rc) (vec path hashes route : List Int) (A8 A9 A10 A11 A12 : Option Addr) (c8 c9 c10 c11 c12 n8 n9 n10 n11 n12 : Nat)
    (e8 : recs.length = n8) (e9 : vec.length = n9) (e10 : path.length = n10) (e11 : hashes.length = n11) (e12 : route.length = n12) (hx : okM (kind, (f1, f2), (t1, t2), id, nn, for_, code, key, recs, vec, path, hashes, route)) (ht : tyM (kind, (f1, f2), (t1, t2), id, nn, for_, code, key, recs, vec, path, hashes, route)) (hn8 : n8 ≤ 1048576) (w : World)
    (hr : MsgI w 0 w.heap.size (kind, (f1, f2), (t1, t2), id, nn, for_, code, key, recs, vec, path, hashes, route) ((A8, c8), (A9, c9), (A10, c10), (A11, c11), (A12, c12))) :
    Calls Tryz.prog 33 #[.agg #[.int .i64 kind, .int .i64 f1, .int .i64 f2, .int .i64 t1, .int .i64 t2, .int .i64 id, .int .i64 nn, .int .i64 for_, .int .i64 code, .string key, .slice A8 n8 c8, .slice A9 n9 c9, .slice A10 n10 c10, .slice A11 n11 c11, .slice A12 n12 c12]] w (GotB w.heap.size (msgL (kind, (f1, f2), (t1, t2), id, nn, for_, code, key, recs, vec, path, hashes, route)) w) := by
  obtain ⟨i0, hi0, hz0, hz1, hz2⟩ := info_parts Facts.info5
  obtain ⟨B, hB⟩ : ∃ B, w.heap.size = B := ⟨_, rfl⟩
  obtain ⟨W, hW⟩ : ∃ W, w.alloc (.cells #[.int .i64 kind, .int .i64 f1, .int .i64 f2, .int .i64 t1, .int .i64 t2, .int .i64 id, .int .i64 nn, .int .i64 for_, .int .i64 code, .string key, .slice A8 n8 c8, .slice A9 n9 c9, .slice A10 n10 c10, .slice A11 n11 c11, .slice A12 n12 c12] 45) = W := ⟨_, rfl⟩
  have hX : Bn B 45 [.int .i64 kind, .int .i64 f1, .int .i64 f2, .int .i64 t1, .int .i64 t2, .int .i64 id, .int .i64 nn, .int .i64 for_, .int .i64 code, .string key, .slice A8 n8 c8, .slice A9 n9 c9, .slice A10 n10 c10, .slice A11 n11 c11, .slice A12 n12 c12] W := by rw [← hW, ← hB]; exact heap_alloc_new _ _
  have hbW : Below B w W := by rw [← hW, ← hB]; exact (Below.refl _ w).alloc (Nat.le_refl _) _
  have hWs : W.heap.size = B + 1 := by rw [← hW, ← hB]; simp
  rw [hB] at hr ⊢
  obtain ⟨i8, i9, i10, i11, i12⟩ := hr
  obtain ⟨x0, x1, x2, x3, x4, x5, x6, x7, x8, x9, x10, x11, x12⟩ := hx
  obtain ⟨y1, y2, y3, y4⟩ := ht
  unfold okA at x1 x2
  simp only at x1 x2
  have hn9 : n9 ≤ 16 := by have := x9.1; omega
  have hn10 : n10 ≤ 2 := by have := x10.1; omega
  have hn11 : n11 ≤ 16 := by omega
  have hn12 : n12 ≤ 16 := by have := x12.1; omega
  have hlater : ∀ V v, Kq (.slice none 0 0) W v V → Bn B 45 [.int .i64 kind, .int .i64 f1, .int .i64 f2, .int .i64 t1, .int .i64 t2, .int .i64 id, .int .i64 nn, .int .i64 for_, .int .i64 code, .string key, .slice A8 n8 c8, .slice A9 n9 c9, .slice A10 n10 c10, .slice A11 n11 c11, .slice A12 n12 c12] V ∧ B ≤ V.heap.size ∧ Below B w V := fun V v h => by
    obtain ⟨a, b⟩ := h.block (j := B) (by omega) (by simp [Value.ownBlock])
    exact ⟨a.trans hX, by have := h.size; omega, hbW.trans (h.below (base := B) (World.ownsRow_nil _ B 5 1) (by omega))⟩
  have h1 := ref_nums_k B [] none 0 0 rfl (W.heap.size + 1) (some ⟨W.heap.size, 0, none⟩) 9 9 [kind, f1, f2, t1, t2, id, nn, for_, code] rfl (by intro z hz; simp at hz; omega) (W.alloc (.cells #[.int .i64 kind, .int .i64 f1, .int .i64 f2, .int .i64 t1, .int .i64 t2, .int .i64 id, .int .i64 nn, .int .i64 for_, .int .i64 code] 2)) (World.ownsRow_nil _ _ _ _) (by simp; omega) (ns_lit9 _ _ _ _ _ _ _ _ _ _ _) (fun _ a ha e => by simp [Value.ownBlock] at e) (by simp) (by omega)
  rw [List.nil_append] at h1
  have lh := flat_le (l := [kind, f1, f2, t1, t2, id, nn, for_, code]) (enc := putL) (m := 9) (fun x _ => (putL_len x).2)
  obtain ⟨T1, hT1⟩ : ∃ T1, [kind, f1, f2, t1, t2, id, nn, for_, code].flatMap putL = T1 := ⟨_, rfl⟩
  rw [hT1] at h1 lh
  obtain ⟨N1, hN1⟩ : ∃ N1, T1.length = N1 := ⟨_, rfl⟩
  rw [hN1] at lh
  have nb1 : N1 ≤ 81 := by simpa using lh
  have htl := txtL_len key
  obtain ⟨X, hXX⟩ : ∃ X, txtL (strNums key) = X := ⟨_, rfl⟩
  obtain ⟨xl, hxl⟩ : ∃ xl, X.length = xl := ⟨_, rfl⟩
  have h2 := fun V => ref_puttext key (by omega) V
  simp only [textL_txt, hXX] at h2
  have nbx : xl ≤ 41 := by rw [hXX, hxl] at htl; omega
  have k0 := hX.cell 0
  have k1 := hX.cell 1
  have k2 := hX.cell 2
  have k3 := hX.cell 3
  have k4 := hX.cell 4
  have k5 := hX.cell 5
  have k6 := hX.cell 6
  have k7 := hX.cell 7
  have k8 := hX.cell 8
  simp only [List.getElem?_cons_zero, List.getElem?_cons_succ] at k0 k1 k2 k3 k4 k5 k6 k7 k8
  have hm1 := msgL_eq kind f1 f2 t1 t2 id nn for_ code key recs vec path hashes route
  have hm2 : msgL (kind, (f1, f2), (t1, t2), id, nn, for_, code, key, recs, vec, path, hashes, route) = T1 ++ X ++ (putL (n8 : Int) ++ recs.flatMap recL) ++ (putL (n9 : Int) ++ vec.flatMap putL) ++ (putL (n10 : Int) ++ path.flatMap putL) ++ (putL (n11 : Int) ++ hashes.flatMap hshL) ++ (putL (n12 : Int) ++ route.flatMap putL) := by
    rw [hm1, ← hT1, ← hXX, ← e8, ← e9, ← e10, ← e11, ← e12]
    unfold seqL addrL strL
    simp only [List.flatMap_cons, List.flatMap_nil, List.append_nil, List.append_assoc]
  have HL := Lib.hid hlater
  have HI := Lib.hid (And.intro i8 (And.intro i9 (And.intro i10 (And.intro i11 i12))))
  have HWB := Lib.hid (show B < W.heap.size ∧ True from ⟨by omega, trivial⟩)
  have HE := Lib.hid (And.intro e8 (And.intro e9 (And.intro e10 (And.intro e11 e12))))
  have HO := Lib.hid (And.intro x8 (And.intro x9.2 (And.intro x10.2 (And.intro y4 x12.2))))
  have HM := Lib.hid hm2
  have HX2 := Lib.hid (And.intro h2 hxl)
  have H1 := Lib.hid (And.intro h1 hN1)
  clear h1 hm1 hm2 hlater i8 i9 i10 i11 i12 e8 e9 e10 e11 e12 x0 x1 x2 x3 x4 x5 x6 x7 x8 x9 x10 x11 x12 y1 y2 y3 y4 hX hbW hT1 hXX hxl h2 hN1 htl lh hWs
  go_enter Tryz.func33, Tryz.ntmps33
  go_wp2_with fail
  refine H1.out.1.mono ?_
  rintro e w1 ⟨Ra1, Rc1, rfl, o1, q1'⟩
  rw [H1.out.2] at o1 q1' ⊢
  have q1 := (Kq.alloc _ _ _).trans q1'
  obtain ⟨hXc, hsc, _⟩ := HL.out w1 _ q1
  have k9 := hXc.cell 9
  simp only [List.getElem?_cons_zero, List.getElem?_cons_succ] at k9
  clear k0 k1 k2 k3 k4 k5 k6 k7 k8
  have HS1 := Lib.hid (And.intro o1 (And.intro q1 H1.out.2))
  have hs1 := hsc
  clear o1 q1 q1' hXc hsc
  go_wp2_with fail
  refine (HX2.out.1 w1).mono ?_
  rintro e w2 ⟨Ra2, Rc2, rfl, o2, d2⟩
  have nX := own_ns o2
  have oN := own_below HS1.out.1 d2 (Nat.le_refl _)
  have q2 := HS1.out.2.1.trans (Kq.of_below d2)
  have hs2 := d2.size
  rw [HX2.out.2]
  have HS2 := Lib.hid (And.intro oN (And.intro q2 nX))
  clear o2 d2 nX oN q2
  go_wp2_with (at_builtin; refine wpList_append_ns _ rfl _ _ 25 rfl B 5 i0 (.int .u8 0) 1 Tryz.underlying25 hi0 hz0 hz1 hz2 rfl _ N1 (nums .u8 T1) rfl HS2.out.1 .u8 w2.heap.size Ra2 xl Rc2 X HX2.out.2 rfl HS2.out.2.2 (by omega) (by omega) (by omega) ?_; intro v3 w3 o3 g3 at3; obtain ⟨N3, hN3⟩ : ∃ N3, N1 + xl = N3 := ⟨_, rfl⟩; rw [hN3] at o3; obtain ⟨Ra3, Rc3, rfl⟩ := own_form o3; have q3 := HS2.out.2.1.trans (Kq.grown g3 at3); obtain ⟨hXc, hs3, _⟩ := HL.out w3 _ q3; have k10 := hXc.cell 10; simp only [List.getElem?_cons_zero, List.getElem?_cons_succ] at k10; have HN3 := Lib.hid hN3; clear hN3)
  obtain ⟨T3, hT3⟩ : ∃ T3, T1 ++ X = T3 := ⟨_, rfl⟩
  have l3 : T3.length = N3 := by rw [← hT3, List.length_append, HS1.out.2.2, HX2.out.2, HN3.out]
  have nb3 : N3 ≤ 200 := by have := HN3.out; omega
  have o3' : w3.ownsRow B 5 1 (.slice Ra3 N3 Rc3) N3 (nums .u8 T3) := by rw [← hT3]; simpa [nums] using o3
  have HT3 := Lib.hid hT3.symm
  clear o3 g3 at3 hXc hT3
  have h := nums_one B T3 Ra3 Rc3 N3 l3 (n8 : Int) (by omega) w3 o3' hs3 (by omega)
  have H := Lib.hid h
  have HQ3 := Lib.hid (And.intro q3 l3)
  clear h o3' q3 l3
  refine H.out.mono ?_
  rintro e w4 ⟨Ra4, Rc4, rfl, o4', q4'⟩
  obtain ⟨T4, hT4⟩ : ∃ T4, T3 ++ putL (n8 : Int) = T4 := ⟨_, rfl⟩
  obtain ⟨N4, l4⟩ : ∃ N4, T4.length = N4 := ⟨_, rfl⟩
  rw [hT4, l4] at o4' q4' ⊢
  have q4 := (HQ3.out.1.trans (Kq.alloc _ _ _)).trans q4'
  have nb4 : N4 ≤ 300 := by
    have h1 := (putL_len (n8 : Int)).2
    have h2 := HQ3.out.2
    rw [← l4, ← hT4, List.length_append]
    omega
  have HT4 := Lib.hid hT4.symm
  clear hT4 q4' H
  have H0 : Hid (T4 = T4 ++ (recs.take 0).flatMap recL ∧ T4.length = N4 ∧ w4.ownsRow B 5 1 (.slice Ra4 N4 Rc4) N4 (nums .u8 T4) ∧ Kq (.slice none 0 0) W (.slice Ra4 N4 Rc4) w4) := Lib.hid ⟨by simp, l4, o4', q4⟩
  clear o4' q4 l4 
  go_wp2_with fail
  go_loopw [3, 4] (fun v q wr => ∃ (k : Nat) (Rak : Option Addr) (Rck Nk : Nat) (Tk : List Int), v = .slice Rak Nk Rck ∧ q = .int .i64 k ∧ k ≤ n8 ∧ Nk ≤ 300 + k * 14309938 ∧ Hid (Tk = T4 ++ (recs.take k).flatMap recL ∧ Tk.length = Nk ∧ wr.ownsRow B 5 1 (.slice Rak Nk Rck) Nk (nums .u8 Tk) ∧ Kq (.slice none 0 0) W (.slice Rak Nk Rck) wr)) (fun _ q _ => n8 - (intOf q).toNat)
  case atStart => exact ⟨0, Ra4, Rc4, N4, T4, rfl, rfl, by omega, by omega, H0⟩
  case round =>
    clear H0
    obtain ⟨k, Ra5, Rc5, N5, T5, rfl, rfl, hk, nk, hst⟩ := hrel
    obtain ⟨w5, rfl⟩ : ∃ w5 : World, w5 = wr := ⟨_, rfl⟩
    obtain ⟨hT5, l5, o5', q5⟩ := hst.out
    obtain ⟨hXc, hs5, hbl⟩ := HL.out w5 _ q5
    have k10 := hXc.cell 10
    simp only [List.getElem?_cons_zero, List.getElem?_cons_succ] at k10
    clear hXc
    by_cases hlt : k < n8
    · have d1 : (0 : Int) ≤ (k : Int) := by omega
      have d2 : (k : Int) < (n8 : Int) := by omega
      have hft := flat_take (enc := recL) (d := r0) (show k < recs.length by have := HE.out.1; omega)
      have hok := HO.out.1 _ (mem_getD r0 (show k < recs.length by have := HE.out.1; omega))
      have hlr := recL_len hok
      obtain ⟨pb, off, Ar, cr, rfl, _, hpb, a0, a1, hvs, hsz⟩ := HI.out.1.at HE.out.1 hbl hlt rfl
      obtain ⟨x, hxx⟩ : ∃ x, recs.getD k r0 = x := ⟨_, rfl⟩
      rw [hxx] at a0 a1 hvs hsz hft hok hlr
      obtain ⟨key1, vl⟩ := x
      obtain ⟨kp, hkp⟩ : ∃ kp, vl.length = kp := ⟨_, rfl⟩
      simp only at a0 a1 hvs
      rw [hkp] at a1
      have h := ref_rec_k B T5 Ra5 Rc5 N5 l5 Ar cr kp key1 vl hkp hok B w5 o5' hs5 hvs (Nat.le_refl _) (by omega)
      have H := Lib.hid h
      have HU := Lib.hid (And.intro hft (And.intro hT5 (And.intro l5 (And.intro q5 hlr))))
      clear h hft hxx hst hT5 l5 o5' q5 hbl hok hlr hvs hsz hkp
      go_wp2_with fail
      refine H.out.mono ?_
      rintro e w99 ⟨Ra99, Rc99, rfl, o99, q99⟩
      have hT99 : T5 ++ recL (key1, vl) = T4 ++ (recs.take (k + 1)).flatMap recL := by
        rw [HU.out.1, ← List.append_assoc, ← HU.out.2.1]
      obtain ⟨T99, hT99'⟩ : ∃ T99, T5 ++ recL (key1, vl) = T99 := ⟨_, rfl⟩
      obtain ⟨N99, l99⟩ : ∃ N99, T99.length = N99 := ⟨_, rfl⟩
      rw [hT99', l99] at o99 q99 ⊢
      have nb99 : N99 ≤ 300 + (k + 1) * 14309938 := by
        have h1 := HU.out.2.2.2.2
        have h2 := HU.out.2.2.1
        rw [← l99, ← hT99', List.length_append]
        omega
      have HE9 := Lib.hid (And.intro (hT99'.symm.trans hT99) (And.intro l99 (And.intro o99 (HU.out.2.2.2.1.trans q99))))
      clear hT99 hT99' l99 o99 q99 H
      go_wp2_with fail
      exact ⟨⟨k + 1, Ra99, Rc99, N99, T99, rfl, rfl, by omega, nb99, HE9⟩, by simp only [intOf]; omega⟩
    · have hkm : n8 = k := by omega
      subst hkm
      have hE5 : T5 = T4 ++ recs.flatMap recL := by rw [hT5, List.take_of_length_le (by have := HE.out.1; omega)]
      have HT5 := Lib.hid hE5
      have nb5 : N5 ≤ 15005300000000 := by omega
      obtain ⟨hXc, _, _⟩ := HL.out w5 _ q5
      have k11 := hXc.cell 11
      simp only [List.getElem?_cons_zero, List.getElem?_cons_succ] at k11
      clear hst hT5 hE5 hXc hbl hlt
      go_wp2_with fail
      have h := nums_one B T5 Ra5 Rc5 N5 l5 (n9 : Int) (by omega) w5 o5' hs5 (by omega)
      have H := Lib.hid h
      have HQ5 := Lib.hid (And.intro q5 l5)
      clear h o5' q5 l5
      refine H.out.mono ?_
      rintro e w6 ⟨Ra6, Rc6, rfl, o6', q6'⟩
      obtain ⟨T6, hT6⟩ : ∃ T6, T5 ++ putL (n9 : Int) = T6 := ⟨_, rfl⟩
      obtain ⟨N6, l6⟩ : ∃ N6, T6.length = N6 := ⟨_, rfl⟩
      rw [hT6, l6] at o6' q6' ⊢
      have q6 := (HQ5.out.1.trans (Kq.alloc _ _ _)).trans q6'
      have nb6 : N6 ≤ 15005300000009 := by
        have h1 := (putL_len (n9 : Int)).2
        have h2 := HQ5.out.2
        rw [← l6, ← hT6, List.length_append]
        omega
      have HT6 := Lib.hid hT6.symm
      clear hT6 q6' H
      obtain ⟨hXc, hs6, hbl6⟩ := HL.out w6 _ q6
      have k11 := hXc.cell 11
      simp only [List.getElem?_cons_zero, List.getElem?_cons_succ] at k11
      clear hXc
      have h := ref_nums_k B T6 Ra6 Rc6 N6 l6 B A9 c9 n9 vec HE.out.2.1 (fun z hz => by have := HO.out.2.1 z hz; omega) w6 o6' hs6 (HI.out.2.1.below hbl6) (apart_low HE.out.2.1 HI.out.2.1 o6' (Nat.le_refl _)) hs6 (by omega)
      have hfl := flat_le (l := vec) (enc := putL) (m := 9) (fun x _ => (putL_len x).2)
      have H := Lib.hid h
      have HQ6 := Lib.hid (And.intro q6 (And.intro l6 hfl))
      clear h o6' q6 l6 hbl6 hfl
      go_wp2_with fail
      refine H.out.mono ?_
      rintro e w7 ⟨Ra7, Rc7, rfl, o7', q7'⟩
      obtain ⟨T7, hT7⟩ : ∃ T7, T6 ++ vec.flatMap putL = T7 := ⟨_, rfl⟩
      obtain ⟨N7, l7⟩ : ∃ N7, T7.length = N7 := ⟨_, rfl⟩
      rw [hT7, l7] at o7' q7' ⊢
      have q7 := HQ6.out.1.trans q7'
      have nb7 : N7 ≤ 15005300000200 := by
        have h1 := HQ6.out.2.2
        have h2 := HQ6.out.2.1
        have h3 := HE.out.2.1
        have h4 : vec.length * 9 ≤ 16 * 9 := Nat.mul_le_mul_right 9 (by omega)
        rw [← l7, ← hT7, List.length_append]
        omega
      have HT7 := Lib.hid hT7.symm
      clear hT7 q7' H k11
      obtain ⟨hXc, hs7, _⟩ := HL.out w7 _ q7
      have k12 := hXc.cell 12
      simp only [List.getElem?_cons_zero, List.getElem?_cons_succ] at k12
      clear hXc
      go_wp2_with fail
      have h := nums_one B T7 Ra7 Rc7 N7 l7 (n10 : Int) (by omega) w7 o7' hs7 (by omega)
      have H := Lib.hid h
      have HQ7 := Lib.hid (And.intro q7 l7)
      clear h o7' q7 l7
      refine H.out.mono ?_
      rintro e w8 ⟨Ra8, Rc8, rfl, o8', q8'⟩
      obtain ⟨T8, hT8⟩ : ∃ T8, T7 ++ putL (n10 : Int) = T8 := ⟨_, rfl⟩
      obtain ⟨N8, l8⟩ : ∃ N8, T8.length = N8 := ⟨_, rfl⟩
      rw [hT8, l8] at o8' q8' ⊢
      have q8 := (HQ7.out.1.trans (Kq.alloc _ _ _)).trans q8'
      have nb8 : N8 ≤ 15005300000300 := by
        have h1 := (putL_len (n10 : Int)).2
        have h2 := HQ7.out.2
        rw [← l8, ← hT8, List.length_append]
        omega
      have HT8 := Lib.hid hT8.symm
      clear hT8 q8' H
      have H0 : Hid (T8 = T8 ++ (path.take 0).flatMap putL ∧ T8.length = N8 ∧ w8.ownsRow B 5 1 (.slice Ra8 N8 Rc8) N8 (nums .u8 T8) ∧ Kq (.slice none 0 0) W (.slice Ra8 N8 Rc8) w8) := Lib.hid ⟨by simp, l8, o8', q8⟩
      clear o8' q8 l8 
      go_wp2_with fail
      go_loopw [3, 5] (fun v q wr => ∃ (k : Nat) (Rak : Option Addr) (Rck Nk : Nat) (Tk : List Int), v = .slice Rak Nk Rck ∧ q = .int .i64 k ∧ k ≤ n10 ∧ Nk ≤ 15005300000300 + k * 9 ∧ Hid (Tk = T8 ++ (path.take k).flatMap putL ∧ Tk.length = Nk ∧ wr.ownsRow B 5 1 (.slice Rak Nk Rck) Nk (nums .u8 Tk) ∧ Kq (.slice none 0 0) W (.slice Rak Nk Rck) wr)) (fun _ q _ => n10 - (intOf q).toNat)
      case atStart => exact ⟨0, Ra8, Rc8, N8, T8, rfl, rfl, by omega, by omega, H0⟩
      case round =>
        clear H0
        obtain ⟨k, Ra9, Rc9, N9, T9, rfl, rfl, hk, nk, hst⟩ := hrel
        obtain ⟨w9, rfl⟩ : ∃ w9 : World, w9 = wr := ⟨_, rfl⟩
        obtain ⟨hT9, l9, o9', q9⟩ := hst.out
        obtain ⟨hXc, hs9, hbl⟩ := HL.out w9 _ q9
        have k12 := hXc.cell 12
        simp only [List.getElem?_cons_zero, List.getElem?_cons_succ] at k12
        clear hXc
        by_cases hlt : k < n10
        · have d1 : (0 : Int) ≤ (k : Int) := by omega
          have d2 : (k : Int) < (n10 : Int) := by omega
          have hft := flat_take (enc := putL) (d := (0 : Int)) (show k < path.length by have := HE.out.2.2.1; omega)
          have hox := HO.out.2.2.1 _ (mem_getD 0 (show k < path.length by have := HE.out.2.2.1; omega))
          obtain ⟨pb, off, rfl, hpb, hc⟩ := (HI.out.2.2.1.below hbl) (by have := HE.out.2.2.1; omega)
          have c0 := hc k (by have := HE.out.2.2.1; omega)


          obtain ⟨x, hxx⟩ : ∃ x, path.getD k 0 = x := ⟨_, rfl⟩
          rw [hxx] at c0 hft hox
          have h := nums_one B T9 Ra9 Rc9 N9 l9 x (by omega) w9 o9' hs9 (by omega)
          have H := Lib.hid h
          have HU := Lib.hid (And.intro hft (And.intro hT9 (And.intro l9 q9)))
          clear h hft hc hxx hst hT9 l9 o9' q9 hbl
          go_wp2_with fail
          refine H.out.mono ?_
          rintro e w99 ⟨Ra99, Rc99, rfl, o99, q99⟩
          have hT99 : T9 ++ putL x = T8 ++ (path.take (k + 1)).flatMap putL := by
            rw [HU.out.1, ← List.append_assoc, ← HU.out.2.1]
          obtain ⟨T99, hT99'⟩ : ∃ T99, T9 ++ putL x = T99 := ⟨_, rfl⟩
          obtain ⟨N99, l99⟩ : ∃ N99, T99.length = N99 := ⟨_, rfl⟩
          rw [hT99', l99] at o99 q99 ⊢
          have nb99 : N99 ≤ 15005300000300 + (k + 1) * 9 := by
            have h1 := (putL_len x).2
            have h2 := HU.out.2.2.1
            rw [← l99, ← hT99', List.length_append]
            omega
          have HE9 := Lib.hid (And.intro (hT99'.symm.trans hT99) (And.intro l99 (And.intro o99 ((HU.out.2.2.2.trans (Kq.alloc _ _ _)).trans q99))))

          clear hT99 hT99' l99 o99 q99 H
          go_wp2_with fail
          exact ⟨⟨k + 1, Ra99, Rc99, N99, T99, rfl, rfl, by omega, nb99, HE9⟩, by simp only [intOf]; omega⟩
        · have hkm : n10 = k := by omega
          subst hkm
          have hE9 : T9 = T8 ++ path.flatMap putL := by rw [hT9, List.take_of_length_le (by have := HE.out.2.2.1; omega)]
          have HT9 := Lib.hid hE9
          have nb9 : N9 ≤ 15005300000400 := by omega
          obtain ⟨hXc, _, _⟩ := HL.out w9 _ q9
          have k13 := hXc.cell 13
          simp only [List.getElem?_cons_zero, List.getElem?_cons_succ] at k13
          clear hst hT9 hE9 hXc hbl hlt
          go_wp2_with fail
          have h := nums_one B T9 Ra9 Rc9 N9 l9 (n11 : Int) (by omega) w9 o9' hs9 (by omega)
          have H := Lib.hid h
          have HQ9 := Lib.hid (And.intro q9 l9)
          clear h o9' q9 l9
          refine H.out.mono ?_
          rintro e w10 ⟨Ra10, Rc10, rfl, o10', q10'⟩
          obtain ⟨T10, hT10⟩ : ∃ T10, T9 ++ putL (n11 : Int) = T10 := ⟨_, rfl⟩
          obtain ⟨N10, l10⟩ : ∃ N10, T10.length = N10 := ⟨_, rfl⟩
          rw [hT10, l10] at o10' q10' ⊢
          have q10 := (HQ9.out.1.trans (Kq.alloc _ _ _)).trans q10'
          have nb10 : N10 ≤ 15005300000500 := by
            have h1 := (putL_len (n11 : Int)).2
            have h2 := HQ9.out.2
            rw [← l10, ← hT10, List.length_append]
            omega
          have HT10 := Lib.hid hT10.symm
          clear hT10 q10' H
          have H0 : Hid (T10 = T10 ++ (hashes.take 0).flatMap hshL ∧ T10.length = N10 ∧ w10.ownsRow B 5 1 (.slice Ra10 N10 Rc10) N10 (nums .u8 T10) ∧ Kq (.slice none 0 0) W (.slice Ra10 N10 Rc10) w10) := Lib.hid ⟨by simp, l10, o10', q10⟩
          clear o10' q10 l10 
          go_wp2_with fail
          go_loopw [3, 6] (fun v q wr => ∃ (k : Nat) (Rak : Option Addr) (Rck Nk : Nat) (Tk : List Int), v = .slice Rak Nk Rck ∧ q = .int .i64 k ∧ k ≤ n11 ∧ Nk ≤ 15005300000500 + k * 18 ∧ Hid (Tk = T10 ++ (hashes.take k).flatMap hshL ∧ Tk.length = Nk ∧ wr.ownsRow B 5 1 (.slice Rak Nk Rck) Nk (nums .u8 Tk) ∧ Kq (.slice none 0 0) W (.slice Rak Nk Rck) wr)) (fun _ q _ => n11 - (intOf q).toNat)
          case atStart => exact ⟨0, Ra10, Rc10, N10, T10, rfl, rfl, by omega, by omega, H0⟩
          case round =>
            clear H0
            obtain ⟨k, Ra11, Rc11, N11, T11, rfl, rfl, hk, nk, hst⟩ := hrel
            obtain ⟨w11, rfl⟩ : ∃ w11 : World, w11 = wr := ⟨_, rfl⟩
            obtain ⟨hT11, l11, o11', q11⟩ := hst.out
            obtain ⟨hXc, hs11, hbl⟩ := HL.out w11 _ q11
            have k13 := hXc.cell 13
            simp only [List.getElem?_cons_zero, List.getElem?_cons_succ] at k13
            clear hXc
            by_cases hlt : k < n11
            · have d1 : (0 : Int) ≤ (k : Int) := by omega
              have d2 : (k : Int) < (n11 : Int) := by omega
              have hft := flat_take (enc := hshL) (d := (0 : Int)) (show k < hashes.length by have := HE.out.2.2.2.1; omega)
              have hox := HO.out.2.2.2.1 _ (mem_getD 0 (show k < hashes.length by have := HE.out.2.2.2.1; omega))
              obtain ⟨pb, off, rfl, hpb, hc⟩ := (HI.out.2.2.2.1.below hbl) (by have := HE.out.2.2.2.1; omega)
              have c0 := hc k (by have := HE.out.2.2.2.1; omega)
              have hbl2 := hbl
              have hBz : B < w11.heap.size := (HL.out w11 _ q11).1.lt
              obtain ⟨x, hxx⟩ : ∃ x, hashes.getD k 0 = x := ⟨_, rfl⟩
              rw [hxx] at c0 hft hox
              have h := fun V (hV : V = (w11.alloc (.cells #[.int .i64 (x / 4294967296), .int .i64 (x % 4294967296)] 2)).drew) => hV ▸ nums_two_drew B T11 Ra11 Rc11 N11 l11 (x / 4294967296) (x % 4294967296) (by omega) (by omega) w11 o11' hs11 (by omega)
              have H := Lib.hid h
              have HU := Lib.hid (And.intro hft (And.intro hT11 (And.intro l11 q11)))
              clear h hft hc hxx hst hT11 l11 o11' q11 hbl
              have e1 : x.tdiv 4294967296 = x / 4294967296 := Int.tdiv_eq_ediv_of_nonneg hox.1
              have e2 : x.tmod 4294967296 = x % 4294967296 := Int.tmod_eq_emod_of_nonneg hox.1
              have e3 : IntKind.u64.wrap (x / 4294967296) = x / 4294967296 := wrap_u64 (by omega)
              have e4 : IntKind.u64.wrap (x % 4294967296) = x % 4294967296 := wrap_u64 (by omega)
              have e5 : IntKind.i64.wrap (x / 4294967296) = x / 4294967296 := Go.IntWalk.i64_in _ (by omega)
              have e6 : IntKind.i64.wrap (x % 4294967296) = x % 4294967296 := Go.IntWalk.i64_in _ (by omega)
              have hpz : pb < w11.heap.size := by omega
              have HB2 := Lib.hid hbl2
              clear hbl2
              go_wp2_with fail
              go_region_held3 (fun V => V.cell? ⟨B, 13, none⟩ = some (.slice (some ⟨pb, off, none⟩) n11 c11) ∧ V.cell? ⟨pb, off + k, none⟩ = some (.int .u64 x))
                (first
                  | exact ⟨k13, c0⟩
                  | exact ⟨(World.cell?_alloc_lt w11 _ _ hBz).trans k13, (World.cell?_alloc_lt w11 _ _ hpz).trans c0⟩
                  | exact ⟨l13', m0⟩)
                (first | (go_at_call 62; refine (H.out _ (by rfl)).mono ?_; rintro e w99 ⟨Ra99, Rc99, rfl, o99, q99⟩; obtain ⟨hX99, _, hb99⟩ := HL.out w99 _ ((HU.out.2.2.2.trans (Kq.alloc _ _ _).drew).trans q99); have l13' := hX99.cell 13; have m0 := (hb99.cell (p := ⟨pb, off + k, none⟩) hpb).trans ((HB2.out.cell (p := ⟨pb, off + k, none⟩) hpb).symm.trans c0); simp only [List.getElem?_cons_zero, List.getElem?_cons_succ] at l13'))
              all_goals
                have hT99 : T11 ++ (putL (x / 4294967296) ++ putL (x % 4294967296)) = T10 ++ (hashes.take (k + 1)).flatMap hshL := by
                  rw [HU.out.1, HU.out.2.1]
                  unfold hshL
                  simp only [List.append_assoc]
                obtain ⟨T99, hT99'⟩ : ∃ T99, T11 ++ (putL (x / 4294967296) ++ putL (x % 4294967296)) = T99 := ⟨_, rfl⟩
                obtain ⟨N99, l99⟩ : ∃ N99, T99.length = N99 := ⟨_, rfl⟩
                rw [hT99', l99] at o99 q99 
                have nb99 : N99 ≤ 15005300000500 + (k + 1) * 18 := by
                  have h1 := (putL_len (x / 4294967296)).2
                  have h1b := (putL_len (x % 4294967296)).2
                  have h2 := HU.out.2.2.1
                  rw [← l99, ← hT99', List.length_append, List.length_append]
                  omega
                have HE9 := Lib.hid (And.intro (hT99'.symm.trans hT99) (And.intro l99 (And.intro o99 ((HU.out.2.2.2.trans ((Kq.alloc _ _ _).drew)).trans q99))))
                have HLN := Lib.hid (show N99 = N11 + ((putL (x / 4294967296)).length + (putL (x % 4294967296)).length) by rw [← l99, ← hT99', List.length_append, List.length_append, HU.out.2.2.1])
                clear hT99 hT99' l99 o99 q99 
                go_wp2_with fail
                exact ⟨⟨k + 1, Ra99, Rc99, N99, T99, by have h1 := HLN.out; have h2 := HU.out.2.2.1; congr 1; (try simp only [List.length_append]); omega, rfl, by omega, nb99, HE9⟩, by simp only [intOf]; omega⟩
            · have hkm : n11 = k := by omega
              subst hkm
              have hE11 : T11 = T10 ++ hashes.flatMap hshL := by rw [hT11, List.take_of_length_le (by have := HE.out.2.2.2.1; omega)]
              have HT11 := Lib.hid hE11
              have nb11 : N11 ≤ 15005300001000 := by omega
              obtain ⟨hXc, _, _⟩ := HL.out w11 _ q11
              have k14 := hXc.cell 14
              simp only [List.getElem?_cons_zero, List.getElem?_cons_succ] at k14
              clear hst hT11 hE11 hXc hbl hlt
              go_wp2_with fail
              have h := nums_one B T11 Ra11 Rc11 N11 l11 (n12 : Int) (by omega) w11 o11' hs11 (by omega)
              have H := Lib.hid h
              have HQ11 := Lib.hid (And.intro q11 l11)
              clear h o11' q11 l11
              refine H.out.mono ?_
              rintro e w12 ⟨Ra12, Rc12, rfl, o12', q12'⟩
              obtain ⟨T12, hT12⟩ : ∃ T12, T11 ++ putL (n12 : Int) = T12 := ⟨_, rfl⟩
              obtain ⟨N12, l12⟩ : ∃ N12, T12.length = N12 := ⟨_, rfl⟩
              rw [hT12, l12] at o12' q12' ⊢
              have q12 := (HQ11.out.1.trans (Kq.alloc _ _ _)).trans q12'
              have nb12 : N12 ≤ 15005300001100 := by
                have h1 := (putL_len (n12 : Int)).2
                have h2 := HQ11.out.2
                rw [← l12, ← hT12, List.length_append]
                omega
              have HT12 := Lib.hid hT12.symm
              clear hT12 q12' H
              have H0 : Hid (T12 = T12 ++ (route.take 0).flatMap putL ∧ T12.length = N12 ∧ w12.ownsRow B 5 1 (.slice Ra12 N12 Rc12) N12 (nums .u8 T12) ∧ Kq (.slice none 0 0) W (.slice Ra12 N12 Rc12) w12) := Lib.hid ⟨by simp, l12, o12', q12⟩
              clear o12' q12 l12 
              go_wp2_with fail
              go_loopw [3, 7] (fun v q wr => ∃ (k : Nat) (Rak : Option Addr) (Rck Nk : Nat) (Tk : List Int), v = .slice Rak Nk Rck ∧ q = .int .i64 k ∧ k ≤ n12 ∧ Nk ≤ 15005300001100 + k * 9 ∧ Hid (Tk = T12 ++ (route.take k).flatMap putL ∧ Tk.length = Nk ∧ wr.ownsRow B 5 1 (.slice Rak Nk Rck) Nk (nums .u8 Tk) ∧ Kq (.slice none 0 0) W (.slice Rak Nk Rck) wr)) (fun _ q _ => n12 - (intOf q).toNat)
              case atStart => exact ⟨0, Ra12, Rc12, N12, T12, rfl, rfl, by omega, by omega, H0⟩
              case round =>
                clear H0
                obtain ⟨k, Ra13, Rc13, N13, T13, rfl, rfl, hk, nk, hst⟩ := hrel
                obtain ⟨w13, rfl⟩ : ∃ w13 : World, w13 = wr := ⟨_, rfl⟩
                obtain ⟨hT13, l13, o13', q13⟩ := hst.out
                obtain ⟨hXc, hs13, hbl⟩ := HL.out w13 _ q13
                have k14 := hXc.cell 14
                simp only [List.getElem?_cons_zero, List.getElem?_cons_succ] at k14
                clear hXc
                by_cases hlt : k < n12
                · have d1 : (0 : Int) ≤ (k : Int) := by omega
                  have d2 : (k : Int) < (n12 : Int) := by omega
                  have hft := flat_take (enc := putL) (d := (0 : Int)) (show k < route.length by have := HE.out.2.2.2.2; omega)
                  have hox := HO.out.2.2.2.2 _ (mem_getD 0 (show k < route.length by have := HE.out.2.2.2.2; omega))
                  obtain ⟨pb, off, rfl, hpb, hc⟩ := (HI.out.2.2.2.2.below hbl) (by have := HE.out.2.2.2.2; omega)
                  have c0 := hc k (by have := HE.out.2.2.2.2; omega)


                  obtain ⟨x, hxx⟩ : ∃ x, route.getD k 0 = x := ⟨_, rfl⟩
                  rw [hxx] at c0 hft hox
                  have h := nums_one B T13 Ra13 Rc13 N13 l13 x (by omega) w13 o13' hs13 (by omega)
                  have H := Lib.hid h
                  have HU := Lib.hid (And.intro hft (And.intro hT13 (And.intro l13 q13)))
                  clear h hft hc hxx hst hT13 l13 o13' q13 hbl
                  go_wp2_with fail
                  refine H.out.mono ?_
                  rintro e w99 ⟨Ra99, Rc99, rfl, o99, q99⟩
                  have hT99 : T13 ++ putL x = T12 ++ (route.take (k + 1)).flatMap putL := by
                    rw [HU.out.1, ← List.append_assoc, ← HU.out.2.1]
                  obtain ⟨T99, hT99'⟩ : ∃ T99, T13 ++ putL x = T99 := ⟨_, rfl⟩
                  obtain ⟨N99, l99⟩ : ∃ N99, T99.length = N99 := ⟨_, rfl⟩
                  rw [hT99', l99] at o99 q99 ⊢
                  have nb99 : N99 ≤ 15005300001100 + (k + 1) * 9 := by
                    have h1 := (putL_len x).2
                    have h2 := HU.out.2.2.1
                    rw [← l99, ← hT99', List.length_append]
                    omega
                  have HE9 := Lib.hid (And.intro (hT99'.symm.trans hT99) (And.intro l99 (And.intro o99 ((HU.out.2.2.2.trans (Kq.alloc _ _ _)).trans q99))))

                  clear hT99 hT99' l99 o99 q99 H
                  go_wp2_with fail
                  exact ⟨⟨k + 1, Ra99, Rc99, N99, T99, rfl, rfl, by omega, nb99, HE9⟩, by simp only [intOf]; omega⟩
                · have hkm : n12 = k := by omega
                  subst hkm
                  have hE13 : T13 = T12 ++ route.flatMap putL := by rw [hT13, List.take_of_length_le (by have := HE.out.2.2.2.2; omega)]
                  have HT13 := Lib.hid hE13
                  have nb13 : N13 ≤ 15005300002000 := by omega
                  obtain ⟨hXc, _, _⟩ := HL.out w13 _ q13
                  have k14 := hXc.cell 14
                  simp only [List.getElem?_cons_zero, List.getElem?_cons_succ] at k14
                  clear hst hT13 hE13 hXc hbl hlt
                  have hfin : T13 = msgL (kind, (f1, f2), (t1, t2), id, nn, for_, code, key, recs, vec, path, hashes, route) := by
                    rw [HM.out, HT13.out, HT12.out, HT11.out, HT10.out, HT9.out, HT8.out, HT7.out, HT6.out, HT5.out, HT4.out, HT3.out]
                    simp only [List.append_assoc]
                  have HF := Lib.hid (And.intro hfin (And.intro l13 (And.intro o13' (HL.out w13 _ q13).2.2)))
                  clear hfin l13 o13' q13
                  go_wp2_with fail
                  go_ret
                  obtain ⟨f1', f2', f3', f4'⟩ := HF.out
                  rw [← f1']
                  exact ⟨Ra13, Rc13, by rw [f2']; rfl, by rw [f2']; exact f3', f4'⟩
theorem mcc_cells (m : Ms) (a : Pl) : ∃ v0 v1 v2 v3 v4 v5 v6 v7 v8 v9 v10 v11 v12 v13 v14, (mcc m a).toArray = #[v0, v1, v2, v3, v4, v5, v6, v7, v8, v9, v10, v11, v12, v13, v14] := by
  obtain ⟨kind, ⟨f1, f2⟩, ⟨t1, t2⟩, id, n, for_, code, key, recs, vec, path, hashes, route⟩ := m
  obtain ⟨⟨A8, c8⟩, ⟨A9, c9⟩, ⟨A10, c10⟩, ⟨A11, c11⟩, ⟨A12, c12⟩⟩ := a
  exact ⟨_, _, _, _, _, _, _, _, _, _, _, _, _, _, _, rfl⟩
theorem refright_at (m : Ms) (a : Pl) (hf : Fit m) (w : World) (hr : MsgI w 0 w.heap.size m a) :
    Calls Tryz.prog 17 #[.agg (mcc m a).toArray] w (fun e w' => e = .returned (.bool (decide (okM m))) ∧ Below w.heap.size w w') := by
  obtain ⟨kind, ⟨f1, f2⟩, ⟨t1, t2⟩, id, n, for_, code, key, recs, vec, path, hashes, route⟩ := m
  obtain ⟨⟨A8, c8⟩, ⟨A9, c9⟩, ⟨A10, c10⟩, ⟨A11, c11⟩, ⟨A12, c12⟩⟩ := a
  obtain ⟨ht, hk, hl⟩ := hf
  exact refmsg_right_any kind f1 f2 t1 t2 id n for_ code key recs vec path hashes route A8 A9 A10 A11 A12 c8 c9 c10 c11 c12 _ _ _ _ _ rfl rfl rfl rfl rfl ht.2.2.1 hl.1 w hr
theorem right_at (m : Ms) (a : Pl) (hf : Fit m) (w : World) (hr : MsgI w 0 w.heap.size m a) :
    Calls Tryz.prog 16 #[.agg (mcc m a).toArray] w (fun e w' => e = .returned (.bool (decide (okM m))) ∧ Below w.heap.size w w') := by
  obtain ⟨kind, ⟨f1, f2⟩, ⟨t1, t2⟩, id, n, for_, code, key, recs, vec, path, hashes, route⟩ := m
  obtain ⟨⟨A8, c8⟩, ⟨A9, c9⟩, ⟨A10, c10⟩, ⟨A11, c11⟩, ⟨A12, c12⟩⟩ := a
  obtain ⟨ht, hk, hl⟩ := hf
  exact rightmsg_any kind f1 f2 t1 t2 id n for_ code key recs vec path hashes route A8 A9 A10 A11 A12 c8 c9 c10 c11 c12 _ _ _ _ _ rfl rfl rfl rfl rfl ht.2.2.1 hk w hr
theorem inner_at (m : Ms) (a : Pl) (hf : Fit m) (hx : okM m) (hn : m.2.2.2.2.2.2.2.2.1.length ≤ 1048576) (w : World) (hr : MsgI w 0 w.heap.size m a) :
    Calls Tryz.prog 33 #[.agg (mcc m a).toArray] w (GotB w.heap.size (msgL m) w) := by
  obtain ⟨kind, ⟨f1, f2⟩, ⟨t1, t2⟩, id, n, for_, code, key, recs, vec, path, hashes, route⟩ := m
  obtain ⟨⟨A8, c8⟩, ⟨A9, c9⟩, ⟨A10, c10⟩, ⟨A11, c11⟩, ⟨A12, c12⟩⟩ := a
  exact inner_any kind f1 f2 t1 t2 id n for_ code key recs vec path hashes route A8 A9 A10 A11 A12 c8 c9 c10 c11 c12 _ _ _ _ _ rfl rfl rfl rfl rfl hx hf.1 hn w hr

set_option maxRecDepth 100000 in
set_option maxHeartbeats 2000000 in
theorem refputmsg_at (m : Ms) (a : Pl) (hf : Fit m) (hn : m.2.2.2.2.2.2.2.2.1.length ≤ 1048576) (w : World) (hr : MsgI w 0 w.heap.size m a) :
    Calls Tryz.prog 15 #[.agg (mcc m a).toArray] w (PutOut w.heap.size (putMsgF m) w) := by
  obtain ⟨B, hB⟩ : ∃ B, w.heap.size = B := ⟨_, rfl⟩
  rw [hB] at hr ⊢
  have hm : ∀ W, Below B w W → MsgI W 0 W.heap.size m a := fun W h => hr.below h (by have := h.size; omega)
  have c1 := fun W (h : Below B w W) => refright_at m a hf W (hm W h)
  have c2 := fun hx W (h : Below B w W) => inner_at m a hf hx hn W (hm W h)
  have hla := mv_is m a
  obtain ⟨L, hL⟩ : ∃ L, mcc m a = L := ⟨_, rfl⟩
  rw [hL] at c1 c2 hla ⊢
  obtain ⟨W, hW⟩ : ∃ W, w.alloc (.cells L.toArray 45) = W := ⟨_, rfl⟩
  have hb0 : Below B w W := by rw [← hW, ← hB]; exact (Below.refl _ w).alloc (Nat.le_refl _) _
  have hg0 : W.heap[B]? = some (.cells L.toArray 45 (0, 0)) := by rw [← hW, ← hB]; exact heap_alloc_new _ _
  have hsB : ∀ V, Below B w V → B ≤ V.heap.size := fun V h => by have := h.size; omega
  have hBW : B < W.heap.size := (Array.getElem?_eq_some_iff.1 hg0).1
  have hsz := hla.1
  have H0 := Lib.hid (And.intro hb0 hsB)
  have HC := Lib.hid (And.intro c1 c2)
  have HF := Lib.hid (show (okM m → (msgL m).length ≤ 1048576 → putMsgF m = (Frm.frameF (msgL m), 0)) ∧ (okM m → ¬ (msgL m).length ≤ 1048576 → putMsgF m = ([], 3)) ∧ (¬ okM m → putMsgF m = ([], 1)) from ⟨fun h1 h2 => by unfold putMsgF; rw [if_pos h1, if_pos h2], fun h1 h2 => by unfold putMsgF; rw [if_pos h1, if_neg h2], fun h1 => by unfold putMsgF; rw [if_neg h1]⟩)
  have HT := Lib.hid (And.intro hf.1 hn)
  clear hm c1 c2 hb0 hsB hr hf hL hla hn
  by_cases hx : okM m
  · have h1 := HC.out.1 W H0.out.1
    rw [decide_eq_true hx] at h1
    have H1 := Lib.hid h1
    have HX := Lib.hid hx
    clear h1 hx
    go_enter Tryz.func15, Tryz.ntmps15
    go_wp2_with (refine wpList_load_row rfl 45 _ rfl _ rfl 45 _ _ _ hg0 Tryz.underlying45 rfl hsz ?_)
    refine H1.out.mono ?_
    rintro e w1 ⟨rfl, d1⟩
    have hg1 := (d1.block B hBW).trans hg0
    have HB := Lib.hid (H0.out.1.trans (d1.mono (H0.out.2 _ H0.out.1)))
    clear d1
    go_wp2_with (refine wpList_load_row rfl 45 _ rfl _ rfl 45 _ _ _ hg1 Tryz.underlying45 rfl hsz ?_)
    refine (HC.out.2 HX.out w1 HB.out).mono ?_
    rintro e w2 ⟨A2, c2, rfl, o2, d2⟩
    have hbig := msgL_short HX.out HT.out.2
    have hfine := msgL_fine HX.out HT.out.1
    have hcap := own_cap o2
    have HO := Lib.hid (And.intro (own_ns o2) (HB.out.trans (d2.mono (H0.out.2 _ HB.out))))
    clear o2 d2
    by_cases hl : (msgL m).length ≤ 1048576
    · have HLL := Lib.hid hl
      have h3 := Frm.ref_put_any A2 c2 (msgL m) w2 HO.out.1 hfine (by omega)
      obtain ⟨n, hn⟩ : ∃ n, (msgL m).length = n := ⟨_, rfl⟩
      rw [hn] at h3 ⊢
      have dl : decide ((1048576 : Int) < (n : Int)) = false := decide_eq_false (by omega)
      have H3 := Lib.hid h3
      clear h3 hbig hfine hl hcap hn
      go_wp2_with fail
      refine H3.out.mono ?_
      rintro e w3 ⟨A3, c3, rfl, o3, d3⟩
      have HZ := Lib.hid (And.intro (own_base o3 (H0.out.2 _ HO.out.2)) (HO.out.2.trans (d3.mono (H0.out.2 _ HO.out.2))))
      clear o3 d3
      go_wp2_with fail
      go_ret2
      rw [HF.out.1 HX.out HLL.out]
      exact ⟨A3, c3, rfl, HZ.out.1, HZ.out.2⟩
    · have HLL := Lib.hid hl
      obtain ⟨n, hn⟩ : ∃ n, (msgL m).length = n := ⟨_, rfl⟩
      rw [hn] at hl ⊢
      have dl : decide ((1048576 : Int) < (n : Int)) = true := decide_eq_true (by omega)
      clear hbig hfine hl hcap hn
      go_wp2_with fail
      go_ret2
      rw [HF.out.2.1 HX.out HLL.out]
      exact ⟨none, 0, rfl, World.ownsRow_nil _ _ _ _, HO.out.2⟩
  · have h1 := HC.out.1 W H0.out.1
    rw [decide_eq_false hx] at h1
    have H1 := Lib.hid h1
    have HX := Lib.hid hx
    clear h1 hx
    go_enter Tryz.func15, Tryz.ntmps15
    go_wp2_with (refine wpList_load_row rfl 45 _ rfl _ rfl 45 _ _ _ hg0 Tryz.underlying45 rfl hsz ?_)
    refine H1.out.mono ?_
    rintro e w1 ⟨rfl, d1⟩
    have HB := Lib.hid (H0.out.1.trans (d1.mono (H0.out.2 _ H0.out.1)))
    clear d1
    go_wp2_with fail
    go_ret2
    rw [HF.out.2.2 HX.out]
    exact ⟨none, 0, rfl, World.ownsRow_nil _ _ _ _, HB.out⟩
end Code
end Go.Proofs.YtegiigeelcnemaaGreat
