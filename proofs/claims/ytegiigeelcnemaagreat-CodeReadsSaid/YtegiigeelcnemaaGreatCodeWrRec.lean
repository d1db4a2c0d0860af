/-
  The writer of layer 6: lists of versions, records and lists of them, lists of numbers.
-/
import Derived.Test.YtegiigeelcnemaaGreatCodeWrVer
import Derived.Test.YtegiigeelcnemaaGreatCodeRecs
namespace Go.Proofs.YtegiigeelcnemaaGreat
namespace Code
open Go.RowKit Num Span Vers
attribute [local go_sem ↓] Go.wp_at_zero Go.wp_at_succ

theorem flat_part {α : Type} {enc : α → List Int} {l : List α} {k : Nat} (d : α) (h : k < l.length) : ((l.take k).flatMap enc).length + (enc (l.getD k d)).length ≤ (l.flatMap enc).length := by
  have h1 := flat_take (enc := enc) (d := d) h
  have h2 : l.flatMap enc = (l.take (k + 1)).flatMap enc ++ (l.drop (k + 1)).flatMap enc := by rw [← List.flatMap_append, List.take_append_drop]
  rw [h2, h1, List.length_append, List.length_append]
  omega
theorem seqL_length {α : Type} (enc : α → List Int) (l : List α) : (seqL enc l).length = (putL (l.length : Int)).length + (l.flatMap enc).length := by unfold seqL; rw [List.length_append]
theorem mem_getD {α : Type} {l : List α} {k : Nat} (d : α) (h : k < l.length) : l.getD k d ∈ l := by
  rw [List.getD_eq_getElem?_getD, List.getElem?_eq_getElem h]
  exact List.getElem_mem _

set_option maxRecDepth 100000 in
theorem wvers_any (base g : Nat) (L : List Int) (v : Value) (A : Option Addr) (c m : Nat) (l : List Vr) (hm : l.length = m) (hl : ∀ x ∈ l, okV x) (lo S : Nat) (w : World) (hr : Vs w lo S A l) (hB : S ≤ base) (hw : Wr base g L v w) (hm2 : m ≤ 140737488355328) (hbig : L.length + (seqL verL l).length ≤ 70368744000000) :
    Calls Tryz.prog 56 #[.pointer (some ⟨g, 0, none⟩), .slice A m c, .func (.func 57) #[.pointer (some ⟨g, 0, none⟩)] #[]] w (Wrote base g (L ++ seqL verL l) v w) := by
  have hlen := seqL_length verL l
  rw [hm] at hlen
  have h1 := wwhole_any base g L v (m : Int) (by omega) w hw (by omega)
  have l1 := putL_len (m : Int)
  have H1 := Lib.hid h1
  have HS := Lib.hid (And.intro hr (And.intro hw (And.intro hl (And.intro hm (And.intro hlen hbig)))))
  clear h1 hr hw hl hm hlen hbig
  go_enter Tryz.func56, Tryz.ntmps56
  go_wp2_with fail
  refine H1.out.mono ?_
  rintro e w1 ⟨rfl, v1, hw1, hk1⟩
  have HX := Lib.hid (And.intro hw1 hk1)
  clear hw1 hk1 H1
  go_wp2_with fail
  go_loopw [14] (fun q wr => ∃ (k : Nat) (u : Value), q = .int .i64 k ∧ k ≤ m ∧ Wr base g (L ++ putL (m : Int) ++ (l.take k).flatMap verL) u wr ∧ Kp g v w u wr) (fun q _ => m - (intOf q).toNat)
  case atStart => exact ⟨0, v1, rfl, by omega, by simpa using HX.out.1, HX.out.2⟩
  case round =>
    obtain ⟨k, u, rfl, hk, hwr, hkr⟩ := hrel
    have hb := (hkr.below HS.out.2.1).mono hB
    by_cases hlt : k < m
    · have hm := HS.out.2.2.2.1
      have hft := flat_take (enc := verL) (d := v0) (show k < l.length by omega)
      have hpt := flat_part (enc := verL) v0 (show k < l.length by omega)
      have hx := HS.out.2.2.1 _ (mem_getD v0 (show k < l.length by omega))
      have hbig := HS.out.2.2.2.2.2
      have hlen := HS.out.2.2.2.2.1
      have hlb : (L ++ putL (m : Int) ++ (l.take k).flatMap verL).length = L.length + (putL (m : Int)).length + ((l.take k).flatMap verL).length := by rw [List.length_append, List.length_append]
      have d1 : (0 : Int) ≤ (k : Int) := by omega
      have d2 : (k : Int) < (m : Int) := by omega
      have hSw : S ≤ wr.heap.size := Nat.le_trans hB hwr.base_le
      obtain ⟨pb, off, A1, c1, rfl, _, hpb, a0, a1, a2, a3, a4, hpa⟩ := HS.out.1.at hm hb hlt rfl
      obtain ⟨x, hxx⟩ : ∃ x, l.getD k v0 = x := ⟨_, rfl⟩
      rw [hxx] at hx a0 a1 a2 a3 a4 hft hpa hpt
      obtain ⟨s, vn, vp, vg, vx⟩ := x
      obtain ⟨kp, hkp⟩ : ∃ kp, vp.length = kp := ⟨_, rfl⟩
      simp only at a0 a1 a2 a3 a4
      have hsp := hpa.1
      simp only at hsp
      rw [hkp] at a2
      have hwa := hwr.alloc (.cells #[.int .i64 s, .int .i64 vn, .slice A1 kp c1, .bool vg, .string vx] 105)
      have h2 := wver_any base g _ u A1 c1 kp s vn vp vg vx hkp hx S _ ((hsp.below (Below.refl S wr)).below ((Below.refl S wr).alloc hSw (.cells #[.int .i64 s, .int .i64 vn, .slice A1 kp c1, .bool vg, .string vx] 105))) hB hwa (by rw [hlb]; omega)
      have hka := hkr.trans (Kp.alloc g u wr (.cells #[.int .i64 s, .int .i64 vn, .slice A1 kp c1, .bool vg, .string vx] 105))
      have H2 := Lib.hid h2
      have HT := Lib.hid (And.intro hft hka)
      clear h2 hft hka hwr hkr hb hx hpt hm hbig hlen hlb hwa hxx hpa hsp hkp
      go_wp2_with fail
      refine H2.out.mono ?_
      rintro e w2 ⟨rfl, u2, hw2, hk2⟩
      have hw3 : Wr base g (L ++ putL (m : Int) ++ (l.take (k + 1)).flatMap verL) u2 w2 := by
        rw [HT.out.1, ← List.append_assoc]
        exact hw2
      have HE := Lib.hid (And.intro hw3 (HT.out.2.trans hk2))
      clear hw2 hk2 hw3 H2
      go_wp2_with fail
      go_roundw
      case rel => exact ⟨k + 1, u2, rfl, by omega, HE.out.1, HE.out.2⟩
      case measure => simp only [intOf]; omega
    · have hkm : k = m := by omega
      subst hkm
      have hE : Wr base g (L ++ seqL verL l) u wr := by
        rw [List.take_of_length_le (by rw [HS.out.2.2.2.1]; exact Nat.le_refl _), List.append_assoc] at hwr
        unfold seqL
        rw [HS.out.2.2.2.1]
        exact hwr
      have HE := Lib.hid (And.intro hE hkr)
      clear hE hkr hwr hb
      go_wp2_with fail
      exact ⟨rfl, _, results_none rfl _ _ _, rfl, u, HE.out.1, HE.out.2⟩

set_option maxRecDepth 100000 in
theorem wrec_any (base g : Nat) (L : List Int) (v : Value) (A : Option Addr) (c m : Nat) (key : ByteArray) (l : List Vr) (hm : l.length = m) (hx : okR (key, l)) (lo S : Nat) (w : World) (hr : Vs w lo S A l) (hS : S ≤ base) (hw : Wr base g L v w) (hbig : L.length + (recL (key, l)).length ≤ 70368744000000) :
    Calls Tryz.prog 21 #[.pointer (some ⟨g, 0, none⟩), .agg #[.string key, .slice A m c]] w (Wrote base g (L ++ recL (key, l)) v w) := by
  have hmf : ∀ (fn : Fn) (first cap : Array Value) (w : World), (Instr.makeFunc fn first cap).run Tryz.prog w = .ok (.func fn first cap) w := fun _ _ _ _ => rfl
  have hl : (recL (key, l)).length = (txtL (strNums key)).length + (seqL verL l).length := by unfold recL; rw [List.length_append]
  obtain ⟨r1, r2, r3⟩ := hx
  simp only at r1 r2 r3
  have r4 := r3.1
  obtain ⟨B, hBe⟩ : ∃ B, w.heap.size = B := ⟨_, rfl⟩
  obtain ⟨W, hW⟩ : ∃ W, w.alloc (.cells #[.string key, .slice A m c] 24) = W := ⟨_, rfl⟩
  have hB : Bn B 24 [.string key, .slice A m c] W := by rw [← hW, ← hBe]; exact heap_alloc_new _ _
  obtain ⟨hBg, hBv⟩ := hw.new_far
  rw [hBe] at hBg hBv
  have hw0 : Wr base g L v W := by rw [← hW]; exact hw.alloc _
  have hkW : Kp g v w v W := by rw [← hW]; exact Kp.alloc _ _ _ _
  have HSRC := Lib.hid (And.intro hw (And.intro hr (And.intro hm r3)))
  clear hw hr r3
  have k0 := hB.cell 0
  have k1 := hB.cell 1
  simp only [List.getElem?_cons_zero, List.getElem?_cons_succ] at k0 k1
  have h := wtext_any base g L v key (by omega) W hw0 (by omega)
  have H := Lib.hid h
  have HS := Lib.hid (And.intro hB (And.intro hBv hkW))
  clear h hB hBv hkW hw0
  go_enter Tryz.func21, Tryz.ntmps21
  go_wp2_with fail
  refine H.out.mono ?_
  rintro e w1 ⟨rfl, v1, hw0, hk⟩
  obtain ⟨hB0, hBv0, hk0⟩ := HS.out
  obtain ⟨hB, hBv⟩ := hB0.kp hk hBg hBv0
  have hkW := hk0.trans hk
  clear hB0 hBv0 hk0 hk H HS
  have k0 := hB.cell 0
  have k1 := hB.cell 1
  simp only [List.getElem?_cons_zero, List.getElem?_cons_succ] at k0 k1
  have h := wvers_any base g _ v1 A c m l HSRC.out.2.2.1 HSRC.out.2.2.2.2.1.1 lo S w1 (HSRC.out.2.1.below ((hkW.below HSRC.out.1).mono hS)) hS hw0 (by omega) (by rw [List.length_append]; omega)
  have H := Lib.hid h
  have HS := Lib.hid (And.intro hB (And.intro hBv hkW))
  clear h hB hBv hkW hw0
  go_wp2_with fail
  refine H.out.mono ?_
  rintro e w2 ⟨rfl, v2, hw0, hk⟩
  obtain ⟨hB0, hBv0, hk0⟩ := HS.out
  obtain ⟨hB, hBv⟩ := hB0.kp hk hBg hBv0
  have hkW := hk0.trans hk
  clear hB0 hBv0 hk0 hk H HS
  have HE := Lib.hid (And.intro hw0 hkW)
  clear hw0 hkW hB hBv
  go_wp2_with fail
  refine ⟨rfl, _, results_none rfl _ _ _, rfl, v2, ?_, HE.out.2⟩
  unfold recL
  simp only [← List.append_assoc]
  exact HE.out.1

set_option maxRecDepth 100000 in
theorem wrecs_any (base g : Nat) (L : List Int) (v : Value) (A : Option Addr) (c m : Nat) (l : List Rc) (hm : l.length = m) (hl : ∀ x ∈ l, okR x) (lo S : Nat) (w : World) (hr : Rs w lo S A l) (hB : S ≤ base) (hw : Wr base g L v w) (hm2 : m ≤ 140737488355328) (hbig : L.length + (seqL recL l).length ≤ 70368744000000) :
    Calls Tryz.prog 81 #[.pointer (some ⟨g, 0, none⟩), .slice A m c, .func (.func 21) #[.pointer (some ⟨g, 0, none⟩)] #[]] w (Wrote base g (L ++ seqL recL l) v w) := by
  have hlen := seqL_length recL l
  rw [hm] at hlen
  have h1 := wwhole_any base g L v (m : Int) (by omega) w hw (by omega)
  have l1 := putL_len (m : Int)
  have H1 := Lib.hid h1
  have HS := Lib.hid (And.intro hr (And.intro hw (And.intro hl (And.intro hm (And.intro hlen hbig)))))
  clear h1 hr hw hl hm hlen hbig
  go_enter Tryz.func81, Tryz.ntmps81
  go_wp2_with fail
  refine H1.out.mono ?_
  rintro e w1 ⟨rfl, v1, hw1, hk1⟩
  have HX := Lib.hid (And.intro hw1 hk1)
  clear hw1 hk1 H1
  go_wp2_with fail
  go_loopw [14] (fun q wr => ∃ (k : Nat) (u : Value), q = .int .i64 k ∧ k ≤ m ∧ Wr base g (L ++ putL (m : Int) ++ (l.take k).flatMap recL) u wr ∧ Kp g v w u wr) (fun q _ => m - (intOf q).toNat)
  case atStart => exact ⟨0, v1, rfl, by omega, by simpa using HX.out.1, HX.out.2⟩
  case round =>
    obtain ⟨k, u, rfl, hk, hwr, hkr⟩ := hrel
    have hb := (hkr.below HS.out.2.1).mono hB
    by_cases hlt : k < m
    · have hm := HS.out.2.2.2.1
      have hft := flat_take (enc := recL) (d := r0) (show k < l.length by omega)
      have hpt := flat_part (enc := recL) r0 (show k < l.length by omega)
      have hx := HS.out.2.2.1 _ (mem_getD r0 (show k < l.length by omega))
      have hbig := HS.out.2.2.2.2.2
      have hlen := HS.out.2.2.2.2.1
      have hlb : (L ++ putL (m : Int) ++ (l.take k).flatMap recL).length = L.length + (putL (m : Int)).length + ((l.take k).flatMap recL).length := by rw [List.length_append, List.length_append]
      have d1 : (0 : Int) ≤ (k : Int) := by omega
      have d2 : (k : Int) < (m : Int) := by omega
      have hSw : S ≤ wr.heap.size := Nat.le_trans hB hwr.base_le
      obtain ⟨pb, off, A1, c1, rfl, _, hpb, a0, a1, hvs, hsz⟩ := HS.out.1.at hm hb hlt rfl
      obtain ⟨x, hxx⟩ : ∃ x, l.getD k r0 = x := ⟨_, rfl⟩
      rw [hxx] at hx a0 a1 hft hvs hpt hsz
      obtain ⟨key, vl⟩ := x
      obtain ⟨kp, hkp⟩ : ∃ kp, vl.length = kp := ⟨_, rfl⟩
      simp only at a0 a1 hvs
      rw [hkp] at a1
      have hwa := hwr.alloc (.cells #[.string key, .slice A1 kp c1] 24)
      have h2 := wrec_any base g _ u A1 c1 kp key vl hkp hx lo S _ (hvs.alloc hSw (.cells #[.string key, .slice A1 kp c1] 24)) hB hwa (by rw [hlb]; omega)
      have hka := hkr.trans (Kp.alloc g u wr (.cells #[.string key, .slice A1 kp c1] 24))
      have H2 := Lib.hid h2
      have HT := Lib.hid (And.intro hft hka)
      clear h2 hft hka hwr hkr hb hx hpt hm hbig hlen hlb hwa hxx hvs hkp hsz
      go_wp2_with fail
      refine H2.out.mono ?_
      rintro e w2 ⟨rfl, u2, hw2, hk2⟩
      have hw3 : Wr base g (L ++ putL (m : Int) ++ (l.take (k + 1)).flatMap recL) u2 w2 := by
        rw [HT.out.1, ← List.append_assoc]
        exact hw2
      have HE := Lib.hid (And.intro hw3 (HT.out.2.trans hk2))
      clear hw2 hk2 hw3 H2
      go_wp2_with fail
      go_roundw
      case rel => exact ⟨k + 1, u2, rfl, by omega, HE.out.1, HE.out.2⟩
      case measure => simp only [intOf]; omega
    · have hkm : k = m := by omega
      subst hkm
      have hE : Wr base g (L ++ seqL recL l) u wr := by
        rw [List.take_of_length_le (by rw [HS.out.2.2.2.1]; exact Nat.le_refl _), List.append_assoc] at hwr
        unfold seqL
        rw [HS.out.2.2.2.1]
        exact hwr
      have HE := Lib.hid (And.intro hE hkr)
      clear hE hkr hwr hb
      go_wp2_with fail
      exact ⟨rfl, _, results_none rfl _ _ _, rfl, u, HE.out.1, HE.out.2⟩

set_option maxRecDepth 100000 in
theorem wnums_any (base g : Nat) (L : List Int) (v : Value) (A : Option Addr) (c m : Nat) (l : List Int) (hm : l.length = m) (hl : ∀ x ∈ l, 0 ≤ x ∧ x ≤ 9223372036854775807) (S : Nat) (w : World) (hr : Ns .i64 w S A l) (hB : S ≤ base) (hw : Wr base g L v w) (hm2 : m ≤ 140737488355328) (hbig : L.length + (seqL putL l).length ≤ 70368744000000) :
    Calls Tryz.prog 82 #[.pointer (some ⟨g, 0, none⟩), .slice A m c, .func (.func 80) #[.pointer (some ⟨g, 0, none⟩)] #[]] w (Wrote base g (L ++ seqL putL l) v w) := by
  have hlen := seqL_length putL l
  rw [hm] at hlen
  have h1 := wwhole_any base g L v (m : Int) (by omega) w hw (by omega)
  have l1 := putL_len (m : Int)
  have H1 := Lib.hid h1
  have HS := Lib.hid (And.intro hr (And.intro hw (And.intro hl (And.intro hm (And.intro hlen hbig)))))
  clear h1 hr hw hl hm hlen hbig
  go_enter Tryz.func82, Tryz.ntmps82
  go_wp2_with fail
  refine H1.out.mono ?_
  rintro e w1 ⟨rfl, v1, hw1, hk1⟩
  have HX := Lib.hid (And.intro hw1 hk1)
  clear hw1 hk1 H1
  go_wp2_with fail
  go_loopw [14] (fun q wr => ∃ (k : Nat) (u : Value), q = .int .i64 k ∧ k ≤ m ∧ Wr base g (L ++ putL (m : Int) ++ (l.take k).flatMap putL) u wr ∧ Kp g v w u wr) (fun q _ => m - (intOf q).toNat)
  case atStart => exact ⟨0, v1, rfl, by omega, by simpa using HX.out.1, HX.out.2⟩
  case round =>
    obtain ⟨k, u, rfl, hk, hwr, hkr⟩ := hrel
    have hb := (hkr.below HS.out.2.1).mono hB
    by_cases hlt : k < m
    · have hm := HS.out.2.2.2.1
      have hft := flat_take (enc := putL) (d := 0) (show k < l.length by omega)
      have hpt := flat_part (enc := putL) 0 (show k < l.length by omega)
      have hx := HS.out.2.2.1 _ (mem_getD 0 (show k < l.length by omega))
      have hbig := HS.out.2.2.2.2.2
      have hlen := HS.out.2.2.2.2.1
      have hlb : (L ++ putL (m : Int) ++ (l.take k).flatMap putL).length = L.length + (putL (m : Int)).length + ((l.take k).flatMap putL).length := by rw [List.length_append, List.length_append]
      have d1 : (0 : Int) ≤ (k : Int) := by omega
      have d2 : (k : Int) < (m : Int) := by omega
      have hSw : S ≤ wr.heap.size := Nat.le_trans hB hwr.base_le
      obtain ⟨pb, off, rfl, hpb, hc⟩ := (HS.out.1.below hb) (by omega)
      have c0 := hc k (by omega)
      obtain ⟨x, hxx⟩ : ∃ x, l.getD k 0 = x := ⟨_, rfl⟩
      rw [hxx] at hx c0 hft hpt
      have h2 := wnum_any base g _ u x hx wr hwr (by rw [hlb]; omega)
      have hka := hkr
      have H2 := Lib.hid h2
      have HT := Lib.hid (And.intro hft hka)
      clear h2 hft hka hwr hkr hb hx hpt hm hbig hlen hlb hxx hc
      go_wp2_with fail
      refine H2.out.mono ?_
      rintro e w2 ⟨rfl, u2, hw2, hk2⟩
      have hw3 : Wr base g (L ++ putL (m : Int) ++ (l.take (k + 1)).flatMap putL) u2 w2 := by
        rw [HT.out.1, ← List.append_assoc]
        exact hw2
      have HE := Lib.hid (And.intro hw3 (HT.out.2.trans hk2))
      clear hw2 hk2 hw3 H2
      go_wp2_with fail
      go_roundw
      case rel => exact ⟨k + 1, u2, rfl, by omega, HE.out.1, HE.out.2⟩
      case measure => simp only [intOf]; omega
    · have hkm : k = m := by omega
      subst hkm
      have hE : Wr base g (L ++ seqL putL l) u wr := by
        rw [List.take_of_length_le (by rw [HS.out.2.2.2.1]; exact Nat.le_refl _), List.append_assoc] at hwr
        unfold seqL
        rw [HS.out.2.2.2.1]
        exact hwr
      have HE := Lib.hid (And.intro hE hkr)
      clear hE hkr hwr hb
      go_wp2_with fail
      exact ⟨rfl, _, results_none rfl _ _ _, rfl, u, HE.out.1, HE.out.2⟩

set_option maxRecDepth 100000 in
theorem wwholes_any (base g : Nat) (L : List Int) (v : Value) (A : Option Addr) (c m : Nat) (l : List Int) (hm : l.length = m) (hl : ∀ x ∈ l, 0 ≤ x ∧ x ≤ 9223372036854775807) (S : Nat) (w : World) (hr : Ns .i64 w S A l) (hB : S ≤ base) (hw : Wr base g L v w) (hm2 : m ≤ 140737488355328) (hbig : L.length + (seqL putL l).length ≤ 70368744000000) :
    Calls Tryz.prog 83 #[.pointer (some ⟨g, 0, none⟩), .slice A m c, .func (.func 78) #[.pointer (some ⟨g, 0, none⟩)] #[]] w (Wrote base g (L ++ seqL putL l) v w) := by
  have hlen := seqL_length putL l
  rw [hm] at hlen
  have h1 := wwhole_any base g L v (m : Int) (by omega) w hw (by omega)
  have l1 := putL_len (m : Int)
  have H1 := Lib.hid h1
  have HS := Lib.hid (And.intro hr (And.intro hw (And.intro hl (And.intro hm (And.intro hlen hbig)))))
  clear h1 hr hw hl hm hlen hbig
  go_enter Tryz.func83, Tryz.ntmps83
  go_wp2_with fail
  refine H1.out.mono ?_
  rintro e w1 ⟨rfl, v1, hw1, hk1⟩
  have HX := Lib.hid (And.intro hw1 hk1)
  clear hw1 hk1 H1
  go_wp2_with fail
  go_loopw [14] (fun q wr => ∃ (k : Nat) (u : Value), q = .int .i64 k ∧ k ≤ m ∧ Wr base g (L ++ putL (m : Int) ++ (l.take k).flatMap putL) u wr ∧ Kp g v w u wr) (fun q _ => m - (intOf q).toNat)
  case atStart => exact ⟨0, v1, rfl, by omega, by simpa using HX.out.1, HX.out.2⟩
  case round =>
    obtain ⟨k, u, rfl, hk, hwr, hkr⟩ := hrel
    have hb := (hkr.below HS.out.2.1).mono hB
    by_cases hlt : k < m
    · have hm := HS.out.2.2.2.1
      have hft := flat_take (enc := putL) (d := 0) (show k < l.length by omega)
      have hpt := flat_part (enc := putL) 0 (show k < l.length by omega)
      have hx := HS.out.2.2.1 _ (mem_getD 0 (show k < l.length by omega))
      have hbig := HS.out.2.2.2.2.2
      have hlen := HS.out.2.2.2.2.1
      have hlb : (L ++ putL (m : Int) ++ (l.take k).flatMap putL).length = L.length + (putL (m : Int)).length + ((l.take k).flatMap putL).length := by rw [List.length_append, List.length_append]
      have d1 : (0 : Int) ≤ (k : Int) := by omega
      have d2 : (k : Int) < (m : Int) := by omega
      have hSw : S ≤ wr.heap.size := Nat.le_trans hB hwr.base_le
      obtain ⟨pb, off, rfl, hpb, hc⟩ := (HS.out.1.below hb) (by omega)
      have c0 := hc k (by omega)
      obtain ⟨x, hxx⟩ : ∃ x, l.getD k 0 = x := ⟨_, rfl⟩
      rw [hxx] at hx c0 hft hpt
      have h2 := wwhole_any base g _ u x hx wr hwr (by rw [hlb]; omega)
      have hka := hkr
      have H2 := Lib.hid h2
      have HT := Lib.hid (And.intro hft hka)
      clear h2 hft hka hwr hkr hb hx hpt hm hbig hlen hlb hxx hc
      go_wp2_with fail
      refine H2.out.mono ?_
      rintro e w2 ⟨rfl, u2, hw2, hk2⟩
      have hw3 : Wr base g (L ++ putL (m : Int) ++ (l.take (k + 1)).flatMap putL) u2 w2 := by
        rw [HT.out.1, ← List.append_assoc]
        exact hw2
      have HE := Lib.hid (And.intro hw3 (HT.out.2.trans hk2))
      clear hw2 hk2 hw3 H2
      go_wp2_with fail
      go_roundw
      case rel => exact ⟨k + 1, u2, rfl, by omega, HE.out.1, HE.out.2⟩
      case measure => simp only [intOf]; omega
    · have hkm : k = m := by omega
      subst hkm
      have hE : Wr base g (L ++ seqL putL l) u wr := by
        rw [List.take_of_length_le (by rw [HS.out.2.2.2.1]; exact Nat.le_refl _), List.append_assoc] at hwr
        unfold seqL
        rw [HS.out.2.2.2.1]
        exact hwr
      have HE := Lib.hid (And.intro hE hkr)
      clear hE hkr hwr hb
      go_wp2_with fail
      exact ⟨rfl, _, results_none rfl _ _ _, rfl, u, HE.out.1, HE.out.2⟩

set_option maxRecDepth 100000 in
theorem whashes_any (base g : Nat) (L : List Int) (v : Value) (A : Option Addr) (c m : Nat) (l : List Int) (hm : l.length = m) (hl : ∀ x ∈ l, 0 ≤ x ∧ x < 18446744073709551616) (S : Nat) (w : World) (hr : Ns .u64 w S A l) (hB : S ≤ base) (hw : Wr base g L v w) (hm2 : m ≤ 140737488355328) (hbig : L.length + (seqL hshL l).length ≤ 70368744000000) :
    Calls Tryz.prog 84 #[.pointer (some ⟨g, 0, none⟩), .slice A m c, .func (.func 85) #[.pointer (some ⟨g, 0, none⟩)] #[]] w (Wrote base g (L ++ seqL hshL l) v w) := by
  have hlen := seqL_length hshL l
  rw [hm] at hlen
  have h1 := wwhole_any base g L v (m : Int) (by omega) w hw (by omega)
  have l1 := putL_len (m : Int)
  have H1 := Lib.hid h1
  have HS := Lib.hid (And.intro hr (And.intro hw (And.intro hl (And.intro hm (And.intro hlen hbig)))))
  clear h1 hr hw hl hm hlen hbig
  go_enter Tryz.func84, Tryz.ntmps84
  go_wp2_with fail
  refine H1.out.mono ?_
  rintro e w1 ⟨rfl, v1, hw1, hk1⟩
  have HX := Lib.hid (And.intro hw1 hk1)
  clear hw1 hk1 H1
  go_wp2_with fail
  go_loopw [14] (fun q wr => ∃ (k : Nat) (u : Value), q = .int .i64 k ∧ k ≤ m ∧ Wr base g (L ++ putL (m : Int) ++ (l.take k).flatMap hshL) u wr ∧ Kp g v w u wr) (fun q _ => m - (intOf q).toNat)
  case atStart => exact ⟨0, v1, rfl, by omega, by simpa using HX.out.1, HX.out.2⟩
  case round =>
    obtain ⟨k, u, rfl, hk, hwr, hkr⟩ := hrel
    have hb := (hkr.below HS.out.2.1).mono hB
    by_cases hlt : k < m
    · have hm := HS.out.2.2.2.1
      have hft := flat_take (enc := hshL) (d := 0) (show k < l.length by omega)
      have hpt := flat_part (enc := hshL) 0 (show k < l.length by omega)
      have hx := HS.out.2.2.1 _ (mem_getD 0 (show k < l.length by omega))
      have hbig := HS.out.2.2.2.2.2
      have hlen := HS.out.2.2.2.2.1
      have hlb : (L ++ putL (m : Int) ++ (l.take k).flatMap hshL).length = L.length + (putL (m : Int)).length + ((l.take k).flatMap hshL).length := by rw [List.length_append, List.length_append]
      have d1 : (0 : Int) ≤ (k : Int) := by omega
      have d2 : (k : Int) < (m : Int) := by omega
      have hSw : S ≤ wr.heap.size := Nat.le_trans hB hwr.base_le
      obtain ⟨pb, off, rfl, hpb, hc⟩ := (HS.out.1.below hb) (by omega)
      have c0 := hc k (by omega)
      obtain ⟨x, hxx⟩ : ∃ x, l.getD k 0 = x := ⟨_, rfl⟩
      rw [hxx] at hx c0 hft hpt
      have h2 := whash_any base g _ u x hx wr hwr (by rw [hlb]; omega)
      have hka := hkr
      have H2 := Lib.hid h2
      have HT := Lib.hid (And.intro hft hka)
      clear h2 hft hka hwr hkr hb hx hpt hm hbig hlen hlb hxx hc
      go_wp2_with fail
      refine H2.out.mono ?_
      rintro e w2 ⟨rfl, u2, hw2, hk2⟩
      have hw3 : Wr base g (L ++ putL (m : Int) ++ (l.take (k + 1)).flatMap hshL) u2 w2 := by
        rw [HT.out.1, ← List.append_assoc]
        exact hw2
      have HE := Lib.hid (And.intro hw3 (HT.out.2.trans hk2))
      clear hw2 hk2 hw3 H2
      go_wp2_with fail
      go_roundw
      case rel => exact ⟨k + 1, u2, rfl, by omega, HE.out.1, HE.out.2⟩
      case measure => simp only [intOf]; omega
    · have hkm : k = m := by omega
      subst hkm
      have hE : Wr base g (L ++ seqL hshL l) u wr := by
        rw [List.take_of_length_le (by rw [HS.out.2.2.2.1]; exact Nat.le_refl _), List.append_assoc] at hwr
        unfold seqL
        rw [HS.out.2.2.2.1]
        exact hwr
      have HE := Lib.hid (And.intro hE hkr)
      clear hE hkr hwr hb
      go_wp2_with fail
      exact ⟨rfl, _, results_none rfl _ _ _, rfl, u, HE.out.1, HE.out.2⟩
end Code
end Go.Proofs.YtegiigeelcnemaaGreat
