/-
  InboxCleans (P18.2): what is covered is put away and told once; the others stay in their order. For every input. Written by gen18/cleans.py.
-/
import Derived.Test.YtiempgabamheiaaInboxArgs
import Derived.Test.YtiempgabamheiaaInboxSame
import Derived.Test.YtiempgabamheiaaGBase
namespace Go.Proofs.Ytiempgabamheiaa
namespace InboxCleans
open Go.ChangeShapes Go.WideShapes Go.ChangeAt Go.RowKit Inbox Vers Span Blk
attribute [local go_sem ↓] Go.wp_at_zero Go.wp_at_succ
theorem filt_at {α : Type} {p : α → Bool} {P : List α} {j : Nat} {x : α} (hx : P[j]? = some x) (hp : p x = true) : (P.filter p)[((P.take j).filter p).length]? = some x := by
  obtain ⟨hj, hv⟩ := List.getElem?_eq_some_iff.1 hx
  have h : P = P.take j ++ x :: P.drop (j + 1) := by
    rw [← hv, List.getElem_cons_drop, List.take_append_drop]
  have h2 : P.filter p = (P.take j).filter p ++ x :: (P.drop (j + 1)).filter p := by
    conv => lhs; rw [h]
    rw [List.filter_append, List.filter_cons, if_pos hp]
  rw [h2, List.getElem?_append_right (Nat.le_refl _), Nat.sub_self]
  rfl
theorem filt_yes {α : Type} {p : α → Bool} {P : List α} {j : Nat} {x : α} (hx : P[j]? = some x) (hp : p x = true) : ((P.take (j + 1)).filter p).length = ((P.take j).filter p).length + 1 := by
  obtain ⟨hj, hv⟩ := List.getElem?_eq_some_iff.1 hx
  rw [List.take_succ_eq_append_getElem hj, hv, List.filter_append, List.filter_cons, if_pos hp]
  simp
theorem filt_no {α : Type} {p : α → Bool} {P : List α} {j : Nat} {x : α} (hx : P[j]? = some x) (hp : p x = false) : ((P.take (j + 1)).filter p).length = ((P.take j).filter p).length := by
  obtain ⟨hj, hv⟩ := List.getElem?_eq_some_iff.1 hx
  rw [List.take_succ_eq_append_getElem hj, hv, List.filter_append, List.filter_cons, if_neg (by simp [hp])]
  simp
/-- Two records that lie in blocks of their own, the same. -/
theorem recs_two {w0 V : World} {a1 a3 : Option Addr} {c1 c3 : Nat} {k1 : ByteArray} {v1 : List Vr} (h1 : v1.length = 1) (hc1 : 1 ≤ c1) (hc3 : 1 ≤ c3) (hk : k1.size ≤ 140737488355328) (hv : Vs w0 0 w0.heap.size a1 v1) (hv3 : Vs w0 0 w0.heap.size a3 v1) (hb : Below w0.heap.size w0 V) {i j : Nat} (B1 : Bn i 32 [.string k1, .slice a3 1 c3] V) (B2 : Bn j 32 [.string k1, .slice a1 1 c1] V) :
    Calls Try.prog 26 #[.slice (some ⟨i, 0, none⟩) 1 1, .slice (some ⟨j, 0, none⟩) 1 1] V (fun e w' => e = .returned (.bool true) ∧ Below V.heap.size V w') :=
  (Code.srecs_any _ _ 1 1 1 1 [(k1, v1)] [(k1, v1)] rfl rfl V (rs_one B1 h1 hc3 (by omega) hk ((hv3.below hb).more hb.size)) (rs_one B2 h1 hc1 (by omega) hk ((hv.below hb).more hb.size)) (by omega) (by omega)).mono fun _ _ ⟨he, h⟩ => ⟨by rw [he]; simp, h⟩
theorem laid_two (w : World) (k1 : ByteArray) (A A' : Option Addr) (c c' : Nat) : Bn w.heap.size 32 [.string k1, .slice A 1 c] (((w.alloc (.cells #[.string k1, .slice A 1 c] 32)).alloc (.cells #[.string k1, .slice A' 1 c'] 32)).drew) ∧ Bn (w.heap.size + 1) 32 [.string k1, .slice A' 1 c'] (((w.alloc (.cells #[.string k1, .slice A 1 c] 32)).alloc (.cells #[.string k1, .slice A' 1 c'] 32)).drew) := by
  obtain ⟨U, hU⟩ : ∃ U, w.alloc (.cells #[.string k1, .slice A 1 c] 32) = U := ⟨_, rfl⟩
  have h1 : Bn w.heap.size 32 [.string k1, .slice A 1 c] U := by rw [← hU]; exact heap_alloc_new w _
  have hs : U.heap.size = w.heap.size + 1 := by rw [← hU]; simp
  rw [hU, ← hs]
  have h2 : Bn U.heap.size 32 [.string k1, .slice A' 1 c'] (U.alloc (.cells #[.string k1, .slice A' 1 c'] 32)) := heap_alloc_new U _
  exact ⟨(h1.same (((Below.refl _ U).alloc (Nat.le_refl _) _).block _ h1.lt)).same rfl, h2.same rfl⟩

set_option maxRecDepth 100000 in
set_option maxHeartbeats 8000000 in
theorem walk (w : World) (A : Option Addr) (c : Nat) (l : List Fr) (hq : Fs w w.heap.size A l) (hb80 : l.length * 80 ≤ 140737488351232) (_hlc : l.length ≤ c)
    (A' : Option Addr) (c' : Nat) (v : List Int) (hv : Ns .i64 w w.heap.size A' v) (_hwf : ∀ z ∈ v, -9223372036854775808 ≤ z ∧ z ≤ 9223372036854775807) (hbig : v.length * 8 ≤ 140737488351232) (_hlc' : v.length ≤ c') :
    Calls Try.prog 6 #[.slice A l.length c, .slice A' v.length c'] w fun e w' => e = .returned (.bool true) ∧ Below w.heap.size w w' := by
  obtain ⟨n, hn⟩ : ∃ n, l.length = n := ⟨_, rfl⟩
  rw [hn] at hb80 ⊢
  obtain ⟨nv, hnv⟩ : ∃ n, v.length = n := ⟨_, rfl⟩
  rw [hnv] at hbig ⊢
  have HZ := Lib.hid (And.intro hq (And.intro hn (And.intro hv hnv)))
  have HAW := Lib.hid (awake_any w)
  clear hq hn hv hnv _hlc _hlc' _hwf
  go_enter Try.func6, Try.ntmps6
  go_wp2_with fail
  refine HAW.out.mono ?_
  rintro e w1 ⟨rfl, b1⟩
  have HNW := Lib.hid (Sit.new (n : Int) b1)
  clear b1 HAW
  go_wp2_with fail
  refine HNW.out.mono ?_
  rintro e w2 ⟨nb, rfl, h2⟩
  obtain ⟨W3, hW3⟩ : ∃ W, w2.alloc (.cells #[.int .i64 0] 2) = W := ⟨_, rfl⟩
  have b3 : Below w2.heap.size w2 W3 := by rw [← hW3]; exact (Below.refl _ w2).alloc (Nat.le_refl _) _
  have s3 : W3.heap.size = w2.heap.size + 1 := by rw [← hW3]; simp
  have B3 : Bn w2.heap.size 2 [.int .i64 0] W3 := by rw [← hW3]; exact heap_alloc_new w2 _
  obtain ⟨NB, hNB⟩ : ∃ r, w2.heap.size = r := ⟨_, rfl⟩
  obtain ⟨rm, hrm⟩ : ∃ r, max (n : Int) 0 = r := ⟨_, rfl⟩
  have hst3 := (h2.out.1.hold b3).less (Y := fun j => j = NB) fun j hj => .inr (.inl (by omega))
  rw [hrm] at hst3
  rw [hNB] at B3
  have HST := Lib.hid (And.intro hst3 B3)
  have HW3 := Lib.hid (And.intro hW3 hNB)
  clear hW3 b3 B3 s3 hst3 hNB h2 HNW hrm
  go_upto_region 5 with fail
  rw [HW3.out.1, HW3.out.2]
  go_wp2_with fail
  go_loopw [7] (fun q wr => ∃ (k : Nat) (P : List Fr), q = .int .i64 k ∧ k ≤ n ∧ P.length ≤ k ∧ Hid (Sit (fun j => j = NB) w nb rm P wr ∧ (∀ y ∈ P, okF y) ∧ Bn NB 2 [.int .i64 0] wr)) (fun q _ => n - (intOf q).toNat)
  case atStart => exact ⟨0, [], rfl, by omega, by simp, Lib.hid ⟨HST.out.1, by simp, HST.out.2⟩⟩
  case round =>
    clear HST HW3
    obtain ⟨k, P, rfl, hk, hPk, hst⟩ := hrel
    by_cases hlt : k < n
    · obtain ⟨x, hx⟩ : ∃ x, l[k]? = some x := ⟨l[k]'(by have := HZ.out.2.1; omega), by simp⟩
      obtain ⟨b, off, rfl, hbl, hat⟩ := HZ.out.1 (by have := HZ.out.2.1; omega)
      obtain ⟨⟨a1, c1⟩, ⟨a2, c2⟩, hcl, hvx, hrx, hsz, hcx⟩ := hat k x hx
      obtain ⟨⟨f1, f2⟩, ⟨k1, v1⟩, rr⟩ := x
      obtain ⟨m1, hm1⟩ : ∃ r, v1.length = r := ⟨_, rfl⟩
      obtain ⟨r1, hr1⟩ : ∃ r, rr.length = r := ⟨_, rfl⟩
      have hold := hst.out.1.old
      have hcell : ∀ r u, (fc (((f1, f2), (k1, v1), rr), (a1, c1), (a2, c2)))[r]? = some u → wr.cell? ⟨b, off + k * 5 + r, none⟩ = some u := fun r u hu => (hold.cell (p := ⟨b, off + k * 5 + r, none⟩) hbl).trans (hcl r u hu)
      have q0 : wr.cell? ⟨b, off + k * 5, none⟩ = some (.int .i64 f1) := hcell 0 _ rfl
      have q1 : wr.cell? ⟨b, off + k * 5 + 1, none⟩ = some (.int .i64 f2) := hcell 1 _ rfl
      have q2 : wr.cell? ⟨b, off + k * 5 + 2, none⟩ = some (.string k1) := hcell 2 _ rfl
      have q3 : wr.cell? ⟨b, off + k * 5 + 3, none⟩ = some (.slice a1 m1 c1) := by rw [← hm1]; exact hcell 3 _ rfl
      have q4 : wr.cell? ⟨b, off + k * 5 + 4, none⟩ = some (.slice a2 r1 c2) := by rw [← hr1]; exact hcell 4 _ rfl
      have d1 : (0 : Int) ≤ (k : Int) := by omega
      have d2 : (k : Int) < (n : Int) := by omega
      obtain ⟨⟨a, P2⟩, hF⟩ : ∃ q, takeF rm P [0] ((f1, f2), (k1, v1), rr) = q := ⟨_, rfl⟩
      have hnn : Ns .i64 wr wr.heap.size (some ⟨NB, 0, none⟩) [0] := fun _ => ⟨NB, 0, rfl, hst.out.2.2.lt, fun j hj => by
        obtain rfl : j = 0 := by simpa using hj
        exact (hst.out.2.2.cell 0).trans rfl⟩
      have HP := Lib.hid (hst.out.1.take hst.out.2.1 (by omega) f1 f2 k1 a1 c1 m1 v1 hm1 a2 c2 r1 rr hr1 hsz ((hvx.below hold).more hold.size) ((hrx.below hold).more hold.size) (some ⟨NB, 0, none⟩) 1 1 [0] rfl (by omega) hnn hF)
      have HF := Lib.hid (And.intro (take_ok hst.out.2.1 hF) (And.intro (Inbox.take_len hF) hst.out.2.2))
      clear hx hat hcl hvx hrx hsz hcx hm1 hr1 hold hcell hF hnn hst
      go_wp2_with fail
      refine HP.out.mono ?_
      rintro e w4 ⟨rfl, h4⟩
      have HN := Lib.hid (And.intro h4.out.1 (And.intro HF.out.1 (h4.out.2.bn rfl HF.out.2.2)))
      have hPl : P2.length ≤ k + 1 := by have := HF.out.2.1; omega
      clear h4 HP HF
      go_wp2_with fail
      go_roundw
      case rel => exact ⟨k + 1, P2, rfl, by omega, hPl, HN⟩
      case measure => simp only [intOf]; omega
    · obtain rfl : k = n := by omega
      obtain ⟨kp, hkp⟩ : ∃ r, P.length = r := ⟨_, rfl⟩
      obtain ⟨kg, hkg⟩ : ∃ r, (P.filter fun x => decide (covF v x)).length = r := ⟨_, rfl⟩
      obtain ⟨kl, hkl⟩ : ∃ r, (P.filter fun x => !decide (covF v x)).length = r := ⟨_, rfl⟩
      have hok := hst.out.2.1
      have hokl : ∀ y ∈ (P.filter fun x => !decide (covF v x)), okF y := fun y hy => hok y (List.mem_filter.1 hy).1
      have hkgp : kg ≤ kp := by rw [← hkg, ← hkp]; exact List.length_filter_le _ _
      have hklp : kl ≤ kp := by rw [← hkl, ← hkp]; exact List.length_filter_le _ _
      have hkpb : kp ≤ k := by omega
      have HWT := Lib.hid (hst.out.1.waitsP hok (by omega) kp hkp)
      have HK := Lib.hid (And.intro hkp (And.intro hkg (And.intro hkl (And.intro hok hokl))))
      clear hkp hkg hkl hok hokl hst
      go_wp2_with fail
      refine HWT.out.mono ?_
      rintro e w4 ⟨A1, e1, rfl, h4⟩
      have ho4 := h4.out.2.2.old
      have HCC := Lib.hid (h4.out.2.2.clean HK.out.2.2.2.1 (by have := HK.out.1; omega) A' c' nv v HZ.out.2.2.2 (by omega) ((HZ.out.2.2.1.below ho4).more ho4.size) kg HK.out.2.1)
      have HF4 := Lib.hid h4.out.1
      clear ho4 h4 HWT
      go_wp2_with fail
      refine HCC.out.mono ?_
      rintro e w5 ⟨A2, e2, rfl, h5⟩
      have HWW := Lib.hid (h5.out.1.1.waits HK.out.2.2.2.2 (by have := HK.out.2.2.1; omega) kl HK.out.2.2.1)
      have HF5 := Lib.hid (And.intro (FsP.kept HF4.out h5.out.1.2 fun _ hk hs => ⟨hs, hk⟩) h5.out.2)
      clear h5 HCC HF4
      go_wp2_with fail
      refine HWW.out.mono ?_
      rintro e w6 ⟨A3, e3, rfl, h6⟩
      have hb6 := h6.out.2.1
      have HF6 := Lib.hid (And.intro ((HF5.out.1.fs.below hb6).more hb6.size) (And.intro ((HF5.out.2.below hb6).more hb6.size) h6.out.1))
      have HS6 := Lib.hid (And.intro h6.out.2.2 h6.out.2.2.old)
      clear hb6 h6 HWW HF5
      go_wp2_with fail
      go_loopw [11, 12, 13] (fun qg ql q wr => ∃ j g r : Nat, qg = .int .i64 g ∧ ql = .int .i64 r ∧ q = .int .i64 j ∧ j ≤ kp ∧ g ≤ j ∧ r ≤ j ∧ Hid (Below w6.heap.size w6 wr ∧ ((P.take j).filter fun x => decide (covF v x)).length = g ∧ ((P.take j).filter fun x => !decide (covF v x)).length = r)) (fun _ _ q _ => kp - (intOf q).toNat)
      case atStart => exact ⟨0, 0, 0, rfl, rfl, rfl, by omega, by omega, by omega, Lib.hid ⟨Below.refl _ _, by simp, by simp⟩⟩
      case round =>
        obtain ⟨j, g, r, rfl, rfl, rfl, hj, hg, hr, hst⟩ := hrel
        by_cases hlt2 : j < kp
        · obtain ⟨x, hx⟩ : ∃ x, P[j]? = some x := ⟨P[j]'(by have := HK.out.1; omega), by simp⟩
          have hxo := HK.out.2.2.2.1 x (List.mem_of_getElem? hx)
          obtain ⟨b, off, rfl, hbl, hat⟩ := HF6.out.1 (by have := HK.out.1; omega)
          obtain ⟨⟨a1, c1⟩, ⟨a2, c2⟩, hcl, hvx, _, hsz, hcx⟩ := hat j x hx
          obtain ⟨hm1, hov⟩ := ok_one hxo
          have hb6 := hst.out.1
          by_cases hcv : covF v x
          · have hpl := filt_at (p := fun x => decide (covF v x)) hx (by simp [hcv])
            have hy1 := filt_yes (p := fun x => decide (covF v x)) hx (by simp [hcv])
            have hy2 := filt_no (p := fun x => !decide (covF v x)) hx (by simp [hcv])
            rw [hst.out.2.1] at hpl hy1
            rw [hst.out.2.2] at hy2
            have hgl : g < kg := by
              have := (List.getElem?_eq_some_iff.1 hpl).1
              have h2 := HK.out.2.1
              omega
            obtain ⟨b2, off2, rfl, hbl2, hat2⟩ := HF6.out.2.1 (by have h2 := HK.out.2.1; omega)
            obtain ⟨⟨a3, c3⟩, ⟨a4, c4⟩, hcl2, hvx2, _, _, hcx2⟩ := hat2 g x hpl
            obtain ⟨⟨f1, f2⟩, ⟨k1, v1⟩, rr⟩ := x
            simp only at hvx hvx2 hcx hcx2 hm1 hov
            obtain ⟨s, hs⟩ : ∃ s, (v1.getD 0 v0).s = s := ⟨_, rfl⟩
            obtain ⟨vn, hvn⟩ : ∃ s, (v1.getD 0 v0).n = s := ⟨_, rfl⟩
            have p1 : w6.cell? ⟨b, off + j * 5 + 1, none⟩ = some (.int .i64 f2) := hcl 1 _ rfl
            have p2 : w6.cell? ⟨b, off + j * 5 + 2, none⟩ = some (.string k1) := hcl 2 _ rfl
            have p3 : w6.cell? ⟨b, off + j * 5 + 3, none⟩ = some (.slice a1 1 c1) := by rw [← hm1]; exact hcl 3 _ rfl
            have o1 : w6.cell? ⟨b2, off2 + g * 5 + 1, none⟩ = some (.int .i64 f2) := hcl2 1 _ rfl
            have o2 : w6.cell? ⟨b2, off2 + g * 5 + 2, none⟩ = some (.string k1) := hcl2 2 _ rfl
            have o3 : w6.cell? ⟨b2, off2 + g * 5 + 3, none⟩ = some (.slice a3 1 c3) := by rw [← hm1]; exact hcl2 3 _ rfl
            have HSF : Hid (∀ V, Below w6.heap.size w6 V → Below w6.heap.size w6 V ∧ V.cell? ⟨b2, off2 + g * 5 + 1, none⟩ = some (.int .i64 f2) ∧ V.cell? ⟨b2, off2 + g * 5 + 2, none⟩ = some (.string k1) ∧ V.cell? ⟨b2, off2 + g * 5 + 3, none⟩ = some (.slice a3 1 c3) ∧ V.cell? ⟨b, off + j * 5 + 1, none⟩ = some (.int .i64 f2) ∧ V.cell? ⟨b, off + j * 5 + 2, none⟩ = some (.string k1) ∧ V.cell? ⟨b, off + j * 5 + 3, none⟩ = some (.slice a1 1 c1)) := Lib.hid fun V hV => ⟨hV, (hV.cell (p := ⟨b2, off2 + g * 5 + 1, none⟩) hbl2).trans o1, (hV.cell (p := ⟨b2, off2 + g * 5 + 2, none⟩) hbl2).trans o2, (hV.cell (p := ⟨b2, off2 + g * 5 + 3, none⟩) hbl2).trans o3, (hV.cell (p := ⟨b, off + j * 5 + 1, none⟩) hbl).trans p1, (hV.cell (p := ⟨b, off + j * 5 + 2, none⟩) hbl).trans p2, (hV.cell (p := ⟨b, off + j * 5 + 3, none⟩) hbl).trans p3⟩
            obtain ⟨vb, vo, y1, y2, rfl, _, hbB, z0, z1, _⟩ := hvx.at hm1 (Below.refl _ _) (Nat.le_refl _) rfl
            rw [hs] at z0
            rw [hvn] at z1
            rw [Nat.zero_mul, Nat.add_zero] at z0 z1
            have q3 := (hb6.cell (p := ⟨b, off + j * 5 + 3, none⟩) hbl).trans p3
            have q4 : wr.cell? ⟨vb, vo, none⟩ = some (.int .i64 s) := (hb6.cell (p := ⟨vb, vo, none⟩) hbB).trans z0
            have q5 : wr.cell? ⟨vb, vo + 1, none⟩ = some (.int .i64 vn) := (hb6.cell (p := ⟨vb, vo + 1, none⟩) hbB).trans z1
            have d1 : (0 : Int) ≤ (j : Int) := by omega
            have d2 : (j : Int) < (kp : Int) := by omega
            have d3 : (0 : Int) ≤ (g : Int) := by omega
            have d4 : (g : Int) < (kg : Int) := by omega
            have d5 : decide ((kg : Int) ≤ (g : Int)) = false := decide_eq_false (by omega)
            have d7 : decide (kg ≤ g) = false := decide_eq_false (by omega)
            have ho := HS6.out.2.trans (hb6.mono HS6.out.2.size)
            have HCV : Hid (Calls Try.prog 23 #[.slice A' nv c', .agg #[.int .i64 s, .int .i64 vn]] wr (fun e w' => e = .returned (.bool true) ∧ Below wr.heap.size wr w')) := Lib.hid (by
              have h := Vect.ref_covers_any A' c' nv v HZ.out.2.2.2 s vn (by have := hov.1; rw [hs] at this; unfold okD at this; omega) wr ((HZ.out.2.2.1.below ho).more ho.size) (by omega)
              rwa [show decide (Vect.CoversV v s vn) = true by rw [← hs, ← hvn]; exact decide_eq_true hcv] at h)
            have HRT : Hid (∀ V, Below w6.heap.size w6 V → ∀ i1 i2, Bn i1 32 [.string k1, .slice a3 1 c3] V → Bn i2 32 [.string k1, .slice (some ⟨vb, vo, none⟩) 1 c1] V → Calls Try.prog 26 #[.slice (some ⟨i1, 0, none⟩) 1 1, .slice (some ⟨i2, 0, none⟩) 1 1] V (fun e w' => e = .returned (.bool true) ∧ Below V.heap.size V w')) := Lib.hid fun V hV i1 i2 h1 h2 => recs_two hm1 (by omega) (by omega) (by have := hsz.1; simp only at this; omega) hvx hvx2 hV h1 h2
            have HN := Lib.hid (And.intro hy1 hy2)
            have HB6 := Lib.hid hb6
            clear hx hxo hat hcl hvx hsz hcx hm1 hov hb6 hpl hy1 hy2 hat2 hcl2 hvx2 hcx2 hcv hs hvn p1 p2 p3 o1 o2 o3 z0 z1 ho hst
            go_wp2_with fail
            refine HCV.out.mono ?_
            rintro e w7 ⟨rfl, b7⟩
            have HB7 := Lib.hid (HB6.out.trans (b7.mono HB6.out.size))
            clear b7 HCV
            go_upto_region 18 with fail
            refine wp_region_held_drew (S := (fun V => Below w6.heap.size w6 V ∧ V.cell? ⟨b2, off2 + g * 5 + 1, none⟩ = some (.int .i64 f2) ∧ V.cell? ⟨b2, off2 + g * 5 + 2, none⟩ = some (.string k1) ∧ V.cell? ⟨b2, off2 + g * 5 + 3, none⟩ = some (.slice a3 1 c3) ∧ V.cell? ⟨b, off + j * 5 + 1, none⟩ = some (.int .i64 f2) ∧ V.cell? ⟨b, off + j * 5 + 2, none⟩ = some (.string k1) ∧ V.cell? ⟨b, off + j * 5 + 3, none⟩ = some (.slice (some ⟨vb, vo, none⟩) 1 c1))) (by kernel_rfl) (HSF.out _ (HB7.out.trans (show Below w6.heap.size w7 w7.drew from (Below.refl _ _).drew))) (fun hHeld => ?_)
            refine wpAnyH_take (i := 0) (oi := { dst := some 57, op := Op.move (Operand.tmp 11), type := 3, pos := "law.go:190", after := #[], guard := none }) (v := ?vy_1) rfl (by kernel_rfl) (by kernel_rfl) (by kernel_rfl) (fun _ _ _ h => h) (Or.inl ⟨by rfl, ?hyy_1⟩) (by assumption) ?resty_1
            case hyy_1 =>
              intro w hSw
              (try dsimp only at hSw)
              go_simp
              (try with_reducible rfl)
            (try simp only [Act.put, List.setIfInBounds_toArray, List.set_cons_zero, List.set_cons_succ])
            refine wpAnyH_take (i := 1) (oi := { dst := some 58, op := Op.move (Operand.tmp 9), type := 48, pos := "law.go:190", after := #[], guard := none }) (v := ?vy_2) rfl (by kernel_rfl) (by kernel_rfl) (by kernel_rfl) (fun _ _ _ h => h) (Or.inl ⟨by rfl, ?hyy_2⟩) (by assumption) ?resty_2
            case hyy_2 =>
              intro w hSw
              (try dsimp only at hSw)
              go_simp
              (try with_reducible rfl)
            (try simp only [Act.put, List.setIfInBounds_toArray, List.set_cons_zero, List.set_cons_succ])
            refine wpAnyH_take (i := 2) (oi := { dst := some 59, op := Op.call { callee := Callee.builtin Builtin.len, args := #[Operand.tmp 58], argTypes := #[48] }, type := 3, pos := "law.go:190", after := #[{ on := 1, ground := Ground.data }], guard := none }) (v := ?vy_3) rfl (by kernel_rfl) (by kernel_rfl) (by kernel_rfl) (fun _ _ _ h => h) (Or.inl ⟨by rfl, ?hyy_3⟩) (by assumption) ?resty_3
            case hyy_3 =>
              intro w hSw
              (try dsimp only at hSw)
              go_simp
              (try with_reducible rfl)
            (try simp only [Act.put, List.setIfInBounds_toArray, List.set_cons_zero, List.set_cons_succ])
            refine wpAnyH_take (i := 3) (oi := { dst := some 60, op := Op.binOp BinOp.geq 3 (Operand.tmp 57) (Operand.tmp 59) 3, type := 4, pos := "law.go:190", after := #[{ on := 0, ground := Ground.data }, { on := 2, ground := Ground.data }], guard := none }) (v := ?vy_4) rfl (by kernel_rfl) (by kernel_rfl) (by kernel_rfl) (fun _ _ _ h => h) (Or.inl ⟨by rfl, ?hyy_4⟩) (by assumption) ?resty_4
            case hyy_4 =>
              intro w hSw
              (try dsimp only at hSw)
              go_simp
              (try with_reducible rfl)
            (try simp only [Act.put, List.setIfInBounds_toArray, List.set_cons_zero, List.set_cons_succ])
            refine wpAnyH_take (i := 4) (oi := { dst := some 61, op := Op.move (Operand.tmp 60), type := 4, pos := "law.go:190", after := #[{ on := 3, ground := Ground.data }], guard := none }) (v := ?vy_5) rfl (by kernel_rfl) (by kernel_rfl) (by kernel_rfl) (fun _ _ _ h => h) (Or.inl ⟨by rfl, ?hyy_5⟩) (by assumption) ?resty_5
            case hyy_5 =>
              intro w hSw
              (try dsimp only at hSw)
              go_simp
              (try with_reducible rfl)
            (try simp only [Act.put, List.setIfInBounds_toArray, List.set_cons_zero, List.set_cons_succ])
            refine wpAnyH_take (i := 5) (oi := { dst := some 62, op := Op.move (Operand.tmp 9), type := 48, pos := "law.go:190", after := #[{ on := 4, ground := Ground.guard }], guard := some (4, false) }) (v := ?vy_6) rfl (by kernel_rfl) (by kernel_rfl) (by kernel_rfl) (fun _ _ _ h => h) (Or.inl ⟨by rfl, ?hyy_6⟩) (by assumption) ?resty_6
            case hyy_6 =>
              intro w hSw
              (try dsimp only at hSw)
              go_simp
              (try with_reducible rfl)
            (try simp only [Act.put, List.setIfInBounds_toArray, List.set_cons_zero, List.set_cons_succ])
            refine wpAnyH_take (i := 6) (oi := { dst := some 63, op := Op.move (Operand.tmp 11), type := 3, pos := "law.go:190", after := #[{ on := 4, ground := Ground.guard }], guard := some (4, false) }) (v := ?vy_7) rfl (by kernel_rfl) (by kernel_rfl) (by kernel_rfl) (fun _ _ _ h => h) (Or.inl ⟨by rfl, ?hyy_7⟩) (by assumption) ?resty_7
            case hyy_7 =>
              intro w hSw
              (try dsimp only at hSw)
              go_simp
              (try with_reducible rfl)
            (try simp only [Act.put, List.setIfInBounds_toArray, List.set_cons_zero, List.set_cons_succ])
            refine wpAnyH_take (i := 7) (oi := { dst := some 64, op := Op.indexAddr 48 (Operand.tmp 62) (Operand.tmp 63), type := 0, pos := "law.go:190", after := #[{ on := 5, ground := Ground.data }, { on := 6, ground := Ground.data }, { on := 4, ground := Ground.guard }], guard := some (4, false) }) (v := ?vy_8) rfl (by kernel_rfl) (by kernel_rfl) (by kernel_rfl) (fun _ _ _ h => h) (Or.inl ⟨by rfl, ?hyy_8⟩) (by assumption) ?resty_8
            case hyy_8 =>
              intro w hSw
              (try dsimp only at hSw)
              go_simp
              (try with_reducible rfl)
            (try simp only [Act.put, List.setIfInBounds_toArray, List.set_cons_zero, List.set_cons_succ])
            refine wpAnyH_take (i := 8) (oi := { dst := some 65, op := Op.fieldAddr 35 (Operand.tmp 64) 1, type := 0, pos := "law.go:190", after := #[{ on := 7, ground := Ground.data }, { on := 4, ground := Ground.guard }], guard := some (4, false) }) (v := ?vy_9) rfl (by kernel_rfl) (by kernel_rfl) (by kernel_rfl) (fun _ _ _ h => h) (Or.inl ⟨by rfl, ?hyy_9⟩) (by assumption) ?resty_9
            case hyy_9 =>
              intro w hSw
              (try dsimp only at hSw)
              go_simp
              (try with_reducible rfl)
            (try simp only [Act.put, List.setIfInBounds_toArray, List.set_cons_zero, List.set_cons_succ])
            refine wpAnyH_take (i := 9) (oi := { dst := some 66, op := Op.load 2 (Operand.tmp 65), type := 2, pos := "law.go:190", after := #[{ on := 8, ground := Ground.data }, { on := 4, ground := Ground.guard }], guard := some (4, false) }) (v := ?vy_10) rfl (by kernel_rfl) (by kernel_rfl) (by kernel_rfl) (fun _ _ _ h => h) (Or.inl ⟨by rfl, ?hyy_10⟩) (by assumption) ?resty_10
            case hyy_10 =>
              intro w hSw
              (try dsimp only at hSw)
              go_simp
              (try with_reducible rfl)
            (try simp only [Act.put, List.setIfInBounds_toArray, List.set_cons_zero, List.set_cons_succ])
            refine wpAnyH_take (i := 10) (oi := { dst := some 67, op := Op.move (Operand.tmp 8), type := 48, pos := "law.go:190", after := #[{ on := 4, ground := Ground.guard }], guard := some (4, false) }) (v := ?vy_11) rfl (by kernel_rfl) (by kernel_rfl) (by kernel_rfl) (fun _ _ _ h => h) (Or.inl ⟨by rfl, ?hyy_11⟩) (by assumption) ?resty_11
            case hyy_11 =>
              intro w hSw
              (try dsimp only at hSw)
              go_simp
              (try with_reducible rfl)
            (try simp only [Act.put, List.setIfInBounds_toArray, List.set_cons_zero, List.set_cons_succ])
            refine wpAnyH_take (i := 11) (oi := { dst := some 68, op := Op.move (Operand.tmp 13), type := 3, pos := "law.go:190", after := #[{ on := 4, ground := Ground.guard }], guard := some (4, false) }) (v := ?vy_12) rfl (by kernel_rfl) (by kernel_rfl) (by kernel_rfl) (fun _ _ _ h => h) (Or.inl ⟨by rfl, ?hyy_12⟩) (by assumption) ?resty_12
            case hyy_12 =>
              intro w hSw
              (try dsimp only at hSw)
              go_simp
              (try with_reducible rfl)
            (try simp only [Act.put, List.setIfInBounds_toArray, List.set_cons_zero, List.set_cons_succ])
            refine wpAnyH_take (i := 12) (oi := { dst := some 69, op := Op.indexAddr 48 (Operand.tmp 67) (Operand.tmp 68), type := 0, pos := "law.go:190", after := #[{ on := 10, ground := Ground.data }, { on := 11, ground := Ground.data }, { on := 4, ground := Ground.guard }], guard := some (4, false) }) (v := ?vy_13) rfl (by kernel_rfl) (by kernel_rfl) (by kernel_rfl) (fun _ _ _ h => h) (Or.inl ⟨by rfl, ?hyy_13⟩) (by assumption) ?resty_13
            case hyy_13 =>
              intro w hSw
              (try dsimp only at hSw)
              go_simp
              (try with_reducible rfl)
            (try simp only [Act.put, List.setIfInBounds_toArray, List.set_cons_zero, List.set_cons_succ])
            refine wpAnyH_take (i := 13) (oi := { dst := some 70, op := Op.fieldAddr 35 (Operand.tmp 69) 1, type := 0, pos := "law.go:190", after := #[{ on := 12, ground := Ground.data }, { on := 4, ground := Ground.guard }], guard := some (4, false) }) (v := ?vy_14) rfl (by kernel_rfl) (by kernel_rfl) (by kernel_rfl) (fun _ _ _ h => h) (Or.inl ⟨by rfl, ?hyy_14⟩) (by assumption) ?resty_14
            case hyy_14 =>
              intro w hSw
              (try dsimp only at hSw)
              go_simp
              (try with_reducible rfl)
            (try simp only [Act.put, List.setIfInBounds_toArray, List.set_cons_zero, List.set_cons_succ])
            refine wpAnyH_take (i := 14) (oi := { dst := some 71, op := Op.load 2 (Operand.tmp 70), type := 2, pos := "law.go:190", after := #[{ on := 13, ground := Ground.data }, { on := 4, ground := Ground.guard }], guard := some (4, false) }) (v := ?vy_15) rfl (by kernel_rfl) (by kernel_rfl) (by kernel_rfl) (fun _ _ _ h => h) (Or.inl ⟨by rfl, ?hyy_15⟩) (by assumption) ?resty_15
            case hyy_15 =>
              intro w hSw
              (try dsimp only at hSw)
              go_simp
              (try with_reducible rfl)
            (try simp only [Act.put, List.setIfInBounds_toArray, List.set_cons_zero, List.set_cons_succ])
            refine wpAnyH_take (i := 15) (oi := { dst := some 72, op := Op.binOp BinOp.neq 2 (Operand.tmp 66) (Operand.tmp 71) 2, type := 4, pos := "law.go:190", after := #[{ on := 9, ground := Ground.data }, { on := 14, ground := Ground.data }, { on := 4, ground := Ground.guard }], guard := some (4, false) }) (v := ?vy_16) rfl (by kernel_rfl) (by kernel_rfl) (by kernel_rfl) (fun _ _ _ h => h) (Or.inl ⟨by rfl, ?hyy_16⟩) (by assumption) ?resty_16
            case hyy_16 =>
              intro w hSw
              (try dsimp only at hSw)
              go_simp
              (try with_reducible rfl)
            (try simp only [Act.put, List.setIfInBounds_toArray, List.set_cons_zero, List.set_cons_succ])
            refine wpAnyH_take (i := 16) (oi := { dst := some 73, op := Op.pick (Operand.tmp 61) (Operand.const (Value.bool true)) (Operand.tmp 72), type := 4, pos := "law.go:190", after := #[{ on := 4, ground := Ground.data }, { on := 15, ground := Ground.data }], guard := none }) (v := ?vy_17) rfl (by kernel_rfl) (by kernel_rfl) (by kernel_rfl) (fun _ _ _ h => h) (Or.inl ⟨by rfl, ?hyy_17⟩) (by assumption) ?resty_17
            case hyy_17 =>
              intro w hSw
              (try dsimp only at hSw)
              go_simp
              (try with_reducible rfl)
            (try simp only [Act.put, List.setIfInBounds_toArray, List.set_cons_zero, List.set_cons_succ])
            refine wpAnyH_take (i := 17) (oi := { dst := some 74, op := Op.move (Operand.tmp 73), type := 4, pos := "law.go:190", after := #[{ on := 16, ground := Ground.data }, { on := 4, ground := Ground.chain }], guard := none }) (v := ?vy_18) rfl (by kernel_rfl) (by kernel_rfl) (by kernel_rfl) (fun _ _ _ h => h) (Or.inl ⟨by rfl, ?hyy_18⟩) (by assumption) ?resty_18
            case hyy_18 =>
              intro w hSw
              (try dsimp only at hSw)
              go_simp
              (try with_reducible rfl)
            (try simp only [Act.put, List.setIfInBounds_toArray, List.set_cons_zero, List.set_cons_succ])
            refine wpAnyH_take (i := 18) (oi := { dst := some 75, op := Op.move (Operand.tmp 9), type := 48, pos := "law.go:190", after := #[{ on := 17, ground := Ground.guard }], guard := some (17, false) }) (v := ?vy_19) rfl (by kernel_rfl) (by kernel_rfl) (by kernel_rfl) (fun _ _ _ h => h) (Or.inl ⟨by rfl, ?hyy_19⟩) (by assumption) ?resty_19
            case hyy_19 =>
              intro w hSw
              (try dsimp only at hSw)
              go_simp
              (try with_reducible rfl)
            (try simp only [Act.put, List.setIfInBounds_toArray, List.set_cons_zero, List.set_cons_succ])
            refine wpAnyH_take (i := 19) (oi := { dst := some 76, op := Op.move (Operand.tmp 11), type := 3, pos := "law.go:190", after := #[{ on := 17, ground := Ground.guard }], guard := some (17, false) }) (v := ?vy_20) rfl (by kernel_rfl) (by kernel_rfl) (by kernel_rfl) (fun _ _ _ h => h) (Or.inl ⟨by rfl, ?hyy_20⟩) (by assumption) ?resty_20
            case hyy_20 =>
              intro w hSw
              (try dsimp only at hSw)
              go_simp
              (try with_reducible rfl)
            (try simp only [Act.put, List.setIfInBounds_toArray, List.set_cons_zero, List.set_cons_succ])
            refine wpAnyH_take (i := 20) (oi := { dst := some 77, op := Op.indexAddr 48 (Operand.tmp 75) (Operand.tmp 76), type := 0, pos := "law.go:190", after := #[{ on := 18, ground := Ground.data }, { on := 19, ground := Ground.data }, { on := 17, ground := Ground.guard }], guard := some (17, false) }) (v := ?vy_21) rfl (by kernel_rfl) (by kernel_rfl) (by kernel_rfl) (fun _ _ _ h => h) (Or.inl ⟨by rfl, ?hyy_21⟩) (by assumption) ?resty_21
            case hyy_21 =>
              intro w hSw
              (try dsimp only at hSw)
              go_simp
              (try with_reducible rfl)
            (try simp only [Act.put, List.setIfInBounds_toArray, List.set_cons_zero, List.set_cons_succ])
            refine wpAnyH_take (i := 21) (oi := { dst := some 78, op := Op.fieldAddr 35 (Operand.tmp 77) 2, type := 0, pos := "law.go:190", after := #[{ on := 20, ground := Ground.data }, { on := 17, ground := Ground.guard }], guard := some (17, false) }) (v := ?vy_22) rfl (by kernel_rfl) (by kernel_rfl) (by kernel_rfl) (fun _ _ _ h => h) (Or.inl ⟨by rfl, ?hyy_22⟩) (by assumption) ?resty_22
            case hyy_22 =>
              intro w hSw
              (try dsimp only at hSw)
              go_simp
              (try with_reducible rfl)
            (try simp only [Act.put, List.setIfInBounds_toArray, List.set_cons_zero, List.set_cons_succ])
            refine wpAnyH_take (i := 22) (oi := { dst := some 79, op := Op.load 32 (Operand.tmp 78), type := 32, pos := "law.go:190", after := #[{ on := 21, ground := Ground.data }, { on := 17, ground := Ground.guard }], guard := some (17, false) }) (v := ?vy_23) rfl (by kernel_rfl) (by kernel_rfl) (by kernel_rfl) (fun _ _ _ h => h) (Or.inl ⟨by rfl, ?hyy_23⟩) (by assumption) ?resty_23
            case hyy_23 =>
              intro w hSw
              (try dsimp only at hSw)
              go_simp
              (try with_reducible rfl)
            (try simp only [Act.put, List.setIfInBounds_toArray, List.set_cons_zero, List.set_cons_succ])
            refine wpAnyH_take (i := 24) (oi := { dst := some 81, op := Op.move (Operand.tmp 8), type := 48, pos := "law.go:190", after := #[{ on := 17, ground := Ground.guard }], guard := some (17, false) }) (v := ?vy_24) rfl (by kernel_rfl) (by kernel_rfl) (by kernel_rfl) (fun _ _ _ h => h) (Or.inl ⟨by rfl, ?hyy_24⟩) (by assumption) ?resty_24
            case hyy_24 =>
              intro w hSw
              (try dsimp only at hSw)
              go_simp
              (try with_reducible rfl)
            (try simp only [Act.put, List.setIfInBounds_toArray, List.set_cons_zero, List.set_cons_succ])
            refine wpAnyH_take (i := 25) (oi := { dst := some 82, op := Op.move (Operand.tmp 13), type := 3, pos := "law.go:190", after := #[{ on := 17, ground := Ground.guard }], guard := some (17, false) }) (v := ?vy_25) rfl (by kernel_rfl) (by kernel_rfl) (by kernel_rfl) (fun _ _ _ h => h) (Or.inl ⟨by rfl, ?hyy_25⟩) (by assumption) ?resty_25
            case hyy_25 =>
              intro w hSw
              (try dsimp only at hSw)
              go_simp
              (try with_reducible rfl)
            (try simp only [Act.put, List.setIfInBounds_toArray, List.set_cons_zero, List.set_cons_succ])
            refine wpAnyH_take (i := 26) (oi := { dst := some 83, op := Op.indexAddr 48 (Operand.tmp 81) (Operand.tmp 82), type := 0, pos := "law.go:190", after := #[{ on := 24, ground := Ground.data }, { on := 25, ground := Ground.data }, { on := 17, ground := Ground.guard }], guard := some (17, false) }) (v := ?vy_26) rfl (by kernel_rfl) (by kernel_rfl) (by kernel_rfl) (fun _ _ _ h => h) (Or.inl ⟨by rfl, ?hyy_26⟩) (by assumption) ?resty_26
            case hyy_26 =>
              intro w hSw
              (try dsimp only at hSw)
              go_simp
              (try with_reducible rfl)
            (try simp only [Act.put, List.setIfInBounds_toArray, List.set_cons_zero, List.set_cons_succ])
            refine wpAnyH_take (i := 27) (oi := { dst := some 84, op := Op.fieldAddr 35 (Operand.tmp 83) 2, type := 0, pos := "law.go:190", after := #[{ on := 26, ground := Ground.data }, { on := 17, ground := Ground.guard }], guard := some (17, false) }) (v := ?vy_27) rfl (by kernel_rfl) (by kernel_rfl) (by kernel_rfl) (fun _ _ _ h => h) (Or.inl ⟨by rfl, ?hyy_27⟩) (by assumption) ?resty_27
            case hyy_27 =>
              intro w hSw
              (try dsimp only at hSw)
              go_simp
              (try with_reducible rfl)
            (try simp only [Act.put, List.setIfInBounds_toArray, List.set_cons_zero, List.set_cons_succ])
            refine wpAnyH_take (i := 28) (oi := { dst := some 85, op := Op.load 32 (Operand.tmp 84), type := 32, pos := "law.go:190", after := #[{ on := 27, ground := Ground.data }, { on := 17, ground := Ground.guard }], guard := some (17, false) }) (v := ?vy_28) rfl (by kernel_rfl) (by kernel_rfl) (by kernel_rfl) (fun _ _ _ h => h) (Or.inl ⟨by rfl, ?hyy_28⟩) (by assumption) ?resty_28
            case hyy_28 =>
              intro w hSw
              (try dsimp only at hSw)
              go_simp
              (try with_reducible rfl)
            (try simp only [Act.put, List.setIfInBounds_toArray, List.set_cons_zero, List.set_cons_succ])
            refine wpAnyH_ready (rs := [23, 29]) (by kernel_rfl) (by simp) ?_
            refine AllReadyH.cons (o := { dst := some 80, op := Op.buildSlice 73 1 #[(0, Operand.tmp 79)], type := 73, pos := "law.go:190", after := #[{ on := 22, ground := Ground.data }, { on := 17, ground := Ground.guard }], guard := some (17, false) }) rfl (fun K hK => ?_) (AllReadyH.cons (o := { dst := some 86, op := Op.buildSlice 73 1 #[(0, Operand.tmp 85)], type := 73, pos := "law.go:190", after := #[{ on := 28, ground := Ground.data }, { on := 17, ground := Ground.guard }], guard := some (17, false) }) rfl (fun K hK => ?_) AllReadyH.nil)
            · go_simp
              go_wp2_with fail
              refine hK.out _ _ (HSF.out _ (hHeld.1.trans ((Below.refl _ _).alloc hHeld.1.size _))) (fun hHeld => ?_)
              clear hK K
              (try simp only [Act.put, List.setIfInBounds_toArray, List.set_cons_zero, List.set_cons_succ])
              refine wpAnyH_ready (rs := [29]) (by kernel_rfl) (by simp) ?_
              refine AllReadyH.cons (o := { dst := some 86, op := Op.buildSlice 73 1 #[(0, Operand.tmp 85)], type := 73, pos := "law.go:190", after := #[{ on := 28, ground := Ground.data }, { on := 17, ground := Ground.guard }], guard := some (17, false) }) rfl (fun K hK => ?_) AllReadyH.nil
              go_simp
              go_wp2_with fail
              refine hK.out _ _ (HSF.out _ (hHeld.1.trans ((Below.refl _ _).alloc hHeld.1.size _))) (fun hHeld => ?_)
              clear hK K
              (try simp only [Act.put, List.setIfInBounds_toArray, List.set_cons_zero, List.set_cons_succ])
              refine wpAnyH_ready (rs := [30]) (by kernel_rfl) (by simp) ?_
              refine AllReadyH.cons (o := { dst := some 87, op := Op.call { callee := Callee.value (Operand.func 26), args := #[Operand.tmp 80, Operand.tmp 86], argTypes := #[73, 73] }, type := 4, pos := "law.go:190", after := #[{ on := 23, ground := Ground.data }, { on := 29, ground := Ground.data }, { on := 17, ground := Ground.chain }, { on := 17, ground := Ground.guard }], guard := some (17, false) }) rfl (fun K hK => ?_) AllReadyH.nil
              go_simp
              (go_at_call 26; have hb2 : Below w6.heap.size w6 (((w7.alloc (.cells #[.string k1, .slice a3 1 c3] 32)).alloc (.cells #[.string k1, .slice (some ⟨vb, vo, none⟩) 1 c1] 32)).drew) := ((HB7.out.alloc HB7.out.size _).alloc (HB7.out.alloc HB7.out.size _).size _).drew; refine (HRT.out _ hb2 _ _ (laid_two w7 k1 a3 (some ⟨vb, vo, none⟩) c3 c1).1 (laid_two w7 k1 a3 (some ⟨vb, vo, none⟩) c3 c1).2).mono ?_; rintro e8 w8 ⟨rfl, b8⟩; have hb8 : Below w6.heap.size w6 w8 := hb2.trans (b8.mono hb2.size); clear hb2)
              go_wp2_with fail
              refine hK.out _ _ (HSF.out _ hb8) (fun hHeld => ?_)
              clear hK K
              (try simp only [Act.put, List.setIfInBounds_toArray, List.set_cons_zero, List.set_cons_succ])
              refine wpAnyH_take (i := 31) (oi := { dst := some 88, op := Op.unOp UnOp.not 4 (Operand.tmp 87), type := 4, pos := "law.go:190", after := #[{ on := 30, ground := Ground.data }, { on := 17, ground := Ground.guard }], guard := some (17, false) }) (v := ?vy_29) rfl (by kernel_rfl) (by kernel_rfl) (by kernel_rfl) (fun _ _ _ h => h) (Or.inl ⟨by rfl, ?hyy_29⟩) (by assumption) ?resty_29
              case hyy_29 =>
                intro w hSw
                (try dsimp only at hSw)
                go_simp
                (try with_reducible rfl)
              (try simp only [Act.put, List.setIfInBounds_toArray, List.set_cons_zero, List.set_cons_succ])
              refine wpAnyH_take (i := 32) (oi := { dst := some 89, op := Op.pick (Operand.tmp 74) (Operand.const (Value.bool true)) (Operand.tmp 88), type := 4, pos := "law.go:190", after := #[{ on := 17, ground := Ground.data }, { on := 31, ground := Ground.data }], guard := none }) (v := ?vy_30) rfl (by kernel_rfl) (by kernel_rfl) (by kernel_rfl) (fun _ _ _ h => h) (Or.inl ⟨by rfl, ?hyy_30⟩) (by assumption) ?resty_30
              case hyy_30 =>
                intro w hSw
                (try dsimp only at hSw)
                go_simp
                (try with_reducible rfl)
              (try simp only [Act.put, List.setIfInBounds_toArray, List.set_cons_zero, List.set_cons_succ])
              refine wpAnyH_done (by kernel_rfl) ?_ _
              clear hHeld b8
              have HN8 : Hid (Below w6.heap.size w6 w8 ∧ ((P.take (j + 1)).filter fun x => decide (covF v x)).length = g + 1 ∧ ((P.take (j + 1)).filter fun x => !decide (covF v x)).length = r) := Lib.hid ⟨hb8, HN.out.1, HN.out.2⟩
              clear hb8
              go_wp2_with fail
              go_roundw
              case rel => exact ⟨j + 1, g + 1, r, rfl, rfl, rfl, by omega, by omega, by omega, HN8⟩
              case measure => simp only [intOf]; omega
            · go_simp
              go_wp2_with fail
              refine hK.out _ _ (HSF.out _ (hHeld.1.trans ((Below.refl _ _).alloc hHeld.1.size _))) (fun hHeld => ?_)
              clear hK K
              (try simp only [Act.put, List.setIfInBounds_toArray, List.set_cons_zero, List.set_cons_succ])
              refine wpAnyH_ready (rs := [23]) (by kernel_rfl) (by simp) ?_
              refine AllReadyH.cons (o := { dst := some 80, op := Op.buildSlice 73 1 #[(0, Operand.tmp 79)], type := 73, pos := "law.go:190", after := #[{ on := 22, ground := Ground.data }, { on := 17, ground := Ground.guard }], guard := some (17, false) }) rfl (fun K hK => ?_) AllReadyH.nil
              go_simp
              go_wp2_with fail
              refine hK.out _ _ (HSF.out _ (hHeld.1.trans ((Below.refl _ _).alloc hHeld.1.size _))) (fun hHeld => ?_)
              clear hK K
              (try simp only [Act.put, List.setIfInBounds_toArray, List.set_cons_zero, List.set_cons_succ])
              refine wpAnyH_ready (rs := [30]) (by kernel_rfl) (by simp) ?_
              refine AllReadyH.cons (o := { dst := some 87, op := Op.call { callee := Callee.value (Operand.func 26), args := #[Operand.tmp 80, Operand.tmp 86], argTypes := #[73, 73] }, type := 4, pos := "law.go:190", after := #[{ on := 23, ground := Ground.data }, { on := 29, ground := Ground.data }, { on := 17, ground := Ground.chain }, { on := 17, ground := Ground.guard }], guard := some (17, false) }) rfl (fun K hK => ?_) AllReadyH.nil
              go_simp
              (go_at_call 26; have hb2 : Below w6.heap.size w6 (((w7.alloc (.cells #[.string k1, .slice (some ⟨vb, vo, none⟩) 1 c1] 32)).alloc (.cells #[.string k1, .slice a3 1 c3] 32)).drew) := ((HB7.out.alloc HB7.out.size _).alloc (HB7.out.alloc HB7.out.size _).size _).drew; refine (HRT.out _ hb2 _ _ (laid_two w7 k1 (some ⟨vb, vo, none⟩) a3 c1 c3).2 (laid_two w7 k1 (some ⟨vb, vo, none⟩) a3 c1 c3).1).mono ?_; rintro e8 w8 ⟨rfl, b8⟩; have hb8 : Below w6.heap.size w6 w8 := hb2.trans (b8.mono hb2.size); clear hb2)
              go_wp2_with fail
              refine hK.out _ _ (HSF.out _ hb8) (fun hHeld => ?_)
              clear hK K
              (try simp only [Act.put, List.setIfInBounds_toArray, List.set_cons_zero, List.set_cons_succ])
              refine wpAnyH_take (i := 31) (oi := { dst := some 88, op := Op.unOp UnOp.not 4 (Operand.tmp 87), type := 4, pos := "law.go:190", after := #[{ on := 30, ground := Ground.data }, { on := 17, ground := Ground.guard }], guard := some (17, false) }) (v := ?vy_31) rfl (by kernel_rfl) (by kernel_rfl) (by kernel_rfl) (fun _ _ _ h => h) (Or.inl ⟨by rfl, ?hyy_31⟩) (by assumption) ?resty_31
              case hyy_31 =>
                intro w hSw
                (try dsimp only at hSw)
                go_simp
                (try with_reducible rfl)
              (try simp only [Act.put, List.setIfInBounds_toArray, List.set_cons_zero, List.set_cons_succ])
              refine wpAnyH_take (i := 32) (oi := { dst := some 89, op := Op.pick (Operand.tmp 74) (Operand.const (Value.bool true)) (Operand.tmp 88), type := 4, pos := "law.go:190", after := #[{ on := 17, ground := Ground.data }, { on := 31, ground := Ground.data }], guard := none }) (v := ?vy_32) rfl (by kernel_rfl) (by kernel_rfl) (by kernel_rfl) (fun _ _ _ h => h) (Or.inl ⟨by rfl, ?hyy_32⟩) (by assumption) ?resty_32
              case hyy_32 =>
                intro w hSw
                (try dsimp only at hSw)
                go_simp
                (try with_reducible rfl)
              (try simp only [Act.put, List.setIfInBounds_toArray, List.set_cons_zero, List.set_cons_succ])
              refine wpAnyH_done (by kernel_rfl) ?_ _
              clear hHeld b8
              have HN8 : Hid (Below w6.heap.size w6 w8 ∧ ((P.take (j + 1)).filter fun x => decide (covF v x)).length = g + 1 ∧ ((P.take (j + 1)).filter fun x => !decide (covF v x)).length = r) := Lib.hid ⟨hb8, HN.out.1, HN.out.2⟩
              clear hb8
              go_wp2_with fail
              go_roundw
              case rel => exact ⟨j + 1, g + 1, r, rfl, rfl, rfl, by omega, by omega, by omega, HN8⟩
              case measure => simp only [intOf]; omega
          · have hpl := filt_at (p := fun x => !decide (covF v x)) hx (by simp [hcv])
            have hy1 := filt_yes (p := fun x => !decide (covF v x)) hx (by simp [hcv])
            have hy2 := filt_no (p := fun x => decide (covF v x)) hx (by simp [hcv])
            rw [hst.out.2.2] at hpl hy1
            rw [hst.out.2.1] at hy2
            have hgl : r < kl := by
              have := (List.getElem?_eq_some_iff.1 hpl).1
              have h2 := HK.out.2.2.1
              omega
            obtain ⟨b2, off2, rfl, hbl2, hat2⟩ := HF6.out.2.2 (by have h2 := HK.out.2.2.1; omega)
            obtain ⟨⟨a3, c3⟩, ⟨a4, c4⟩, hcl2, hvx2, _, _, hcx2⟩ := hat2 r x hpl
            obtain ⟨⟨f1, f2⟩, ⟨k1, v1⟩, rr⟩ := x
            simp only at hvx hvx2 hcx hcx2 hm1 hov
            obtain ⟨s, hs⟩ : ∃ s, (v1.getD 0 v0).s = s := ⟨_, rfl⟩
            obtain ⟨vn, hvn⟩ : ∃ s, (v1.getD 0 v0).n = s := ⟨_, rfl⟩
            have p1 : w6.cell? ⟨b, off + j * 5 + 1, none⟩ = some (.int .i64 f2) := hcl 1 _ rfl
            have p2 : w6.cell? ⟨b, off + j * 5 + 2, none⟩ = some (.string k1) := hcl 2 _ rfl
            have p3 : w6.cell? ⟨b, off + j * 5 + 3, none⟩ = some (.slice a1 1 c1) := by rw [← hm1]; exact hcl 3 _ rfl
            have o1 : w6.cell? ⟨b2, off2 + r * 5 + 1, none⟩ = some (.int .i64 f2) := hcl2 1 _ rfl
            have o2 : w6.cell? ⟨b2, off2 + r * 5 + 2, none⟩ = some (.string k1) := hcl2 2 _ rfl
            have o3 : w6.cell? ⟨b2, off2 + r * 5 + 3, none⟩ = some (.slice a3 1 c3) := by rw [← hm1]; exact hcl2 3 _ rfl
            have HSF : Hid (∀ V, Below w6.heap.size w6 V → Below w6.heap.size w6 V ∧ V.cell? ⟨b2, off2 + r * 5 + 1, none⟩ = some (.int .i64 f2) ∧ V.cell? ⟨b2, off2 + r * 5 + 2, none⟩ = some (.string k1) ∧ V.cell? ⟨b2, off2 + r * 5 + 3, none⟩ = some (.slice a3 1 c3) ∧ V.cell? ⟨b, off + j * 5 + 1, none⟩ = some (.int .i64 f2) ∧ V.cell? ⟨b, off + j * 5 + 2, none⟩ = some (.string k1) ∧ V.cell? ⟨b, off + j * 5 + 3, none⟩ = some (.slice a1 1 c1)) := Lib.hid fun V hV => ⟨hV, (hV.cell (p := ⟨b2, off2 + r * 5 + 1, none⟩) hbl2).trans o1, (hV.cell (p := ⟨b2, off2 + r * 5 + 2, none⟩) hbl2).trans o2, (hV.cell (p := ⟨b2, off2 + r * 5 + 3, none⟩) hbl2).trans o3, (hV.cell (p := ⟨b, off + j * 5 + 1, none⟩) hbl).trans p1, (hV.cell (p := ⟨b, off + j * 5 + 2, none⟩) hbl).trans p2, (hV.cell (p := ⟨b, off + j * 5 + 3, none⟩) hbl).trans p3⟩
            obtain ⟨vb, vo, y1, y2, rfl, _, hbB, z0, z1, _⟩ := hvx.at hm1 (Below.refl _ _) (Nat.le_refl _) rfl
            rw [hs] at z0
            rw [hvn] at z1
            rw [Nat.zero_mul, Nat.add_zero] at z0 z1
            have q3 := (hb6.cell (p := ⟨b, off + j * 5 + 3, none⟩) hbl).trans p3
            have q4 : wr.cell? ⟨vb, vo, none⟩ = some (.int .i64 s) := (hb6.cell (p := ⟨vb, vo, none⟩) hbB).trans z0
            have q5 : wr.cell? ⟨vb, vo + 1, none⟩ = some (.int .i64 vn) := (hb6.cell (p := ⟨vb, vo + 1, none⟩) hbB).trans z1
            have d1 : (0 : Int) ≤ (j : Int) := by omega
            have d2 : (j : Int) < (kp : Int) := by omega
            have d3 : (0 : Int) ≤ (r : Int) := by omega
            have d4 : (r : Int) < (kl : Int) := by omega
            have d5 : decide ((kl : Int) ≤ (r : Int)) = false := decide_eq_false (by omega)
            have d7 : decide (kl ≤ r) = false := decide_eq_false (by omega)
            have ho := HS6.out.2.trans (hb6.mono HS6.out.2.size)
            have HCV : Hid (Calls Try.prog 23 #[.slice A' nv c', .agg #[.int .i64 s, .int .i64 vn]] wr (fun e w' => e = .returned (.bool false) ∧ Below wr.heap.size wr w')) := Lib.hid (by
              have h := Vect.ref_covers_any A' c' nv v HZ.out.2.2.2 s vn (by have := hov.1; rw [hs] at this; unfold okD at this; omega) wr ((HZ.out.2.2.1.below ho).more ho.size) (by omega)
              rwa [show decide (Vect.CoversV v s vn) = false by rw [← hs, ← hvn]; exact decide_eq_false hcv] at h)
            have HRT : Hid (∀ V, Below w6.heap.size w6 V → ∀ i1 i2, Bn i1 32 [.string k1, .slice a3 1 c3] V → Bn i2 32 [.string k1, .slice (some ⟨vb, vo, none⟩) 1 c1] V → Calls Try.prog 26 #[.slice (some ⟨i1, 0, none⟩) 1 1, .slice (some ⟨i2, 0, none⟩) 1 1] V (fun e w' => e = .returned (.bool true) ∧ Below V.heap.size V w')) := Lib.hid fun V hV i1 i2 h1 h2 => recs_two hm1 (by omega) (by omega) (by have := hsz.1; simp only at this; omega) hvx hvx2 hV h1 h2
            have HN := Lib.hid (And.intro hy1 hy2)
            have HB6 := Lib.hid hb6
            clear hx hxo hat hcl hvx hsz hcx hm1 hov hb6 hpl hy1 hy2 hat2 hcl2 hvx2 hcx2 hcv hs hvn p1 p2 p3 o1 o2 o3 z0 z1 ho hst
            go_wp2_with fail
            refine HCV.out.mono ?_
            rintro e w7 ⟨rfl, b7⟩
            have HB7 := Lib.hid (HB6.out.trans (b7.mono HB6.out.size))
            clear b7 HCV
            go_upto_region 21 with fail
            refine wp_region_held_drew (S := (fun V => Below w6.heap.size w6 V ∧ V.cell? ⟨b2, off2 + r * 5 + 1, none⟩ = some (.int .i64 f2) ∧ V.cell? ⟨b2, off2 + r * 5 + 2, none⟩ = some (.string k1) ∧ V.cell? ⟨b2, off2 + r * 5 + 3, none⟩ = some (.slice a3 1 c3) ∧ V.cell? ⟨b, off + j * 5 + 1, none⟩ = some (.int .i64 f2) ∧ V.cell? ⟨b, off + j * 5 + 2, none⟩ = some (.string k1) ∧ V.cell? ⟨b, off + j * 5 + 3, none⟩ = some (.slice (some ⟨vb, vo, none⟩) 1 c1))) (by kernel_rfl) (HSF.out _ (HB7.out.trans (show Below w6.heap.size w7 w7.drew from (Below.refl _ _).drew))) (fun hHeld => ?_)
            refine wpAnyH_take (i := 0) (oi := { dst := some 92, op := Op.move (Operand.tmp 12), type := 3, pos := "law.go:196", after := #[], guard := none }) (v := ?vn_1) rfl (by kernel_rfl) (by kernel_rfl) (by kernel_rfl) (fun _ _ _ h => h) (Or.inl ⟨by rfl, ?hyn_1⟩) (by assumption) ?restn_1
            case hyn_1 =>
              intro w hSw
              (try dsimp only at hSw)
              go_simp
              (try with_reducible rfl)
            (try simp only [Act.put, List.setIfInBounds_toArray, List.set_cons_zero, List.set_cons_succ])
            refine wpAnyH_take (i := 1) (oi := { dst := some 93, op := Op.move (Operand.tmp 10), type := 48, pos := "law.go:196", after := #[], guard := none }) (v := ?vn_2) rfl (by kernel_rfl) (by kernel_rfl) (by kernel_rfl) (fun _ _ _ h => h) (Or.inl ⟨by rfl, ?hyn_2⟩) (by assumption) ?restn_2
            case hyn_2 =>
              intro w hSw
              (try dsimp only at hSw)
              go_simp
              (try with_reducible rfl)
            (try simp only [Act.put, List.setIfInBounds_toArray, List.set_cons_zero, List.set_cons_succ])
            refine wpAnyH_take (i := 2) (oi := { dst := some 94, op := Op.call { callee := Callee.builtin Builtin.len, args := #[Operand.tmp 93], argTypes := #[48] }, type := 3, pos := "law.go:196", after := #[{ on := 1, ground := Ground.data }], guard := none }) (v := ?vn_3) rfl (by kernel_rfl) (by kernel_rfl) (by kernel_rfl) (fun _ _ _ h => h) (Or.inl ⟨by rfl, ?hyn_3⟩) (by assumption) ?restn_3
            case hyn_3 =>
              intro w hSw
              (try dsimp only at hSw)
              go_simp
              (try with_reducible rfl)
            (try simp only [Act.put, List.setIfInBounds_toArray, List.set_cons_zero, List.set_cons_succ])
            refine wpAnyH_take (i := 3) (oi := { dst := some 95, op := Op.binOp BinOp.geq 3 (Operand.tmp 92) (Operand.tmp 94) 3, type := 4, pos := "law.go:196", after := #[{ on := 0, ground := Ground.data }, { on := 2, ground := Ground.data }], guard := none }) (v := ?vn_4) rfl (by kernel_rfl) (by kernel_rfl) (by kernel_rfl) (fun _ _ _ h => h) (Or.inl ⟨by rfl, ?hyn_4⟩) (by assumption) ?restn_4
            case hyn_4 =>
              intro w hSw
              (try dsimp only at hSw)
              go_simp
              (try with_reducible rfl)
            (try simp only [Act.put, List.setIfInBounds_toArray, List.set_cons_zero, List.set_cons_succ])
            refine wpAnyH_take (i := 4) (oi := { dst := some 96, op := Op.move (Operand.tmp 95), type := 4, pos := "law.go:196", after := #[{ on := 3, ground := Ground.data }], guard := none }) (v := ?vn_5) rfl (by kernel_rfl) (by kernel_rfl) (by kernel_rfl) (fun _ _ _ h => h) (Or.inl ⟨by rfl, ?hyn_5⟩) (by assumption) ?restn_5
            case hyn_5 =>
              intro w hSw
              (try dsimp only at hSw)
              go_simp
              (try with_reducible rfl)
            (try simp only [Act.put, List.setIfInBounds_toArray, List.set_cons_zero, List.set_cons_succ])
            refine wpAnyH_take (i := 5) (oi := { dst := some 97, op := Op.move (Operand.tmp 10), type := 48, pos := "law.go:196", after := #[{ on := 4, ground := Ground.guard }], guard := some (4, false) }) (v := ?vn_6) rfl (by kernel_rfl) (by kernel_rfl) (by kernel_rfl) (fun _ _ _ h => h) (Or.inl ⟨by rfl, ?hyn_6⟩) (by assumption) ?restn_6
            case hyn_6 =>
              intro w hSw
              (try dsimp only at hSw)
              go_simp
              (try with_reducible rfl)
            (try simp only [Act.put, List.setIfInBounds_toArray, List.set_cons_zero, List.set_cons_succ])
            refine wpAnyH_take (i := 6) (oi := { dst := some 98, op := Op.move (Operand.tmp 12), type := 3, pos := "law.go:196", after := #[{ on := 4, ground := Ground.guard }], guard := some (4, false) }) (v := ?vn_7) rfl (by kernel_rfl) (by kernel_rfl) (by kernel_rfl) (fun _ _ _ h => h) (Or.inl ⟨by rfl, ?hyn_7⟩) (by assumption) ?restn_7
            case hyn_7 =>
              intro w hSw
              (try dsimp only at hSw)
              go_simp
              (try with_reducible rfl)
            (try simp only [Act.put, List.setIfInBounds_toArray, List.set_cons_zero, List.set_cons_succ])
            refine wpAnyH_take (i := 7) (oi := { dst := some 99, op := Op.indexAddr 48 (Operand.tmp 97) (Operand.tmp 98), type := 0, pos := "law.go:196", after := #[{ on := 5, ground := Ground.data }, { on := 6, ground := Ground.data }, { on := 4, ground := Ground.guard }], guard := some (4, false) }) (v := ?vn_8) rfl (by kernel_rfl) (by kernel_rfl) (by kernel_rfl) (fun _ _ _ h => h) (Or.inl ⟨by rfl, ?hyn_8⟩) (by assumption) ?restn_8
            case hyn_8 =>
              intro w hSw
              (try dsimp only at hSw)
              go_simp
              (try with_reducible rfl)
            (try simp only [Act.put, List.setIfInBounds_toArray, List.set_cons_zero, List.set_cons_succ])
            refine wpAnyH_take (i := 8) (oi := { dst := some 100, op := Op.fieldAddr 35 (Operand.tmp 99) 1, type := 0, pos := "law.go:196", after := #[{ on := 7, ground := Ground.data }, { on := 4, ground := Ground.guard }], guard := some (4, false) }) (v := ?vn_9) rfl (by kernel_rfl) (by kernel_rfl) (by kernel_rfl) (fun _ _ _ h => h) (Or.inl ⟨by rfl, ?hyn_9⟩) (by assumption) ?restn_9
            case hyn_9 =>
              intro w hSw
              (try dsimp only at hSw)
              go_simp
              (try with_reducible rfl)
            (try simp only [Act.put, List.setIfInBounds_toArray, List.set_cons_zero, List.set_cons_succ])
            refine wpAnyH_take (i := 9) (oi := { dst := some 101, op := Op.load 2 (Operand.tmp 100), type := 2, pos := "law.go:196", after := #[{ on := 8, ground := Ground.data }, { on := 4, ground := Ground.guard }], guard := some (4, false) }) (v := ?vn_10) rfl (by kernel_rfl) (by kernel_rfl) (by kernel_rfl) (fun _ _ _ h => h) (Or.inl ⟨by rfl, ?hyn_10⟩) (by assumption) ?restn_10
            case hyn_10 =>
              intro w hSw
              (try dsimp only at hSw)
              go_simp
              (try with_reducible rfl)
            (try simp only [Act.put, List.setIfInBounds_toArray, List.set_cons_zero, List.set_cons_succ])
            refine wpAnyH_take (i := 10) (oi := { dst := some 102, op := Op.move (Operand.tmp 8), type := 48, pos := "law.go:196", after := #[{ on := 4, ground := Ground.guard }], guard := some (4, false) }) (v := ?vn_11) rfl (by kernel_rfl) (by kernel_rfl) (by kernel_rfl) (fun _ _ _ h => h) (Or.inl ⟨by rfl, ?hyn_11⟩) (by assumption) ?restn_11
            case hyn_11 =>
              intro w hSw
              (try dsimp only at hSw)
              go_simp
              (try with_reducible rfl)
            (try simp only [Act.put, List.setIfInBounds_toArray, List.set_cons_zero, List.set_cons_succ])
            refine wpAnyH_take (i := 11) (oi := { dst := some 103, op := Op.move (Operand.tmp 13), type := 3, pos := "law.go:196", after := #[{ on := 4, ground := Ground.guard }], guard := some (4, false) }) (v := ?vn_12) rfl (by kernel_rfl) (by kernel_rfl) (by kernel_rfl) (fun _ _ _ h => h) (Or.inl ⟨by rfl, ?hyn_12⟩) (by assumption) ?restn_12
            case hyn_12 =>
              intro w hSw
              (try dsimp only at hSw)
              go_simp
              (try with_reducible rfl)
            (try simp only [Act.put, List.setIfInBounds_toArray, List.set_cons_zero, List.set_cons_succ])
            refine wpAnyH_take (i := 12) (oi := { dst := some 104, op := Op.indexAddr 48 (Operand.tmp 102) (Operand.tmp 103), type := 0, pos := "law.go:196", after := #[{ on := 10, ground := Ground.data }, { on := 11, ground := Ground.data }, { on := 4, ground := Ground.guard }], guard := some (4, false) }) (v := ?vn_13) rfl (by kernel_rfl) (by kernel_rfl) (by kernel_rfl) (fun _ _ _ h => h) (Or.inl ⟨by rfl, ?hyn_13⟩) (by assumption) ?restn_13
            case hyn_13 =>
              intro w hSw
              (try dsimp only at hSw)
              go_simp
              (try with_reducible rfl)
            (try simp only [Act.put, List.setIfInBounds_toArray, List.set_cons_zero, List.set_cons_succ])
            refine wpAnyH_take (i := 13) (oi := { dst := some 105, op := Op.fieldAddr 35 (Operand.tmp 104) 1, type := 0, pos := "law.go:196", after := #[{ on := 12, ground := Ground.data }, { on := 4, ground := Ground.guard }], guard := some (4, false) }) (v := ?vn_14) rfl (by kernel_rfl) (by kernel_rfl) (by kernel_rfl) (fun _ _ _ h => h) (Or.inl ⟨by rfl, ?hyn_14⟩) (by assumption) ?restn_14
            case hyn_14 =>
              intro w hSw
              (try dsimp only at hSw)
              go_simp
              (try with_reducible rfl)
            (try simp only [Act.put, List.setIfInBounds_toArray, List.set_cons_zero, List.set_cons_succ])
            refine wpAnyH_take (i := 14) (oi := { dst := some 106, op := Op.load 2 (Operand.tmp 105), type := 2, pos := "law.go:196", after := #[{ on := 13, ground := Ground.data }, { on := 4, ground := Ground.guard }], guard := some (4, false) }) (v := ?vn_15) rfl (by kernel_rfl) (by kernel_rfl) (by kernel_rfl) (fun _ _ _ h => h) (Or.inl ⟨by rfl, ?hyn_15⟩) (by assumption) ?restn_15
            case hyn_15 =>
              intro w hSw
              (try dsimp only at hSw)
              go_simp
              (try with_reducible rfl)
            (try simp only [Act.put, List.setIfInBounds_toArray, List.set_cons_zero, List.set_cons_succ])
            refine wpAnyH_take (i := 15) (oi := { dst := some 107, op := Op.binOp BinOp.neq 2 (Operand.tmp 101) (Operand.tmp 106) 2, type := 4, pos := "law.go:196", after := #[{ on := 9, ground := Ground.data }, { on := 14, ground := Ground.data }, { on := 4, ground := Ground.guard }], guard := some (4, false) }) (v := ?vn_16) rfl (by kernel_rfl) (by kernel_rfl) (by kernel_rfl) (fun _ _ _ h => h) (Or.inl ⟨by rfl, ?hyn_16⟩) (by assumption) ?restn_16
            case hyn_16 =>
              intro w hSw
              (try dsimp only at hSw)
              go_simp
              (try with_reducible rfl)
            (try simp only [Act.put, List.setIfInBounds_toArray, List.set_cons_zero, List.set_cons_succ])
            refine wpAnyH_take (i := 16) (oi := { dst := some 108, op := Op.pick (Operand.tmp 96) (Operand.const (Value.bool true)) (Operand.tmp 107), type := 4, pos := "law.go:196", after := #[{ on := 4, ground := Ground.data }, { on := 15, ground := Ground.data }], guard := none }) (v := ?vn_17) rfl (by kernel_rfl) (by kernel_rfl) (by kernel_rfl) (fun _ _ _ h => h) (Or.inl ⟨by rfl, ?hyn_17⟩) (by assumption) ?restn_17
            case hyn_17 =>
              intro w hSw
              (try dsimp only at hSw)
              go_simp
              (try with_reducible rfl)
            (try simp only [Act.put, List.setIfInBounds_toArray, List.set_cons_zero, List.set_cons_succ])
            refine wpAnyH_take (i := 17) (oi := { dst := some 109, op := Op.move (Operand.tmp 108), type := 4, pos := "law.go:196", after := #[{ on := 16, ground := Ground.data }, { on := 4, ground := Ground.chain }], guard := none }) (v := ?vn_18) rfl (by kernel_rfl) (by kernel_rfl) (by kernel_rfl) (fun _ _ _ h => h) (Or.inl ⟨by rfl, ?hyn_18⟩) (by assumption) ?restn_18
            case hyn_18 =>
              intro w hSw
              (try dsimp only at hSw)
              go_simp
              (try with_reducible rfl)
            (try simp only [Act.put, List.setIfInBounds_toArray, List.set_cons_zero, List.set_cons_succ])
            refine wpAnyH_take (i := 18) (oi := { dst := some 110, op := Op.move (Operand.tmp 10), type := 48, pos := "law.go:196", after := #[{ on := 17, ground := Ground.guard }], guard := some (17, false) }) (v := ?vn_19) rfl (by kernel_rfl) (by kernel_rfl) (by kernel_rfl) (fun _ _ _ h => h) (Or.inl ⟨by rfl, ?hyn_19⟩) (by assumption) ?restn_19
            case hyn_19 =>
              intro w hSw
              (try dsimp only at hSw)
              go_simp
              (try with_reducible rfl)
            (try simp only [Act.put, List.setIfInBounds_toArray, List.set_cons_zero, List.set_cons_succ])
            refine wpAnyH_take (i := 19) (oi := { dst := some 111, op := Op.move (Operand.tmp 12), type := 3, pos := "law.go:196", after := #[{ on := 17, ground := Ground.guard }], guard := some (17, false) }) (v := ?vn_20) rfl (by kernel_rfl) (by kernel_rfl) (by kernel_rfl) (fun _ _ _ h => h) (Or.inl ⟨by rfl, ?hyn_20⟩) (by assumption) ?restn_20
            case hyn_20 =>
              intro w hSw
              (try dsimp only at hSw)
              go_simp
              (try with_reducible rfl)
            (try simp only [Act.put, List.setIfInBounds_toArray, List.set_cons_zero, List.set_cons_succ])
            refine wpAnyH_take (i := 20) (oi := { dst := some 112, op := Op.indexAddr 48 (Operand.tmp 110) (Operand.tmp 111), type := 0, pos := "law.go:196", after := #[{ on := 18, ground := Ground.data }, { on := 19, ground := Ground.data }, { on := 17, ground := Ground.guard }], guard := some (17, false) }) (v := ?vn_21) rfl (by kernel_rfl) (by kernel_rfl) (by kernel_rfl) (fun _ _ _ h => h) (Or.inl ⟨by rfl, ?hyn_21⟩) (by assumption) ?restn_21
            case hyn_21 =>
              intro w hSw
              (try dsimp only at hSw)
              go_simp
              (try with_reducible rfl)
            (try simp only [Act.put, List.setIfInBounds_toArray, List.set_cons_zero, List.set_cons_succ])
            refine wpAnyH_take (i := 21) (oi := { dst := some 113, op := Op.fieldAddr 35 (Operand.tmp 112) 2, type := 0, pos := "law.go:196", after := #[{ on := 20, ground := Ground.data }, { on := 17, ground := Ground.guard }], guard := some (17, false) }) (v := ?vn_22) rfl (by kernel_rfl) (by kernel_rfl) (by kernel_rfl) (fun _ _ _ h => h) (Or.inl ⟨by rfl, ?hyn_22⟩) (by assumption) ?restn_22
            case hyn_22 =>
              intro w hSw
              (try dsimp only at hSw)
              go_simp
              (try with_reducible rfl)
            (try simp only [Act.put, List.setIfInBounds_toArray, List.set_cons_zero, List.set_cons_succ])
            refine wpAnyH_take (i := 22) (oi := { dst := some 114, op := Op.load 32 (Operand.tmp 113), type := 32, pos := "law.go:196", after := #[{ on := 21, ground := Ground.data }, { on := 17, ground := Ground.guard }], guard := some (17, false) }) (v := ?vn_23) rfl (by kernel_rfl) (by kernel_rfl) (by kernel_rfl) (fun _ _ _ h => h) (Or.inl ⟨by rfl, ?hyn_23⟩) (by assumption) ?restn_23
            case hyn_23 =>
              intro w hSw
              (try dsimp only at hSw)
              go_simp
              (try with_reducible rfl)
            (try simp only [Act.put, List.setIfInBounds_toArray, List.set_cons_zero, List.set_cons_succ])
            refine wpAnyH_take (i := 24) (oi := { dst := some 116, op := Op.move (Operand.tmp 8), type := 48, pos := "law.go:196", after := #[{ on := 17, ground := Ground.guard }], guard := some (17, false) }) (v := ?vn_24) rfl (by kernel_rfl) (by kernel_rfl) (by kernel_rfl) (fun _ _ _ h => h) (Or.inl ⟨by rfl, ?hyn_24⟩) (by assumption) ?restn_24
            case hyn_24 =>
              intro w hSw
              (try dsimp only at hSw)
              go_simp
              (try with_reducible rfl)
            (try simp only [Act.put, List.setIfInBounds_toArray, List.set_cons_zero, List.set_cons_succ])
            refine wpAnyH_take (i := 25) (oi := { dst := some 117, op := Op.move (Operand.tmp 13), type := 3, pos := "law.go:196", after := #[{ on := 17, ground := Ground.guard }], guard := some (17, false) }) (v := ?vn_25) rfl (by kernel_rfl) (by kernel_rfl) (by kernel_rfl) (fun _ _ _ h => h) (Or.inl ⟨by rfl, ?hyn_25⟩) (by assumption) ?restn_25
            case hyn_25 =>
              intro w hSw
              (try dsimp only at hSw)
              go_simp
              (try with_reducible rfl)
            (try simp only [Act.put, List.setIfInBounds_toArray, List.set_cons_zero, List.set_cons_succ])
            refine wpAnyH_take (i := 26) (oi := { dst := some 118, op := Op.indexAddr 48 (Operand.tmp 116) (Operand.tmp 117), type := 0, pos := "law.go:196", after := #[{ on := 24, ground := Ground.data }, { on := 25, ground := Ground.data }, { on := 17, ground := Ground.guard }], guard := some (17, false) }) (v := ?vn_26) rfl (by kernel_rfl) (by kernel_rfl) (by kernel_rfl) (fun _ _ _ h => h) (Or.inl ⟨by rfl, ?hyn_26⟩) (by assumption) ?restn_26
            case hyn_26 =>
              intro w hSw
              (try dsimp only at hSw)
              go_simp
              (try with_reducible rfl)
            (try simp only [Act.put, List.setIfInBounds_toArray, List.set_cons_zero, List.set_cons_succ])
            refine wpAnyH_take (i := 27) (oi := { dst := some 119, op := Op.fieldAddr 35 (Operand.tmp 118) 2, type := 0, pos := "law.go:196", after := #[{ on := 26, ground := Ground.data }, { on := 17, ground := Ground.guard }], guard := some (17, false) }) (v := ?vn_27) rfl (by kernel_rfl) (by kernel_rfl) (by kernel_rfl) (fun _ _ _ h => h) (Or.inl ⟨by rfl, ?hyn_27⟩) (by assumption) ?restn_27
            case hyn_27 =>
              intro w hSw
              (try dsimp only at hSw)
              go_simp
              (try with_reducible rfl)
            (try simp only [Act.put, List.setIfInBounds_toArray, List.set_cons_zero, List.set_cons_succ])
            refine wpAnyH_take (i := 28) (oi := { dst := some 120, op := Op.load 32 (Operand.tmp 119), type := 32, pos := "law.go:196", after := #[{ on := 27, ground := Ground.data }, { on := 17, ground := Ground.guard }], guard := some (17, false) }) (v := ?vn_28) rfl (by kernel_rfl) (by kernel_rfl) (by kernel_rfl) (fun _ _ _ h => h) (Or.inl ⟨by rfl, ?hyn_28⟩) (by assumption) ?restn_28
            case hyn_28 =>
              intro w hSw
              (try dsimp only at hSw)
              go_simp
              (try with_reducible rfl)
            (try simp only [Act.put, List.setIfInBounds_toArray, List.set_cons_zero, List.set_cons_succ])
            refine wpAnyH_ready (rs := [23, 29]) (by kernel_rfl) (by simp) ?_
            refine AllReadyH.cons (o := { dst := some 115, op := Op.buildSlice 73 1 #[(0, Operand.tmp 114)], type := 73, pos := "law.go:196", after := #[{ on := 22, ground := Ground.data }, { on := 17, ground := Ground.guard }], guard := some (17, false) }) rfl (fun K hK => ?_) (AllReadyH.cons (o := { dst := some 121, op := Op.buildSlice 73 1 #[(0, Operand.tmp 120)], type := 73, pos := "law.go:196", after := #[{ on := 28, ground := Ground.data }, { on := 17, ground := Ground.guard }], guard := some (17, false) }) rfl (fun K hK => ?_) AllReadyH.nil)
            · go_simp
              go_wp2_with fail
              refine hK.out _ _ (HSF.out _ (hHeld.1.trans ((Below.refl _ _).alloc hHeld.1.size _))) (fun hHeld => ?_)
              clear hK K
              (try simp only [Act.put, List.setIfInBounds_toArray, List.set_cons_zero, List.set_cons_succ])
              refine wpAnyH_ready (rs := [29]) (by kernel_rfl) (by simp) ?_
              refine AllReadyH.cons (o := { dst := some 121, op := Op.buildSlice 73 1 #[(0, Operand.tmp 120)], type := 73, pos := "law.go:196", after := #[{ on := 28, ground := Ground.data }, { on := 17, ground := Ground.guard }], guard := some (17, false) }) rfl (fun K hK => ?_) AllReadyH.nil
              go_simp
              go_wp2_with fail
              refine hK.out _ _ (HSF.out _ (hHeld.1.trans ((Below.refl _ _).alloc hHeld.1.size _))) (fun hHeld => ?_)
              clear hK K
              (try simp only [Act.put, List.setIfInBounds_toArray, List.set_cons_zero, List.set_cons_succ])
              refine wpAnyH_ready (rs := [30]) (by kernel_rfl) (by simp) ?_
              refine AllReadyH.cons (o := { dst := some 122, op := Op.call { callee := Callee.value (Operand.func 26), args := #[Operand.tmp 115, Operand.tmp 121], argTypes := #[73, 73] }, type := 4, pos := "law.go:196", after := #[{ on := 23, ground := Ground.data }, { on := 29, ground := Ground.data }, { on := 17, ground := Ground.chain }, { on := 17, ground := Ground.guard }], guard := some (17, false) }) rfl (fun K hK => ?_) AllReadyH.nil
              go_simp
              (go_at_call 26; have hb2 : Below w6.heap.size w6 (((w7.alloc (.cells #[.string k1, .slice a3 1 c3] 32)).alloc (.cells #[.string k1, .slice (some ⟨vb, vo, none⟩) 1 c1] 32)).drew) := ((HB7.out.alloc HB7.out.size _).alloc (HB7.out.alloc HB7.out.size _).size _).drew; refine (HRT.out _ hb2 _ _ (laid_two w7 k1 a3 (some ⟨vb, vo, none⟩) c3 c1).1 (laid_two w7 k1 a3 (some ⟨vb, vo, none⟩) c3 c1).2).mono ?_; rintro e8 w8 ⟨rfl, b8⟩; have hb8 : Below w6.heap.size w6 w8 := hb2.trans (b8.mono hb2.size); clear hb2)
              go_wp2_with fail
              refine hK.out _ _ (HSF.out _ hb8) (fun hHeld => ?_)
              clear hK K
              (try simp only [Act.put, List.setIfInBounds_toArray, List.set_cons_zero, List.set_cons_succ])
              refine wpAnyH_take (i := 31) (oi := { dst := some 123, op := Op.unOp UnOp.not 4 (Operand.tmp 122), type := 4, pos := "law.go:196", after := #[{ on := 30, ground := Ground.data }, { on := 17, ground := Ground.guard }], guard := some (17, false) }) (v := ?vn_29) rfl (by kernel_rfl) (by kernel_rfl) (by kernel_rfl) (fun _ _ _ h => h) (Or.inl ⟨by rfl, ?hyn_29⟩) (by assumption) ?restn_29
              case hyn_29 =>
                intro w hSw
                (try dsimp only at hSw)
                go_simp
                (try with_reducible rfl)
              (try simp only [Act.put, List.setIfInBounds_toArray, List.set_cons_zero, List.set_cons_succ])
              refine wpAnyH_take (i := 32) (oi := { dst := some 124, op := Op.pick (Operand.tmp 109) (Operand.const (Value.bool true)) (Operand.tmp 123), type := 4, pos := "law.go:196", after := #[{ on := 17, ground := Ground.data }, { on := 31, ground := Ground.data }], guard := none }) (v := ?vn_30) rfl (by kernel_rfl) (by kernel_rfl) (by kernel_rfl) (fun _ _ _ h => h) (Or.inl ⟨by rfl, ?hyn_30⟩) (by assumption) ?restn_30
              case hyn_30 =>
                intro w hSw
                (try dsimp only at hSw)
                go_simp
                (try with_reducible rfl)
              (try simp only [Act.put, List.setIfInBounds_toArray, List.set_cons_zero, List.set_cons_succ])
              refine wpAnyH_done (by kernel_rfl) ?_ _
              clear hHeld b8
              have HN8 : Hid (Below w6.heap.size w6 w8 ∧ ((P.take (j + 1)).filter fun x => decide (covF v x)).length = g ∧ ((P.take (j + 1)).filter fun x => !decide (covF v x)).length = r + 1) := Lib.hid ⟨hb8, HN.out.2, HN.out.1⟩
              clear hb8
              go_wp2_with fail
              go_roundw
              case rel => exact ⟨j + 1, g, r + 1, rfl, rfl, rfl, by omega, by omega, by omega, HN8⟩
              case measure => simp only [intOf]; omega
            · go_simp
              go_wp2_with fail
              refine hK.out _ _ (HSF.out _ (hHeld.1.trans ((Below.refl _ _).alloc hHeld.1.size _))) (fun hHeld => ?_)
              clear hK K
              (try simp only [Act.put, List.setIfInBounds_toArray, List.set_cons_zero, List.set_cons_succ])
              refine wpAnyH_ready (rs := [23]) (by kernel_rfl) (by simp) ?_
              refine AllReadyH.cons (o := { dst := some 115, op := Op.buildSlice 73 1 #[(0, Operand.tmp 114)], type := 73, pos := "law.go:196", after := #[{ on := 22, ground := Ground.data }, { on := 17, ground := Ground.guard }], guard := some (17, false) }) rfl (fun K hK => ?_) AllReadyH.nil
              go_simp
              go_wp2_with fail
              refine hK.out _ _ (HSF.out _ (hHeld.1.trans ((Below.refl _ _).alloc hHeld.1.size _))) (fun hHeld => ?_)
              clear hK K
              (try simp only [Act.put, List.setIfInBounds_toArray, List.set_cons_zero, List.set_cons_succ])
              refine wpAnyH_ready (rs := [30]) (by kernel_rfl) (by simp) ?_
              refine AllReadyH.cons (o := { dst := some 122, op := Op.call { callee := Callee.value (Operand.func 26), args := #[Operand.tmp 115, Operand.tmp 121], argTypes := #[73, 73] }, type := 4, pos := "law.go:196", after := #[{ on := 23, ground := Ground.data }, { on := 29, ground := Ground.data }, { on := 17, ground := Ground.chain }, { on := 17, ground := Ground.guard }], guard := some (17, false) }) rfl (fun K hK => ?_) AllReadyH.nil
              go_simp
              (go_at_call 26; have hb2 : Below w6.heap.size w6 (((w7.alloc (.cells #[.string k1, .slice (some ⟨vb, vo, none⟩) 1 c1] 32)).alloc (.cells #[.string k1, .slice a3 1 c3] 32)).drew) := ((HB7.out.alloc HB7.out.size _).alloc (HB7.out.alloc HB7.out.size _).size _).drew; refine (HRT.out _ hb2 _ _ (laid_two w7 k1 (some ⟨vb, vo, none⟩) a3 c1 c3).2 (laid_two w7 k1 (some ⟨vb, vo, none⟩) a3 c1 c3).1).mono ?_; rintro e8 w8 ⟨rfl, b8⟩; have hb8 : Below w6.heap.size w6 w8 := hb2.trans (b8.mono hb2.size); clear hb2)
              go_wp2_with fail
              refine hK.out _ _ (HSF.out _ hb8) (fun hHeld => ?_)
              clear hK K
              (try simp only [Act.put, List.setIfInBounds_toArray, List.set_cons_zero, List.set_cons_succ])
              refine wpAnyH_take (i := 31) (oi := { dst := some 123, op := Op.unOp UnOp.not 4 (Operand.tmp 122), type := 4, pos := "law.go:196", after := #[{ on := 30, ground := Ground.data }, { on := 17, ground := Ground.guard }], guard := some (17, false) }) (v := ?vn_31) rfl (by kernel_rfl) (by kernel_rfl) (by kernel_rfl) (fun _ _ _ h => h) (Or.inl ⟨by rfl, ?hyn_31⟩) (by assumption) ?restn_31
              case hyn_31 =>
                intro w hSw
                (try dsimp only at hSw)
                go_simp
                (try with_reducible rfl)
              (try simp only [Act.put, List.setIfInBounds_toArray, List.set_cons_zero, List.set_cons_succ])
              refine wpAnyH_take (i := 32) (oi := { dst := some 124, op := Op.pick (Operand.tmp 109) (Operand.const (Value.bool true)) (Operand.tmp 123), type := 4, pos := "law.go:196", after := #[{ on := 17, ground := Ground.data }, { on := 31, ground := Ground.data }], guard := none }) (v := ?vn_32) rfl (by kernel_rfl) (by kernel_rfl) (by kernel_rfl) (fun _ _ _ h => h) (Or.inl ⟨by rfl, ?hyn_32⟩) (by assumption) ?restn_32
              case hyn_32 =>
                intro w hSw
                (try dsimp only at hSw)
                go_simp
                (try with_reducible rfl)
              (try simp only [Act.put, List.setIfInBounds_toArray, List.set_cons_zero, List.set_cons_succ])
              refine wpAnyH_done (by kernel_rfl) ?_ _
              clear hHeld b8
              have HN8 : Hid (Below w6.heap.size w6 w8 ∧ ((P.take (j + 1)).filter fun x => decide (covF v x)).length = g ∧ ((P.take (j + 1)).filter fun x => !decide (covF v x)).length = r + 1) := Lib.hid ⟨hb8, HN.out.2, HN.out.1⟩
              clear hb8
              go_wp2_with fail
              go_roundw
              case rel => exact ⟨j + 1, g, r + 1, rfl, rfl, rfl, by omega, by omega, by omega, HN8⟩
              case measure => simp only [intOf]; omega
        · obtain rfl : j = kp := by omega
          have hgg : g = kg := by
            have h := hst.out.2.1
            rw [List.take_of_length_le (by have := HK.out.1; omega), HK.out.2.1] at h
            exact h.symm
          have hrr : r = kl := by
            have h := hst.out.2.2
            rw [List.take_of_length_le (by have := HK.out.1; omega), HK.out.2.2.1] at h
            exact h.symm
          subst hgg hrr
          have ho := HS6.out.2.trans (hst.out.1.mono HS6.out.2.size)
          have HCC := Lib.hid ((HS6.out.1.below hst.out.1).clean HK.out.2.2.2.2 (by have := HK.out.2.2.1; omega) A' c' nv v HZ.out.2.2.2 (by omega) ((HZ.out.2.2.1.below ho).more ho.size) 0 (by
            rw [List.filter_filter, List.length_eq_zero_iff, List.filter_eq_nil_iff]
            intro y _
            simp))
          clear hst ho
          go_wp2_with fail
          refine HCC.out.mono ?_
          rintro e w7 ⟨A7, c7, rfl, h7⟩
          have HE := Lib.hid h7.out.1.1.old
          clear h7 HCC
          go_wp2_with fail
          go_ret
          exact ⟨rfl, HE.out⟩
-- ROW BEGIN
set_option maxRecDepth 100000 in
/-- What the walk gives, shut again. -/
theorem contract (H : Type) (enc : TypeId × Value → H) (W : World) (base : Nat) (args : Array Value) (ds gs : List (DataW H)) (before : List MemPlace)
    (hval : ∀ (j : Nat) t v, Try.f6.params[j]? = some t → args[j]? = some v → Value.okWide Try.prog W .any base t v)
    (hW : DataW.Whole enc Try.prog Try.f6.params.toList Rows.inboxCleansSpec.vars false W args.toList ds gs before)
    (hsz : (DataW.weightsEach Try.prog (Try.f6.params.toList ++ Rows.inboxCleansSpec.plain.varTypes Try.prog) (ds ++ gs)).all (· ≤ reachBytes) = true) :
    Calls Try.prog 6 args W fun e W' => ∃ v, e = .returned v ∧ Rows.inboxCleansSpec.post enc Try.prog Try.f6 false true false false W args v W' := by
  have hW' := hW
  obtain ⟨p, q, hA0, hV, hbef, _, _⟩ := hW
  have hA : DataW.TrodAll enc Try.prog W 0 (fun _ => true) true Try.f6.params.toList args.toList ds p := hA0
  have hA1 := hA
  rw [Try.params6] at hA hval hsz
  obtain ⟨v0, vs0, d0, ds0, p0, q0, hargs, rfl, rfl, h0, r0⟩ := trodAll_cons hA
  obtain ⟨v1, vs1, d1, ds1, p1, q1, rfl, rfl, rfl, h1, r1⟩ := trodAll_cons r0
  obtain ⟨rfl, rfl, rfl⟩ := trodAll_nil r1
  obtain rfl : args = #[v0, v1] := by cases args; simp_all
  obtain ⟨rfl, rfl⟩ := trodVars_none hV
  clear hA hargs
  obtain ⟨A0, c0, a0, rfl, n0, l0, b0⟩ := Inbox.arg_fars (hval 0 48 v0 rfl rfl) h0 (Wgt.wt_arg hsz (j := 0) rfl rfl)
  obtain ⟨A1, c1, a1, rfl, n1, w1, l1, _, o1⟩ := open_ns Try.underlying36 Try.underlying2 Facts.cells2 (hval 1 36 v1 rfl rfl) h1
  have b1 := reach_ns hsz (j := 1) rfl rfl Try.underlying36 Facts.bytes2 l1 o1
  refine (walk W A0 c0 a0 n0 b0 l0 A1 c1 a1 n1 (fun z hz => wf_int (w1 z hz)) (by omega) l1).mono fun e W' ⟨he, hb⟩ => ?_
  subst he
  exact ⟨_, rfl, law_post Facts.laid (by rfl) Try.underlying4 (by rw [Try.params6]; decide +kernel) hW' hA1 rfl hbef rfl rfl rfl hb⟩

set_option maxRecDepth 100000 in
theorem lifted (os : Os) (started : os.Started) (H : Type) (enc : TypeId × Value → H) :
    ReturnsInHanded {} Try.checked os 6 .any (Rows.inboxCleansSpec.pre6 enc Try.prog Try.f6 Rows.inboxCleansRow.domain false) (Rows.inboxCleansSpec.post enc Try.prog Try.f6 false true false false) := by
  refine returnsInHanded_of_change_sized (C := Try.checked) Facts.own started (by kernel_rfl) Try.func6
    (ChangeSpec.witness6 (enc := enc) (C := Try.checked) false ⟨#[], #[.slice none 0 0, .slice none 0 0], []⟩ 8 (by kernel_rfl) (by kernel_rfl) (by kernel_rfl) (by kernel_rfl)) ?_
  intro W base args ds gs before hval hW _ hsz _
  exact contract H enc W base args ds gs before hval hW hsz

theorem holds : Rows.InboxCleansSaid :=
  OpenClaim.holds_of_wide 6 Try.f6 rfl rfl rfl rfl rfl rfl rfl ⟨rfl, rfl, rfl, rfl, rfl⟩ rfl rfl rfl rfl rfl (by kernel_rfl) Try.func6 (by kernel_rfl)
    (of_decide_eq_true (by kernel_rfl)) (by unfold Func.isWrapper; first | (rw [if_pos (by decide +kernel)]; kernel_rfl) | (rw [if_neg (by decide +kernel)]; exact ⟨rfl, rfl⟩))
    (fun os started H enc _ => lifted os started H enc)
-- ROW END
end InboxCleans
end Go.Proofs.Ytiempgabamheiaa
