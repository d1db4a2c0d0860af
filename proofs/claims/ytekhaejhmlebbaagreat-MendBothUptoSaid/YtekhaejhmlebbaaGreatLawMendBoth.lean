/-
 MendBoth: two who exchange, leaf by leaf, what they find to differ, come to hold the same. Up to a bulk of the input.
-/
import Derived.Test.YtekhaejhmlebbaaGreatQMendHeldUp
import Derived.Test.YtekhaejhmlebbaaGreatQMendKeyPlain
import Derived.Test.YtekhaejhmlebbaaGreatQMendWritten
import Derived.Test.YtekhaejhmlebbaaGreatQMendBothPlain
namespace Go.Proofs.YtekhaejhmlebbaaGreat
namespace MendBoth
open Go.ChangeShapes Go.WideShapes Go.ChangeAt Go.RowKit Vers Num Ring Disk Blk Tree Mend
open Go.Proofs.YtekhaejhmlebbaaGreat.Code hiding Bn
attribute [local go_sem ↓] Go.wp_at_zero Go.wp_at_succ
structure Both (a b : List Rc) (S : Nat) (U : World) (P : List (Int × Int)) (x y : List Rc) (A B : Option Addr) (n c n' c' : Nat) (W : World) : Prop where
 bo_ex : Ex a b P x y
 bo_lx : x.length = n
 bo_ly : y.length = n'
 bo_cx : n ≤ c
 bo_cy : n' ≤ c'
 bo_hx : n ≤ S
 bo_hy : n' ≤ S
 bo_rx : Rs W 0 W.heap.size A x
 bo_ry : Rs W 0 W.heap.size B y
 bo_up : Below U.heap.size U W
def Two2 (U : World) (g i : Nat) (v1 v2 : Value) (W : World) : Prop := W.cell? ⟨g, i * 3, none⟩ = some v1 ∧ W.cell? ⟨g, i * 3 + 1, none⟩ = some v2 ∧ Below U.heap.size U W ∧ g < U.heap.size
theorem two2_keep {U W W' : World} {g i : Nat} {v1 v2 : Value} (hb : Below W.heap.size W W') (h : Two2 U g i v1 v2 W) : Two2 U g i v1 v2 W' := by
 obtain ⟨h1, h2, h3, h4⟩ := h
 have hs := h3.size
 have c : ∀ (q o : Nat), q < U.heap.size → W'.cell? ⟨q, o, none⟩ = W.cell? ⟨q, o, none⟩ := fun q o hq => hb.cell (p := ⟨q, o, none⟩) (by show q < _; omega)
 exact ⟨(c _ _ h4).trans h1, (c _ _ h4).trans h2, h3.trans (hb.mono hs), h4⟩
theorem leaves_not {a b : List Rc} {D : List Int} {i : Nat} (hn : D.Nodup) (hi : i < D.length) : ∀ lf ∈ (D.take i).flatMap (leavesF a b), lf.1 ≠ D[i] := fun lf h e => by
 obtain ⟨d', hd, hl⟩ := List.mem_flatMap.1 h
 unfold leavesF at hl
 obtain ⟨_, _, rfl⟩ := List.mem_map.1 hl
 obtain ⟨j, hj, rfl⟩ := List.mem_take_iff_getElem.1 hd
 exact List.pairwise_iff_getElem.1 hn j i (by omega) hi (by omega) e
theorem leaves_next {a b : List Rc} {D : List Int} {i : Nat} (hi : i < D.length) : (D.take (i + 1)).flatMap (leavesF a b) = (D.take i).flatMap (leavesF a b) ++ leavesF a b D[i] := by
 rw [List.take_succ_eq_append_getElem hi, List.flatMap_append]
 simp
theorem takeF_len {a t : List Rc} (h : Hel a) : (takeF a t).length ≤ a.length + t.length := by
 have h2 := now_len9 t a
 have h3 := List.length_filter_le (fun r : Rc => !decide (r.2 = getF (heldF a) r.1)) (nowF (heldF a) t)
 unfold takeF
 rw [held_self h] at h3 ⊢
 omega
theorem giveF_len {a t : List Rc} (h : Hel a) (p : List Int) : (giveF a p t).length ≤ a.length := by
 unfold giveF recsF
 refine Nat.le_trans (List.length_filter_le _ _) ?_
 rw [held_self h]
 split
 ·exact List.length_filter_le _ _
 ·simp
set_option maxRecDepth 100000 in
set_option maxHeartbeats 4000000 in
theorem walk (w : World) (A : Option Addr) (c : Nat) (l : List Rc) (hl : Rs w 0 w.heap.size A l) (_hb : l.length * 40 ≤ 140737488351232) (_hlc : l.length ≤ c)
  (A' : Option Addr) (c' : Nat) (l' : List Rc) (hl' : Rs w 0 w.heap.size A' l') (_hb' : l'.length * 40 ≤ 140737488351232) (_hlc' : l'.length ≤ c') (hbulk : l.length + l'.length ≤ 1048576) :
  Calls Tryz.prog 6 #[.slice A l.length c, .slice A' l'.length c'] w fun e w' => e = .returned (.bool true) ∧ Below w.heap.size w w' := by
 obtain ⟨n, hn⟩ : ∃ n, l.length = n := ⟨_, rfl⟩
 obtain ⟨n', hn'⟩ : ∃ n, l'.length = n := ⟨_, rfl⟩
 rw [hn, hn'] at hbulk ⊢
 have hlW : ∀ W, Below w.heap.size w W → Rs W 0 W.heap.size A l := fun W h => (hl.below h).more h.size
 have hlW' : ∀ W, Below w.heap.size w W → Rs W 0 W.heap.size A' l' := fun W h => (hl'.below h).more h.size
 have HP := Lib.hid (And.intro hn (And.intro hn' (And.intro hlW hlW')))
 have H0 := Lib.hid (awake_any w)
 clear hl hl' hn hn' hlW hlW'
 go_enter Tryz.func6, Tryz.ntmps6
 go_wp2_with fail
 refine H0.out.mono ?_
 rintro e1 w1 ⟨rfl, b1⟩
 have B1 := Lib.hid b1
 have H1 := Lib.hid (held_up A c n l HP.out.1 (by omega) w1 (HP.out.2.2.1 _ b1))
 clear b1 H0
 go_wp2_with fail
 refine H1.out.mono ?_
 rintro e2 w2 (⟨hok, Aa, na, ca, rfl, h2, b2⟩ | ⟨_, rfl, b2⟩)
 rotate_left
 ·have B2 := Lib.hid (B1.out.trans (b2.mono B1.out.size))
  have H2 := Lib.hid (held_up A' c' n' l' HP.out.2.1 (by omega) w2 (HP.out.2.2.2 _ B2.out))
  clear b2 H1
  go_wp2_with fail
  refine H2.out.mono ?_
  rintro e3 w3 (⟨_, Am, nm, cm, rfl, _, b3⟩ | ⟨_, rfl, b3⟩)
  all_goals
   have HF := Lib.hid (B2.out.trans (b3.mono B2.out.size))
   clear b3 H2
   go_wp2_with fail
   go_ret
   exact ⟨rfl, HF.out⟩
 ·have B2 := Lib.hid (And.intro (B1.out.trans (b2.mono B1.out.size)) (And.intro hok h2.out))
  have hna : na ≤ n := h2.out.2.2.1
  have H2 := Lib.hid (held_up A' c' n' l' HP.out.2.1 (by omega) w2 (HP.out.2.2.2 _ B2.out.1))
  clear b2 H1 h2 hok
  go_wp2_with fail
  refine H2.out.mono ?_
  rintro e3 w3 (⟨hok3, Am, nm, cm, rfl, h3, b3⟩ | ⟨_, rfl, b3⟩)
  rotate_left
  ·have HF := Lib.hid (B2.out.1.trans (b3.mono B2.out.1.size))
   clear b3 H2
   go_wp2_with fail
   go_ret
   exact ⟨rfl, HF.out⟩
  ·have hnm : nm ≤ n' := h3.out.2.2.1
   obtain ⟨a, ha⟩ : ∃ a, heldF l = a := ⟨_, rfl⟩
   obtain ⟨b, hb⟩ : ∃ m, heldF l' = m := ⟨_, rfl⟩
   have La : Lst a := by rw [← ha]; exact Lst.held B2.out.2.1
   have Lb : Lst b := by rw [← hb]; exact Lst.held hok3
   have hra : Rs w3 0 w3.heap.size Aa a := by rw [← ha]; exact (B2.out.2.2.2.2.2.below b3).more b3.size
   have hrb : Rs w3 0 w3.heap.size Am b := by rw [← hb]; exact h3.out.2.2.2
   have hla : a.length = na := by rw [← ha]; exact B2.out.2.2.1
   have hlb : b.length = nm := by rw [← hb]; exact h3.out.1
   have HD := doubts_any Aa Am ca cm na nm a b hla hlb (by omega) (by omega) La.2 Lb.2 w3 hra hrb
   rw [held_self La.1, held_self Lb.1] at HD
   have HD := Lib.hid HD
   have B3 := Lib.hid (And.intro (B2.out.1.trans (b3.mono B2.out.1.size)) (And.intro La (And.intro Lb (And.intro hra (And.intro hrb (And.intro hla (And.intro hlb (And.intro B2.out.2.2.2.1 h3.out.2.1))))))))
   clear h3 b3 hok3 ha hb La Lb hra hrb hla hlb H2 B2
   go_wp2_with fail
   refine HD.out.mono ?_
   rintro e4 w4 ⟨⟨db, rfl, hdb⟩, b4⟩
   have hra4 : Rs w4 0 w4.heap.size Aa a := (B3.out.2.2.2.1.below b4).more b4.size
   have hrb4 : Rs w4 0 w4.heap.size Am b := (B3.out.2.2.2.2.1.below b4).more b4.size
   have H4 := Lib.hid (both_any Aa Am ca cm na nm a b B3.out.2.2.2.2.2.1 B3.out.2.2.2.2.2.2.2.1 B3.out.2.2.2.2.2.2.1 (by omega) w4 hra4 hrb4)
   have B4 := Lib.hid (And.intro (B3.out.1.trans (b4.mono B3.out.1.size)) (And.intro hra4 (And.intro hrb4 hdb)))
   clear hra4 hrb4 b4 hdb HD
   cases db
   rotate_left
   ·have HF := Lib.hid B4.out.1
    clear H4
    go_wp2_with fail
    go_ret
    exact ⟨rfl, HF.out⟩
   ·go_wp2_with fail
    refine H4.out.mono ?_
    rintro e5 w5 (⟨hfine, Aw, nw, cw, rfl, h5, b5⟩ | ⟨_, rfl, b5⟩)
    rotate_left
    ·have HF := Lib.hid (B4.out.1.trans (b5.mono B4.out.1.size))
     clear b5 H4
     go_wp2_with fail
     go_ret
     exact ⟨rfl, HF.out⟩
    ·have hra5 : Rs w5 0 w5.heap.size Aa a := (B4.out.2.1.below b5).more b5.size
     have hrb5 : Rs w5 0 w5.heap.size Am b := (B4.out.2.2.1.below b5).more b5.size
     have H5 := Lib.hid (written_any Aa Am ca cm na nm a b B3.out.2.2.2.2.2.1 B3.out.2.2.2.2.2.2.1 (by omega) (by omega) B3.out.2.1.2 B3.out.2.2.1.2 w5 hra5 hrb5)
     have B5 := Lib.hid (And.intro (B4.out.1.trans (b5.mono B4.out.1.size)) (And.intro hra5 (And.intro hrb5 (And.intro hfine h5.out))))
     clear hra5 hrb5 b5 h5 hfine H4
     obtain ⟨q1, hq1⟩ : ∃ q, wrB a b = q := ⟨_, rfl⟩
     rw [hq1] at H5
     have Q1 := Lib.hid hq1
     clear hq1
     go_wp2_with fail
     refine H5.out.mono ?_
     rintro e6 w6 ⟨rfl, b6⟩
     have hra6 : Rs w6 0 w6.heap.size Aa a := (B5.out.2.1.below b6).more b6.size
     have hrb6 : Rs w6 0 w6.heap.size Am b := (B5.out.2.2.1.below b6).more b6.size
     have H6 := Lib.hid (written_any Am Aa cm ca nm na b a B3.out.2.2.2.2.2.2.1 B3.out.2.2.2.2.2.1 (by omega) (by omega) B3.out.2.2.1.2 B3.out.2.1.2 w6 hrb6 hra6)
     have hrw6 : Rs w6 0 w6.heap.size Aw (nowF a b) := (B5.out.2.2.2.2.2.2.below b6).more b6.size
     have B6 := Lib.hid (And.intro (B5.out.1.trans (b6.mono B5.out.1.size)) (And.intro hra6 (And.intro hrb6 hrw6)))
     clear hra6 hrb6 hrw6 b6 H5
     cases q1
     ·have HF := Lib.hid B6.out.1
      clear H6
      go_wp2_with fail
      go_ret
      exact ⟨rfl, HF.out⟩
     obtain ⟨q2, hq2⟩ : ∃ q, wrB b a = q := ⟨_, rfl⟩
     rw [hq2] at H6
     have Q2 := Lib.hid hq2
     clear hq2
     go_wp2_with fail
     refine H6.out.mono ?_
     rintro e7 w7 ⟨rfl, b7⟩
     have hra7 : Rs w7 0 w7.heap.size Aa a := (B6.out.2.1.below b7).more b7.size
     have hrb7 : Rs w7 0 w7.heap.size Am b := (B6.out.2.2.1.below b7).more b7.size
     have hrw7 : Rs w7 0 w7.heap.size Aw (nowF a b) := (B6.out.2.2.2.below b7).more b7.size
     have B7 := Lib.hid (And.intro (B6.out.1.trans (b7.mono B6.out.1.size)) (And.intro hra7 (And.intro hrb7 hrw7)))
     have H7 := Lib.hid (open_up Aa ca na a B3.out.2.1 B3.out.2.2.2.2.2.1 (by omega) w7 hra7)
     clear hra7 hrb7 hrw7 b7 H6
     cases q2
     ·have HF := Lib.hid B7.out.1
      clear H7
      go_wp2_with fail
      go_ret
      exact ⟨rfl, HF.out⟩
     have ht := Lib.hid (two_of B3.out.2.1 B3.out.2.2.1 B5.out.2.2.2.1 Q1.out Q2.out)
     clear Q1 Q2
     go_wp2_with fail
     refine H7.out.mono ?_
     rintro e8 w8 ⟨A8, m8, c8, rfl, h8, b8⟩
     have hrb8 : Rs w8 0 w8.heap.size Am b := (B7.out.2.2.1.below b8).more b8.size
     have hra8 : Rs w8 0 w8.heap.size Aa a := (B7.out.2.1.below b8).more b8.size
     have hrw8 : Rs w8 0 w8.heap.size Aw (nowF a b) := (B7.out.2.2.2.below b8).more b8.size
     have H8 := Lib.hid (answer_up Am none A8 cm 0 c8 nm 0 m8 b [] (kidsF a []) B3.out.2.2.1 B3.out.2.2.2.2.2.2.1 rfl h8.out.1 (by omega) ok_zero (by omega) w8 hrb8 ns_nil h8.out.2)
     have B8 := Lib.hid (And.intro (B7.out.1.trans (b8.mono B7.out.1.size)) (And.intro hra8 (And.intro hrb8 hrw8)))
     clear h8 b8 hra8 hrb8 hrw8 H7
     go_wp2_with fail
     refine H8.out.mono ?_
     rintro e9 w9 ⟨A9, m9, c9, rfl, h9, b9⟩
     obtain ⟨D, hD⟩ : ∃ D, diffF (kidsF b []) (kidsF a []) = D := ⟨_, rfl⟩
     rw [hD] at h9
     have hm16 : m9 ≤ 16 := by rw [← h9.out.1, ← hD]; exact diff_16 _ _
     have hdr : ∀ d ∈ D, 0 ≤ d ∧ d < 16 := fun d hd => by rw [← hD] at hd; exact diff_range hd
     have hdn : D.Nodup := by rw [← hD]; exact diff_nodup _ _
     have hra9 : Rs w9 0 w9.heap.size Aa a := (B8.out.2.1.below b9).more b9.size
     have hrb9 : Rs w9 0 w9.heap.size Am b := (B8.out.2.2.1.below b9).more b9.size
     have hrw9 : Rs w9 0 w9.heap.size Aw (nowF a b) := (B8.out.2.2.2.below b9).more b9.size
     have HS : Hid (Both a b 1048576 w9 [] a b Aa Am na ca nm cm w9) := Lib.hid ⟨ht.out.twStart, B3.out.2.2.2.2.2.1, B3.out.2.2.2.2.2.2.1, B3.out.2.2.2.2.2.2.2.1, B3.out.2.2.2.2.2.2.2.2, by omega, by omega, hra9, hrb9, Below.refl _ _⟩
     have B9 := Lib.hid (And.intro (B8.out.1.trans (b9.mono B8.out.1.size)) (And.intro hrw9 (And.intro h9.out (And.intro hdr (And.intro hdn hD)))))
     have hSab : a.length + b.length ≤ 1048576 := by rw [B3.out.2.2.2.2.2.1, B3.out.2.2.2.2.2.2.1]; omega
     have HX := Lib.hid (And.intro hSab (And.intro B4.out.2.2.2 B5.out.2.2.2.2.1))
     clear h9 b9 hra9 hrb9 hrw9 hdr hdn hD hSab H8
     go_wp2_with fail
     go_loopw [5, 7, 12] (fun va vb q wr => ∃ (i n1 n2 c1 c2 : Nat) (A1 A2 : Option Addr), q = .int .i64 i ∧ i ≤ m9 ∧ va = .slice A1 n1 c1 ∧ vb = .slice A2 n2 c2 ∧ Hid (∃ x y, Both a b 1048576 w9 ((D.take i).flatMap (leavesF a b)) x y A1 A2 n1 c1 n2 c2 wr)) (fun _ _ q _ => m9 - (intOf q).toNat)
     case atStart => exact ⟨0, na, nm, ca, cm, Aa, Am, rfl, by omega, rfl, rfl, Lib.hid ⟨a, b, HS.out⟩⟩
     case round =>
      obtain ⟨i, n1, n2, c1, c2, A1, A2, rfl, hi, rfl, rfl, hst⟩ := hrel
      obtain ⟨x, y, hst⟩ := hst.out
      have hst := Lib.hid hst
      by_cases hlt : i < m9
      ·have d2 : (0 : Int) ≤ (i : Int) := by omega
       have d3 : (i : Int) < (m9 : Int) := by omega
       have hiD : i < D.length := by rw [B9.out.2.2.1.1]; exact hlt
       obtain ⟨d, hd⟩ : ∃ d, D.getD i 0 = d := ⟨_, rfl⟩
       have hdD : D[i] = d := by
        rw [List.getD_eq_getElem?_getD, List.getElem?_eq_getElem hiD] at hd
        exact hd
       have hs : (D.map (stepF b []))[i]? = some (stepF b [] d) := by
        rw [List.getElem?_map, List.getElem?_eq_getElem hiD, hdD]
        rfl
       have hdr := B9.out.2.2.2.1 d (by rw [← hdD]; exact List.getElem_mem _)
       obtain ⟨g, z, rfl, _, hgl, a0, a1, _, ha⟩ := (B9.out.2.2.1.2.2.below hst.out.bo_up).at (by rw [List.length_map]; exact B9.out.2.2.1.1) hlt hs
       obtain ⟨⟨p1, p2, p3⟩, ⟨p4, p5, p6⟩, p7⟩ := z
       simp only [slV] at a0 a1
       have hnot := leaves_not (a := a) (b := b) B9.out.2.2.2.2.1 hiD
       have hnext := leaves_next (a := a) (b := b) hiD
       rw [hdD] at hnot hnext
       obtain ⟨P, hP⟩ : ∃ P, (D.take i).flatMap (leavesF a b) = P := ⟨_, rfl⟩
       rw [hP] at hnot hnext
       have hst2 := hst.out
       rw [hP] at hst2
       have hkid := hst2.bo_ex.exKids B3.out.2.1.1 hdr hnot
       obtain ⟨E, hE⟩ : ∃ E, diffF (kidsF a [d]) (kidsF b [d]) = E := ⟨_, rfl⟩
       have hEr : ∀ e ∈ E, 0 ≤ e ∧ e < 16 := fun e he => by rw [← hE] at he; exact diff_range he
       have hEn : E.Nodup := by rw [← hE]; exact diff_nodup _ _
       obtain ⟨q, hq⟩ : ∃ q, E.length = q := ⟨_, rfl⟩
       have hq16 : q ≤ 16 := by rw [← hq, ← hE]; exact diff_16 _ _
       unfold leavesF at hnext
       rw [hE] at hnext
       have hp2 : p2 = 1 := ha.1.1.symm.trans (by show ([] ++ [d]).length = 1; rfl)
       have hcall : ∀ W, Two2 wr g i (.slice p1 p2 p3) (.slice p4 p5 p6) W → Calls Tryz.prog 16 #[.slice A1 n1 c1, .slice p1 p2 p3, .slice p4 p5 p6] W (fun e w' => ∃ A c, e = .returned (.slice A q c) ∧ Hid (StepsR (fun _ => False) 47 W.heap.size (E.map (stepF x [d])) (.slice A q c) w') ∧ Below W.heap.size W w') := fun W hW => by
        obtain ⟨_, _, hb2, _⟩ := hW
        have h := answer_up A1 p1 p4 c1 p3 p6 n1 p2 p5 x [d] (kidsF b [d]) hst2.bo_ex.1 hst2.bo_lx (by rw [hp2]; rfl) ha.2.1.1 (by have := hst2.bo_hx; omega) (ok_one.2 hdr) (by omega) W ((hst2.bo_rx.below hb2).more hb2.size) ((ha.1.2.2.below hb2).more hb2.size) ((ha.2.1.2.2.below hb2).more hb2.size)
        rw [hkid, hE] at h
        refine h.mono ?_
        rintro e w' ⟨A, mm, cc, rfl, h1, h2⟩
        rw [hq] at h1
        obtain rfl : q = mm := h1.out.1
        exact ⟨A, cc, rfl, Lib.hid h1.out.2.2, h2⟩
       have HC := Lib.hid hcall
       have HDR := Lib.hid hdr
       have HE := Lib.hid (And.intro hq (And.intro hEr (And.intro hEn (And.intro hnot (And.intro hnext hst2)))))
       have HS2 : Hid (Two2 wr g i (.slice p1 p2 p3) (.slice p4 p5 p6) wr.drew) := Lib.hid ⟨a0, a1, (Below.refl _ _).drew, hgl⟩
       clear hcall hs hdD hd ha hdr hiD hq hp2 a0 a1 hst hst2 hkid hEr hEn hnot hnext hE
       go_wp2_with fail
       go_region_held3 (fun W => W.cell? ⟨g, i * 3, none⟩ = some (.slice p1 p2 p3) ∧ W.cell? ⟨g, i * 3 + 1, none⟩ = some (.slice p4 p5 p6) ∧ Below wr.heap.size wr W ∧ g < wr.heap.size)
        (first
         | exact HS2.out
         | exact two2_keep (by assumption) (by assumption))
        (first
         | (go_at_call 16; refine (HC.out _ (by assumption)).mono ?_; rintro e10 w10 ⟨A10, c10, rfl, h10, bb10⟩))
       all_goals
        have hb10 : Below wr.heap.size wr w10 := ((Below.refl _ wr).drew).trans bb10
        have HR : Hid (Both a b 1048576 w9 P x y A1 A2 n1 c1 n2 c2 w10) := Lib.hid ⟨HE.out.2.2.2.2.2.bo_ex, HE.out.2.2.2.2.2.bo_lx, HE.out.2.2.2.2.2.bo_ly, HE.out.2.2.2.2.2.bo_cx, HE.out.2.2.2.2.2.bo_cy, HE.out.2.2.2.2.2.bo_hx, HE.out.2.2.2.2.2.bo_hy, (HE.out.2.2.2.2.2.bo_rx.below hb10).more hb10.size, (HE.out.2.2.2.2.2.bo_ry.below hb10).more hb10.size, HE.out.2.2.2.2.2.bo_up.trans (hb10.mono HE.out.2.2.2.2.2.bo_up.size)⟩
        clear hb10 bb10 HC HS2
        go_wp2_with fail
        go_loopw [5, 7, 14] (fun va vb qq wk => ∃ (k n1 n2 c1 c2 : Nat) (A1 A2 : Option Addr), qq = .int .i64 k ∧ k ≤ q ∧ va = .slice A1 n1 c1 ∧ vb = .slice A2 n2 c2 ∧ Hid (Below w10.heap.size w10 wk ∧ ∃ x y, Both a b 1048576 w9 (P ++ (E.take k).map fun e => (d, e)) x y A1 A2 n1 c1 n2 c2 wk)) (fun _ _ qq _ => q - (intOf qq).toNat)
        case atStart => exact ⟨0, n1, n2, c1, c2, A1, A2, rfl, by omega, rfl, rfl, Lib.hid ⟨Below.refl _ _, x, y, by simpa using HR.out⟩⟩
        case round =>
         obtain ⟨k, n3, n4, c3, c4, A3, A4, rfl, hk, rfl, rfl, hsk⟩ := hrel
         obtain ⟨hbk, x3, y3, hsk⟩ := hsk.out
         have hEl : E.length = q := HE.out.1
         by_cases hkt : k < q
         ·have d4 : (0 : Int) ≤ (k : Int) := by omega
          have d5 : (k : Int) < (q : Int) := by omega
          have hkE : k < E.length := by omega
          obtain ⟨e, he⟩ : ∃ e, E[k] = e := ⟨_, rfl⟩
          have hs : (E.map (stepF x [d]))[k]? = some (stepF x [d] e) := by
           rw [List.getElem?_map, List.getElem?_eq_getElem hkE, he]
           rfl
          have her := HE.out.2.1 e (by rw [← he]; exact List.getElem_mem _)
          have hde : okP [d, e] := ok_two.2 ⟨HDR.out, her⟩
          have hin : (d, e) ∉ P := fun h => HE.out.2.2.2.1 _ h rfl
          have hin3 : (d, e) ∉ P ++ (E.take k).map fun e => (d, e) := fun h => by
           rcases List.mem_append.1 h with h | h
           ·exact hin h
           ·obtain ⟨e2, he2, h2⟩ := List.mem_map.1 h
            injection h2 with _ h3
            subst h3
            obtain ⟨j, hj, hj2⟩ := List.mem_take_iff_getElem.1 he2
            exact List.pairwise_iff_getElem.1 HE.out.2.2.1 j k (by omega) hkE (by omega) (hj2.trans he.symm)
          have hrecs : (stepF x [d] e).2.2 = beneath a [d, e] := by
           show (if ([d] ++ [e]).length = 1 then [] else recsF x ([d] ++ [e])) = _
           rw [if_neg (by simp)]
           unfold recsF
           rw [if_pos (by exact hde)]
           exact HE.out.2.2.2.2.2.bo_ex.exSame B3.out.2.1.1 fun k hk hm => hin ((in_leafOf d e k).1 hk ▸ hm)
          have hnext : (P ++ (E.take (k + 1)).map fun e => (d, e)) = (P ++ (E.take k).map fun e => (d, e)) ++ [(d, e)] := by
           rw [List.take_succ_eq_append_getElem hkE, he, List.map_append, List.append_assoc]
           rfl
          obtain ⟨gk, z, rfl, _, hgl, a0, a1, a2, ha⟩ := (h10.out.below hbk).at (by rw [List.length_map]; exact hEl) hkt hs
          obtain ⟨⟨p1, p2, p3⟩, ⟨p4, p5, p6⟩, ⟨p7, p8, p9⟩⟩ := z
          obtain ⟨⟨ha1, ha2, ha3⟩, _, ha4, ha5, ha6⟩ := ha
          simp only [slV] at a0 a1 a2
          rw [hrecs] at ha4 ha6
          obtain ⟨S, hS⟩ : ∃ S, beneath a [d, e] = S := ⟨_, rfl⟩
          rw [hS] at ha4 ha6
          have hstep := hsk.bo_ex.exStep ht.out hde hin3
          rw [hS, ← hnext] at hstep
          have hlen := hstep.1.exLen ht.out
          have hSo : okL S := by rw [← hS]; exact okL_sub B3.out.2.1.2 fun r hr => (beneath_mem.1 hr).1
          have hSl : p8 ≤ 1048576 := by
           have h1 := List.length_filter_le (fun r : Rc => inP [d, e] r.1) a
           have h2 : S.length ≤ a.length := by rw [← hS]; exact h1
           have h3 : S.length = p8 := ha4
           have := HX.out.1
           omega
          have hn3 := hsk.bo_hx
          have hn4 := hsk.bo_hy
          obtain ⟨V1, hV1⟩ : ∃ V, wr.alloc (.cells #[.slice p1 p2 p3, .slice p4 p5 p6, .slice p7 p8 p9] 47) = V := ⟨_, rfl⟩
          have bV : Below wr.heap.size wr V1 := by rw [← hV1]; exact (Below.refl _ wr).alloc (Nat.le_refl _) _
          have BR : Bn wr.heap.size 47 [.slice p1 p2 p3, .slice p4 p5 p6, .slice p7 p8 p9] V1 := by rw [← hV1]; exact World.alloc_heap_new _ _
          have sV : wr.heap.size < V1.heap.size := by rw [← hV1]; simp
          have HV : Hid (∀ V, Below V1.heap.size V1 V → Below wr.heap.size wr V ∧ V.cell? ⟨wr.heap.size, 0, none⟩ = some (.slice p1 p2 p3) ∧ V.cell? ⟨wr.heap.size, 2, none⟩ = some (.slice p7 p8 p9) ∧ Rs V 0 V.heap.size A3 x3 ∧ Rs V 0 V.heap.size A4 y3 ∧ Ns .i64 V V.heap.size p1 [d, e] ∧ Rs V 0 V.heap.size p7 S) := Lib.hid fun V hV => by
           have hw := bV.trans (hV.mono bV.size)
           exact ⟨hw, (hV.cell (p := ⟨wr.heap.size, 0, none⟩) sV).trans ((BR.cell 0).trans rfl), (hV.cell (p := ⟨wr.heap.size, 2, none⟩) sV).trans ((BR.cell 2).trans rfl), (hsk.bo_rx.below hw).more hw.size, (hsk.bo_ry.below hw).more hw.size, (ha3.below hw).more hw.size, (ha6.below hw).more hw.size⟩
          have v1 := HV.out V1 (Below.refl _ _)
          have y0 := v1.2.1
          have y2 := v1.2.2.1
          have hT := take_any A4 p7 c4 p9 n4 p8 y3 S hsk.bo_ly ha4 (by omega) (by omega) V1 v1.2.2.2.2.1 v1.2.2.2.2.2.2
          have eT : takeR y3 S = (takeF y3 S, 0) := by unfold takeR; rw [if_pos ⟨hsk.bo_ex.2.1.2, hSo⟩]
          rw [eT] at hT
          have HT := Lib.hid hT
          have HK := Lib.hid (And.intro hsk (And.intro hnext (And.intro hstep (And.intro hlen (And.intro hSo (And.intro ha4 (And.intro (show [d, e].length = p2 from ha1) hbk)))))))
          clear hrecs hs hT eT v1 hsk hnext hstep hlen hSo ha4 ha1 ha2 ha3 ha5 ha6 bV BR hS hin3 hin hde her he hkE
          go_wp2_with fail
          clear y0 y2
          refine HT.out.mono ?_
          rintro e11 w11 ⟨A11, m11, c11, ps11, rfl, h11, b11⟩
          obtain ⟨_, z0, z2, rx11, ry11, _, _⟩ := HV.out w11 b11
          obtain ⟨T, hTT⟩ : ∃ T, takeF y3 S = T := ⟨_, rfl⟩
          have hTl : m11 ≤ n4 + p8 := by
           have h1 := h11.out.2.1
           have h2 := takeF_len (t := S) HK.out.1.bo_ex.2.1.1
           have h3 := HK.out.1.bo_ly
           have h4 := HK.out.2.2.2.2.2.1
           simp only at h1
           omega
          rw [hTT] at h11
          have rT : Rs w11 0 w11.heap.size A11 T := by
           have h := h11.out.2.2.2.rs.less (Nat.zero_le _)
           rwa [h11.out.1] at h
          have HL := Lib.hid (laid_any A4 A11 c4 c11 n4 m11 y3 T HK.out.1.bo_ly HK.out.1.bo_cy h11.out.2.1 (by omega) w11 ry11 rT)
          have B11 := Lib.hid b11
          have HTT := Lib.hid hTT
          clear h11 b11 rT rx11 ry11 hTT HT
          go_wp2_with fail
          refine HL.out.mono ?_
          rintro e12' w12 ⟨A12, m12, c12, rfl, h12, b12⟩
          obtain ⟨Y, hY⟩ : ∃ Y, T.foldl withR y3 = Y := ⟨_, rfl⟩
          rw [hY] at h12
          have B12 := Lib.hid (B11.out.trans (b12.mono B11.out.size))
          obtain ⟨_, z0', z2', rx12, _, rp12, rs12⟩ := HV.out w12 B12.out
          have hYs : (takeF y3 S).foldl withR y3 = Y := by rw [HTT.out, hY]
          have hex := HK.out.2.2.1
          have hlen := HK.out.2.2.2.1
          rw [hYs] at hex hlen
          have hYl : m12 ≤ 1048576 := by
           have h1 := h12.out.1
           have h2 := hlen.2
           have h3 := HX.out.1
           omega
          have hG := give_any A12 p7 p1 c12 p9 p3 m12 p8 p2 Y S [d, e] h12.out.1 HK.out.2.2.2.2.2.1 HK.out.2.2.2.2.2.2.1 (by omega) (by omega) (by have := HK.out.2.2.2.2.2.2.1; simp only [List.length_cons, List.length_nil] at this; omega) w12 h12.out.2.2 rs12 rp12
          have eG : giveR Y [d, e] S = giveF Y [d, e] S := by unfold giveR; rw [if_pos ⟨hex.1.2.1.2, HK.out.2.2.2.2.1⟩]
          rw [eG] at hG
          have HG := Lib.hid hG
          have H12 := Lib.hid (And.intro h12.out (And.intro hex hlen))
          clear h12 b12 hG eG hYs hex hlen hY rx12 rp12 rs12 z0 z2 HL HTT
          go_wp2_with fail
          refine HG.out.mono ?_
          rintro e13 w13 ⟨A13, m13, c13, rfl, h13, b13⟩
          obtain ⟨G, hGG⟩ : ∃ G, giveF Y [d, e] S = G := ⟨_, rfl⟩
          have hGl : m13 ≤ m12 := by
           have h1 := giveF_len (t := S) H12.out.2.1.1.2.1.1 [d, e]
           have h2 := H12.out.1.1
           have h3 := h13.out.1
           omega
          have hex := H12.out.2.1
          have hlen := H12.out.2.2
          rw [hGG] at h13 hex hlen
          have B13 := Lib.hid (B12.out.trans (b13.mono B12.out.size))
          have rx13 := (HV.out w13 B13.out).2.2.2.1
          have hT2 := take_any A3 A13 c3 c13 n3 m13 x3 G HK.out.1.bo_lx h13.out.1 (by omega) (by omega) w13 rx13 h13.out.2.2
          have eT : takeR x3 G = (takeF x3 G, 0) := by unfold takeR; rw [if_pos ⟨HK.out.1.bo_ex.1.2, hex.2⟩]
          rw [eT] at hT2
          have HT2 := Lib.hid hT2
          have ry13 : Rs w13 0 w13.heap.size A12 Y := (H12.out.1.2.2.below b13).more b13.size
          have H13 := Lib.hid (And.intro ry13 (And.intro hex.1 (And.intro hlen h13.out.1)))
          clear h13 b13 hT2 eT hex hlen rx13 ry13 hGG HG
          go_wp2_with fail
          refine HT2.out.mono ?_
          rintro e14 w14 ⟨A14, m14, c14, ps14, rfl, h14, b14⟩
          obtain ⟨T2, hT2⟩ : ∃ T, takeF x3 G = T := ⟨_, rfl⟩
          have hex := H13.out.2.1
          have hlen := H13.out.2.2.1
          have hTl2 : m14 ≤ n3 + m13 := by
           have h1 := h14.out.2.1
           have h2 := takeF_len (t := G) HK.out.1.bo_ex.1.1
           have h3 := HK.out.1.bo_lx
           have h4 := H13.out.2.2.2
           simp only at h1
           omega
          rw [hT2] at h14 hex hlen
          have rT : Rs w14 0 w14.heap.size A14 T2 := by
           have h := h14.out.2.2.2.rs.less (Nat.zero_le _)
           rwa [h14.out.1] at h
          have B14 := Lib.hid (B13.out.trans (b14.mono B13.out.size))
          have rx14 := (HV.out w14 B14.out).2.2.2.1
          have HL2 := Lib.hid (laid_any A3 A14 c3 c14 n3 m14 x3 T2 HK.out.1.bo_lx HK.out.1.bo_cx h14.out.2.1 (by omega) w14 rx14 rT)
          have ry14 : Rs w14 0 w14.heap.size A12 Y := (H13.out.1.below b14).more b14.size
          have H14 := Lib.hid (And.intro ry14 (And.intro hex hlen))
          clear h14 b14 hT2 rT hex hlen rx14 ry14 HT2
          go_wp2_with fail
          refine HL2.out.mono ?_
          rintro e15 w15 ⟨A15, m15, c15, rfl, h15, b15⟩
          have B15 := (HV.out w15 (B14.out.trans (b15.mono B14.out.size))).1
          have hsl := HX.out.1
          have hl1 := H14.out.2.2.1
          have hl2 := H14.out.2.2.2
          have HF : Hid (Below w10.heap.size w10 w15 ∧ ∃ x y, Both a b 1048576 w9 (P ++ (E.take (k + 1)).map fun e => (d, e)) x y A15 A12 m15 c15 m12 c12 w15) := Lib.hid ⟨HK.out.2.2.2.2.2.2.2.trans (B15.mono HK.out.2.2.2.2.2.2.2.size), _, _, H14.out.2.1, h15.out.1, H12.out.1.1, h15.out.2.1, H12.out.1.2.1, by have := h15.out.1; omega, by have := H12.out.1.1; omega, h15.out.2.2, (H14.out.1.below b15).more b15.size, HK.out.1.bo_up.trans (B15.mono HK.out.1.bo_up.size)⟩
          clear h15 b15 B15 hl1 hl2 HL2 H14 H13 H12 HK HV
          go_wp2_with fail
          go_roundw
          case rel => exact ⟨k + 1, m15, m12, c15, c12, A15, A12, by go_num, by omega, rfl, rfl, HF⟩
          case measure => simp only [intOf]; omega
         ·have hkq : k = q := by omega
          subst hkq
          have hall : E.take k = E := List.take_of_length_le (by omega)
          rw [hall, ← HE.out.2.2.2.2.1] at hsk
          have HF : Hid (∃ x y, Both a b 1048576 w9 ((D.take (i + 1)).flatMap (leavesF a b)) x y A3 A4 n3 c3 n4 c4 wr) := Lib.hid ⟨x3, y3, hsk⟩
          clear hsk hbk hall HR h10
          go_wp2_with fail
          go_roundw
          case rel => exact ⟨i + 1, n3, n4, c3, c4, A3, A4, by go_num, by omega, rfl, rfl, HF⟩
          case measure => simp only [intOf]; omega
      ·have him : i = m9 := by omega
       subst him
       have hfull : D.take i = D := List.take_of_length_le (by have := B9.out.2.2.1.1; omega)
       have hst2 := hst.out
       rw [hfull] at hst2
       have hdone := hst2.bo_ex.exDone ht.out (HX.out.2.1 (by simp)) (by rw [B9.out.2.2.2.2.2])
       obtain ⟨hxy, hxn⟩ := hdone
       subst hxy
       have hx1 := hst2.bo_hx
       have hy1 := hst2.bo_hy
       have hS1 := Code.srecs_any A1 A2 c1 c2 n1 n2 x x hst2.bo_lx hst2.bo_ly wr hst2.bo_rx hst2.bo_ry (by omega) (by omega)
       rw [decide_eq_true rfl] at hS1
       have HS1 := Lib.hid hS1
       have hrw := (B9.out.2.1.below hst2.bo_up).more hst2.bo_up.size
       rw [← hxn] at hrw
       have BF := Lib.hid (And.intro (B9.out.1.trans (hst2.bo_up.mono B9.out.1.size)) (And.intro hst2.bo_rx (And.intro hrw hst2.bo_lx)))
       have hW := HX.out.2.2
       rw [← hxn] at hW
       clear hS1 hst hst2 hfull hrw
       go_wp2_with fail
       refine HS1.out.mono ?_
       rintro e16 w16 ⟨rfl, b16⟩
       have hS2 := Code.srecs_any A1 Aw c1 cw n1 nw x x BF.out.2.2.2 hW w16 ((BF.out.2.1.below b16).more b16.size) ((BF.out.2.2.1.below b16).more b16.size) (by omega) (by have := BF.out.2.2.2; omega)
       rw [decide_eq_true rfl] at hS2
       have HS2 := Lib.hid hS2
       have B16 := Lib.hid (BF.out.1.trans (b16.mono BF.out.1.size))
       clear hS2 b16 HS1
       go_wp2_with fail
       refine HS2.out.mono ?_
       rintro e17 w17 ⟨rfl, b17⟩
       have HF := Lib.hid (B16.out.trans (b17.mono B16.out.size))
       clear b17 HS2
       go_wp2_with fail
       go_ret
       exact ⟨rfl, HF.out⟩
-- ROW BEGIN
set_option maxRecDepth 100000 in
theorem contract (H : Type) (enc : TypeId × Value → H) (W : World) (base : Nat) (args : Array Value) (ds gs : List (DataW H)) (before : List MemPlace)
  (hval : ∀ (j : Nat) t v, Tryz.f6.params[j]? = some t → args[j]? = some v → Value.okWide Tryz.prog W .any base t v)
  (hW : DataW.Whole enc Tryz.prog Tryz.f6.params.toList Rows.mendBothSpec.vars false W args.toList ds gs before)
  (hsz : (DataW.weightsEach Tryz.prog (Tryz.f6.params.toList ++ Rows.mendBothSpec.plain.varTypes Tryz.prog) (ds ++ gs)).all (· ≤ reachBytes) = true) (hk : Rows.uptoSmall H (ds ++ gs) = true) :
  Calls Tryz.prog 6 args W fun e W' => ∃ v, e = .returned v ∧ Rows.mendBothSpec.post enc Tryz.prog Tryz.f6 false true false false W args v W' := by
 have hW' := hW
 obtain ⟨p, q, hA0, hV, hbef, _, _⟩ := hW
 have hA : DataW.TrodAll enc Tryz.prog W 0 (fun _ => true) true Tryz.f6.params.toList args.toList ds p := hA0
 have hA1 := hA
 rw [Tryz.params6] at hA hval hsz
 obtain ⟨v0, vs0, d0, ds0, p0, q0, hargs, rfl, rfl, h0, r0⟩ := trodAll_cons hA
 obtain ⟨v1, vs1, d1, ds1, p1, q1, rfl, rfl, rfl, h1, r1⟩ := trodAll_cons r0
 obtain ⟨rfl, rfl, rfl⟩ := trodAll_nil r1
 obtain rfl : args = #[v0, v1] := by cases args; simp_all
 obtain ⟨rfl, rfl⟩ := trodVars_none hV
 clear hA hargs
 obtain ⟨A0, c0, a0, rfl, n0, l0, b0⟩ := Tree.arg_recs (hval 0 22 v0 rfl rfl) h0 (Vers.wt_arg hsz (j := 0) rfl rfl)
 obtain ⟨A1, c1, a1, rfl, n1, l1, b1⟩ := Tree.arg_recs (hval 1 22 v1 rfl rfl) h1 (Vers.wt_arg hsz (j := 1) rfl rfl)
 have hbulk : a0.length + a1.length ≤ 1048576 := by
  have h := Bulk.bound hk
  have e0 := Mend.recs_bulk h0
  have e1 := Mend.recs_bulk h1
  simp only [List.append_nil, Rows.uptoBulkAll] at h
  omega
 refine (walk W A0 c0 a0 n0 b0 l0 A1 c1 a1 n1 b1 l1 hbulk).mono fun e W' ⟨he, hb⟩ => ?_
 subst he
 exact ⟨_, rfl, law_post Facts.laid (by rfl) Tryz.underlying4 (by rw [Tryz.params6]; decide +kernel) hW' hA1 rfl hbef rfl rfl rfl hb⟩

set_option maxRecDepth 100000 in
theorem lifted (os : Os) (started : os.Started) (H : Type) (enc : TypeId × Value → H) (F : Stop.Interp) :
  ReturnsInHanded {} Tryz.checked os 6 .any ((Rows.OpenSpec.upto Rows.mendBothSpec).pre6 enc Tryz.prog Tryz.f6 Rows.mendBothUptoRow.domain false) (((Rows.OpenSpec.upto Rows.mendBothSpec).at F).post enc Tryz.prog Tryz.f6 false true false false) := by
 refine returnsInHanded_of_cond_sized (C := Tryz.checked) (s := Rows.OpenSpec.upto Rows.mendBothSpec) (k := Rows.uptoSmall) rfl Facts.own started (by kernel_rfl) Tryz.func6
  (OpenSpec.witness (enc := enc) (C := Tryz.checked) (s := Rows.OpenSpec.upto Rows.mendBothSpec) (k := Rows.uptoSmall) rfl false ⟨#[], #[.slice none 0 0, .slice none 0 0], []⟩ 8 (by kernel_rfl) (by kernel_rfl) (by kernel_rfl)
   (x := ([.nil, .nil], [], [])) (by kernel_rfl) rfl (by kernel_rfl)) ?_
 intro W base args ds gs before hval hW _ hk hsz _
 exact contract H enc W base args ds gs before hval hW hsz hk

theorem holds : Rows.MendBothUptoSaid :=
 OpenClaim.holds_of_cond 6 Tryz.f6 rfl rfl rfl rfl rfl rfl rfl ⟨rfl, rfl, rfl, rfl, rfl⟩ rfl rfl rfl rfl rfl (by kernel_rfl) Tryz.func6 (by kernel_rfl)
  (of_decide_eq_true (by kernel_rfl)) (by unfold Func.isWrapper; first | (rw [if_pos (by decide +kernel)]; kernel_rfl) | (rw [if_neg (by decide +kernel)]; exact ⟨rfl, rfl⟩))
  (fun os started H enc _ F => lifted os started H enc F)
-- ROW END
end MendBoth
end Go.Proofs.YtekhaejhmlebbaaGreat
