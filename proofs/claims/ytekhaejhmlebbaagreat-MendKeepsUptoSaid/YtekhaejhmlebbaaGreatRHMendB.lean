/-
 Several texts of this family in one: MendTakeRef, MendLaid, MendDoubt, MendDiffer, MendStep, MendAns.
-/
import Derived.Test.YtekhaejhmlebbaaGreatRHMendA
import Derived.Test.YtekhaejhmlebbaaGreatRGCode
import Derived.Test.YtekhaejhmlebbaaGreatRHTreeC
/-
 The document's Take (layer 14).
-/
namespace Go.Proofs.YtekhaejhmlebbaaGreat
namespace Mend
open Go.RowKit Vers Num Ring Disk Blk Tree
open Go.Proofs.YtekhaejhmlebbaaGreat.Code hiding Bn
attribute [local go_sem ↓] Go.wp_at_zero Go.wp_at_succ
def takeR (own theirs : List Rc) : List Rc × Int := if okL own ∧ okL theirs then (takeF own theirs, 0) else ([], 1)
def TakeT (r : List Rc × Int) (V : World) (e : Ending) (w' : World) : Prop := ∃ A m c, e = .returned (.tuple #[.slice A m c, .int .i64 r.2]) ∧ Hid (r.1.length = m ∧ m ≤ c ∧ Rs w' 0 w'.heap.size A r.1) ∧ Below V.heap.size V w'
theorem take_no {l l' : List Rc} (h : ¬ (okL l ∧ okL l')) {V w : World} (hb : Below V.heap.size V w) : TakeT (takeR l l') V (.returned (.tuple #[.slice none 0 0, .int .i64 1])) w := by
 unfold takeR
 rw [if_neg h]
 exact ⟨none, 0, 0, rfl, Lib.hid ⟨rfl, Nat.le_refl _, rs_nil⟩, hb⟩
theorem rb_more {w : World} {B B' : Nat} {A : Option Addr} {l : List Rc} (h : Rb w B A l) (hB : B ≤ B') : Rb w B' A l := fun hp => by
 obtain ⟨b, off, e, hb, hc⟩ := h hp
 refine ⟨b, off, e, hb, fun j hj => ?_⟩
 obtain ⟨A', c', h0, h1, h2, h3⟩ := hc j hj
 exact ⟨A', c', h0, h1, h2.more hB, h3⟩
theorem merge_len (now : List Rc) (r : Rc) : (mergeR now r).length ≤ now.length + 1 := by
 unfold mergeR
 split
 ·exact with_len _ _
 ·omega
theorem fold_take {l : List Rc} {k : Nat} {r : Rc} (was : List Rc) (hk : k < l.length) (hr : l.getD k r0 = r) : (l.take (k + 1)).foldl mergeR was = mergeR ((l.take k).foldl mergeR was) r := by
 rw [take_at hk, hr, List.foldl_append]
 rfl
def TakeUp (l' was : List Rc) (n' nw : Nat) (U : World) (v q : Value) (wr : World) : Prop :=
 ∃ (k na : Nat) (Aa : Option Addr) (ca : Nat), q = .int .i64 k ∧ k ≤ n' ∧ v = .slice Aa na ca ∧ na ≤ nw + k ∧ Hid (((l'.take k).foldl mergeR was).length = na ∧ na ≤ ca ∧ Rb wr wr.heap.size Aa ((l'.take k).foldl mergeR was) ∧ Below U.heap.size U wr)
set_option maxRecDepth 100000 in
set_option maxHeartbeats 4000000 in
theorem ref_take_any (A A' : Option Addr) (c c' n n' : Nat) (l l' : List Rc) (hn : l.length = n) (hn' : l'.length = n') (hbig : n + n' ≤ 3518437208780) (V : World) (hr : Rs V 0 V.heap.size A l) (hr' : Rs V 0 V.heap.size A' l') :
  Calls Tryz.prog 19 #[.slice A n c, .slice A' n' c'] V (TakeT (takeR l l') V) := by
 obtain ⟨i0, hi, hz0, hz1, hz2⟩ := info_parts info_rec'
 have H1 := Lib.hid (held_any A c n V.heap.size l hn (by omega) V (Nat.le_refl _) (rs_rb hr))
 have HP := Lib.hid (And.intro hn (And.intro hn' (rs_rb hr')))
 clear hn hn' hr hr'
 go_enter Tryz.func19, Tryz.ntmps19
 go_wp2_with fail
 refine H1.out.mono ?_
 rintro e1 w1 (⟨hok, Aa, na, ca, ps, rfl, h1, b1⟩ | ⟨hno, rfl, b1⟩)
 ·have H2 := Lib.hid (held_any A' c' n' V.heap.size l' HP.out.2.1 (by omega) w1 b1.size (Rb.below HP.out.2.2 (Nat.le_refl _) b1))
  have HA := Lib.hid (And.intro hok (And.intro h1.out b1))
  clear H1 h1 b1 hok
  go_wp2_with fail
  refine H2.out.mono ?_
  rintro e2 w2 (⟨hok2, Ab, nb, cb, ps2, rfl, h2, b2⟩ | ⟨hno, rfl, b2⟩)
  ·have b12 : Below V.heap.size V w2 := HA.out.2.2.trans (b2.mono HA.out.2.2.size)
   have hrA : Rb w2 V.heap.size Aa (heldF l) := by
    have h := (RowX.keepB HA.out.2.1.2.2.2 b2 HA.out.2.2.size).rb
    rw [HA.out.2.1.1] at h
    exact h
   have hlA := held_len l
   rw [HP.out.1, HA.out.2.1.2.1] at hlA
   obtain ⟨was, hwas⟩ : ∃ W, heldF l = W := ⟨_, rfl⟩
   have hT : takeR l l' = ((nowF was l').filter (fun r => !decide (r.2 = getF was r.1)), 0) := by
    unfold takeR
    rw [if_pos ⟨HA.out.1, hok2⟩, ← hwas]
    rfl
   rw [hwas] at hrA
   have HB := Lib.hid (And.intro b12 (And.intro hrA (And.intro (show was.length = na by rw [← hwas]; exact HA.out.2.1.2.1) (And.intro hT (And.intro b12.size HA.out.2.1.2.2.1)))))
   have HI : Hid (TakeUp l' was n' na w2 (.slice Aa na ca) (.int .i64 0) w2) := Lib.hid ⟨0, na, Aa, ca, rfl, by omega, rfl, by omega, Lib.hid ⟨HB.out.2.2.1, HA.out.2.1.2.2.1, rb_more hrA b12.size, Below.refl _ _⟩⟩
   clear H2 h2 b2 hok2 hrA b12 hwas hT HA
   go_wp2_with fail
   go_loopw [8, 9] (fun v q wr => TakeUp l' was n' na w2 v q wr) (fun _ q _ => n' - (intOf q).toNat)
   case atStart => exact HI.out
   case round =>
    clear HI
    obtain ⟨i, nx, Ax, cx, rfl, hi3, rfl, hx, hst⟩ := hrel
    have hbw : Below w2.heap.size w2 wr := hst.out.2.2.2
    by_cases hlt : i < n'
    ·have d1 : (0 : Int) ≤ (i : Int) := by omega
     have d2 : (i : Int) < (n' : Int) := by omega
     have hbV := HB.out.1.trans (hbw.mono HB.out.2.2.2.2.1)
     obtain ⟨pb, off, A4, c4, rfl, _, hbB, k0, k1, k2, k3⟩ := HP.out.2.2.at HP.out.2.1 (Nat.le_refl _) hbV hlt rfl
     obtain ⟨r, hrr⟩ : ∃ r, l'.getD i r0 = r := ⟨_, rfl⟩
     rw [hrr] at k0 k1 k2 k3
     obtain ⟨key, lv⟩ := r
     simp only at k0 k1 k2 k3
     obtain ⟨ml, hml⟩ : ∃ ml, lv.length = ml := ⟨_, rfl⟩
     rw [hml] at k1 k3
     have hpw : pb < wr.heap.size := Nat.lt_of_lt_of_le hbB hbV.size
     obtain ⟨N, hN⟩ : ∃ N, (l'.take i).foldl mergeR was = N := ⟨_, rfl⟩
     rw [hN] at hst
     obtain ⟨mr, hmr⟩ : ∃ mr, mergeF (getF N key) lv = mr := ⟨_, rfl⟩
     obtain ⟨rl, rc⟩ := mr
     obtain ⟨rn, hrn⟩ : ∃ x, rl.length = x := ⟨_, rfl⟩
     have hdr : Below wr.heap.size wr wr.drew := ⟨rfl, rfl, rfl, Nat.le_refl _, fun _ _ => rfl⟩
     have hstep : (l'.take (i + 1)).foldl mergeR was = if rc = 0 then withR N (key, rl) else N := by
      rw [fold_take was (by have := HP.out.2.1; omega) hrr, hN]
      unfold mergeR
      rw [hmr]
     have HPP : Hid (Calls Tryz.prog 28 #[.slice Ax nx cx, .string key] wr.drew (fun e w5 => ∃ A6 m6 c6, e = .returned (.slice A6 m6 c6) ∧ w5.cell? ⟨pb, off + i * 2, none⟩ = some (.string key) ∧ w5.cell? ⟨pb, off + i * 2 + 1, none⟩ = some (.slice A4 ml c4) ∧ Hid (Calls Tryz.prog 54 #[.slice A6 m6 c6, .slice A4 ml c4] w5 (fun e w6 => ∃ A7 c7, e = .returned (.tuple #[.slice A7 rn c7, .int .i64 rc]) ∧ w6.cell? ⟨pb, off + i * 2, none⟩ = some (.string key) ∧ w6.cell? ⟨pb, off + i * 2 + 1, none⟩ = some (.slice A4 ml c4) ∧ Hid (rn ≤ c7 ∧ Vs w6 0 w6.heap.size A7 rl ∧ Below wr.heap.size wr w6))))) := Lib.hid (by
      have hGw : Rb wr.drew wr.heap.size Ax N := Rb.below hst.out.2.2.1 (Nat.le_refl _) hdr
      refine (get_any Ax cx nx wr.heap.size N hst.out.1 key wr.drew (Nat.le_refl _) hGw (by omega)).mono ?_
      rintro e w5 ⟨A6, m6, c6, rfl, h6, rfl⟩
      refine ⟨A6, m6, c6, rfl, k0, k1, Lib.hid ?_⟩
      refine (ref_merge_any A6 A4 c6 c4 m6 ml _ lv h6.out.1 hml wr.drew h6.out.2.2.2 ((k2.more hbV.size).below hdr) h6.out.2.2.1 k3.2.1).mono ?_
      rintro e w6 ⟨A7, c7, rfl, hc7, hv7, b6⟩
      rw [hmr] at hc7 hv7 ⊢
      exact ⟨A7, c7, by rw [← hrn], (b6.cell (p := ⟨pb, _, none⟩) hpw).trans k0, (b6.cell (p := ⟨pb, _, none⟩) hpw).trans k1, Lib.hid ⟨by rw [← hrn]; exact hc7, hv7, hdr.trans b6⟩⟩)
     have HST := Lib.hid (And.intro hst.out (And.intro hstep (And.intro hmr (And.intro hrn (And.intro k3.2.2 hbw)))))
     clear hst k2 hml k3 hrr hpw hdr hbw hbV hN hstep hmr hrn
     go_wp2_with fail
     go_region_held3 (fun W => W.cell? ⟨pb, off + i * 2, none⟩ = some (.string key) ∧ W.cell? ⟨pb, off + i * 2 + 1, none⟩ = some (.slice A4 ml c4))
      (first | exact ⟨k0, k1⟩ | (refine ⟨?_, ?_⟩ <;> assumption))
      (first
       | (go_at_call 28; refine HPP.out.mono ?_; rintro e w5 ⟨A6, m6, c6, rfl, q0, q1, HH⟩)
       | (go_at_call 54; refine HH.out.mono ?_; rintro e w6 ⟨A7, c7, rfl, z0, z1, HB6⟩))
     all_goals
      have hb26 := HST.out.2.2.2.2.2.trans (HB6.out.2.2.mono HST.out.2.2.2.2.2.size)
      have hRb6 : Rb w6 w6.heap.size Ax N := rb_more (Rb.below HST.out.1.2.2.1 (Nat.le_refl _) HB6.out.2.2) HB6.out.2.2.size
      by_cases hrc : rc = 0
      ·subst hrc
       have hr512 : rl.length ≤ 512 := (merge_right HST.out.2.2.1).2.2.2.2.1
       have HW := Lib.hid (with_any Ax A7 cx c7 nx rn w6.heap.size N key rl HST.out.1.1 (by omega) HST.out.2.2.2.1 ⟨HB6.out.1, by have := HST.out.2.2.2.1; omega, HST.out.2.2.2.2.1⟩ w6 (Nat.le_refl _) hRb6 HB6.out.2.1)
       have HF : Hid (∀ A8 n8 c8 (ps8 : List Pr) w7, ps8.map Prod.fst = withR N (key, rl) → (withR N (key, rl)).length = n8 → n8 ≤ c8 → RowX w6.heap.size w6.heap.size w7 (.slice A8 n8 c8) ps8 → Below w6.heap.size w6 w7 → TakeUp l' was n' na w2 (.slice A8 n8 c8) (.int .i64 ((i : Int) + 1)) w7) := Lib.hid fun A8 n8 c8 ps8 w7 g1 g2 g3 g4 g5 => by
        have h6 := with_len N (key, rl)
        rw [HST.out.1.1, g2] at h6
        have hrb := g4.rb
        rw [g1] at hrb
        refine ⟨i + 1, n8, A8, c8, by push_cast; rfl, by omega, rfl, by omega, Lib.hid ?_⟩
        rw [HST.out.2.1, if_pos rfl]
        exact ⟨g2, g3, rb_more hrb g5.size, hb26.trans (g5.mono hb26.size)⟩
       clear hb26 hRb6 hr512
       go_wp2_with fail
       refine HW.out.mono ?_
       rintro e7 w7 ⟨A8, n8, c8, ps8, rfl, h8, b8⟩
       have HF2 := Lib.hid (HF.out A8 n8 c8 ps8 w7 h8.out.1 h8.out.2.1 h8.out.2.2.1 h8.out.2.2.2 b8)
       clear h8 b8 HW
       go_wp2_with fail
       go_roundw
       case rel => exact HF2.out
       case measure => simp only [intOf]; omega
      ·have e1 : (rc == 0) = false := by simp [hrc]
       have HF2 : Hid (TakeUp l' was n' na w2 (.slice Ax nx cx) (.int .i64 ((i : Int) + 1)) w6) := Lib.hid (by
        refine ⟨i + 1, nx, Ax, cx, by push_cast; rfl, by omega, rfl, by omega, Lib.hid ?_⟩
        rw [HST.out.2.1, if_neg hrc]
        exact ⟨HST.out.1.1, HST.out.1.2.1, hRb6, hb26⟩)
       clear hb26 hRb6 hrc
       go_wp2_with fail
       go_roundw
       case rel => exact HF2.out
       case measure => simp only [intOf]; omega
    ·have him : i = n' := by omega
     subst him
     have hfull : l'.take i = l' := List.take_of_length_le (by have := HP.out.2.1; omega)
     rw [hfull] at hst
     obtain ⟨N, hN⟩ : ∃ N, l'.foldl mergeR was = N := ⟨_, rfl⟩
     rw [hN] at hst
     have hT : takeR l l' = (N.filter (fun r => !decide (r.2 = getF was r.1)), 0) := by rw [← hN]; exact HB.out.2.2.2.1
     have hbV := HB.out.1.trans (hbw.mono HB.out.2.2.2.2.1)
     have HN := Lib.hid (And.intro hst.out.1 (And.intro hst.out.2.2.1 (And.intro hT (And.intro hbV (And.intro (Rb.below HB.out.2.1 HB.out.2.2.2.2.1 hbw) HB.out.2.2.1)))))
     clear hst hfull hN hT hbw hbV HB
     obtain ⟨U9, hU9⟩ : ∃ U9, U9 = wr := ⟨_, rfl⟩
     subst hU9
     go_wp2_with fail
     go_loopw [12, 13] (fun v q wq => GrowR (fun r => !decide (r.2 = getF was r.1)) U9.heap.size nx N U9 v q wq) (fun _ q _ => nx - (intOf q).toNat)
     case atStart => exact ⟨0, 0, none, 0, rfl, by omega, rfl, Nat.le_refl _, Lib.hid ⟨[], rfl, rfl, rowX_nil _ _ _, Below.refl _ _⟩⟩
     case round =>
      obtain ⟨j, x, A1, c1, rfl, hj3, rfl, hxj, hst⟩ := hrel
      have hbw : Below U9.heap.size U9 wr := by obtain ⟨_, _, _, _, h⟩ := hst.out; exact h
      by_cases hlt2 : j < nx
      ·have d1 : (0 : Int) ≤ (j : Int) := by omega
       have d2 : (j : Int) < (nx : Int) := by omega
       have hnx : nx ≤ 3518437208780 := by omega
       obtain ⟨pb, off, A4, c4, rfl, _, hbB, k0, k1, k2, k3⟩ := HN.out.2.1.at HN.out.1 (Nat.le_refl _) hbw hlt2 rfl
       obtain ⟨r, hrr⟩ : ∃ r, N.getD j r0 = r := ⟨_, rfl⟩
       rw [hrr] at k0 k1 k2 k3
       obtain ⟨key, lv⟩ := r
       simp only at k0 k1 k2 k3
       obtain ⟨ml, hml⟩ : ∃ ml, lv.length = ml := ⟨_, rfl⟩
       rw [hml] at k1 k3
       have hpw : pb < wr.heap.size := Nat.lt_of_lt_of_le hbB hbw.size
       have hbs := hbw.size
       have hVw := Nat.le_trans HN.out.2.2.2.1.size hbs
       obtain ⟨b, hb⟩ : ∃ b, decide (lv = getF was key) = b := ⟨_, rfl⟩
       have hdr : Below wr.heap.size wr wr.drew := ⟨rfl, rfl, rfl, Nat.le_refl _, fun _ _ => rfl⟩
       have HPP : Hid (Calls Tryz.prog 28 #[.slice Aa na ca, .string key] wr.drew (fun e w5 => ∃ A6 m6 c6, e = .returned (.slice A6 m6 c6) ∧ w5.cell? ⟨pb, off + j * 2, none⟩ = some (.string key) ∧ w5.cell? ⟨pb, off + j * 2 + 1, none⟩ = some (.slice A4 ml c4) ∧ Hid (Calls Tryz.prog 55 #[.slice A4 ml c4, .slice A6 m6 c6] w5 (fun e w6 => e = .returned (.bool b) ∧ w6.cell? ⟨pb, off + j * 2, none⟩ = some (.string key) ∧ w6.cell? ⟨pb, off + j * 2 + 1, none⟩ = some (.slice A4 ml c4) ∧ Hid (Below wr.heap.size wr w6))))) := Lib.hid (by
        have hGw := Rb.below HN.out.2.2.2.2.1 HN.out.2.2.2.1.size (hbw.trans (hdr.mono hbs))
        refine (get_any Aa ca na V.heap.size was HN.out.2.2.2.2.2 key wr.drew hVw hGw (by omega)).mono ?_
        rintro e w5 ⟨A6, m6, c6, rfl, h6, rfl⟩
        refine ⟨A6, m6, c6, rfl, k0, k1, Lib.hid ?_⟩
        refine (ref_sameV_any A4 A6 c4 c6 ml m6 lv _ hml h6.out.1 wr.drew ((k2.more hbs).below hdr) (h6.out.2.2.2.more hVw) k3.2.1 h6.out.2.2.1).mono ?_
        rintro e w6 ⟨rfl, b6⟩
        exact ⟨by rw [← hb], (b6.cell (p := ⟨pb, _, none⟩) hpw).trans k0, (b6.cell (p := ⟨pb, _, none⟩) hpw).trans k1, Lib.hid (hdr.trans b6)⟩)
       have hf : (fun r : Rc => !decide (r.2 = getF was r.1)) (key, lv) = !b := by rw [← hb]
       have HST := Lib.hid (And.intro hst.out (And.intro k2 (And.intro hml (And.intro k3 (And.intro hrr (And.intro hf hbs))))))
       have l1 : (x + 1) * 40 ≤ 140737488355328 := by omega
       clear hst k2 hml k3 hrr hb hpw hdr hbw hbs hVw hf
       go_wp2_with fail
       go_region_held3 (fun W => W.cell? ⟨pb, off + j * 2, none⟩ = some (.string key) ∧ W.cell? ⟨pb, off + j * 2 + 1, none⟩ = some (.slice A4 ml c4))
        (first | exact ⟨k0, k1⟩ | (refine ⟨?_, ?_⟩ <;> assumption))
        (first
         | (go_at_call 28; refine HPP.out.mono ?_; rintro e w5 ⟨A6, m6, c6, rfl, q0, q1, HH⟩)
         | (go_at_call 55; refine HH.out.mono ?_; rintro e w6 ⟨rfl, z0, z1, HB6⟩))
       all_goals
        cases b
        ·obtain ⟨ps6, g1, g2, g3, g4⟩ := GrowR.more HST.out.1 hlt2 hxj HN.out.1 HST.out.2.2.2.2.1 HST.out.2.2.2.2.2.1 HB6.out (Nat.le_refl _) HST.out.2.2.1 (HST.out.2.1.below (HB6.out.mono HST.out.2.2.2.2.2.2)) HST.out.2.2.2.1
         have HG := Lib.hid g4
         clear g1 g4
         go_wp2_with (at_builtin; refine wpList_append_r _ rfl (.tmp 82) (.tmp 87) 22 rfl U9.heap.size 53 i0 _ 40 Tryz.underlying22 hi hz0 hz1 hz2 rfl _ x ps6 rfl g2 ((key, lv), A4, c4) ml HST.out.2.2.1 1 rfl l1 (by omega) g3 ?_; intro v7 w7 o7 gg7 at7; obtain ⟨A7, c7, rfl⟩ := own_form o7)
         have HF := Lib.hid (HG.out w7 A7 c7 o7 gg7)
         clear o7 gg7 at7 g2
         go_roundw
         case rel => exact HF.out
         case measure => simp only [intOf]; omega
        ·have HF := Lib.hid (GrowR.skip HST.out.1 hlt2 hxj HN.out.1 HST.out.2.2.2.2.1 HST.out.2.2.2.2.2.1 HB6.out HST.out.2.2.2.2.2.2)
         go_wp2_with fail
         go_roundw
         case rel => exact HF.out
         case measure => simp only [intOf]; omega
      ·have him : j = nx := by omega
       subst him
       have hfull : N.take j = N := List.take_of_length_le (by have := HN.out.1; omega)
       have HE : Hid (TakeT (takeR l l') V (.returned (.tuple #[.slice A1 x c1, .int .i64 0])) wr) := Lib.hid (by
        obtain ⟨ps, h1, h2, h9, h4⟩ := hst.out
        rw [hfull] at h1
        have hrs := h9.rb
        rw [h1] at hrs
        have ho := h9.1
        rw [h2] at ho
        rw [HN.out.2.2.1]
        exact ⟨A1, x, c1, rfl, Lib.hid ⟨by show (N.filter _).length = x; rw [← h1, List.length_map, h2], (own_low ho).1, rb_rs hrs h4.size⟩, HN.out.2.2.2.1.trans (h4.mono HN.out.2.2.2.1.size)⟩)
       clear hst hfull hbw
       go_wp2_with fail
       go_ret2
       exact HE.out
  ·have HE := Lib.hid (take_no (fun h => hno h.2) (HA.out.2.2.trans (b2.mono HA.out.2.2.size)) (l := l) (l' := l'))
   clear H2 b2 hno
   go_wp2_with fail
   go_ret2
   exact HE.out
 ·have HE := Lib.hid (take_no (fun h => hno h.1) b1 (l := l) (l' := l'))
  clear H1 b1 hno
  go_wp2_with fail
  go_ret2
  exact HE.out
end Mend
end Go.Proofs.YtekhaejhmlebbaaGreat

/-
 firthlaw14.laid and both: records laid into a list, records merged into a list (layer 14).
-/
namespace Go.Proofs.YtekhaejhmlebbaaGreat
namespace Mend
open Go.RowKit Vers Num Ring Disk Blk Tree
open Go.Proofs.YtekhaejhmlebbaaGreat.Code hiding Bn
attribute [local go_sem ↓] Go.wp_at_zero Go.wp_at_succ
end Mend
end Go.Proofs.YtekhaejhmlebbaaGreat

/-
 firthref14.doubt and Doubt: has an unlike place one hash? (layer 14)
-/
namespace Go.Proofs.YtekhaejhmlebbaaGreat
namespace Mend
open Go.RowKit Vers Num Ring Disk Blk Tree
open Go.Proofs.YtekhaejhmlebbaaGreat.Code hiding Bn
attribute [local go_sem ↓] Go.wp_at_zero Go.wp_at_succ
def dbF (x y : List Rc) (p : List Int) : Prop := hashF x p = hashF y p ∧ recsF x p ≠ recsF y p
instance (x y : List Rc) (p : List Int) : Decidable (dbF x y p) := by unfold dbF; infer_instance
theorem recs_len (all : List Rc) (p : List Int) : (recsF all p).length ≤ all.length := by
 unfold recsF
 split
 ·exact beneath_len _ _
 ·simp
end Mend
end Go.Proofs.YtekhaejhmlebbaaGreat

/-
 The document's Differ (layer 14; TreeDiffer without the place, which TreeDoc has).
-/
namespace Go.Proofs.YtekhaejhmlebbaaGreat
namespace Tree
open Go.RowKit Vers Num Ring Disk Blk
open Go.Proofs.YtekhaejhmlebbaaGreat.Code hiding Bn
attribute [local go_sem ↓] Go.wp_at_zero Go.wp_at_succ

end Tree
end Go.Proofs.YtekhaejhmlebbaaGreat

/-
 Steps of an answer in memory: rows of three slices each (layer 14).
-/
namespace Go.Proofs.YtekhaejhmlebbaaGreat
namespace Mend
open Go.RowKit Vers Num Ring Disk Blk Tree
open Go.Proofs.YtekhaejhmlebbaaGreat.Code hiding Bn
abbrev Sl3 := Option Addr × Nat × Nat
abbrev St := Sl3 × Sl3 × Sl3
def slV (x : Sl3) : Value := .slice x.1 x.2.1 x.2.2
def stc (x : St) : List Value := [slV x.1, slV x.2.1, slV x.2.2]
def stcs (l : List St) : List Value := l.flatMap stc
theorem stcs_append (l m : List St) : stcs (l ++ m) = stcs l ++ stcs m := by simp [stcs]
theorem stcs_one (x : St) : stcs [x] = stc x := by simp [stcs]
theorem stcs_at (l : List St) : ∀ (j : Nat) (x : St), l[j]? = some x → ∀ r, r < 3 → (stcs l)[j * 3 + r]? = (stc x)[r]? := by
 induction l with
 | nil => intro j x h; simp at h
 | cons y l ih =>
  intro j x hj r hr
  have hc : stcs (y :: l) = stc y ++ stcs l := by simp [stcs]
  rw [hc]
  cases j with
  | zero =>
   simp at hj
   subst hj
   rw [Nat.zero_mul, Nat.zero_add, List.getElem?_append_left (by simp [stc]; omega)]
  | succ j =>
   rw [List.getElem?_cons_succ] at hj
   rw [List.getElem?_append_right (by simp [stc]; omega)]
   have e : (j + 1) * 3 + r - (stc y).length = j * 3 + r := by simp [stc]; omega
   rw [e]
   exact ih j x hj r hr
section
variable {P : Program} {w : World}
theorem wpList_append_st {ops : Array Oper} {rest : List Oper} {o : Oper} {a : Act} {Q : Exit → Act → World → Prop} (hgd : o.guard = none) (s x : Operand) (t : TypeId)
  (ho : o.op = .call { callee := .builtin .append, args := #[s, x], argTypes := #[t, t] })
  (base : Nat) (e : TypeId) (i : TypeInfo) (z : Value) (bytes : Nat) (ht : P.underlying t = some (.slice e)) (hi : P.info? e = some i) (hz : i.zero = some z)
  (hsize : i.size = 3) (hby : i.bytes = bytes) (hzs : z.cells.size = 3)
  (v : Value) (n : Nat) (l : List St) (hs : a.eval s = v) (hown : w.ownsRow base e 3 v n (stcs l)) (y : St) (c : Nat)
  (hx : a.eval x = .slice (some ⟨w.heap.size, 0, none⟩) 1 c)
  (hbytes : (n + 1) * bytes ≤ 140737488355328) (hn : n + 1 ≤ 140737488355328) (hbase : base ≤ w.heap.size)
  (h : ∀ v' w', w'.ownsRow base e 3 v' (n + 1) (stcs (l ++ [y])) → w.grownBy w' v.ownBlock → (v'.ownBlock = v.ownBlock ∨ ∃ g, v'.ownBlock = some g ∧ w.heap.size ≤ g) → wpList P ops Q rest (a.put o.dst v') w') :
  wpList P ops Q (o :: rest) a (w.alloc (.cells #[.slice y.1.1 y.1.2.1 y.1.2.2, .slice y.2.1.1 y.2.1.2.1 y.2.1.2.2, .slice y.2.2.1 y.2.2.2.1 y.2.2.2.2] e)) := by
 refine wpList_append_own_at _ hgd s x t ho base e i z 3 bytes ht hi hz hsize hby hzs (by omega) v n (stcs l) hs (hown.alloc _) ⟨w.heap.size, 0, none⟩ 1 c (stc y) hx rfl ?_ ?_ (by unfold maxLen; omega) hbytes (by simp; omega) ?_
 ·intro j u' hj
  match j, hj with
  | 0, hj => simp [stc, slV] at hj; subst hj; simp [Addr.add]
  | 1, hj => simp [stc, slV] at hj; subst hj; simp [Addr.add]
  | 2, hj => simp [stc, slV] at hj; subst hj; simp [Addr.add]
 ·intro u' hu
  simp [stc, slV] at hu
  rcases hu with rfl | rfl | rfl <;> rfl
 ·intro v' w' hown' hg _ hat
  refine h v' w' ?_ ?_ ?_
  ·rw [stcs_append, stcs_one]; exact hown'
  ·exact ⟨hg.os, hg.tape, hg.output, Nat.le_trans (by simp) hg.size, fun k hk hne => (hg.block k (by simp; omega) hne).trans (Below.heap_alloc w _ k hk)⟩
  ·rcases hat with h1 | h1
   ·exact .inl h1
   ·exact .inr ⟨_, h1, by simp⟩
end
def StIs (w : World) (x : St) (s : Stp3) : Prop :=
 (s.1.length = x.1.2.1 ∧ x.1.2.1 ≤ 4 ∧ Ns .i64 w w.heap.size x.1.1 s.1) ∧ (s.2.1.length = x.2.1.2.1 ∧ x.2.1.2.1 ≤ 16 ∧ Ns .u64 w w.heap.size x.2.1.1 s.2.1) ∧ s.2.2.length = x.2.2.2.1 ∧ x.2.2.2.1 ≤ 3518437208882 ∧ Rs w 0 w.heap.size x.2.2.1 s.2.2
theorem StIs.below {w w' : World} {x : St} {s : Stp3} (h : StIs w x s) (hb : Below w.heap.size w w') : StIs w' x s :=
 ⟨⟨h.1.1, h.1.2.1, (h.1.2.2.below hb).more hb.size⟩, ⟨h.2.1.1, h.2.1.2.1, (h.2.1.2.2.below hb).more hb.size⟩, h.2.2.1, h.2.2.2.1, (h.2.2.2.2.below hb).more hb.size⟩
def Sta (G : Nat → Prop) (w : World) (P : World → Prop) : Prop := ∀ w', w.heap.size ≤ w'.heap.size → (∀ k, k < w.heap.size → ¬ G k → w'.heap[k]? = w.heap[k]?) → P w'
theorem Sta.now {G : Nat → Prop} {w : World} {P : World → Prop} (h : Sta G w P) : P w := h w (Nat.le_refl _) fun _ _ _ => rfl
theorem Sta.less {G G' : Nat → Prop} {w : World} {P : World → Prop} (h : Sta G w P) (hG : ∀ k, G' k → G k) : Sta G' w P := fun w' hs hk => h w' hs fun k h1 h2 => hk k h1 fun h3 => h2 (hG k h3)
theorem Sta.go {G G' : Nat → Prop} {w w' : World} {P : World → Prop} (h : Sta G w P) (hs : w.heap.size ≤ w'.heap.size) (hk : ∀ k, k < w.heap.size → ¬ G k → w'.heap[k]? = w.heap[k]?) (hG : ∀ k, k < w.heap.size → G' k → G k) : Sta G' w' P := fun w2 hs2 hk2 => h w2 (Nat.le_trans hs hs2) fun k h1 h2 => (hk2 k (Nat.lt_of_lt_of_le h1 hs) fun h3 => h2 (hG k h1 h3)).trans (hk k h1 h2)
def StepsR (X : Nat → Prop) (t : TypeId) (base : Nat) (L : List Stp3) (v : Value) (w : World) : Prop :=
 ∃ sts : List St, sts.length = L.length ∧ w.ownsRow base t 3 v L.length (stcs sts) ∧ ∀ (j : Nat) (s : Stp3) (x : St), L[j]? = some s → sts[j]? = some x → Sta (fun k => X k ∨ v.ownBlock = some k) w (fun W => StIs W x s)
theorem steps_nil (X : Nat → Prop) (t : TypeId) (base : Nat) (w : World) : StepsR X t base [] (.slice none 0 0) w := ⟨[], rfl, World.ownsRow_nil _ _ _ _, fun j s x h => by simp at h⟩
theorem StepsR.less {X X' : Nat → Prop} {t : TypeId} {base : Nat} {L : List Stp3} {v : Value} {w : World} (h : StepsR X t base L v w) (hX : ∀ k, X' k → X k) : StepsR X' t base L v w := by
 obtain ⟨sts, h1, h2, h3⟩ := h
 exact ⟨sts, h1, h2, fun j s x a b => (h3 j s x a b).less fun k hk => hk.imp (hX k) id⟩
theorem StepsR.low {X : Nat → Prop} {t : TypeId} {base base' : Nat} {L : List Stp3} {v : Value} {w : World} (h : StepsR X t base L v w) (hb : base' ≤ base) : StepsR X t base' L v w := by
 obtain ⟨sts, h1, ⟨h0, h2⟩, h3⟩ := h
 refine ⟨sts, h1, ⟨h0, ?_⟩, h3⟩
 rcases h2 with h2 | ⟨g, cap, cur, e, hg, hr⟩
 ·exact .inl h2
 ·exact .inr ⟨g, cap, cur, e, Nat.le_trans hb hg, hr⟩
theorem StepsR.chg {X : Nat → Prop} {t : TypeId} {base : Nat} {L : List Stp3} {v : Value} {w w' : World} (h : StepsR X t base L v w) (hc : Chg X w w') (hX : ∀ g, v.ownBlock = some g → ¬ X g) : StepsR X t base L v w' := by
 obtain ⟨sts, h1, h2, h3⟩ := h
 refine ⟨sts, h1, Blk.own_keep h2 fun g hg => hc.block g (h2.lt g hg).2 (hX g hg), fun j s x a b => (h3 j s x a b).go hc.size (fun k hk hn => hc.block k hk fun e => hn (.inl e)) fun k _ hk => hk⟩
theorem StepsR.below {X : Nat → Prop} {t : TypeId} {base : Nat} {L : List Stp3} {v : Value} {w w' : World} (h : StepsR X t base L v w) (hb : Below w.heap.size w w') : StepsR X t base L v w' := by
 obtain ⟨sts, h1, h2, h3⟩ := h
 exact ⟨sts, h1, own_below h2 hb (Nat.le_refl _), fun j s x a b => (h3 j s x a b).go hb.size (fun k hk _ => hb.block k hk) fun k _ hk => hk⟩
theorem steps_more {X : Nat → Prop} {t : TypeId} {base : Nat} {L : List Stp3} {sts : List St} {v v' : Value} {Z w' : World} {n : Nat} {s : Stp3} {y : St} (hn : L.length = n) (h1 : sts.length = n)
  (h3 : ∀ (j : Nat) (s : Stp3) (x : St), L[j]? = some s → sts[j]? = some x → Sta (fun k => X k ∨ v.ownBlock = some k) Z (fun W => StIs W x s)) (hy : Sta (fun k => X k ∨ v.ownBlock = some k) Z (fun W => StIs W y s)) (_hX : ∀ k, X k → k < Z.heap.size)
  (ho : w'.ownsRow base t 3 v' (n + 1) (stcs (sts ++ [y]))) (hg : Z.grownBy w' v.ownBlock) (hat : v'.ownBlock = v.ownBlock ∨ ∃ g, v'.ownBlock = some g ∧ Z.heap.size ≤ g) : StepsR X t base (L ++ [s]) v' w' := by
 have hgo : ∀ P, Sta (fun k => X k ∨ v.ownBlock = some k) Z P → Sta (fun k => X k ∨ v'.ownBlock = some k) w' P := fun P hP => hP.go hg.size (fun k hk hn => hg.block k hk fun e => hn (.inr e.symm)) fun k hk hk2 => by
  rcases hk2 with hk2 | hk2
  ·exact .inl hk2
  ·rcases hat with e | ⟨g, e, hge⟩
   ·exact .inr (e ▸ hk2)
   ·rw [e] at hk2
    injection hk2 with hk2
    omega
 refine ⟨sts ++ [y], by simp [h1, hn], by rw [List.length_append, hn]; exact ho, fun j s' x a b => ?_⟩
 rcases Nat.lt_or_ge j n with hj | hj
 ·rw [List.getElem?_append_left (by omega)] at a b
  exact hgo _ (h3 j s' x a b)
 ·rw [List.getElem?_append_right (by omega)] at a b
  have hj0 : j - n = 0 := by
   have := (List.getElem?_eq_some_iff.1 a).1
   simp at this
   omega
  rw [hn, hj0] at a
  rw [h1, hj0] at b
  simp at a b
  subst a
  subst b
  exact hgo _ hy
theorem info_step : (Tryz.prog.info? 47).map (fun i => (i.zero, i.size, i.bytes)) = some (some (.agg #[.slice none 0 0, .slice none 0 0, .slice none 0 0]), 3, 72) := by kernel_rfl
end Mend
end Go.Proofs.YtekhaejhmlebbaaGreat

/-
 What an answer tells (layer 14).
-/
namespace Go.Proofs.YtekhaejhmlebbaaGreat
namespace Mend
open Go.RowKit Vers Num Ring Disk Blk Tree
open Go.Proofs.YtekhaejhmlebbaaGreat.Code hiding Bn
attribute [local go_sem ↓] Go.wp_at_zero Go.wp_at_succ
def AnsT (t : TypeId) (L : List Stp3) (V : World) (e : Ending) (w' : World) : Prop := ∃ A m c, e = .returned (.slice A m c) ∧ Hid (L.length = m ∧ m ≤ c ∧ StepsR (fun _ => False) t V.heap.size L (.slice A m c) w') ∧ Below V.heap.size V w'
theorem no_answer {l : List Rc} {p hs : List Int} (h : ¬ (okL l ∧ okP p ∧ p.length ≤ 1)) (t : TypeId) {V w : World} (hb : Below V.heap.size V w) : AnsT t (answerF l p hs) V (.returned (.slice none 0 0)) w := by
 unfold answerF
 rw [if_neg h]
 exact ⟨none, 0, 0, rfl, Lib.hid ⟨rfl, Nat.le_refl _, steps_nil _ _ _ _⟩, hb⟩
end Mend
end Go.Proofs.YtekhaejhmlebbaaGreat
