/-
  Several texts of this family in one: MendTakeRef, MendMap, MendTake, TreeSpoil, SpanRow.
-/
import Derived.Test.YtbhidndgnldheaaGreatK17
import Derived.Test.YtbhidndgnldheaaGreatK15
import Derived.Test.YtbhidndgnldheaaGreatK14
import Derived.Test.YtbhidndgnldheaaGreatK11
import Derived.Test.YtbhidndgnldheaaGreatK1
import Derived.Deep.Slices
import Derived.Deep.Fields
import Derived.Lib.SmallJoins
/-
 The document's Take (layer 14).
-/
namespace Go.Proofs.YtbhidndgnldheaaGreat
namespace Mend
open Go.RowKit Vers Num Ring Disk Blk Tree
open Go.Proofs.YtbhidndgnldheaaGreat.Code hiding Bn
attribute [local go_sem ↓] Go.wp_at_zero Go.wp_at_succ
def takeR (own theirs : List Rc) : List Rc × Int := if okL own ∧ okL theirs then (takeF own theirs, 0) else ([], 1)
def TakeT (r : List Rc × Int) (V : World) (e : Ending) (w' : World) : Prop := ∃ A m c, e = .returned (.tuple #[.slice A m c, .int .i64 r.2]) ∧ Hid (r.1.length = m ∧ m ≤ c ∧ Rs w' 0 w'.heap.size A r.1) ∧ Below V.heap.size V w'
theorem take_no {l l' : List Rc} (h : ¬ (okL l ∧ okL l')) {V w : World} (hb : Below V.heap.size V w) : TakeT (takeR l l') V (.returned (.tuple #[.slice none 0 0, .int .i64 1])) w := by
 unfold takeR
 rw [if_neg h]
 exact ⟨none, 0, 0, rfl, Lib.hid ⟨rfl, Nat.le_refl _, rs_nil⟩, hb⟩
theorem rb_more {w : World} {B B' : Nat} {A : Option Addr} {l : List Rc} (h : Rb w B A l) (hB : B ≤ B') : Rb w B' A l := fun hp => by
 obtain ⟨b, off, e, hb, hc⟩ := h hp
 refine ⟨b, off, e, hb, fun j hj => ?_⟩
 obtain ⟨A', c', h0, h1, h2, h3⟩ := hc j hj
 exact ⟨A', c', h0, h1, h2.more hB, h3⟩
theorem merge_len (now : List Rc) (r : Rc) : (mergeR now r).length ≤ now.length + 1 := by
 unfold mergeR
 split
 ·exact with_len _ _
 ·omega
theorem fold_take {l : List Rc} {k : Nat} {r : Rc} (was : List Rc) (hk : k < l.length) (hr : l.getD k r0 = r) : (l.take (k + 1)).foldl mergeR was = mergeR ((l.take k).foldl mergeR was) r := by
 rw [take_at hk, hr, List.foldl_append]
 rfl
def TakeUp (l' was : List Rc) (n' nw : Nat) (U : World) (v q : Value) (wr : World) : Prop :=
 ∃ (k na : Nat) (Aa : Option Addr) (ca : Nat), q = .int .i64 k ∧ k ≤ n' ∧ v = .slice Aa na ca ∧ na ≤ nw + k ∧ Hid (((l'.take k).foldl mergeR was).length = na ∧ na ≤ ca ∧ Rb wr wr.heap.size Aa ((l'.take k).foldl mergeR was) ∧ Below U.heap.size U wr)
set_option maxRecDepth 100000 in
set_option maxHeartbeats 4000000 in
theorem ref_take_any (A A' : Option Addr) (c c' n n' : Nat) (l l' : List Rc) (hn : l.length = n) (hn' : l'.length = n') (hbig : n + n' ≤ 3518437208780) (V : World) (hr : Rs V 0 V.heap.size A l) (hr' : Rs V 0 V.heap.size A' l') :
  Calls Tryz.prog 12 #[.slice A n c, .slice A' n' c'] V (TakeT (takeR l l') V) := by
 obtain ⟨i0, hi, hz0, hz1, hz2⟩ := info_parts info_rec'
 have H1 := Lib.hid (held_any A c n V.heap.size l hn (by omega) V (Nat.le_refl _) (rs_rb hr))
 have HP := Lib.hid (And.intro hn (And.intro hn' (rs_rb hr')))
 clear hn hn' hr hr'
 go_enter Tryz.func12, Tryz.ntmps12
 go_wp2_with fail
 refine H1.out.mono ?_
 rintro e1 w1 (⟨hok, Aa, na, ca, ps, rfl, h1, b1⟩ | ⟨hno, rfl, b1⟩)
 ·have H2 := Lib.hid (held_any A' c' n' V.heap.size l' HP.out.2.1 (by omega) w1 b1.size (Rb.below HP.out.2.2 (Nat.le_refl _) b1))
  have HA := Lib.hid (And.intro hok (And.intro h1.out b1))
  clear H1 h1 b1 hok
  go_wp2_with fail
  refine H2.out.mono ?_
  rintro e2 w2 (⟨hok2, Ab, nb, cb, ps2, rfl, h2, b2⟩ | ⟨hno, rfl, b2⟩)
  ·have b12 : Below V.heap.size V w2 := HA.out.2.2.trans (b2.mono HA.out.2.2.size)
   have hrA : Rb w2 V.heap.size Aa (heldF l) := by
    have h := (RowX.keepB HA.out.2.1.2.2.2 b2 HA.out.2.2.size).rb
    rw [HA.out.2.1.1] at h
    exact h
   have hlA := held_len l
   rw [HP.out.1, HA.out.2.1.2.1] at hlA
   obtain ⟨was, hwas⟩ : ∃ W, heldF l = W := ⟨_, rfl⟩
   have hT : takeR l l' = ((nowF was l').filter (fun r => !decide (r.2 = getF was r.1)), 0) := by
    unfold takeR
    rw [if_pos ⟨HA.out.1, hok2⟩, ← hwas]
    rfl
   rw [hwas] at hrA
   have HB := Lib.hid (And.intro b12 (And.intro hrA (And.intro (show was.length = na by rw [← hwas]; exact HA.out.2.1.2.1) (And.intro hT (And.intro b12.size HA.out.2.1.2.2.1)))))
   have HI : Hid (TakeUp l' was n' na w2 (.slice Aa na ca) (.int .i64 0) w2) := Lib.hid ⟨0, na, Aa, ca, rfl, by omega, rfl, by omega, Lib.hid ⟨HB.out.2.2.1, HA.out.2.1.2.2.1, rb_more hrA b12.size, Below.refl _ _⟩⟩
   clear H2 h2 b2 hok2 hrA b12 hwas hT HA
   go_wp2_with fail
   go_loopw [8, 9] (fun v q wr => TakeUp l' was n' na w2 v q wr) (fun _ q _ => n' - (intOf q).toNat)
   case atStart => exact HI.out
   case round =>
    clear HI
    obtain ⟨i, nx, Ax, cx, rfl, hi3, rfl, hx, hst⟩ := hrel
    have hbw : Below w2.heap.size w2 wr := hst.out.2.2.2
    by_cases hlt : i < n'
    ·have d1 : (0 : Int) ≤ (i : Int) := by omega
     have d2 : (i : Int) < (n' : Int) := by omega
     have hbV := HB.out.1.trans (hbw.mono HB.out.2.2.2.2.1)
     obtain ⟨pb, off, A4, c4, rfl, _, hbB, k0, k1, k2, k3⟩ := HP.out.2.2.at HP.out.2.1 (Nat.le_refl _) hbV hlt rfl
     obtain ⟨r, hrr⟩ : ∃ r, l'.getD i r0 = r := ⟨_, rfl⟩
     rw [hrr] at k0 k1 k2 k3
     obtain ⟨key, lv⟩ := r
     simp only at k0 k1 k2 k3
     obtain ⟨ml, hml⟩ : ∃ ml, lv.length = ml := ⟨_, rfl⟩
     rw [hml] at k1 k3
     have hpw : pb < wr.heap.size := Nat.lt_of_lt_of_le hbB hbV.size
     obtain ⟨N, hN⟩ : ∃ N, (l'.take i).foldl mergeR was = N := ⟨_, rfl⟩
     rw [hN] at hst
     obtain ⟨mr, hmr⟩ : ∃ mr, mergeF (getF N key) lv = mr := ⟨_, rfl⟩
     obtain ⟨rl, rc⟩ := mr
     obtain ⟨rn, hrn⟩ : ∃ x, rl.length = x := ⟨_, rfl⟩
     have hdr : Below wr.heap.size wr wr.drew := ⟨rfl, rfl, rfl, Nat.le_refl _, fun _ _ => rfl⟩
     have hstep : (l'.take (i + 1)).foldl mergeR was = if rc = 0 then withR N (key, rl) else N := by
      rw [fold_take was (by have := HP.out.2.1; omega) hrr, hN]
      unfold mergeR
      rw [hmr]
     have HPP : Hid (Calls Tryz.prog 38 #[.slice Ax nx cx, .string key] wr.drew (fun e w5 => ∃ A6 m6 c6, e = .returned (.slice A6 m6 c6) ∧ w5.cell? ⟨pb, off + i * 2, none⟩ = some (.string key) ∧ w5.cell? ⟨pb, off + i * 2 + 1, none⟩ = some (.slice A4 ml c4) ∧ Hid (Calls Tryz.prog 37 #[.slice A6 m6 c6, .slice A4 ml c4] w5 (fun e w6 => ∃ A7 c7, e = .returned (.tuple #[.slice A7 rn c7, .int .i64 rc]) ∧ w6.cell? ⟨pb, off + i * 2, none⟩ = some (.string key) ∧ w6.cell? ⟨pb, off + i * 2 + 1, none⟩ = some (.slice A4 ml c4) ∧ Hid (rn ≤ c7 ∧ Vs w6 0 w6.heap.size A7 rl ∧ Below wr.heap.size wr w6))))) := Lib.hid (by
      have hGw : Rb wr.drew wr.heap.size Ax N := Rb.below hst.out.2.2.1 (Nat.le_refl _) hdr
      refine (get_any Ax cx nx wr.heap.size N hst.out.1 key wr.drew (Nat.le_refl _) hGw (by omega)).mono ?_
      rintro e w5 ⟨A6, m6, c6, rfl, h6, rfl⟩
      refine ⟨A6, m6, c6, rfl, k0, k1, Lib.hid ?_⟩
      refine (ref_merge_any A6 A4 c6 c4 m6 ml _ lv h6.out.1 hml wr.drew h6.out.2.2.2 ((k2.more hbV.size).below hdr) h6.out.2.2.1 k3.2.1).mono ?_
      rintro e w6 ⟨A7, c7, rfl, hc7, hv7, b6⟩
      rw [hmr] at hc7 hv7 ⊢
      exact ⟨A7, c7, by rw [← hrn], (b6.cell (p := ⟨pb, _, none⟩) hpw).trans k0, (b6.cell (p := ⟨pb, _, none⟩) hpw).trans k1, Lib.hid ⟨by rw [← hrn]; exact hc7, hv7, hdr.trans b6⟩⟩)
     have HST := Lib.hid (And.intro hst.out (And.intro hstep (And.intro hmr (And.intro hrn (And.intro k3.2.2 hbw)))))
     clear hst k2 hml k3 hrr hpw hdr hbw hbV hN hstep hmr hrn
     go_wp2_with fail
     go_region_held3 (fun W => W.cell? ⟨pb, off + i * 2, none⟩ = some (.string key) ∧ W.cell? ⟨pb, off + i * 2 + 1, none⟩ = some (.slice A4 ml c4))
      (first | exact ⟨k0, k1⟩ | (refine ⟨?_, ?_⟩ <;> assumption))
      (first
       | (go_at_call 38; refine HPP.out.mono ?_; rintro e w5 ⟨A6, m6, c6, rfl, q0, q1, HH⟩)
       | (go_at_call 37; refine HH.out.mono ?_; rintro e w6 ⟨A7, c7, rfl, z0, z1, HB6⟩))
     all_goals
      have hb26 := HST.out.2.2.2.2.2.trans (HB6.out.2.2.mono HST.out.2.2.2.2.2.size)
      have hRb6 : Rb w6 w6.heap.size Ax N := rb_more (Rb.below HST.out.1.2.2.1 (Nat.le_refl _) HB6.out.2.2) HB6.out.2.2.size
      by_cases hrc : rc = 0
      ·subst hrc
       have hr512 : rl.length ≤ 512 := (merge_right HST.out.2.2.1).2.2.2.2.1
       have HW := Lib.hid (with_any Ax A7 cx c7 nx rn w6.heap.size N key rl HST.out.1.1 (by omega) HST.out.2.2.2.1 ⟨HB6.out.1, by have := HST.out.2.2.2.1; omega, HST.out.2.2.2.2.1⟩ w6 (Nat.le_refl _) hRb6 HB6.out.2.1)
       have HF : Hid (∀ A8 n8 c8 (ps8 : List Pr) w7, ps8.map Prod.fst = withR N (key, rl) → (withR N (key, rl)).length = n8 → n8 ≤ c8 → RowX w6.heap.size w6.heap.size w7 (.slice A8 n8 c8) ps8 → Below w6.heap.size w6 w7 → TakeUp l' was n' na w2 (.slice A8 n8 c8) (.int .i64 ((i : Int) + 1)) w7) := Lib.hid fun A8 n8 c8 ps8 w7 g1 g2 g3 g4 g5 => by
        have h6 := with_len N (key, rl)
        rw [HST.out.1.1, g2] at h6
        have hrb := g4.rb
        rw [g1] at hrb
        refine ⟨i + 1, n8, A8, c8, by push_cast; rfl, by omega, rfl, by omega, Lib.hid ?_⟩
        rw [HST.out.2.1, if_pos rfl]
        exact ⟨g2, g3, rb_more hrb g5.size, hb26.trans (g5.mono hb26.size)⟩
       clear hb26 hRb6 hr512
       go_wp2_with fail
       refine HW.out.mono ?_
       rintro e7 w7 ⟨A8, n8, c8, ps8, rfl, h8, b8⟩
       have HF2 := Lib.hid (HF.out A8 n8 c8 ps8 w7 h8.out.1 h8.out.2.1 h8.out.2.2.1 h8.out.2.2.2 b8)
       clear h8 b8 HW
       go_wp2_with fail
       go_roundw
       case rel => exact HF2.out
       case measure => simp only [intOf]; omega
      ·have e1 : (rc == 0) = false := by simp [hrc]
       have HF2 : Hid (TakeUp l' was n' na w2 (.slice Ax nx cx) (.int .i64 ((i : Int) + 1)) w6) := Lib.hid (by
        refine ⟨i + 1, nx, Ax, cx, by push_cast; rfl, by omega, rfl, by omega, Lib.hid ?_⟩
        rw [HST.out.2.1, if_neg hrc]
        exact ⟨HST.out.1.1, HST.out.1.2.1, hRb6, hb26⟩)
       clear hb26 hRb6 hrc
       go_wp2_with fail
       go_roundw
       case rel => exact HF2.out
       case measure => simp only [intOf]; omega
    ·have him : i = n' := by omega
     subst him
     have hfull : l'.take i = l' := List.take_of_length_le (by have := HP.out.2.1; omega)
     rw [hfull] at hst
     obtain ⟨N, hN⟩ : ∃ N, l'.foldl mergeR was = N := ⟨_, rfl⟩
     rw [hN] at hst
     have hT : takeR l l' = (N.filter (fun r => !decide (r.2 = getF was r.1)), 0) := by rw [← hN]; exact HB.out.2.2.2.1
     have hbV := HB.out.1.trans (hbw.mono HB.out.2.2.2.2.1)
     have HN := Lib.hid (And.intro hst.out.1 (And.intro hst.out.2.2.1 (And.intro hT (And.intro hbV (And.intro (Rb.below HB.out.2.1 HB.out.2.2.2.2.1 hbw) HB.out.2.2.1)))))
     clear hst hfull hN hT hbw hbV HB
     obtain ⟨U9, hU9⟩ : ∃ U9, U9 = wr := ⟨_, rfl⟩
     subst hU9
     go_wp2_with fail
     go_loopw [12, 13] (fun v q wq => GrowR (fun r => !decide (r.2 = getF was r.1)) U9.heap.size nx N U9 v q wq) (fun _ q _ => nx - (intOf q).toNat)
     case atStart => exact ⟨0, 0, none, 0, rfl, by omega, rfl, Nat.le_refl _, Lib.hid ⟨[], rfl, rfl, rowX_nil _ _ _, Below.refl _ _⟩⟩
     case round =>
      obtain ⟨j, x, A1, c1, rfl, hj3, rfl, hxj, hst⟩ := hrel
      have hbw : Below U9.heap.size U9 wr := by obtain ⟨_, _, _, _, h⟩ := hst.out; exact h
      by_cases hlt2 : j < nx
      ·have d1 : (0 : Int) ≤ (j : Int) := by omega
       have d2 : (j : Int) < (nx : Int) := by omega
       have hnx : nx ≤ 3518437208780 := by omega
       obtain ⟨pb, off, A4, c4, rfl, _, hbB, k0, k1, k2, k3⟩ := HN.out.2.1.at HN.out.1 (Nat.le_refl _) hbw hlt2 rfl
       obtain ⟨r, hrr⟩ : ∃ r, N.getD j r0 = r := ⟨_, rfl⟩
       rw [hrr] at k0 k1 k2 k3
       obtain ⟨key, lv⟩ := r
       simp only at k0 k1 k2 k3
       obtain ⟨ml, hml⟩ : ∃ ml, lv.length = ml := ⟨_, rfl⟩
       rw [hml] at k1 k3
       have hpw : pb < wr.heap.size := Nat.lt_of_lt_of_le hbB hbw.size
       have hbs := hbw.size
       have hVw := Nat.le_trans HN.out.2.2.2.1.size hbs
       obtain ⟨b, hb⟩ : ∃ b, decide (lv = getF was key) = b := ⟨_, rfl⟩
       have hdr : Below wr.heap.size wr wr.drew := ⟨rfl, rfl, rfl, Nat.le_refl _, fun _ _ => rfl⟩
       have HPP : Hid (Calls Tryz.prog 38 #[.slice Aa na ca, .string key] wr.drew (fun e w5 => ∃ A6 m6 c6, e = .returned (.slice A6 m6 c6) ∧ w5.cell? ⟨pb, off + j * 2, none⟩ = some (.string key) ∧ w5.cell? ⟨pb, off + j * 2 + 1, none⟩ = some (.slice A4 ml c4) ∧ Hid (Calls Tryz.prog 13 #[.slice A4 ml c4, .slice A6 m6 c6] w5 (fun e w6 => e = .returned (.bool b) ∧ w6.cell? ⟨pb, off + j * 2, none⟩ = some (.string key) ∧ w6.cell? ⟨pb, off + j * 2 + 1, none⟩ = some (.slice A4 ml c4) ∧ Hid (Below wr.heap.size wr w6))))) := Lib.hid (by
        have hGw := Rb.below HN.out.2.2.2.2.1 HN.out.2.2.2.1.size (hbw.trans (hdr.mono hbs))
        refine (get_any Aa ca na V.heap.size was HN.out.2.2.2.2.2 key wr.drew hVw hGw (by omega)).mono ?_
        rintro e w5 ⟨A6, m6, c6, rfl, h6, rfl⟩
        refine ⟨A6, m6, c6, rfl, k0, k1, Lib.hid ?_⟩
        refine (ref_sameV_any A4 A6 c4 c6 ml m6 lv _ hml h6.out.1 wr.drew ((k2.more hbs).below hdr) (h6.out.2.2.2.more hVw) k3.2.1 h6.out.2.2.1).mono ?_
        rintro e w6 ⟨rfl, b6⟩
        exact ⟨by rw [← hb], (b6.cell (p := ⟨pb, _, none⟩) hpw).trans k0, (b6.cell (p := ⟨pb, _, none⟩) hpw).trans k1, Lib.hid (hdr.trans b6)⟩)
       have hf : (fun r : Rc => !decide (r.2 = getF was r.1)) (key, lv) = !b := by rw [← hb]
       have HST := Lib.hid (And.intro hst.out (And.intro k2 (And.intro hml (And.intro k3 (And.intro hrr (And.intro hf hbs))))))
       have l1 : (x + 1) * 40 ≤ 140737488355328 := by omega
       clear hst k2 hml k3 hrr hb hpw hdr hbw hbs hVw hf
       go_wp2_with fail
       go_region_held3 (fun W => W.cell? ⟨pb, off + j * 2, none⟩ = some (.string key) ∧ W.cell? ⟨pb, off + j * 2 + 1, none⟩ = some (.slice A4 ml c4))
        (first | exact ⟨k0, k1⟩ | (refine ⟨?_, ?_⟩ <;> assumption))
        (first
         | (go_at_call 38; refine HPP.out.mono ?_; rintro e w5 ⟨A6, m6, c6, rfl, q0, q1, HH⟩)
         | (go_at_call 13; refine HH.out.mono ?_; rintro e w6 ⟨rfl, z0, z1, HB6⟩))
       all_goals
        cases b
        ·obtain ⟨ps6, g1, g2, g3, g4⟩ := GrowR.more HST.out.1 hlt2 hxj HN.out.1 HST.out.2.2.2.2.1 HST.out.2.2.2.2.2.1 HB6.out (Nat.le_refl _) HST.out.2.2.1 (HST.out.2.1.below (HB6.out.mono HST.out.2.2.2.2.2.2)) HST.out.2.2.2.1
         have HG := Lib.hid g4
         clear g1 g4
         go_wp2_with (at_builtin; refine wpList_append_r _ rfl (.tmp 82) (.tmp 87) 23 rfl U9.heap.size 46 i0 _ 40 Tryz.underlying23 hi hz0 hz1 hz2 rfl _ x ps6 rfl g2 ((key, lv), A4, c4) ml HST.out.2.2.1 1 rfl l1 (by omega) g3 ?_; intro v7 w7 o7 gg7 at7; obtain ⟨A7, c7, rfl⟩ := own_form o7)
         have HF := Lib.hid (HG.out w7 A7 c7 o7 gg7)
         clear o7 gg7 at7 g2
         go_roundw
         case rel => exact HF.out
         case measure => simp only [intOf]; omega
        ·have HF := Lib.hid (GrowR.skip HST.out.1 hlt2 hxj HN.out.1 HST.out.2.2.2.2.1 HST.out.2.2.2.2.2.1 HB6.out HST.out.2.2.2.2.2.2)
         go_wp2_with fail
         go_roundw
         case rel => exact HF.out
         case measure => simp only [intOf]; omega
      ·have him : j = nx := by omega
       subst him
       have hfull : N.take j = N := List.take_of_length_le (by have := HN.out.1; omega)
       have HE : Hid (TakeT (takeR l l') V (.returned (.tuple #[.slice A1 x c1, .int .i64 0])) wr) := Lib.hid (by
        obtain ⟨ps, h1, h2, h9, h4⟩ := hst.out
        rw [hfull] at h1
        have hrs := h9.rb
        rw [h1] at hrs
        have ho := h9.1
        rw [h2] at ho
        rw [HN.out.2.2.1]
        exact ⟨A1, x, c1, rfl, Lib.hid ⟨by show (N.filter _).length = x; rw [← h1, List.length_map, h2], (own_low ho).1, rb_rs hrs h4.size⟩, HN.out.2.2.2.1.trans (h4.mono HN.out.2.2.2.1.size)⟩)
       clear hst hfull hbw
       go_wp2_with fail
       go_ret2
       exact HE.out
  ·have HE := Lib.hid (take_no (fun h => hno h.2) (HA.out.2.2.trans (b2.mono HA.out.2.2.size)) (l := l) (l' := l'))
   clear H2 b2 hno
   go_wp2_with fail
   go_ret2
   exact HE.out
 ·have HE := Lib.hid (take_no (fun h => hno h.1) b1 (l := l) (l' := l'))
  clear H1 b1 hno
  go_wp2_with fail
  go_ret2
  exact HE.out
end Mend
end Go.Proofs.YtbhidndgnldheaaGreat

/-
 The map by which one holds records (layer 14).
-/
namespace Go.Proofs.YtbhidndgnldheaaGreat
namespace Mend
open Go.RowKit Blk Go.Maps Disk Tree Vers Num Ring
open Go.Proofs.YtbhidndgnldheaaGreat.Code hiding Bn
attribute [local go_sem ↓] Go.wp_at_zero Go.wp_at_succ
section
variable {w w' : World} {mb : Nat} {l : Vl}
theorem hm_look (h : MI w mb l) (s : Nm) (hs : Tree.okN s) : (Instr.lookup 118 (.map (some mb)) (.string s) false).run Tryz.prog w = .ok ((find l s).getD (.slice none 0 0)) w := by
 obtain ⟨D, n, ho, hm, _, _, _⟩ := h
 obtain ⟨kl, hkl⟩ := key_of hs
 obtain ⟨v, ps, hrun, hv⟩ := ho.lookup (t := 118) (e := 22) keyed Tryz.underlying118 (zeroS w) (zd := .held (.slice none 0 0)) (zp := []) rfl hkl
 have hv3 : v = (find l s).getD (.slice none 0 0) := held_is hm hkl hv
 rw [← hv3]
 exact hrun
theorem hm_look_ok (h : MI w mb l) (s : Nm) (hs : Tree.okN s) : (Instr.lookup 118 (.map (some mb)) (.string s) true).run Tryz.prog w = .ok (.tuple #[(find l s).getD (.slice none 0 0), .bool (find l s).isSome]) w := by
 obtain ⟨D, n, ho, hm, _, _, _⟩ := h
 obtain ⟨kl, hkl⟩ := key_of hs
 obtain ⟨v, ps, hrun, hv⟩ := ho.look_ok (t := 118) (e := 22) keyed Tryz.underlying118 (zeroS w) (zd := .held (.slice none 0 0)) (zp := []) rfl hkl
 have hv3 : v = (find l s).getD (.slice none 0 0) := held_is hm hkl hv
 rw [← hv3, ← hm.has hkl]
 exact hrun
theorem hm_store (h : MI w mb l) (hn : l.length < 140737488355328) (s : Nm) (hs : Tree.okN s) (v : Value) : ∃ w', (Instr.mapUpdate 118 (.map (some mb)) (.string s) v).run Tryz.prog w = .ok () w' ∧ MI w' mb (wit l s v) ∧ w.grownBy w' (some mb) := by
 obtain ⟨D, n, ho, hm, hsr, hok, hsz⟩ := h
 obtain ⟨kl, hkl⟩ := key_of hs
 obtain ⟨w', hrun, h1, h2⟩ := (shrink ho).store (t := 118) (e := 22) keyed Tryz.underlying118 (by rw [hsz]; unfold maxLen; omega) (d := .held v) (ps := []) hkl rfl
 refine ⟨w', hrun, ⟨_, _, h1, fun t kt hkt z => ?_, hsr.wit s v, fun x hx => ?_, ?_⟩, h2.grown⟩
 ·rw [find_wit]
  by_cases e : t = s
  ·subst e
   obtain rfl : kt = kl := by rw [hkt] at hkl; injection hkl
   rw [if_pos rfl, Maps.atKey_put_same ho.isMap (keyed.key hkl)]
  ·rw [if_neg e, Maps.atKey_put_other (fun q => e (key_inj hkt (by rw [q]; exact hkl)))]
   exact hm t kt hkt z
 ·rcases mem_wit.1 hx with rfl | ⟨hx, _⟩
  ·exact hs
  ·exact hok x hx
 ·rw [Maps.size_put (ho.tidy keyed), hm.has hkl, hsz, wit, len_ins]
  have := len_wout hsr s
  split at this <;> rename_i hc
  ·rw [if_pos hc]; omega
  ·rw [if_neg hc]; omega
end
def HoldR (w : World) (B : Nat) (D : Vl) (L : List Rc) : Prop := ∀ k, (find L k = none ∧ find D k = none) ∨ ∃ lv A c, find L k = some lv ∧ find D k = some (.slice A lv.length c) ∧ Vs w 0 B A lv ∧ lv.length ≤ c ∧ lv.length ≤ 512
theorem HoldR.keep {w w' : World} {B : Nat} {D : Vl} {L : List Rc} (h : HoldR w B D L) (hb : Below B w w') : HoldR w' B D L := fun k => by
 rcases h k with h | ⟨lv, A, c, h1, h2, h3, h4⟩
 ·exact .inl h
 ·exact .inr ⟨lv, A, c, h1, h2, h3.below hb, h4⟩
theorem HoldR.put {w : World} {B : Nat} {D : Vl} {L : List Rc} (h : HoldR w B D L) {key : Nm} {lv : List Vr} {A : Option Addr} {c m : Nat} (hm : lv.length = m) (hv : Vs w 0 B A lv) (hc : m ≤ c) (h5 : lv.length ≤ 512) : HoldR w B (wit D key (.slice A m c)) (wit L key lv) := fun k => by
 rw [find_wit, find_wit]
 by_cases hk : k = key
 ·rw [if_pos hk, if_pos hk]
  exact .inr ⟨lv, A, c, rfl, by rw [hm], hv, by omega, h5⟩
 ·rw [if_neg hk, if_neg hk]
  exact h k
theorem hold_get {w : World} {B : Nat} {D : Vl} {L : List Rc} (h : HoldR w B D L) (k : Nm) : ∃ A c, (find D k).getD (.slice none 0 0) = .slice A (getF L k).length c ∧ Vs w 0 B A (getF L k) ∧ (getF L k).length ≤ c ∧ (getF L k).length ≤ 512 := by
 unfold getF
 rcases h k with ⟨h1, h2⟩ | ⟨lv, A, c, h1, h2, h3, h4, h5⟩
 ·rw [h1, h2]
  exact ⟨none, 0, rfl, Vs.nil _, Nat.le_refl _, by simp⟩
 ·rw [h1, h2]
  exact ⟨A, c, rfl, h3, h4, h5⟩
def Holds (B : Nat) (l : List Rc) (V : World) (e : Ending) (w' : World) : Prop :=
 (okL l ∧ ∃ mb D, e = .returned (.tuple #[.map (some mb), .bool true]) ∧ Hid (MI w' mb D ∧ HoldR w' B D (lastF l) ∧ V.heap.size ≤ mb) ∧ Below V.heap.size V w') ∨
 (¬ okL l ∧ e = .returned (.tuple #[.map none, .bool false]) ∧ Below V.heap.size V w')
def HoldUp (B : Nat) (l : List Rc) (n mb : Nat) (V : World) (q : Value) (wr : World) : Prop :=
 ∃ k : Nat, q = .int .i64 k ∧ k ≤ n ∧ Hid ((∀ j, j < k → okR (l.getD j r0)) ∧ ∃ D, MI wr mb D ∧ D.length ≤ k ∧ HoldR wr B D (lastF (l.take k)) ∧ Below V.heap.size V wr)
set_option maxRecDepth 100000 in
set_option maxHeartbeats 4000000 in
theorem hold_any (A : Option Addr) (c n B : Nat) (l : List Rc) (hn : l.length = n) (hbig : n ≤ 3518437208882) (V : World) (hB : B ≤ V.heap.size) (hr : Rb V B A l) :
  Calls Tryz.prog 61 #[.slice A n c] V (Holds B l V) := by
 have hmm := @run_makeMap Tryz.prog
 obtain ⟨U, hU⟩ : ∃ U, V.alloc (.map #[] 0) = U := ⟨_, rfl⟩
 obtain ⟨mb, hmb⟩ : ∃ mb, V.heap.size = mb := ⟨_, rfl⟩
 have bU : Below V.heap.size V U := by rw [← hU]; exact (Below.refl _ V).alloc (Nat.le_refl _) _
 have HI : Hid (HoldUp B l n mb V (.int .i64 0) U) := Lib.hid ⟨0, rfl, by omega, Lib.hid ⟨(fun j hj => by omega), [], by rw [← hU, ← hmb]; exact mi_made V, Nat.le_refl _, (fun k => .inl ⟨rfl, rfl⟩), bU⟩⟩
 have HP := Lib.hid (And.intro hn (And.intro hB (And.intro hr hmb)))
 clear hn hB hr bU
 go_enter Tryz.func61, Tryz.ntmps61
 go_wp2_with fail
 go_loopw [10] (fun q wr => HoldUp B l n mb V q wr) (fun q _ => n - (intOf q).toNat)
 case atStart => exact HI.out
 case round =>
  clear HI
  obtain ⟨k, rfl, hk, hst⟩ := hrel
  have hbV : Below V.heap.size V wr := by obtain ⟨_, D, _, _, _, hb⟩ := hst.out; exact hb
  by_cases hlt : k < n
  ·have d1 : (0 : Int) ≤ (k : Int) := by omega
   have d2 : (k : Int) < (n : Int) := by omega
   obtain ⟨pb, off, A4, c4, rfl, _, hbB, k0, k1, k2, k3⟩ := HP.out.2.2.1.at HP.out.1 HP.out.2.1 hbV hlt rfl
   obtain ⟨r, hrr⟩ : ∃ r, l.getD k r0 = r := ⟨_, rfl⟩
   rw [hrr] at k0 k1 k2 k3
   obtain ⟨key', lv'⟩ := r
   simp only at k0 k1 k2 k3
   obtain ⟨ml, hml⟩ : ∃ ml, lv'.length = ml := ⟨_, rfl⟩
   rw [hml] at k1 k3
   have hkl : k < l.length := by have := HP.out.1; omega
   have hVw := hbV.size
   have hBw := Nat.le_trans HP.out.2.1 hVw
   obtain ⟨Y, hY⟩ : ∃ Y, wr.alloc (.cells #[.string key', .slice A4 ml c4] 46) = Y := ⟨_, rfl⟩
   obtain ⟨rb, hrb⟩ : ∃ rb, wr.heap.size = rb := ⟨_, rfl⟩
   have bY : Below wr.heap.size wr Y := by rw [← hY]; exact (Below.refl _ wr).alloc (Nat.le_refl _) _
   have BY : Blk.Bn rb 46 [.string key', .slice A4 ml c4] Y := by rw [← hY, ← hrb]; exact World.alloc_heap_new _ _
   have H1 := rrecord_any A4 c4 ml key' lv' hml k3.2.1 k3.2.2 Y ((k2.below (bY.mono hBw)).more (Nat.le_trans hBw bY.size))
   have hcl : ∀ w3, Below Y.heap.size Y w3 → w3.cell? ⟨rb, 0, none⟩ = some (.string key') ∧ w3.cell? ⟨rb, 1, none⟩ = some (.slice A4 ml c4) := fun w3 b3 => by
    have hB3 := BY.same (b3.block rb BY.lt)
    have x0 := hB3.cell 0
    have x1 := hB3.cell 1
    simp only [List.getElem?_cons_zero, List.getElem?_cons_succ] at x0 x1
    exact ⟨x0, x1⟩
   obtain ⟨x0, x1⟩ := hcl Y (Below.refl _ _)
   by_cases hok : okR (key', lv')
   ·rw [decide_eq_true hok] at H1
    have H1 := Lib.hid H1
    have HW : Hid (∀ w3, Below Y.heap.size Y w3 → w3.cell? ⟨rb, 0, none⟩ = some (.string key') ∧ w3.cell? ⟨rb, 1, none⟩ = some (.slice A4 ml c4) ∧ ∃ w4, (Instr.mapUpdate 118 (.map (some mb)) (.string key') (.slice A4 ml c4)).run Tryz.prog w3 = .ok () w4 ∧ Hid (HoldUp B l n mb V (.int .i64 ((k : Int) + 1)) w4)) := Lib.hid fun w3 b3 => by
     refine ⟨(hcl w3 b3).1, (hcl w3 b3).2, ?_⟩
     obtain ⟨g1, D, hmi, hlen, hh, hb⟩ := hst.out
     have b13 : Below wr.heap.size wr w3 := bY.trans (b3.mono bY.size)
     have hmb := hmi.lt
     have hmi3 := hmi.same (b13.block mb hmb)
     obtain ⟨w4, hrun, hmi4, hg⟩ := hm_store hmi3 (by omega) key' (by have := hok.2.1; unfold Tree.okN maxLen; simp only at this; omega) (.slice A4 ml c4)
     refine ⟨w4, hrun, Lib.hid ⟨k + 1, by go_num, by omega, Lib.hid ⟨fun j hj => ?_, _, hmi4, ?_, ?_, ?_⟩⟩⟩
     ·rcases Nat.lt_or_ge j k with h | h
      ·exact g1 j h
      ·rw [show j = k by omega, hrr]
       exact hok
     ·rw [wit, Tree.ins_len]
      have := wout_len D key'
      omega
     ·rw [take_at hkl, hrr, last_snoc]
      have h34 : Below B w3 w4 := (Below.refl B w3).grown hg (Nat.le_trans hBw b13.size) (fun j hj => by injection hj with hj; subst hj; have := HP.out.2.2.2; have := HP.out.2.1; omega)
      exact ((hh.keep (b13.mono hBw)).keep h34).put hml ((k2.below (b13.mono hBw)).below h34) k3.1 (by have := hok.2.2.1; simp only at this; omega)
     ·exact (hb.trans (b13.mono hVw)).grown hg (Nat.le_trans hVw b13.size) (fun j hj => by injection hj with hj; subst hj; have := HP.out.2.2.2; omega)
    clear hst hbV k2 k3 hrr hml hok hBw hVw bY BY hcl hkl
    go_wp2_with fail
    refine H1.out.mono ?_
    rintro e3 w3 ⟨rfl, b3⟩
    obtain ⟨q0, q1, w4, hrun, HF⟩ := HW.out w3 b3
    clear b3 HW H1 x0 x1 hY
    go_wp2_with fail
    go_roundw
    case rel => exact HF.out
    case measure => simp only [intOf]; omega
   ·rw [decide_eq_false hok] at H1
    have H1 := Lib.hid H1
    have HN : Hid (¬ okL l ∧ Below V.heap.size V Y) := Lib.hid ⟨fun h => hok (by rw [← hrr]; exact h _ (getD_mem hkl)), hbV.trans (bY.mono hVw)⟩
    clear hst hbV k2 k3 hrr hml hok hBw hVw bY BY hcl hkl
    go_wp2_with fail
    refine H1.out.mono ?_
    rintro e3 w3 ⟨rfl, b3⟩
    have HE : Hid (Holds B l V (.returned (.tuple #[.map none, .bool false])) w3) := Lib.hid (.inr ⟨HN.out.1, rfl, HN.out.2.trans (b3.mono HN.out.2.size)⟩)
    clear b3 H1
    go_wp2_with fail
    go_ret2
    exact HE.out
  ·have hkm : k = n := by omega
   subst hkm
   have hfull : l.take k = l := List.take_of_length_le (by have := HP.out.1; omega)
   have HF : Hid (Holds B l V (.returned (.tuple #[.map (some mb), .bool true])) wr) := Lib.hid (.inl (by
    obtain ⟨g1, D, hmi, hlen, hh, hb⟩ := hst.out
    rw [hfull] at hh
    refine ⟨fun r hr => ?_, mb, D, rfl, Lib.hid ⟨hmi, hh, Nat.le_of_eq HP.out.2.2.2⟩, hb⟩
    obtain ⟨j, hj, rfl⟩ := List.mem_iff_getElem.1 hr
    have h1 := g1 j (by have := HP.out.1; omega)
    rwa [List.getD_eq_getElem?_getD, List.getElem?_eq_getElem hj] at h1))
   clear hst hfull hbV
   go_wp2_with fail
   go_ret2
   exact HF.out
end Mend
end Go.Proofs.YtbhidndgnldheaaGreat

/-
 mend.Take (layer 14).
-/
namespace Go.Proofs.YtbhidndgnldheaaGreat
namespace Mend
open Go.RowKit Vers Num Ring Disk Blk Tree Go.Maps
open Go.Proofs.YtbhidndgnldheaaGreat.Code hiding Bn
attribute [local go_sem ↓] Go.wp_at_zero Go.wp_at_succ
def HoldN (w : World) (L B : Nat) (D : Vl) (M : List Rc) : Prop := ∀ k, (find M k = none ∧ find D k = none) ∨ ∃ lv A c, find M k = some lv ∧ find D k = some (.slice A lv.length c) ∧ Vs w L B A lv ∧ lv.length ≤ c ∧ RightV lv ∧ k.size ≤ 140737488355328
theorem HoldN.keep {w w' : World} {L B : Nat} {D : Vl} {M : List Rc} (h : HoldN w L B D M) (hk : ∀ p : Addr, L ≤ p.block → p.block < B → w'.cell? p = w.cell? p) : HoldN w' L B D M := fun k => by
 rcases h k with h | ⟨lv, A, c, h1, h2, h3, h4⟩
 ·exact .inl h
 ·exact .inr ⟨lv, A, c, h1, h2, h3.keep hk, h4⟩
theorem HoldN.more {w : World} {L B B' : Nat} {D : Vl} {M : List Rc} (h : HoldN w L B D M) (hB : B ≤ B') : HoldN w L B' D M := fun k => by
 rcases h k with h | ⟨lv, A, c, h1, h2, h3, h4⟩
 ·exact .inl h
 ·exact .inr ⟨lv, A, c, h1, h2, h3.more hB, h4⟩
theorem HoldN.put {w : World} {L B : Nat} {D : Vl} {M : List Rc} (h : HoldN w L B D M) {key : Nm} {lv : List Vr} {A : Option Addr} {c m : Nat} (hm : lv.length = m) (hv : Vs w L B A lv) (hc : m ≤ c) (h5 : RightV lv) (hz : key.size ≤ 140737488355328) : HoldN w L B (wit D key (.slice A m c)) (wit M key lv) := fun k => by
 rw [find_wit, find_wit]
 by_cases hk : k = key
 ·rw [if_pos hk, if_pos hk]
  exact .inr ⟨lv, A, c, rfl, by rw [hm], hv, by omega, h5, by rw [hk]; exact hz⟩
 ·rw [if_neg hk, if_neg hk]
  exact h k
theorem mergeT_len (was t : List Rc) (r : Rc) : (mergeT was t r).length ≤ t.length + 1 := by
 unfold mergeT
 split
 ·rw [wit, Tree.ins_len]
  have := wout_len t r.1
  omega
 ·omega
theorem taken_len (was l : List Rc) : ∀ acc : List Rc, (l.foldl (mergeT was) acc).length ≤ acc.length + l.length := by
 induction l with
 | nil => intro acc; simp
 | cons r l ih =>
  intro acc
  have h1 := ih (mergeT was acc r)
  have h2 := mergeT_len was acc r
  simp only [List.foldl_cons, List.length_cons]
  omega
theorem taken_srt (was l : List Rc) : ∀ acc : List Rc, Srt acc → Srt (l.foldl (mergeT was) acc) := by
 induction l with
 | nil => exact fun acc h => h
 | cons r l ih => exact fun acc h => ih _ (mergeT_srt h r)
theorem fold_takeT {l : List Rc} {k : Nat} {r : Rc} (was : List Rc) (hk : k < l.length) (hr : l.getD k r0 = r) : (l.take (k + 1)).foldl (mergeT was) [] = mergeT was ((l.take k).foldl (mergeT was) []) r := by
 rw [take_at hk, hr, List.foldl_append]
 rfl
def CollT (all : List Rc) (pick : Rc → Bool) (more : Rc → Prop) (ps : List Pr) : Prop := (ps.map Prod.fst).Nodup ∧ ∀ r, r ∈ ps.map Prod.fst ↔ r ∈ all ∧ pick r = true ∧ more r
theorem CollT.same {all : List Rc} {pick : Rc → Bool} {more more' : Rc → Prop} {ps : List Pr} (h : CollT all pick more ps) (hm : ∀ r, r ∈ all → pick r = true → (more r ↔ more' r)) : CollT all pick more' ps := by
 refine ⟨h.1, fun r => (h.2 r).trans ?_⟩
 constructor
 ·rintro ⟨h1, h2, h3⟩
  exact ⟨h1, h2, (hm r h1 h2).1 h3⟩
 ·rintro ⟨h1, h2, h3⟩
  exact ⟨h1, h2, (hm r h1 h2).2 h3⟩
theorem CollT.add {all : List Rc} {pick : Rc → Bool} {more more' : Rc → Prop} {ps : List Pr} (h : CollT all pick more ps) (p : Pr) (hp : p.1 ∈ all) (hl : pick p.1 = true) (hno : ¬ more p.1) (hm : ∀ r, r ∈ all → pick r = true → (more' r ↔ more r ∨ r = p.1)) : CollT all pick more' (ps ++ [p]) := by
 refine ⟨?_, fun r => ?_⟩
 ·rw [List.map_append, List.nodup_append]
  refine ⟨h.1, by simp, fun x hx y hy e => ?_⟩
  simp at hy
  subst hy
  subst e
  exact hno ((h.2 _).1 hx).2.2
 ·rw [List.map_append, List.mem_append, h.2 r]
  simp only [List.map_cons, List.map_nil, List.mem_singleton]
  constructor
  ·rintro (⟨h1, h2, h3⟩ | rfl)
   ·exact ⟨h1, h2, (hm r h1 h2).2 (.inl h3)⟩
   ·exact ⟨hp, hl, (hm _ hp hl).2 (.inr rfl)⟩
  ·rintro ⟨h1, h2, h3⟩
   rcases (hm r h1 h2).1 h3 with h4 | rfl
   ·exact .inl ⟨h1, h2, h4⟩
   ·exact .inr rfl
theorem CollT.len {all : List Rc} {pick : Rc → Bool} {more : Rc → Prop} {ps : List Pr} (h : CollT all pick more ps) : ps.length ≤ all.length := by
 have := nodup_len h.1 fun x hx => ((h.2 x).1 hx).1
 simpa using this
theorem collT_end {all : List Rc} (hs : Srt all) {pick : Rc → Bool} {more : Rc → Prop} {ps ps' : List Pr} (h : CollT all pick more ps) (hall : ∀ r ∈ all, more r) (h1 : ps'.Perm ps) (h2 : ps'.Pairwise fun x y => nlt y.1.1 x.1.1 = false) : ps'.map Prod.fst = all.filter pick := by
 have hmem : ∀ r, r ∈ ps'.map Prod.fst ↔ r ∈ all.filter pick := fun r => by
  rw [(h1.map Prod.fst).mem_iff, h.2 r, List.mem_filter]
  constructor
  ·rintro ⟨q1, q2, _⟩
   exact ⟨q1, q2⟩
  ·rintro ⟨q1, q2⟩
   exact ⟨q1, q2, hall r q1⟩
 have hnd : (ps'.map Prod.fst).Nodup := (h1.map Prod.fst).nodup_iff.2 h.1
 have hsrt : Srt (ps'.map Prod.fst) := by
  unfold Srt
  rw [List.pairwise_map]
  have hk : ps'.Pairwise fun x y => x.1 ≠ y.1 := by
   unfold List.Nodup at hnd
   rwa [List.pairwise_map] at hnd
  refine List.Pairwise.imp_of_mem ?_ (List.Pairwise.and hk h2)
  rintro x y hx hy ⟨e1, e2⟩
  have m1 := (List.mem_filter.1 ((hmem _).1 (List.mem_map.2 ⟨x, hx, rfl⟩))).1
  have m2 := (List.mem_filter.1 ((hmem _).1 (List.mem_map.2 ⟨y, hy, rfl⟩))).1
  refine nlt_tri e2 fun e => e1 ?_
  have f1 := find_mem hs m1
  have f2 := find_mem hs m2
  rw [← e, f2] at f1
  exact Prod.ext e.symm (by injection f1 with f1; exact f1.symm)
 exact srt_mem hsrt (List.Pairwise.filter _ hs) hmem
def TakeN (r : List Rc × Int) (V : World) (e : Ending) (w' : World) : Prop := ∃ A m c ps, e = .returned (.tuple #[.slice A m c, .int .i64 r.2]) ∧ Hid (ps.map Prod.fst = r.1 ∧ r.1.length = m ∧ m ≤ c ∧ Got V.heap.size w' A ps) ∧ Below V.heap.size V w'
theorem takeN_no {l l' : List Rc} (h : ¬ (okL l ∧ okL l')) {V w : World} (hb : Below V.heap.size V w) : TakeN (takeR l l') V (.returned (.tuple #[.slice none 0 0, .int .i64 1])) w := by
 unfold takeR
 rw [if_neg h]
 exact ⟨none, 0, 0, [], rfl, Lib.hid ⟨rfl, rfl, Nat.le_refl _, fun h => absurd h (by simp)⟩, hb⟩
def TakeL (was l' : List Rc) (n' tb : Nat) (U : World) (q : Value) (wr : World) : Prop :=
 ∃ k : Nat, q = .int .i64 k ∧ k ≤ n' ∧ Hid (∃ D, MI wr tb D ∧ D.length ≤ k ∧ HoldN wr (tb + 1) wr.heap.size D ((l'.take k).foldl (mergeT was) []) ∧ Below tb U wr ∧ tb < wr.heap.size)
set_option maxRecDepth 100000 in
set_option maxHeartbeats 4000000 in
theorem take_any (A A' : Option Addr) (c c' n n' : Nat) (l l' : List Rc) (hn : l.length = n) (hn' : l'.length = n') (hbig : n ≤ 3518437208882) (hbig' : n' ≤ 3518437208882) (V : World) (hr : Rs V 0 V.heap.size A l) (hr' : Rs V 0 V.heap.size A' l') :
  Calls Tryz.prog 35 #[.slice A n c, .slice A' n' c'] V (TakeN (takeR l l') V) := by
 obtain ⟨i0, hi, hz0, hz1, hz2⟩ := info_parts info_rec'
 have hmm := @run_makeMap Tryz.prog
 have H1 := Lib.hid (hold_any A c n V.heap.size l hn hbig V (Nat.le_refl _) (rs_rb hr))
 have HP := Lib.hid (And.intro hn' (And.intro (rs_rb hr') hbig'))
 clear hn hn' hr hr' hbig hbig'
 go_enter Tryz.func35, Tryz.ntmps35
 go_wp2_with fail
 refine H1.out.mono ?_
 rintro e1 w1 (⟨hok, mb, D1, rfl, h1, b1⟩ | ⟨hno, rfl, b1⟩)
 ·have H2 := Lib.hid (hold_any A' c' n' V.heap.size l' HP.out.1 HP.out.2.2 w1 b1.size (Rb.below HP.out.2.1 (Nat.le_refl _) b1))
  have HA := Lib.hid (And.intro hok (And.intro h1.out b1))
  clear H1 h1 b1 hok
  go_wp2_with fail
  refine H2.out.mono ?_
  rintro e2 w2 (⟨hok2, mb2, D2, rfl, _, b2⟩ | ⟨hno, rfl, b2⟩)
  ·have b12 : Below V.heap.size V w2 := HA.out.2.2.trans (b2.mono HA.out.2.2.size)
   obtain ⟨was, hwas⟩ : ∃ W, heldF l = W := ⟨_, rfl⟩
   have hT : takeR l l' = ((takenF was l').filter (fun r => !decide (r.2 = []) && !decide (r.2 = getF was r.1)), 0) := by
    unfold takeR
    rw [if_pos ⟨HA.out.1, hok2⟩, ← taken_same, hwas]
   obtain ⟨hmi1, hho1, hle1⟩ := HA.out.2.1
   have hgw : ∀ k, getF (lastF l) k = getF was k := fun k => by rw [last_get, hwas]
   have hmlt := hmi1.lt
   obtain ⟨tb, htb⟩ : ∃ tb, w2.heap.size = tb := ⟨_, rfl⟩
   obtain ⟨U, hU⟩ : ∃ U, w2.alloc (.map #[] 0) = U := ⟨_, rfl⟩
   have bU : Below w2.heap.size w2 U := by rw [← hU]; exact (Below.refl _ w2).alloc (Nat.le_refl _) _
   have hUs : U.heap.size = tb + 1 := by rw [← hU, ← htb]; simp
   have HB := Lib.hid (And.intro b12 (And.intro ((hmi1.same (b2.block mb hmlt)).same (bU.block mb (Nat.lt_of_lt_of_le hmlt b2.size))) (And.intro ((hho1.keep (b2.mono HA.out.2.2.size)).keep (bU.mono b12.size)) (And.intro hgw (And.intro hT (And.intro (Nat.lt_of_lt_of_le hmlt (by have := b2.size; omega) : mb < tb) (And.intro bU (And.intro htb hUs))))))))
   have HI : Hid (TakeL was l' n' tb U (.int .i64 0) U) := Lib.hid ⟨0, rfl, by omega, Lib.hid ⟨[], by rw [← hU, ← htb]; exact mi_made w2, Nat.le_refl _, fun k => .inl ⟨rfl, rfl⟩, Below.refl _ _, by omega⟩⟩
   clear H2 b2 hok2 b12 hwas hT HA hmi1 hho1 hle1 hgw hmlt bU hUs
   go_wp2_with fail
   go_loopw [39] (fun q wr => TakeL was l' n' tb U q wr) (fun q _ => n' - (intOf q).toNat)
   case atStart => exact HI.out
   case round =>
    clear HI
    obtain ⟨k, rfl, hk, hst⟩ := hrel
    have hbU : Below tb U wr ∧ tb < wr.heap.size := by obtain ⟨D, _, _, _, hb⟩ := hst.out; exact hb
    have hbg := HP.out.2.2
    by_cases hlt : k < n'
    ·have d1 : (0 : Int) ≤ (k : Int) := by omega
     have d2 : (k : Int) < (n' : Int) := by omega
     have hVt : V.heap.size ≤ tb := by have := HB.out.1.size; have := HB.out.2.2.2.2.2.2.2.1; omega
     have hbV : Below V.heap.size V wr := HB.out.1.trans ((HB.out.2.2.2.2.2.2.1.mono HB.out.1.size).trans (hbU.1.mono hVt))
     obtain ⟨pb, off, A4, c4, rfl, _, hbB, k0, k1, k2, k3⟩ := HP.out.2.1.at HP.out.1 (Nat.le_refl _) hbV hlt rfl
     obtain ⟨r, hrr⟩ : ∃ r, l'.getD k r0 = r := ⟨_, rfl⟩
     rw [hrr] at k0 k1 k2 k3
     obtain ⟨key', lv'⟩ := r
     simp only at k0 k1 k2 k3
     obtain ⟨ml, hml⟩ : ∃ ml, lv'.length = ml := ⟨_, rfl⟩
     rw [hml] at k1 k3
     have hkl : k < l'.length := by have := HP.out.1; omega
     have hVw := hbV.size
     obtain ⟨Y, hY⟩ : ∃ Y, wr.alloc (.cells #[.string key', .slice A4 ml c4] 46) = Y := ⟨_, rfl⟩
     obtain ⟨rb, hrb⟩ : ∃ rb, wr.heap.size = rb := ⟨_, rfl⟩
     have bY : Below wr.heap.size wr Y := by rw [← hY]; exact (Below.refl _ wr).alloc (Nat.le_refl _) _
     have BY : Blk.Bn rb 46 [.string key', .slice A4 ml c4] Y := by rw [← hY, ← hrb]; exact World.alloc_heap_new _ _
     have hcl : ∀ w3, Below Y.heap.size Y w3 → w3.cell? ⟨rb, 0, none⟩ = some (.string key') ∧ w3.cell? ⟨rb, 1, none⟩ = some (.slice A4 ml c4) := fun w3 b3 => by
      have hB3 := BY.same (b3.block rb BY.lt)
      have x0 := hB3.cell 0
      have x1 := hB3.cell 1
      simp only [List.getElem?_cons_zero, List.getElem?_cons_succ] at x0 x1
      exact ⟨x0, x1⟩
     obtain ⟨x0, x1⟩ := hcl Y (Below.refl _ _)
     have hokN : Tree.okN key' := by have := k3.2.2; unfold Tree.okN maxLen; omega
     obtain ⟨D, hmi, hlen, hho, _, _⟩ := hst.out
     obtain ⟨T, hTT⟩ : ∃ T, (l'.take k).foldl (mergeT was) [] = T := ⟨_, rfl⟩
     rw [hTT] at hho
     have hmiY := hmi.same (bY.block tb hbU.2)
     have hl1 := hm_look_ok hmiY key' hokN
     have hhoY : HoldN Y (tb + 1) wr.heap.size D T := hho.keep fun p _ hp => bY.cell hp
     have HMb := HB.out.2.1.same ((hbU.1.trans (bY.mono (Nat.le_of_lt hbU.2))).block mb HB.out.2.2.2.2.2.1)
     have hl2 := hm_look HMb key' hokN
     -- what was there
     have hbase : ∃ A6 c6 m6 lv6, Hid (baseT was T key' = lv6 ∧ lv6.length = m6 ∧ m6 ≤ c6 ∧ m6 ≤ 512 ∧ Vs Y 0 Y.heap.size A6 lv6) ∧ ((find D key' = some (.slice A6 m6 c6)) ∨ (find D key' = none ∧ (find D1 key').getD (.slice none 0 0) = .slice A6 m6 c6)) := by
      rcases hhoY key' with ⟨h1, h2⟩ | ⟨lv, A6, c6, h1, h2, h3, h4, h5⟩
      ·obtain ⟨A6, c6, g1, g2, g3, g4⟩ := hold_get HB.out.2.2.1 key'
       rw [HB.out.2.2.2.1] at g1 g2 g3 g4
       refine ⟨A6, c6, _, _, Lib.hid ⟨?_, rfl, g3, g4, ?_⟩, .inr ⟨h2, g1⟩⟩
       ·unfold baseT; rw [h1]; rfl
       ·exact (g2.below ((hbU.1.mono hVt).trans (bY.mono hVw))).more (Nat.le_trans hVw bY.size)
      ·refine ⟨A6, c6, lv.length, lv, Lib.hid ⟨?_, rfl, h4, h5.1.1, (h3.more bY.size).less (Nat.zero_le _)⟩, .inl h2⟩
       unfold baseT; rw [h1]; rfl
     obtain ⟨A6, c6, m6, lv6, HQ, hfind⟩ := hbase
     have HM : Hid (Calls Tryz.prog 33 #[.slice A6 m6 c6, .slice A4 ml c4] Y (fun e w3 => ∃ A7 m7 c7 e7, e = .returned (.tuple #[.slice A7 m7 c7, .int .i64 e7]) ∧ w3.cell? ⟨rb, 0, none⟩ = some (.string key') ∧ w3.cell? ⟨rb, 1, none⟩ = some (.slice A4 ml c4) ∧
       ((e7 = 0 ∧ ∃ w4, (Instr.mapUpdate 118 (.map (some tb)) (.string key') (.slice A7 m7 c7)).run Tryz.prog w3 = .ok () w4 ∧ Hid (TakeL was l' n' tb U (.int .i64 ((k : Int) + 1)) w4)) ∨ (e7 ≠ 0 ∧ Hid (TakeL was l' n' tb U (.int .i64 ((k : Int) + 1)) w3))))) := Lib.hid (by
      refine (merge_any A6 A4 c6 c4 m6 ml lv6 lv' HQ.out.2.1 hml HQ.out.2.2.1 k3.1 Y HQ.out.2.2.2.2 ((k2.below (bY.mono hVw)).more (Nat.le_trans hVw bY.size)) (by have := HQ.out.2.2.2.1; omega) k3.2.1).mono ?_
      rintro e w3 ⟨A7, c7, rfl, hc7, hv7, b3⟩
      obtain ⟨y0, y1⟩ := hcl w3 b3
      have b13 : Below wr.heap.size wr w3 := bY.trans (b3.mono bY.size)
      refine ⟨A7, _, c7, _, rfl, y0, y1, ?_⟩
      obtain ⟨R, hR⟩ : ∃ R, mergeF lv6 lv' = R := ⟨_, rfl⟩
      rw [hR] at hc7 hv7 ⊢
      have hho3 : HoldN w3 (tb + 1) w3.heap.size D T := (hho.keep fun p _ hp => b13.cell hp).more b13.size
      have hmi3 := hmi.same (b13.block tb hbU.2)
      have hs3 := b13.size
      have hft := fold_takeT was hkl hrr
      rw [hTT] at hft
      have hU3 : Below tb U w3 := hbU.1.trans (b13.mono (Nat.le_of_lt hbU.2))
      by_cases he : R.2 = 0
      ·have hmr := merge_right (a := lv6) (b := lv') (r := R.1) (by rw [hR, ← he])
       refine .inl ⟨he, ?_⟩
       obtain ⟨w4, hrun, hmi4, hg⟩ := hm_store hmi3 (by omega) key' hokN (.slice A7 R.1.length c7)
       refine ⟨w4, hrun, Lib.hid ⟨k + 1, by go_num, by omega, Lib.hid ⟨_, hmi4, ?_, ?_, ?_, ?_⟩⟩⟩
       ·rw [wit, Tree.ins_len]
        have := wout_len D key'
        omega
       ·rw [hft]
        have e1 : mergeT was T (key', lv') = wit T key' R.1 := by
         unfold mergeT
         rw [show baseT was T (key', lv').1 = lv6 from HQ.out.1, hR, if_pos he]
        rw [e1]
        have hk4 : ∀ p : Addr, tb + 1 ≤ p.block → p.block < w3.heap.size → w4.cell? p = w3.cell? p := fun p h1 h2 => World.cell?_of_block (hg.block p.block h2 (by intro e; injection e with e; omega))
        refine HoldN.put ((hho3.keep hk4).more hg.size) rfl ?_ hc7 hmr.2.2.2.2 k3.2.2
        have h7 : Vs w3 (tb + 1) w3.heap.size A7 R.1 := hv7.less (by have := bY.size; have := hbU.2; omega)
        exact (h7.keep hk4).more hg.size
       ·exact hU3.grown hg (by have := hbU.2; omega) (fun j hj => by injection hj with hj; omega)
       ·have := hg.size; have := hbU.2; omega
      ·refine .inr ⟨he, Lib.hid ⟨k + 1, by go_num, by omega, Lib.hid ⟨D, hmi3, by omega, ?_, hU3, by have := hbU.2; omega⟩⟩⟩
       rw [hft]
       have e1 : mergeT was T (key', lv') = T := by
        unfold mergeT
        rw [show baseT was T (key', lv').1 = lv6 from HQ.out.1, hR, if_neg he]
       rw [e1]
       exact hho3)
     clear hst hbU hVt hbV k2 k3 hrr hml hkl hVw bY BY hcl hokN hmi hlen hho hTT hmiY hhoY HMb HQ
     rcases hfind with h2 | ⟨h2, h3⟩
     ·rw [h2] at hl1
      simp only [Option.getD_some, Option.isSome_some] at hl1
      clear h2 hl2
      go_wp2_with fail
      refine HM.out.mono ?_
      rintro e3 w3 ⟨A7, m7, c7, e7, rfl, y0, y1, ⟨rfl, w4, hrun, HF⟩ | ⟨he7, HF⟩⟩
      ·clear HM x0 x1 hl1 hY
       go_wp2_with fail
       go_roundw
       case rel => exact HF.out
       case measure => simp only [intOf]; omega
      ·have e1 : (e7 == 0) = false := by simpa using he7
       clear HM x0 x1 hl1 hY he7
       go_wp2_with fail
       go_roundw
       case rel => exact HF.out
       case measure => simp only [intOf]; omega
     ·rw [h2] at hl1
      rw [h3] at hl2
      simp only [Option.getD_none, Option.isSome_none] at hl1
      clear h2 h3
      go_wp2_with fail
      refine HM.out.mono ?_
      rintro e3 w3 ⟨A7, m7, c7, e7, rfl, y0, y1, ⟨rfl, w4, hrun, HF⟩ | ⟨he7, HF⟩⟩
      ·clear HM x0 x1 hl1 hl2 hY
       go_wp2_with fail
       go_roundw
       case rel => exact HF.out
       case measure => simp only [intOf]; omega
      ·have e1 : (e7 == 0) = false := by simpa using he7
       clear HM x0 x1 hl1 hl2 hY he7
       go_wp2_with fail
       go_roundw
       case rel => exact HF.out
       case measure => simp only [intOf]; omega
    ·have hkn : k = n' := by omega
     subst hkn
     have hfull : l'.take k = l' := List.take_of_length_le (by have := HP.out.1; omega)
     obtain ⟨D, hmi, hlen, hho, _, htw⟩ := hst.out
     rw [hfull] at hho
     obtain ⟨wo, hwo⟩ : ∃ W, W = wr := ⟨_, rfl⟩
     subst hwo
     have hVt : V.heap.size ≤ tb := by have := HB.out.1.size; have := HB.out.2.2.2.2.2.2.2.1; omega
     have hbV : Below V.heap.size V wo := HB.out.1.trans ((HB.out.2.2.2.2.2.2.1.mono HB.out.1.size).trans (hbU.1.mono hVt))
     obtain ⟨N, hN⟩ : ∃ N, takenF was l' = N := ⟨_, rfl⟩
     obtain ⟨pick, hpick⟩ : ∃ f : Rc → Bool, (fun r : Rc => !decide (r.2 = []) && !decide (r.2 = getF was r.1)) = f := ⟨_, rfl⟩
     have hNl : N.length ≤ 3518437208882 := by have h := taken_len was l' []; rw [show l'.foldl (mergeT was) [] = N from hN] at h; simp at h; have := HP.out.1; omega
     have hNs : Srt N := by rw [← hN]; exact taken_srt was l' [] Srt.nil
     rw [show l'.foldl (mergeT was) [] = N from hN] at hho
     have hT := HB.out.2.2.2.2.1
     rw [hN, hpick] at hT
     have HMb := Lib.hid (And.intro (HB.out.2.1.same (hbU.1.block mb HB.out.2.2.2.2.2.1)) (And.intro HB.out.2.2.2.2.2.1 (And.intro (HB.out.2.2.1.keep (hbU.1.mono hVt)) (And.intro ((hbU.1.mono hVt).size) HB.out.2.2.2.1))))
     have HE : Hid (∀ {more : Rc → Prop} {ps ps' : List Pr}, CollT N pick more ps → (∀ r ∈ N, more r) → ps'.Perm ps → (ps'.Pairwise fun x y => nlt y.1.1 x.1.1 = false) → ps'.map Prod.fst = N.filter pick) := Lib.hid fun q1 q2 q3 q4 => collT_end hNs q1 q2 q3 q4
     have HN := Lib.hid (And.intro hNl (And.intro hho (And.intro hT (And.intro hpick (And.intro hbV hNs)))))
     obtain ⟨D0, n0, hown, hm, hsr, hok, hsz⟩ := hmi
     have HMM := Lib.hid (And.intro hm (And.intro hsr hok))
     have htw' := htw
     have HTW := Lib.hid (And.intro htw hVt)
     clear hst hbU hfull hlen hho hVt hbV hN hNl hNs hT hm hsr hok hsz HB hbg htw' hpick
     go_wp2_with (first
      | (at_range; refine wpList_range_own _ rfl _ 118 rfl 9 22 keyed Tryz.underlying118 _ tb n0 _ rfl hown ?_; intro w0 hrg0 hg0 hs0)
      | fail)
     go_frame
     have hb0 : Below wo.heap.size wo w0 := (Below.refl _ _).grown hg0 (Nat.le_refl _) (fun j hj => by cases hj)
     have HI2 := Lib.hid (And.intro hrg0 (And.intro hb0 hs0))
     clear hrg0 hg0 hb0 hs0 hown
     go_loopw [17] (fun v wq => ∃ (left : Lit → Bool) (cnt : Nat) (qs : List Pr), wq.ranges Tryz.prog 9 heldE tb wo.heap.size n0 D0 left cnt ∧ Hid (RowT wo.heap.size wo.heap.size wq v qs ∧ CollT N pick (fun r => ∃ kl, keyOf Tryz.prog 9 (.string r.1) = some kl ∧ left kl = false) qs ∧ Below wo.heap.size wo wq ∧ wo.heap.size < wq.heap.size))
      (fun _ wq => wq.rangeLeft tb wo.heap.size)
     case atStart =>
      refine ⟨_, _, [], HI2.out.1, Lib.hid ⟨rowT_nil _ _ _, ⟨by simp, fun r => ⟨fun h => (by simp at h), ?_⟩⟩, HI2.out.2.1, by rw [HI2.out.2.2]; omega⟩⟩
      rintro ⟨hr, _, kl, h1, h2⟩
      rw [HMM.out.1.has h1] at h2
      have h4 := find_mem HN.out.2.2.2.2.2 hr
      rcases HN.out.2.1 r.1 with ⟨h5, _⟩ | ⟨_, _, _, _, h6, _⟩
      ·rw [h5] at h4; cases h4
      ·rw [h6] at h2; cases h2
     case round =>
      obtain ⟨left, cnt, qs, hrg, hst⟩ := hrel
      go_wp2_with (first
       | (at_next; refine wpList_next_ranges _ rfl _ rfl 9 keyed heldE Value.string (fun v : Value => v) (fun key kl hk => by obtain ⟨x, hx, _⟩ := key_inv hk; exact ⟨x, hx⟩) (fun v y hv => ⟨v, rfl⟩) tb wo.heap.size n0 _ _ _ rfl hrg ?_ ?_)
       | fail)
      ·intro hc0 hl0
       have hcol : CollT N pick (fun _ => True) qs := hst.out.2.1.same fun r hr _ => ⟨fun _ => trivial, fun _ => by
        rcases HN.out.2.1 r.1 with ⟨h5, _⟩ | ⟨_, _, _, _, h6, _⟩
        ·have h4 := find_mem HN.out.2.2.2.2.2 hr
         rw [h5] at h4; cases h4
        ·obtain ⟨kl, hkl⟩ := key_of (HMM.out.2.2 _ (find_some h6))
         exact ⟨kl, hkl, hl0 kl⟩⟩
       have hrow := hst.out.1
       have hps := hcol.len
       have hN2 := HN.out.1
       have hbs := hst.out.2.2.1.size
       have hb := hst.out.2.2.1
       have HB3 := Lib.hid (And.intro (Nat.le_trans HTW.out.2 (Nat.le_of_lt HTW.out.1)) (HN.out.2.2.2.2.1.trans (hb.mono HN.out.2.2.2.2.1.size)))
       rcases hrow.1.2 with ⟨hv, h0⟩ | ⟨g, cap, cur, hv, hbg, hg, hnc, _⟩
       ·have hnil : qs = [] := List.eq_nil_of_length_eq_zero h0
        subst hnil
        have hR := HE.out hcol (fun _ _ => trivial) (List.Perm.refl _) List.Pairwise.nil
        have HF : Hid (TakeN (takeR l l') V (.returned (.tuple #[.slice none 0 0, .int .i64 0])) wr) := Lib.hid (by
         rw [HN.out.2.2.1]
         exact ⟨none, 0, 0, [], rfl, Lib.hid ⟨hR, by show (N.filter pick).length = 0; rw [← hR]; rfl, Nat.le_refl _, fun h => absurd h (by simp)⟩, HB3.out.2⟩)
        subst hv
        clear hst hrow hcol hps hR hb hrg hbs
        go_wp2_with fail
        refine (sort_none none 0 _ wr).mono ?_
        rintro e w4 ⟨rfl, rfl⟩
        go_wp2_with fail
        go_ret2
        exact HF.out
       ·obtain ⟨nn, hnn⟩ : ∃ nn, qs.length = nn := ⟨_, rfl⟩
        have ho := hrow.1
        rw [hv, hnn] at ho
        rw [hnn] at hv hnc hps
        have hgl := (ho.lt g rfl).2
        have hS := Lib.hid (sort_any g cap nn wo.heap.size qs hnn wr ho (by omega))
        have HF : Hid (∀ w', (∃ l', Hid (l'.Perm qs ∧ l'.Pairwise (fun p q => nlt q.1.1 p.1.1 = false) ∧ Prs w' g l' ∧ wr.grownBy w' (some g) ∧ ∃ cur, w'.heap[g]? = some (.cells cur 46 (0, 0)))) → TakeN (takeR l l') V (.returned (.tuple #[.slice (some ⟨g, 0, none⟩) nn cap, .int .i64 0])) w') := Lib.hid fun w' ⟨l'', hh⟩ => by
         obtain ⟨h1, h2, h3, h4, h5⟩ := hh.out
         have hR := HE.out hcol (fun _ _ => trivial) h1 h2
         have hVo := HB3.out.1
         rw [HN.out.2.2.1]
         refine ⟨some ⟨g, 0, none⟩, nn, cap, l'', rfl, Lib.hid ⟨hR, by show (N.filter pick).length = nn; rw [← hR, List.length_map, h1.length_eq, hnn], hnc, fun hp => ⟨g, rfl, Nat.le_trans hVo hbg, h3, h5, fun p hp => ?_⟩⟩, HB3.out.2.grown h4 HB3.out.2.size (fun j hj => by injection hj with hj; omega)⟩
         obtain ⟨L, B, q1, q2, q3, q4, q5⟩ := hrow.2 p (h1.mem_iff.1 hp)
         have q3' := q3 g (by rw [hv]; rfl)
         exact ⟨L, B, Nat.le_trans hVo q1, Nat.le_trans q2 h4.size, q3', q5.keep fun j a1 a2 => h4.block j (by omega) fun e => by injection e with e; omega⟩
        subst hv
        clear hst hrow hcol hps hb ho hg hnn hnc hrg hbs
        go_wp2_with fail
        refine hS.out.mono ?_
        rintro e w4 ⟨rfl, hw4⟩
        have HG := Lib.hid (HF.out w4 hw4)
        clear hw4
        go_wp2_with fail
        go_ret2
        exact HG.out
      ·intro x cv kl yd yp w2 cnt2 hkey hlk hv hat hrg2 hlt2 hg2 hs2 hen
       have hfx := find_mem HMM.out.2.1 (map_entry HMM.out.1 hkey hv hat)
       have hxN := HMM.out.2.2 _ (map_entry HMM.out.1 hkey hv hat)
       rcases HN.out.2.1 x with ⟨_, h5⟩ | ⟨lv, Av, cvv, hf1, hf2, hvs, hlc, hrv, hkz⟩
       ·rw [h5] at hfx; cases hfx
       ·have hcv : cv = .slice Av lv.length cvv := by
         rw [hf2] at hfx
         injection hfx with hfx
         exact hfx.symm
        have hall : (x, lv) ∈ N := find_some hf1
        have hno : ¬ ∃ kl', keyOf Tryz.prog 9 (.string (x, lv).1) = some kl' ∧ left kl' = false := by
         rintro ⟨kl', h1, h2⟩
         rw [hkey] at h1
         injection h1 with h1
         subst h1
         rw [hlk] at h2
         cases h2
        have hmore : ∀ q, q ∈ N → ((∃ kl', keyOf Tryz.prog 9 (.string q.1) = some kl' ∧ (left kl' && !kl'.sameKey kl) = false) ↔ (∃ kl', keyOf Tryz.prog 9 (.string q.1) = some kl' ∧ left kl' = false) ∨ q = (x, lv)) := fun q hq => by
         constructor
         ·rintro ⟨kl', h1, h2⟩
          by_cases e : q.1 = x
          ·refine .inr ?_
           have g1 := find_mem HN.out.2.2.2.2.2 hq
           rw [e, hf1] at g1
           exact Prod.ext e (by injection g1 with g1; exact g1.symm)
          ·refine .inl ⟨kl', h1, ?_⟩
           have hs : kl'.sameKey kl = false := by
            rw [Bool.eq_false_iff]
            intro h3
            refine e ?_
            have h4 := WideAt.sameKey_eq h3
            rw [h4] at h1
            have h5 := keyed.inj h1 hkey
            injection h5
           rw [hs] at h2
           simpa using h2
         ·rintro (⟨kl', h1, h2⟩ | rfl)
          ·exact ⟨kl', h1, by rw [h2]; rfl⟩
          ·refine ⟨kl, hkey, ?_⟩
           rw [WideAt.sameKey_self (keyed.key hkey)]
           simp
        have hrow2 := hst.out.1.step hg2 (row_ne_iter hst.out.1.1 hrg)
        have b2 : Below wo.heap.size wo w2 := hst.out.2.2.1.grown hg2 hst.out.2.2.1.size (fun j hj => by cases hj; omega)
        have HC : Hid ((pick (x, lv) = false → CollT N pick (fun r => ∃ kl', keyOf Tryz.prog 9 (.string r.1) = some kl' ∧ (left kl' && !kl'.sameKey kl) = false) qs) ∧ (pick (x, lv) = true → ∀ A1 c1, CollT N pick (fun r => ∃ kl', keyOf Tryz.prog 9 (.string r.1) = some kl' ∧ (left kl' && !kl'.sameKey kl) = false) (qs ++ [((x, lv), A1, c1)]))) := Lib.hid ⟨fun hp => hst.out.2.1.same fun r hr hpr => (by
          rw [hmore r hr]
          constructor
          ·exact .inl
          ·rintro (h | rfl)
           ·exact h
           ·rw [hp] at hpr; cases hpr), fun hp A1 c1 => hst.out.2.1.add ((x, lv), A1, c1) hall hp hno fun r hr _ => hmore r hr⟩
        obtain ⟨ml, hml⟩ : ∃ ml, lv.length = ml := ⟨_, rfl⟩
        rw [hml] at hcv hlc
        subst hcv
        have hVt := Nat.le_trans HTW.out.2 (Nat.le_of_lt HTW.out.1)
        have HV2 := Lib.hid (And.intro (show Vs w2 0 w2.heap.size Av lv from ((hvs.below b2).more b2.size).less (Nat.zero_le _)) (And.intro hml (And.intro hlc hrv)))
        have HHo := Lib.hid (And.intro (HMb.out.1.same (b2.block mb HMb.out.1.lt)) (HMb.out.2.2.1.keep (b2.mono hVt)))
        have HR2 := Lib.hid (And.intro hrow2 (And.intro b2 (And.intro hg2.size (And.intro hst.out.2.2.2 hVt))))
        have HH := Lib.hid (And.intro hrg2 hlt2)
        have HRG := Lib.hid hrg
        have hN2 := HN.out.1
        have hpk : pick (x, lv) = (!decide (lv = []) && !decide (lv = getF was x)) := by rw [← HN.out.2.2.2.1]
        by_cases h0 : ml = 0
        ·have d3 : ¬ (0 : Int) < (ml : Int) := by omega
         have d4 : decide ((0 : Int) < (ml : Int)) = false := decide_eq_false d3
         have hp0 : pick (x, lv) = false := by
          rw [hpk, List.eq_nil_of_length_eq_zero (by omega : lv.length = 0)]; rfl
         have hcf := HC.out.1 hp0
         have HF : Hid (RowT wo.heap.size wo.heap.size w2 u17 qs ∧ CollT N pick (fun r => ∃ kl', keyOf Tryz.prog 9 (.string r.1) = some kl' ∧ (left kl' && !kl'.sameKey kl) = false) qs ∧ Below wo.heap.size wo w2 ∧ wo.heap.size < w2.heap.size) := Lib.hid ⟨HR2.out.1, hcf, HR2.out.2.1, by have := HR2.out.2.2.1; have := HR2.out.2.2.2.1; omega⟩
         clear hfx hxN hf1 hf2 hvs hall hno hmore hrow2 b2 hlc hml hst hkey hlk hv hat hrg2 hlt2 hg2 hs2 hrg hpk hp0 hcf HC h0 hrv
         go_wp2_with fail
         refine ⟨⟨_, cnt2, qs, HH.out.1, HF⟩, ?_⟩
         rw [HH.out.1.left_eq, HRG.out.left_eq]
         exact HH.out.2
        ·have d3 : (0 : Int) < (ml : Int) := by omega
         have d4 : decide ((0 : Int) < (ml : Int)) = true := decide_eq_true d3
         have hne : decide (lv = []) = false := decide_eq_false (by intro e; rw [e] at hml; exact h0 hml.symm)
         rw [hne] at hpk
         simp only [Bool.not_false, Bool.true_and] at hpk
         obtain ⟨A8, c8, g1, g2, g3, g4⟩ := hold_get HHo.out.2 x
         have hlook := hm_look HHo.out.1 x hxN
         rw [g1] at hlook
         have hgw : getF (lastF l) x = getF was x := HMb.out.2.2.2.2 x
         rw [hgw] at hlook g2 g3 g4
         obtain ⟨m8, hm8⟩ : ∃ m8, (getF was x).length = m8 := ⟨_, rfl⟩
         rw [hm8] at hlook g3 g4
         obtain ⟨b, hb⟩ : ∃ b, decide (lv = getF was x) = b := ⟨_, rfl⟩
         rw [hb] at hpk
         have hl512 : ml ≤ 512 := by have := HV2.out.2.2.2.1; omega
         have HS := Lib.hid (sameV_any Av A8 cvv c8 ml m8 lv (getF was x) hml hm8 w2 HV2.out.1 (g2.more (by have := HR2.out.2.1.size; have := HR2.out.2.2.2.2; omega)) (by omega) (by omega))
         rw [hb] at HS
         have HPK := Lib.hid hpk
         have hbs2 := HR2.out.2.1.size
         clear hfx hf1 hf2 hvs hno hmore hrow2 b2 hst hkey hlk hv hat hrg2 hlt2 hg2 hs2 hrg hpk h0 hrv hb hne g1 g2 g3 g4 hgw hm8
         go_wp2_with fail
         refine HS.out.mono ?_
         rintro e w3 ⟨rfl, b3⟩
         clear HS hlook
         have hs3 := b3.size
         have hg3 : w2.grownBy w3 none := ⟨b3.os, b3.tape, b3.output, b3.size, fun j hj _ => b3.block j hj⟩
         have hrg3 := HH.out.1.kept hg3 (by simp) (by simp)
         have hrow3 := HR2.out.1.below b3
         cases b
         ·have hcf := HC.out.2 HPK.out
          have hlq : qs.length + 1 ≤ N.length := by
           have h := (hcf none 0).len
           simpa using h
          have HCF := Lib.hid hcf
          have hK := Lib.hid (vers_new x hkz Av cvv ml lv hml HV2.out.2.2.2 w3 ((HV2.out.1.below b3).more hs3))
          have HR3 := Lib.hid (And.intro hrow3 (HR2.out.2.1.trans (b3.mono hbs2)))
          have HG3 := Lib.hid (And.intro hrg3 hml)
          clear hcf HC b3 hg3 hrg3 hrow3 hml hall
          go_wp2_with fail
          refine hK.out.mono ?_
          rintro e w4 ⟨A1, c1, rfl, hrec, b4⟩
          have hs4 := b4.size
          have hown4 := own_below HR3.out.1.1 b4 (Nat.le_refl _)
          have hl2 : qs.length + 1 ≤ 3518437208882 := by omega
          have hl3 : (qs.length + 1) * 40 ≤ 140737488355328 := by omega
          have hl4 : wo.heap.size ≤ w4.heap.size := by omega
          go_wp2_with (at_builtin; refine wpList_append_r _ rfl (.tmp 88) (.tmp 93) 23 rfl wo.heap.size 46 i0 _ 40 Tryz.underlying23 hi hz0 hz1 hz2 rfl _ qs.length qs rfl hown4 ((x, lv), A1, c1) ml HG3.out.2 1 rfl hl3 (by omega) hl4 ?_; intro v5 w5 o5 g5 at5)
          have hg4 : w3.grownBy w4 none := ⟨b4.os, b4.tape, b4.output, b4.size, fun j hj _ => b4.block j hj⟩
          have hrg4 := HG3.out.1.kept hg4 (by simp) (by simp)
          have hrg5 := hrg4.kept g5 (row_ne_low hown4 HTW.out.1) (row_ne_iter hown4 hrg4)
          have b5 : Below wo.heap.size wo w5 := (HR3.out.2.trans (b4.mono HR3.out.2.size)).grown g5 hl4 (fun j hj => (hown4.lt j hj).1)
          have s5 := g5.size
          have hit2 := HR2.out.2.2.1
          have hit3 := HR2.out.2.2.2.1
          refine ⟨⟨_, cnt2, qs ++ [((x, lv), A1, c1)], hrg5, Lib.hid ⟨HR3.out.1.add (by omega) b4 hrec.out HR3.out.2.size o5 g5 at5, HCF.out A1 c1, b5, by omega⟩⟩, ?_⟩
          rw [hrg5.left_eq, HRG.out.left_eq]
          exact HH.out.2
         ·have hcf := HC.out.1 HPK.out
          have HF : Hid (RowT wo.heap.size wo.heap.size w3 u17 qs ∧ CollT N pick (fun r => ∃ kl', keyOf Tryz.prog 9 (.string r.1) = some kl' ∧ (left kl' && !kl'.sameKey kl) = false) qs ∧ Below wo.heap.size wo w3 ∧ wo.heap.size < w3.heap.size) := Lib.hid ⟨hrow3, hcf, HR2.out.2.1.trans (b3.mono hbs2), by have := HR2.out.2.2.1; have := HR2.out.2.2.2.1; omega⟩
          have HG3 := Lib.hid hrg3
          clear hcf HC b3 hg3 hrg3 hrow3
          go_wp2_with fail
          refine ⟨⟨_, cnt2, qs, HG3.out, HF⟩, ?_⟩
          rw [HG3.out.left_eq, HRG.out.left_eq]
          exact HH.out.2
  ·have HE := Lib.hid (takeN_no (fun h => hno h.2) (HA.out.2.2.trans (b2.mono HA.out.2.2.size)) (l := l) (l' := l'))
   clear H2 b2 hno
   go_wp2_with fail
   go_ret2
   exact HE.out
 ·have H2 := Lib.hid (hold_any A' c' n' V.heap.size l' HP.out.1 HP.out.2.2 w1 b1.size (Rb.below HP.out.2.1 (Nat.le_refl _) b1))
  have HE : Hid (∀ w2, Below w1.heap.size w1 w2 → TakeN (takeR l l') V (.returned (.tuple #[.slice none 0 0, .int .i64 1])) w2) := Lib.hid fun w2 b2 => takeN_no (fun h => hno h.1) (b1.trans (b2.mono b1.size))
  clear H1 b1 hno
  go_wp2_with fail
  refine H2.out.mono ?_
  rintro e2 w2 (⟨_, mb, D, rfl, _, b2⟩ | ⟨_, rfl, b2⟩)
  ·have HF := Lib.hid (HE.out w2 b2)
   clear b2 H2
   go_wp2_with fail
   go_ret2
   exact HF.out
  ·have HF := Lib.hid (HE.out w2 b2)
   clear b2 H2
   go_wp2_with fail
   go_ret2
   exact HF.out
end Mend
end Go.Proofs.YtbhidndgnldheaaGreat

/-
 Memory that a law writes over: some cells of versions and of spans (layer 11).
-/
namespace Go.Proofs.YtbhidndgnldheaaGreat
namespace Tree
open Go.RowKit Vers Span Num Ring Disk Blk
open Go.Proofs.YtbhidndgnldheaaGreat.Code hiding Bn
def Spo (Soft : TypeId → Nat → Prop) (lo hi : Nat) (W wr : World) : Prop :=
 Below lo W wr ∧ wr.heap.size = W.heap.size ∧ (∀ q, hi ≤ q → wr.heap[q]? = W.heap[q]?) ∧ ∀ (q : Nat) (cs : Array Value) (t : TypeId), W.heap[q]? = some (Obj.cells cs t (0, 0)) → ∃ cs' : Array Value, wr.heap[q]? = some (Obj.cells cs' t (0, 0)) ∧ cs'.size = cs.size ∧ ∀ j, ¬ Soft t j → cs'[j]? = cs[j]?
def HardAt (Soft : TypeId → Nat → Prop) (W : World) (g j : Nat) (u : Value) : Prop := ∃ (cs : Array Value) (t : TypeId), W.heap[g]? = some (Obj.cells cs t (0, 0)) ∧ cs[j]? = some u ∧ ¬ Soft t j
def SoftAt (Soft : TypeId → Nat → Prop) (lo hi : Nat) (W : World) (g j : Nat) : Prop := lo ≤ g ∧ g < hi ∧ ∃ (cs : Array Value) (t : TypeId), W.heap[g]? = some (Obj.cells cs t (0, 0)) ∧ j < cs.size ∧ Soft t j
section
variable {S : TypeId → Nat → Prop} {lo hi : Nat} {W W' wr : World} {g j : Nat} {u v : Value}
theorem spo_refl (S : TypeId → Nat → Prop) (lo hi : Nat) (W : World) : Spo S lo hi W W := ⟨Below.refl _ _, rfl, fun _ _ => rfl, fun _ cs _ h => ⟨cs, h, rfl, fun _ _ => rfl⟩⟩
theorem HardAt.same (h : HardAt S W g j u) (hk : W'.heap[g]? = W.heap[g]?) : HardAt S W' g j u := by
 obtain ⟨cs, t, h2, h3⟩ := h
 exact ⟨cs, t, hk.trans h2, h3⟩
theorem SoftAt.same (h : SoftAt S lo hi W g j) (hk : W'.heap[g]? = W.heap[g]?) : SoftAt S lo hi W' g j := by
 obtain ⟨h0, h1, cs, t, h2, h3⟩ := h
 exact ⟨h0, h1, cs, t, hk.trans h2, h3⟩
theorem Spo.get (h : Spo S lo hi W wr) (hc : HardAt S W g j u) : wr.cell? ⟨g, j, none⟩ = some u := by
 obtain ⟨cs, t, h1, h2, h3⟩ := hc
 obtain ⟨cs', k1, k2, k3⟩ := h.2.2.2 g cs t h1
 rw [cell_of_row wr g j cs' t (0, 0) k1, k3 j h3, h2]
theorem Spo.put (h : Spo S lo hi W wr) (hc : SoftAt S lo hi W g j) : (∃ z, wr.cell? ⟨g, j, none⟩ = some z) ∧ wr.frozen? ⟨g, j, none⟩ = false ∧ ∀ v, Spo S lo hi W (wr.setCell ⟨g, j, none⟩ v) := by
 obtain ⟨hlo, hhi, cs, t, h1, hj, hs⟩ := hc
 obtain ⟨b, s, f, k⟩ := h
 obtain ⟨cs', k1, k2, k3⟩ := k g cs t h1
 refine ⟨⟨cs'[j]'(by omega), by rw [cell_of_row wr g j cs' t (0, 0) k1]; exact Array.getElem?_eq_getElem (by omega)⟩, by simp [World.frozen?, k1], fun v => ⟨b.setCell hlo v, (show (wr.setCell ⟨g, j, none⟩ v).heap.size = wr.heap.size by simp [World.setCell]).trans s, fun q hq => (Below.heap_setCell wr ⟨g, j, none⟩ v q (fun e => by simp only at e; omega)).trans (f q hq), fun q cs2 t2 h2 => ?_⟩⟩
 by_cases hq : q = g
 ·subst hq
  rw [h1] at h2
  injection h2 with h2
  injection h2 with e1 e2
  subst e1 e2
  refine ⟨cs'.setIfInBounds j v, by simp [World.setCell, Array.getElem?_modify, k1], by rw [Array.size_setIfInBounds]; exact k2, fun i hi => ?_⟩
  rw [Array.getElem?_setIfInBounds_ne (fun e : j = i => hi (by rw [← e]; exact hs))]
  exact k3 i hi
 ·obtain ⟨cs3, m1, m2, m3⟩ := k q cs2 t2 h2
  exact ⟨cs3, (Below.heap_setCell wr ⟨g, j, none⟩ v q hq).trans m1, m2, m3⟩
end
theorem own_obj {w : World} {base : Nat} {e : TypeId} {size : Nat} {A : Option Addr} {c n : Nat} {xs : List Value} (h : w.ownsRow base e size (.slice A n c) n xs) (hn : 0 < n) : ∃ g cur, A = some ⟨g, 0, none⟩ ∧ base ≤ g ∧ g < w.heap.size ∧ w.heap[g]? = some (.cells cur e (0, 0)) ∧ n * size ≤ cur.size ∧ cur.toList.take (n * size) = xs := by
 rcases h.2 with ⟨hv, h0⟩ | ⟨g, cap, cur, hv, hbg, hg, hnc, hcm, hcs, htk⟩
 ·omega
 ·injection hv with h1 h2 h3
  exact ⟨g, cur, h1, hbg, (Array.getElem?_eq_some_iff.1 hg).1, hg, by rw [hcs]; exact Nat.mul_le_mul_right size hnc, htk⟩
theorem hard_of {S : TypeId → Nat → Prop} {w : World} {g n : Nat} {e : TypeId} {cur : Array Value} {xs : List Value} (hg : w.heap[g]? = some (.cells cur e (0, 0))) (ht : cur.toList.take n = xs) {j : Nat} {u : Value} (hu : xs[j]? = some u) (hs : ¬ S e j) : HardAt S w g j u := by
 refine ⟨cur, e, hg, ?_, hs⟩
 have hj : j < n := by
  have := (List.getElem?_eq_some_iff.1 hu).1
  rw [← ht, List.length_take] at this
  omega
 rw [← ht, List.getElem?_take_of_lt hj, Array.getElem?_toList] at hu
 exact hu
theorem hard_cell {S : TypeId → Nat → Prop} {w : World} {g j : Nat} {e : TypeId} {cur : Array Value} {u : Value} (hg : w.heap[g]? = some (.cells cur e (0, 0))) (hu : w.cell? ⟨g, j, none⟩ = some u) (hs : ¬ S e j) : HardAt S w g j u :=
 ⟨cur, e, hg, by rw [cell_of_row w g j cur e (0, 0) hg] at hu; exact hu, hs⟩
theorem soft_cell {S : TypeId → Nat → Prop} {w : World} {lo hi g j : Nat} {e : TypeId} {cur : Array Value} {u : Value} (hg : w.heap[g]? = some (.cells cur e (0, 0))) (hu : w.cell? ⟨g, j, none⟩ = some u) (hs : S e j) (h1 : lo ≤ g) (h2 : g < hi) : SoftAt S lo hi w g j :=
 ⟨h1, h2, cur, e, hg, by rw [cell_of_row w g j cur e (0, 0) hg] at hu; exact (Array.getElem?_eq_some_iff.1 hu).1, hs⟩
def SoftV (t : TypeId) (j : Nat) : Prop := (t = 40 ∧ j % 5 = 4) ∨ t = 43
def MV (S : TypeId → Nat → Prop) (col lo hi : Nat) (W : World) (A : Option Addr) (m : Nat) : Prop :=
 ∀ i, i < m → ∃ (g : Nat) (P : Option Addr) (k c : Nat), A = some ⟨g, 0, none⟩ ∧ SoftAt S lo hi W g (i * 5 + col) ∧ HardAt S W g (i * 5 + 2) (.slice P k c) ∧ k ≤ 140737488355328 ∧ ∀ q, q < k → ∃ b off, P = some ⟨b, off, none⟩ ∧ SoftAt S lo hi W b (off + q * 3 + 2)
theorem MV.same {S : TypeId → Nat → Prop} {col lo hi : Nat} {W W' : World} {A : Option Addr} {m : Nat} (h : MV S col lo hi W A m) (hb : Below hi W W') : MV S col lo hi W' A m := fun i hi2 => by
 obtain ⟨g, P, k, c, h1, h2, h3, h4, h5⟩ := h i hi2
 have hg := h2.2.1
 refine ⟨g, P, k, c, h1, h2.same (hb.block g hg), h3.same (hb.block g hg), h4, fun q hq => ?_⟩
 obtain ⟨b, off, e, h6⟩ := h5 q hq
 exact ⟨b, off, e, h6.same (hb.block b h6.2.1)⟩
theorem recN_mv {S : TypeId → Nat → Prop} {col lo L B hi : Nat} {w : World} {p : Pr} (h : RecN w L B p) (hlo : lo ≤ L) (hhi : B ≤ hi) (hcol : col < 5) (hV : ∀ j, j % 5 = col → S 40 j) (hV2 : ∀ j, j % 5 = 2 → ¬ S 40 j) (hS : ∀ j, S 43 j) : MV S col lo hi w p.2.1 p.1.2.length := fun i hi2 => by
 obtain ⟨_, _, _, ps, hps, ⟨ho, hpa⟩, hB, htg⟩ := h
 have hm : ps.length = p.1.2.length := by rw [← hps, List.length_map]
 rw [← hm] at ho hi2 hB
 obtain ⟨g, cur, e1, hlg, _, hg, hsz, htk⟩ := own_obj ho (by omega)
 rw [e1] at hB
 have hgB := hB g rfl
 have hmem : ps.getD i z0 ∈ ps := by
  rw [List.getD_eq_getElem?_getD, List.getElem?_eq_getElem (by omega)]
  exact List.getElem_mem _
 have hq := hpa _ hmem
 refine ⟨g, (ps.getD i z0).2.1, (ps.getD i z0).1.past.length, (ps.getD i z0).2.2, e1, ⟨by omega, by omega, cur, _, hg, by omega, hV _ (by omega)⟩, hard_of hg htk (by rw [vcs_at ps i (by omega) 2 (by omega)]; rfl) (hV2 _ (by omega)), hq.2.2.1, fun q hq2 => ?_⟩
 obtain ⟨b, off, e, hb, hc⟩ := hq.1 (by omega)
 obtain ⟨cur2, hc2⟩ := htg _ hmem (by omega) _ e
 have hlb := hq.2.2.2.2 (by omega) _ e
 exact ⟨b, off, e, soft_cell hc2 (hc q hq2).2.2 (hS _) (by simp only at hlb; omega) (by omega)⟩
theorem softV_v (j : Nat) (h : j % 5 = 4) : SoftV 40 j := .inl ⟨rfl, h⟩
theorem softV_v2 (j : Nat) (h : j % 5 = 2) : ¬ SoftV 40 j := fun e => by
 rcases e with ⟨_, e⟩ | e
 ·omega
 ·exact absurd e (by decide)
theorem softV_s (j : Nat) : SoftV 43 j := .inr rfl
theorem softV_r (j : Nat) : ¬ SoftV 46 j := fun e => by
 rcases e with ⟨e, _⟩ | e <;> exact absurd e (by decide)
end Tree
end Go.Proofs.YtbhidndgnldheaaGreat

/-
 Slices of spans and of dots, and dots, among a law's arguments.
-/
namespace Go.Proofs.YtbhidndgnldheaaGreat
namespace Span
open Go.ChangeShapes Go.WideShapes Go.ChangeAt Go.RowKit Go.Joins Go.Deep

theorem cells_span : Tryz.prog.cellsOf 43 = 3 := by kernel_rfl
theorem bytes_span : Tryz.prog.bytesOf 43 = 24 := by kernel_rfl
theorem cells_dot : Tryz.prog.cellsOf 37 = 2 := by kernel_rfl
section
variable {H : Type} {enc : TypeId × Value → H} {P : Program} {W : World}

theorem one_at {cs : List Value} {k : Nat} {v : Value} (h : (cs.drop k).take 1 = [v]) : cs[k]? = some v := by
 rcases Nat.lt_or_ge k cs.length with hk | hk
 ·rw [List.drop_eq_getElem_cons hk] at h
  simp only [List.take_succ_cons, List.take_zero, List.cons.injEq, and_true] at h
  rw [List.getElem?_eq_getElem hk, h]
 ·rw [List.drop_eq_nil_of_le hk] at h
  simp at h

theorem span_at {e : TypeId} {f0 f1 f2 : Field} {base : Nat} {spare : Nat → Bool} {held : Bool} {n : Nat} {cs : List Value} {x : DataW H × List MemPlace} (he : P.underlying e = some (.struct #[f0, f1, f2])) (hone : oneCellFields P #[f0, f1, f2] = true)
  (i0 : P.underlying f0.type = some (.int .i64)) (i1 : P.underlying f1.type = some (.int .i64)) (i2 : P.underlying f2.type = some (.int .i64)) (h : DataW.trod enc P W base spare held n e cs = some x) :
  ∃ z : Sp, cs[0]? = some (.int .i64 z.1) ∧ cs[1]? = some (.int .i64 z.2.1) ∧ cs[2]? = some (.int .i64 z.2.2) := by
 obtain ⟨y0, y1, y2, m, _, _, h0, h1, h2⟩ := trod_struct3 he h
 obtain ⟨o0, k0⟩ := hone_of hone 0 f0 rfl
 obtain ⟨o1, k1⟩ := hone_of hone 1 f1 rfl
 obtain ⟨o2, k2⟩ := hone_of hone 2 f2 rfl
 rw [o0, k0] at h0
 rw [o1, k1] at h1
 rw [o2, k2] at h2
 obtain ⟨z0, e0, _, _⟩ := DataW.trod_int i0 h0
 obtain ⟨z1, e1, _, _⟩ := DataW.trod_int i1 h1
 obtain ⟨z2, e2, _, _⟩ := DataW.trod_int i2 h2
 exact ⟨(z0, z1, z2), one_at e0, one_at e1, one_at e2⟩
end
end Span
end Go.Proofs.YtbhidndgnldheaaGreat
