/-
 Several texts of this family in one: MendTakeRef, MendLaid, MendDoubt, MendDiffer, MendStep, MendAns.
-/
import Derived.Test.YtekhaejhmlebbaaGreatQHMendA
import Derived.Test.YtekhaejhmlebbaaGreatQGCode
import Derived.Test.YtekhaejhmlebbaaGreatQHTreeC
/-
 The document's Take (layer 14).
-/
namespace Go.Proofs.YtekhaejhmlebbaaGreat
namespace Mend
open Go.RowKit Vers Num Ring Disk Blk Tree
open Go.Proofs.YtekhaejhmlebbaaGreat.Code hiding Bn
attribute [local go_sem ↓] Go.wp_at_zero Go.wp_at_succ
def takeR (own theirs : List Rc) : List Rc × Int := if okL own ∧ okL theirs then (takeF own theirs, 0) else ([], 1)
theorem rb_more {w : World} {B B' : Nat} {A : Option Addr} {l : List Rc} (h : Rb w B A l) (hB : B ≤ B') : Rb w B' A l := fun hp => by
 obtain ⟨b, off, e, hb, hc⟩ := h hp
 refine ⟨b, off, e, hb, fun j hj => ?_⟩
 obtain ⟨A', c', h0, h1, h2, h3⟩ := hc j hj
 exact ⟨A', c', h0, h1, h2.more hB, h3⟩
theorem merge_len (now : List Rc) (r : Rc) : (mergeR now r).length ≤ now.length + 1 := by
 unfold mergeR
 split
 ·exact with_len _ _
 ·omega
theorem fold_take {l : List Rc} {k : Nat} {r : Rc} (was : List Rc) (hk : k < l.length) (hr : l.getD k r0 = r) : (l.take (k + 1)).foldl mergeR was = mergeR ((l.take k).foldl mergeR was) r := by
 rw [take_at hk, hr, List.foldl_append]
 rfl
end Mend
end Go.Proofs.YtekhaejhmlebbaaGreat

/-
 firthlaw14.laid and both: records laid into a list, records merged into a list (layer 14).
-/
namespace Go.Proofs.YtekhaejhmlebbaaGreat
namespace Mend
open Go.RowKit Vers Num Ring Disk Blk Tree
open Go.Proofs.YtekhaejhmlebbaaGreat.Code hiding Bn
attribute [local go_sem ↓] Go.wp_at_zero Go.wp_at_succ
theorem foldw_take {l : List Rc} {k : Nat} {r : Rc} (was : List Rc) (hk : k < l.length) (hr : l.getD k r0 = r) : (l.take (k + 1)).foldl withR was = withR ((l.take k).foldl withR was) r := by
 rw [take_at hk, hr, List.foldl_append]
 rfl
def LaidUp (l' was : List Rc) (n' nw : Nat) (U : World) (v q : Value) (wr : World) : Prop :=
 ∃ (k na : Nat) (Aa : Option Addr) (ca : Nat), q = .int .i64 k ∧ k ≤ n' ∧ v = .slice Aa na ca ∧ na ≤ nw + k ∧ Hid (((l'.take k).foldl withR was).length = na ∧ na ≤ ca ∧ Rb wr wr.heap.size Aa ((l'.take k).foldl withR was) ∧ Below U.heap.size U wr)
set_option maxRecDepth 100000 in
set_option maxHeartbeats 4000000 in
theorem laid_any (A A' : Option Addr) (c c' n n' : Nat) (l l' : List Rc) (hn : l.length = n) (hnc : n ≤ c) (hn' : l'.length = n') (hbig : n + n' ≤ 3518437208780) (V : World) (hr : Rs V 0 V.heap.size A l) (hr' : Rs V 0 V.heap.size A' l') :
  Calls Tryz.prog 26 #[.slice A n c, .slice A' n' c'] V (RecsT (l'.foldl withR l) V) := by
 have HP := Lib.hid (And.intro hn' (rs_rb hr'))
 have HI : Hid (LaidUp l' l n' n V (.slice A n c) (.int .i64 0) V) := Lib.hid ⟨0, n, A, c, rfl, by omega, rfl, by omega, Lib.hid ⟨hn, hnc, rs_rb hr, Below.refl _ _⟩⟩
 clear hn hnc hn' hr hr'
 go_enter Tryz.func26, Tryz.ntmps26
 go_wp2_with fail
 go_loopw [0, 5] (fun v q wr => LaidUp l' l n' n V v q wr) (fun _ q _ => n' - (intOf q).toNat)
 case atStart => exact HI.out
 case round =>
  clear HI
  obtain ⟨i, nx, Ax, cx, rfl, hi3, rfl, hx, hst⟩ := hrel
  have hbw : Below V.heap.size V wr := hst.out.2.2.2
  by_cases hlt : i < n'
  ·have d1 : (0 : Int) ≤ (i : Int) := by omega
   have d2 : (i : Int) < (n' : Int) := by omega
   obtain ⟨pb, off, A4, c4, rfl, _, hbB, k0, k1, k2, k3⟩ := HP.out.2.at HP.out.1 (Nat.le_refl _) hbw hlt rfl
   obtain ⟨r, hrr⟩ : ∃ r, l'.getD i r0 = r := ⟨_, rfl⟩
   rw [hrr] at k0 k1 k2 k3
   obtain ⟨key, lv⟩ := r
   simp only at k0 k1 k2 k3
   obtain ⟨ml, hml⟩ : ∃ ml, lv.length = ml := ⟨_, rfl⟩
   rw [hml] at k1 k3
   obtain ⟨N, hN⟩ : ∃ N, (l'.take i).foldl withR l = N := ⟨_, rfl⟩
   rw [hN] at hst
   have HW := Lib.hid (with_any Ax A4 cx c4 nx ml wr.heap.size N key lv hst.out.1 (by omega) hml k3 wr (Nat.le_refl _) hst.out.2.2.1 (k2.more hbw.size))
   have hstep : (l'.take (i + 1)).foldl withR l = withR N (key, lv) := by rw [foldw_take l (by have := HP.out.1; omega) hrr, hN]
   have HF : Hid (∀ A8 n8 c8 (ps8 : List Pr) w7, ps8.map Prod.fst = withR N (key, lv) → (withR N (key, lv)).length = n8 → n8 ≤ c8 → RowX wr.heap.size wr.heap.size w7 (.slice A8 n8 c8) ps8 → Below wr.heap.size wr w7 → LaidUp l' l n' n V (.slice A8 n8 c8) (.int .i64 ((i : Int) + 1)) w7) := Lib.hid fun A8 n8 c8 ps8 w7 g1 g2 g3 g4 g5 => by
    have h6 := with_len N (key, lv)
    rw [hst.out.1, g2] at h6
    have hrb := g4.rb
    rw [g1] at hrb
    refine ⟨i + 1, n8, A8, c8, by push_cast; rfl, by omega, rfl, by omega, Lib.hid ?_⟩
    rw [hstep]
    exact ⟨g2, g3, rb_more hrb g5.size, hbw.trans (g5.mono hbw.size)⟩
   clear hst k2 hml k3 hrr hbw hN hstep
   go_wp2_with fail
   refine HW.out.mono ?_
   rintro e7 w7 ⟨A8, n8, c8, ps8, rfl, h8, b8⟩
   have HF2 := Lib.hid (HF.out A8 n8 c8 ps8 w7 h8.out.1 h8.out.2.1 h8.out.2.2.1 h8.out.2.2.2 b8)
   clear h8 b8 HW
   go_wp2_with fail
   go_roundw
   case rel => exact HF2.out
   case measure => simp only [intOf]; omega
  ·have him : i = n' := by omega
   subst him
   have hfull : l'.take i = l' := List.take_of_length_le (by have := HP.out.1; omega)
   rw [hfull] at hst
   have HE : Hid (RecsT (l'.foldl withR l) V (.returned (.slice Ax nx cx)) wr) := Lib.hid ⟨Ax, nx, cx, rfl, Lib.hid ⟨hst.out.1, hst.out.2.1, rb_rs hst.out.2.2.1 (Nat.le_refl _)⟩, hbw⟩
   clear hst hfull hbw
   go_wp2_with fail
   go_ret
   exact HE.out
def okB (a b : List Rc) : Prop := ∀ k, k < b.length → (mergeF (getF ((b.take k).foldl mergeR a) (b.getD k r0).1) (b.getD k r0).2).2 = 0
def BothT (a b : List Rc) (V : World) (e : Ending) (w' : World) : Prop :=
 (okB a b ∧ ∃ A m c, e = .returned (.tuple #[.slice A m c, .bool true]) ∧ Hid ((nowF a b).length = m ∧ m ≤ c ∧ Rs w' 0 w'.heap.size A (nowF a b)) ∧ Below V.heap.size V w') ∨
 (¬ okB a b ∧ e = .returned (.tuple #[.slice none 0 0, .bool false]) ∧ Below V.heap.size V w')
def BothUp (l' was : List Rc) (n' nw : Nat) (U : World) (v q : Value) (wr : World) : Prop :=
 ∃ (k na : Nat) (Aa : Option Addr) (ca : Nat), q = .int .i64 k ∧ k ≤ n' ∧ v = .slice Aa na ca ∧ na ≤ nw + k ∧ Hid (((l'.take k).foldl mergeR was).length = na ∧ na ≤ ca ∧ Rb wr wr.heap.size Aa ((l'.take k).foldl mergeR was) ∧ Below U.heap.size U wr ∧ ∀ j, j < k → (mergeF (getF ((l'.take j).foldl mergeR was) (l'.getD j r0).1) (l'.getD j r0).2).2 = 0)
set_option maxRecDepth 100000 in
set_option maxHeartbeats 4000000 in
theorem both_any (A A' : Option Addr) (c c' n n' : Nat) (l l' : List Rc) (hn : l.length = n) (hnc : n ≤ c) (hn' : l'.length = n') (hbig : n + n' ≤ 3518437208780) (V : World) (hr : Rs V 0 V.heap.size A l) (hr' : Rs V 0 V.heap.size A' l') :
  Calls Tryz.prog 24 #[.slice A n c, .slice A' n' c'] V (BothT l l' V) := by
 have HP := Lib.hid (And.intro hn' (rs_rb hr'))
 have HI : Hid (BothUp l' l n' n V (.slice A n c) (.int .i64 0) V) := Lib.hid ⟨0, n, A, c, rfl, by omega, rfl, by omega, Lib.hid ⟨hn, hnc, rs_rb hr, Below.refl _ _, fun j hj => by omega⟩⟩
 clear hn hnc hn' hr hr'
 go_enter Tryz.func24, Tryz.ntmps24
 go_wp2_with fail
 go_loopw [6, 7] (fun v q wr => BothUp l' l n' n V v q wr) (fun _ q _ => n' - (intOf q).toNat)
 case atStart => exact HI.out
 case round =>
  clear HI
  obtain ⟨i, nx, Ax, cx, rfl, hi3, rfl, hx, hst⟩ := hrel
  have hbw : Below V.heap.size V wr := hst.out.2.2.2.1
  by_cases hlt : i < n'
  ·have d1 : (0 : Int) ≤ (i : Int) := by omega
   have d2 : (i : Int) < (n' : Int) := by omega
   obtain ⟨pb, off, A4, c4, rfl, _, hbB, k0, k1, k2, k3⟩ := HP.out.2.at HP.out.1 (Nat.le_refl _) hbw hlt rfl
   obtain ⟨r, hrr⟩ : ∃ r, l'.getD i r0 = r := ⟨_, rfl⟩
   rw [hrr] at k0 k1 k2 k3
   obtain ⟨key, lv⟩ := r
   simp only at k0 k1 k2 k3
   obtain ⟨ml, hml⟩ : ∃ ml, lv.length = ml := ⟨_, rfl⟩
   rw [hml] at k1 k3
   have hpw : pb < wr.heap.size := Nat.lt_of_lt_of_le hbB hbw.size
   obtain ⟨N, hN⟩ : ∃ N, (l'.take i).foldl mergeR l = N := ⟨_, rfl⟩
   obtain ⟨mr, hmr⟩ : ∃ mr, mergeF (getF N key) lv = mr := ⟨_, rfl⟩
   obtain ⟨rl, rc⟩ := mr
   obtain ⟨rn, hrn⟩ : ∃ x, rl.length = x := ⟨_, rfl⟩
   have hdr : Below wr.heap.size wr wr.drew := ⟨rfl, rfl, rfl, Nat.le_refl _, fun _ _ => rfl⟩
   have hil : i < l'.length := by have := HP.out.1; omega
   have hstep : (l'.take (i + 1)).foldl mergeR l = if rc = 0 then withR N (key, rl) else N := by
    rw [fold_take l hil hrr, hN]
    unfold mergeR
    rw [hmr]
   have hcode : (mergeF (getF ((l'.take i).foldl mergeR l) (l'.getD i r0).1) (l'.getD i r0).2).2 = rc := by rw [hN, hrr, hmr]
   have hall := hst.out.2.2.2.2
   have hst2 := hst.out
   rw [hN] at hst2
   have HPP : Hid (Calls Tryz.prog 28 #[.slice Ax nx cx, .string key] wr.drew (fun e w5 => ∃ A6 m6 c6, e = .returned (.slice A6 m6 c6) ∧ w5.cell? ⟨pb, off + i * 2, none⟩ = some (.string key) ∧ w5.cell? ⟨pb, off + i * 2 + 1, none⟩ = some (.slice A4 ml c4) ∧ Hid (Calls Tryz.prog 54 #[.slice A6 m6 c6, .slice A4 ml c4] w5 (fun e w6 => ∃ A7 c7, e = .returned (.tuple #[.slice A7 rn c7, .int .i64 rc]) ∧ w6.cell? ⟨pb, off + i * 2, none⟩ = some (.string key) ∧ w6.cell? ⟨pb, off + i * 2 + 1, none⟩ = some (.slice A4 ml c4) ∧ Hid (rn ≤ c7 ∧ Vs w6 0 w6.heap.size A7 rl ∧ Below wr.heap.size wr w6))))) := Lib.hid (by
    have hGw : Rb wr.drew wr.heap.size Ax N := Rb.below hst2.2.2.1 (Nat.le_refl _) hdr
    refine (get_any Ax cx nx wr.heap.size N hst2.1 key wr.drew (Nat.le_refl _) hGw (by omega)).mono ?_
    rintro e w5 ⟨A6, m6, c6, rfl, h6, rfl⟩
    refine ⟨A6, m6, c6, rfl, k0, k1, Lib.hid ?_⟩
    refine (ref_merge_any A6 A4 c6 c4 m6 ml _ lv h6.out.1 hml wr.drew h6.out.2.2.2 ((k2.more hbw.size).below hdr) h6.out.2.2.1 k3.2.1).mono ?_
    rintro e w6 ⟨A7, c7, rfl, hc7, hv7, b6⟩
    rw [hmr] at hc7 hv7 ⊢
    exact ⟨A7, c7, by rw [← hrn], (b6.cell (p := ⟨pb, _, none⟩) hpw).trans k0, (b6.cell (p := ⟨pb, _, none⟩) hpw).trans k1, Lib.hid ⟨by rw [← hrn]; exact hc7, hv7, hdr.trans b6⟩⟩)
   have HST := Lib.hid (And.intro hst2 (And.intro hstep (And.intro hmr (And.intro hrn (And.intro k3.2.2 (And.intro hbw (And.intro hcode (And.intro hil hall))))))))
   clear hst hst2 k2 hml k3 hrr hpw hdr hbw hN hstep hmr hrn hcode hil hall
   go_wp2_with fail
   go_region_held3 (fun W => W.cell? ⟨pb, off + i * 2, none⟩ = some (.string key) ∧ W.cell? ⟨pb, off + i * 2 + 1, none⟩ = some (.slice A4 ml c4))
    (first | exact ⟨k0, k1⟩ | (refine ⟨?_, ?_⟩ <;> assumption))
    (first
     | (go_at_call 28; refine HPP.out.mono ?_; rintro e w5 ⟨A6, m6, c6, rfl, q0, q1, HH⟩)
     | (go_at_call 54; refine HH.out.mono ?_; rintro e w6 ⟨A7, c7, rfl, z0, z1, HB6⟩))
   all_goals
    have hb26 := HST.out.2.2.2.2.2.1.trans (HB6.out.2.2.mono HST.out.2.2.2.2.2.1.size)
    have hRb6 : Rb w6 w6.heap.size Ax N := rb_more (Rb.below HST.out.1.2.2.1 (Nat.le_refl _) HB6.out.2.2) HB6.out.2.2.size
    by_cases hrc : rc = 0
    ·subst hrc
     have hr512 : rl.length ≤ 512 := (merge_right HST.out.2.2.1).2.2.2.2.1
     have HW := Lib.hid (with_any Ax A7 cx c7 nx rn w6.heap.size N key rl HST.out.1.1 (by omega) HST.out.2.2.2.1 ⟨HB6.out.1, by have := HST.out.2.2.2.1; omega, HST.out.2.2.2.2.1⟩ w6 (Nat.le_refl _) hRb6 HB6.out.2.1)
     have HF : Hid (∀ A8 n8 c8 (ps8 : List Pr) w7, ps8.map Prod.fst = withR N (key, rl) → (withR N (key, rl)).length = n8 → n8 ≤ c8 → RowX w6.heap.size w6.heap.size w7 (.slice A8 n8 c8) ps8 → Below w6.heap.size w6 w7 → BothUp l' l n' n V (.slice A8 n8 c8) (.int .i64 ((i : Int) + 1)) w7) := Lib.hid fun A8 n8 c8 ps8 w7 g1 g2 g3 g4 g5 => by
      have h6 := with_len N (key, rl)
      rw [HST.out.1.1, g2] at h6
      have hrb := g4.rb
      rw [g1] at hrb
      refine ⟨i + 1, n8, A8, c8, by push_cast; rfl, by omega, rfl, by omega, Lib.hid ⟨?_, g3, ?_, hb26.trans (g5.mono hb26.size), fun j hj => ?_⟩⟩
      ·rw [HST.out.2.1, if_pos rfl]; exact g2
      ·rw [HST.out.2.1, if_pos rfl]; exact rb_more hrb g5.size
      ·rcases Nat.lt_or_ge j i with h | h
       ·exact HST.out.2.2.2.2.2.2.2.2 j h
       ·rw [show j = i by omega]; exact HST.out.2.2.2.2.2.2.1
     clear hb26 hRb6 hr512
     go_wp2_with fail
     refine HW.out.mono ?_
     rintro e7 w7 ⟨A8, n8, c8, ps8, rfl, h8, b8⟩
     have HF2 := Lib.hid (HF.out A8 n8 c8 ps8 w7 h8.out.1 h8.out.2.1 h8.out.2.2.1 h8.out.2.2.2 b8)
     clear h8 b8 HW
     go_wp2_with fail
     go_roundw
     case rel => exact HF2.out
     case measure => simp only [intOf]; omega
    ·have e1 : (rc != 0) = true := by simp [hrc]
     have HE : Hid (BothT l l' V (.returned (.tuple #[.slice none 0 0, .bool false])) w6) := Lib.hid (.inr ⟨fun h => hrc (by rw [← HST.out.2.2.2.2.2.2.1]; exact h i HST.out.2.2.2.2.2.2.2.1), rfl, hb26⟩)
     clear hb26 hRb6 hrc
     go_wp2_with fail
     go_ret2
     exact HE.out
  ·have him : i = n' := by omega
   subst him
   have hfull : l'.take i = l' := List.take_of_length_le (by have := HP.out.1; omega)
   have HE : Hid (BothT l l' V (.returned (.tuple #[.slice Ax nx cx, .bool true])) wr) := Lib.hid (.inl ⟨fun k hk => hst.out.2.2.2.2 k (by have := HP.out.1; omega), Ax, nx, cx, rfl, Lib.hid (by
    have h := hst.out
    rw [hfull] at h
    exact ⟨h.1, h.2.1, rb_rs h.2.2.1 (Nat.le_refl _)⟩), hbw⟩)
   clear hst hfull hbw
   go_wp2_with fail
   go_ret2
   exact HE.out
end Mend
end Go.Proofs.YtekhaejhmlebbaaGreat

/-
 firthref14.doubt and Doubt: has an unlike place one hash? (layer 14)
-/
namespace Go.Proofs.YtekhaejhmlebbaaGreat
namespace Mend
open Go.RowKit Vers Num Ring Disk Blk Tree
open Go.Proofs.YtekhaejhmlebbaaGreat.Code hiding Bn
attribute [local go_sem ↓] Go.wp_at_zero Go.wp_at_succ
def dbF (x y : List Rc) (p : List Int) : Prop := hashF x p = hashF y p ∧ recsF x p ≠ recsF y p
instance (x y : List Rc) (p : List Int) : Decidable (dbF x y p) := by unfold dbF; infer_instance
theorem newS_rs {l : List Rc} {w w' : World} {e : Ending} (h : NewS l w e w') : ∃ A m c, e = .returned (.slice A m c) ∧ l.length = m ∧ Rs w' 0 w'.heap.size A l ∧ Below w.heap.size w w' := by
 obtain ⟨A, m, c, ps, he, h1, hb⟩ := h
 refine ⟨A, m, c, he, h1.out.2.1, ?_, hb⟩
 have h2 := h1.out.2.2.2.rs hb.size
 rwa [h1.out.1] at h2
theorem recs_len (all : List Rc) (p : List Int) : (recsF all p).length ≤ all.length := by
 unfold recsF
 split
 ·exact beneath_len _ _
 ·simp
set_option maxRecDepth 100000 in
set_option maxHeartbeats 4000000 in
theorem doubt_any (A A' Ap : Option Addr) (c c' cp n n' np : Nat) (x y : List Rc) (p : List Int) (hx : x.length = n) (hy : y.length = n') (hp : p.length = np) (hb1 : n ≤ 3518437208780) (hb2 : n' ≤ 3518437208780) (hbp : np ≤ 140737488355328) (hox : okL x) (hoy : okL y) (V : World) (hr : Rs V 0 V.heap.size A x) (hr' : Rs V 0 V.heap.size A' y) (hn : Ns .i64 V V.heap.size Ap p) :
  Calls Tryz.prog 57 #[.slice A n c, .slice A' n' c', .slice Ap np cp] V (fun e w' => e = .returned (.bool (decide (dbF x y p))) ∧ Below V.heap.size V w') := by
 have HP : Hid (∀ W, Below V.heap.size V W → Rs W 0 W.heap.size A x ∧ Rs W 0 W.heap.size A' y ∧ Ns .i64 W W.heap.size Ap p) := Lib.hid fun W hW => ⟨(hr.below hW).more hW.size, (hr'.below hW).more hW.size, (hn.below hW).more hW.size⟩
 have HL := Lib.hid (And.intro hx (And.intro hy (And.intro hp (And.intro hox hoy))))
 have h0 := HP.out V (Below.refl _ _)
 have H1 := Lib.hid (ref_hash_tell V A c n x hx (by omega) hox h0.1 Ap cp np p hp hbp h0.2.2)
 obtain ⟨h1, hh1⟩ : ∃ h, hashF x p = h := ⟨_, rfl⟩
 obtain ⟨h2, hh2⟩ : ∃ h, hashF y p = h := ⟨_, rfl⟩
 rw [hh1] at H1
 have HH := Lib.hid (And.intro hh1 hh2)
 clear hx hy hp hox hoy hr hr' hn h0 hh1 hh2
 go_enter Tryz.func57, Tryz.ntmps57
 go_wp2_with fail
 refine H1.out.mono ?_
 rintro e1 w1 ⟨rfl, b1⟩
 have H2 := ref_hash_tell w1 A' c' n' y HL.out.2.1 (by omega) HL.out.2.2.2.2 (HP.out w1 b1).2.1 Ap cp np p HL.out.2.2.1 hbp (HP.out w1 b1).2.2
 rw [HH.out.2] at H2
 have H2 := Lib.hid H2
 have B1 := Lib.hid b1
 clear b1 H1
 go_wp2_with fail
 refine H2.out.mono ?_
 rintro e2 w2 ⟨rfl, b2⟩
 have B2 := Lib.hid (B1.out.trans (b2.mono B1.out.size))
 clear b2 H2 B1
 by_cases hq : h1 = h2
 ·have e9 : (h1 == h2) = true := by simp [hq]
  have H3 := Lib.hid (ref_recs_tell A Ap c cp np n x p HL.out.1 (by omega) HL.out.2.2.1 hbp w2 (HP.out w2 B2.out).1 (HP.out w2 B2.out).2.2)
  have HQ := Lib.hid hq
  clear hq
  go_wp2_with fail
  refine H3.out.mono ?_
  rintro e3 w3 h3
  obtain ⟨A3, m3, c3, rfl, g3, hr3, b3⟩ := newS_rs h3
  have B3 := Lib.hid (B2.out.trans (b3.mono B2.out.size))
  have H4 := Lib.hid (ref_recs_tell A' Ap c' cp np n' y p HL.out.2.1 (by omega) HL.out.2.2.1 hbp w3 (HP.out w3 B3.out).2.1 (HP.out w3 B3.out).2.2)
  have HR3 := Lib.hid (And.intro g3 hr3)
  clear h3 g3 hr3 b3 H3 B2
  go_wp2_with fail
  refine H4.out.mono ?_
  rintro e4 w4 h4
  obtain ⟨A4, m4, c4, rfl, g4, hr4, b4⟩ := newS_rs h4
  have B4 := Lib.hid (B3.out.trans (b4.mono B3.out.size))
  have hl3 := recs_len x p
  have hl4 := recs_len y p
  rw [HR3.out.1, HL.out.1] at hl3
  rw [g4, HL.out.2.1] at hl4
  have H5 := srecs_any A3 A4 c3 c4 m3 m4 _ _ HR3.out.1 g4 w4 ((HR3.out.2.below b4).more b4.size) hr4 (by omega) (by omega)
  obtain ⟨b, hb⟩ : ∃ b, decide (recsF x p = recsF y p) = b := ⟨_, rfl⟩
  rw [hb] at H5
  have H5 := Lib.hid H5
  have HF : Hid (decide (dbF x y p) = !b) := Lib.hid (by
   have hd : dbF x y p ↔ ¬ recsF x p = recsF y p := ⟨fun h => h.2, fun h => ⟨by rw [HH.out.1, HH.out.2]; exact HQ.out, h⟩⟩
   rw [← hb]
   by_cases hxy : recsF x p = recsF y p
   ·rw [decide_eq_false (fun h => hd.1 h hxy), decide_eq_true hxy]; rfl
   ·rw [decide_eq_true (hd.2 hxy), decide_eq_false hxy]; rfl)
  clear h4 g4 hr4 b4 hl3 hl4 hb H4 HR3 B3
  go_wp2_with fail
  refine H5.out.mono ?_
  rintro e5 w5 ⟨rfl, b5⟩
  have HE := Lib.hid (B4.out.trans (b5.mono B4.out.size))
  clear b5 H5 B4
  go_wp2_with fail
  go_ret
  exact ⟨by rw [HF.out]; rfl, HE.out⟩
 ·have e9 : (h1 == h2) = false := by simp [hq]
  have HF : Hid (decide (dbF x y p) = false) := Lib.hid (decide_eq_false fun h => hq (by rw [← HH.out.1, ← HH.out.2]; exact h.1))
  clear hq
  go_wp2_with fail
  go_ret
  exact ⟨by rw [HF.out]; rfl, B2.out⟩
theorem okL_held {l : List Rc} (h : okL l) : okL (heldF l) := by
 have hf : ∀ (l acc : List Rc), okL l → okL acc → okL (l.foldl withR acc) := by
  intro l
  induction l with
  | nil => exact fun _ _ h => h
  | cons r l ih =>
   intro acc h1 h2
   refine ih _ (fun x hx => h1 x (List.mem_cons_of_mem _ hx)) fun x hx => ?_
   rcases with_mem.1 hx with ⟨rfl, _⟩ | ⟨hx, _⟩
   ·exact h1 _ (by simp)
   ·exact h2 x hx
 exact hf l [] h fun _ hr => by cases hr
def DoubtT (x y : List Rc) (V : World) (e : Ending) (w' : World) : Prop := (∃ d, e = .returned (.bool d) ∧ (d = false → ∀ p, okP p → ¬ dbF x y p)) ∧ Below V.heap.size V w'
theorem ns_p1 (w : World) (x : Int) : Ns .i64 (w.alloc (.cells #[.int .i64 x] 3)) (w.alloc (.cells #[.int .i64 x] 3)).heap.size (some ⟨w.heap.size, 0, none⟩) [x] := fun _ =>
 ⟨w.heap.size, 0, rfl, by simp, fun j hj => by
  obtain rfl : j = 0 := by simp at hj; omega
  simp⟩
theorem ns_p2 (w : World) (x y : Int) : Ns .i64 (w.alloc (.cells #[.int .i64 x, .int .i64 y] 3)) (w.alloc (.cells #[.int .i64 x, .int .i64 y] 3)).heap.size (some ⟨w.heap.size, 0, none⟩) [x, y] := fun _ =>
 ⟨w.heap.size, 0, rfl, by simp, fun j hj => by
  obtain rfl | rfl : j = 0 ∨ j = 1 := by simp at hj; omega
  all_goals simp⟩
def noneP (x y : List Rc) (p : Nat) : Prop := ¬ dbF x y [] ∧ ∀ i : Nat, i < p → ¬ dbF x y [(i : Int)] ∧ ∀ j : Nat, j < 16 → ¬ dbF x y [(i : Int), (j : Int)]
theorem none_all {x y : List Rc} (h : noneP x y 16) : ∀ p, okP p → ¬ dbF x y p := fun p hp => by
 rcases ok_cases hp with rfl | ⟨a, rfl, h1, h2⟩ | ⟨a, b, rfl, h1, h2⟩
 ·exact h.1
 ·obtain ⟨k, rfl⟩ := Int.eq_ofNat_of_zero_le h1
  exact (h.2 k (by omega)).1
 ·obtain ⟨k, rfl⟩ := Int.eq_ofNat_of_zero_le h1.1
  obtain ⟨j, rfl⟩ := Int.eq_ofNat_of_zero_le h2.1
  exact (h.2 k (by omega)).2 j (by omega)
set_option maxRecDepth 100000 in
set_option maxHeartbeats 4000000 in
theorem doubts_any (A A' : Option Addr) (c c' n n' : Nat) (l l' : List Rc) (hn : l.length = n) (hn' : l'.length = n') (hb1 : n ≤ 3518437208780) (hb2 : n' ≤ 3518437208780) (hok : okL l) (hok' : okL l') (V : World) (hr : Rs V 0 V.heap.size A l) (hr' : Rs V 0 V.heap.size A' l') :
  Calls Tryz.prog 23 #[.slice A n c, .slice A' n' c'] V (DoubtT (heldF l) (heldF l') V) := by
 have H1 := Lib.hid (held_any A c n V.heap.size l hn (by omega) V (Nat.le_refl _) (rs_rb hr))
 have HP := Lib.hid (And.intro hn (And.intro hn' (And.intro (rs_rb hr') (And.intro hok hok'))))
 clear hn hn' hr hr' hok hok'
 go_enter Tryz.func23, Tryz.ntmps23
 go_wp2_with fail
 refine H1.out.mono ?_
 rintro e1 w1 (⟨_, Aa, na, ca, ps, rfl, h1, b1⟩ | ⟨hno, _, _⟩)
 rotate_left
 ·exact absurd HP.out.2.2.2.1 hno
 have H2 := Lib.hid (held_any A' c' n' V.heap.size l' HP.out.2.1 (by omega) w1 b1.size (Rb.below HP.out.2.2.1 (Nat.le_refl _) b1))
 have HA := Lib.hid (And.intro h1.out b1)
 clear H1 h1 b1
 go_wp2_with fail
 refine H2.out.mono ?_
 rintro e2 w2 (⟨_, Ab, nb, cb, ps2, rfl, h2, b2⟩ | ⟨hno, _, _⟩)
 rotate_left
 ·exact absurd HP.out.2.2.2.2 hno
 have b12 : Below V.heap.size V w2 := HA.out.2.trans (b2.mono HA.out.2.size)
 obtain ⟨x, hx⟩ : ∃ x, heldF l = x := ⟨_, rfl⟩
 obtain ⟨y, hy⟩ : ∃ y, heldF l' = y := ⟨_, rfl⟩
 have hxl : na ≤ 3518437208780 := by have := held_len l; rw [HP.out.1, HA.out.1.2.1] at this; omega
 have hyl : nb ≤ 3518437208780 := by have := held_len l'; rw [HP.out.2.1, h2.out.2.1] at this; omega
 have hrx : Rs w2 0 w2.heap.size Aa x := by
  have h := (RowX.keepB HA.out.1.2.2.2 b2 HA.out.2.size).rb
  rw [HA.out.1.1, hx] at h
  exact rb_rs h b12.size
 have hry : Rs w2 0 w2.heap.size Ab y := by
  have h := h2.out.2.2.2.rb
  rw [h2.out.1, hy] at h
  exact rb_rs h b12.size
 have hlx : x.length = na := by rw [← hx]; exact HA.out.1.2.1
 have hly : y.length = nb := by rw [← hy]; exact h2.out.2.1
 have hox : okL x := by rw [← hx]; exact okL_held HP.out.2.2.2.1
 have hoy : okL y := by rw [← hy]; exact okL_held HP.out.2.2.2.2
 have HXY := Lib.hid (And.intro hx hy)
 have HD : Hid (∀ W (Ap : Option Addr) (cp np : Nat) (p : List Int), Below w2.heap.size w2 W → p.length = np → np ≤ 2 → Ns .i64 W W.heap.size Ap p → Calls Tryz.prog 57 #[.slice Aa na ca, .slice Ab nb cb, .slice Ap np cp] W (fun e w' => e = .returned (.bool (decide (dbF x y p))) ∧ Below W.heap.size W w')) := Lib.hid fun W Ap cp np p hW h3 h4 h5 =>
  doubt_any Aa Ab Ap ca cb cp na nb np x y p hlx hly h3 hxl hyl (by omega) hox hoy W ((hrx.below hW).more hW.size) ((hry.below hW).more hW.size) h5
 have H3 := HD.out w2 none 0 0 [] (Below.refl _ _) rfl (by omega) (fun h => by simp at h)
 obtain ⟨d0, hd0⟩ : ∃ d, decide (dbF x y []) = d := ⟨_, rfl⟩
 rw [hd0] at H3
 have H3 := Lib.hid H3
 have HB := Lib.hid b12
 have HD0 := Lib.hid hd0
 clear H2 h2 b2 b12 hx hy hrx hry hlx hly hox hoy hxl hyl HA hd0
 go_wp2_with fail
 refine H3.out.mono ?_
 rintro e3 w3 ⟨rfl, b3⟩
 have HI : Hid (Below w2.heap.size w2 w3) := Lib.hid b3
 clear b3 H3
 cases d0
 ·have HN0 := Lib.hid (of_decide_eq_false HD0.out)
  go_wp2_with fail
  go_loopw [9] (fun q wr => ∃ p : Nat, q = .int .i64 p ∧ p ≤ 16 ∧ Hid (noneP x y p ∧ Below w2.heap.size w2 wr)) (fun q _ => 16 - (intOf q).toNat)
  case atStart => exact ⟨0, rfl, by omega, Lib.hid ⟨⟨HN0.out, fun i hi => by omega⟩, HI.out⟩⟩
  case round =>
   clear HI
   obtain ⟨p, rfl, hp, hst⟩ := hrel
   by_cases hlt : p < 16
   ·have d1 : (p : Int) < 16 := by omega
    have ba : Below wr.heap.size wr (wr.alloc (.cells #[.int .i64 p] 3)) := (Below.refl _ _).alloc (Nat.le_refl _) _
    have ba2 := hst.out.2.trans (ba.mono hst.out.2.size)
    have H4 := HD.out _ (some ⟨wr.heap.size, 0, none⟩) 1 1 [(p : Int)] ba2 rfl (by omega) (ns_p1 wr p)
    obtain ⟨d, hd⟩ : ∃ d, decide (dbF x y [(p : Int)]) = d := ⟨_, rfl⟩
    rw [hd] at H4
    have H4 := Lib.hid H4
    have HST := Lib.hid (And.intro hst.out.1 (And.intro hd ba2))
    clear hst ba ba2 hd
    go_wp2_with fail
    refine H4.out.mono ?_
    rintro e4 w4 ⟨rfl, b4⟩
    have HI4 : Hid (Below w2.heap.size w2 w4) := Lib.hid (HST.out.2.2.trans (b4.mono HST.out.2.2.size))
    clear b4 H4
    cases d
    ·have HN1 := Lib.hid (of_decide_eq_false HST.out.2.1)
     go_wp2_with fail
     go_loopw [10] (fun q wr => ∃ j : Nat, q = .int .i64 j ∧ j ≤ 16 ∧ Hid ((∀ i : Nat, i < j → ¬ dbF x y [(p : Int), (i : Int)]) ∧ Below w2.heap.size w2 wr)) (fun q _ => 16 - (intOf q).toNat)
     case atStart => exact ⟨0, rfl, by omega, Lib.hid ⟨fun i hi => by omega, HI4.out⟩⟩
     case round =>
      clear HI4
      obtain ⟨j, rfl, hj, hst⟩ := hrel
      by_cases hlt2 : j < 16
      ·have d2 : (j : Int) < 16 := by omega
       have bb : Below wr.heap.size wr (wr.alloc (.cells #[.int .i64 p, .int .i64 j] 3)) := (Below.refl _ _).alloc (Nat.le_refl _) _
       have bb2 := hst.out.2.trans (bb.mono hst.out.2.size)
       have H5 := HD.out _ (some ⟨wr.heap.size, 0, none⟩) 2 2 [(p : Int), (j : Int)] bb2 rfl (by omega) (ns_p2 wr p j)
       obtain ⟨d, hd⟩ : ∃ d, decide (dbF x y [(p : Int), (j : Int)]) = d := ⟨_, rfl⟩
       rw [hd] at H5
       have H5 := Lib.hid H5
       have HS2 := Lib.hid (And.intro hst.out.1 (And.intro hd bb2))
       clear hst bb bb2 hd
       go_wp2_with fail
       refine H5.out.mono ?_
       rintro e5 w5 ⟨rfl, b5⟩
       have HI5 : Hid (Below w2.heap.size w2 w5) := Lib.hid (HS2.out.2.2.trans (b5.mono HS2.out.2.2.size))
       clear b5 H5
       cases d
       ·have HN2 := Lib.hid (of_decide_eq_false HS2.out.2.1)
        go_wp2_with fail
        go_roundw
        case rel => exact ⟨j + 1, by go_num, by omega, Lib.hid ⟨fun i hi => by
         rcases Nat.lt_or_ge i j with h | h
         ·exact HS2.out.1 i h
         ·rw [show i = j by omega]; exact HN2.out, HI5.out⟩⟩
        case measure => simp only [intOf]; omega
       ·go_wp2_with fail
        go_ret
        exact ⟨⟨true, rfl, fun h => by cases h⟩, HB.out.trans (HI5.out.mono HB.out.size)⟩
      ·have hjm : j = 16 := by omega
       subst hjm
       have HF := Lib.hid (And.intro (show noneP x y (p + 1) from ⟨HST.out.1.1, fun i hi => by
        rcases Nat.lt_or_ge i p with h | h
        ·exact HST.out.1.2 i h
        ·rw [show i = p by omega]; exact ⟨HN1.out, hst.out.1⟩⟩) hst.out.2)
       clear hst
       go_wp2_with fail
       go_roundw
       case rel => exact ⟨p + 1, by go_num, by omega, HF⟩
       case measure => simp only [intOf]; omega
    ·go_wp2_with fail
     go_ret
     exact ⟨⟨true, rfl, fun h => by cases h⟩, HB.out.trans (HI4.out.mono HB.out.size)⟩
   ·have hpm : p = 16 := by omega
    subst hpm
    have HF := Lib.hid (And.intro (none_all hst.out.1) hst.out.2)
    clear hst
    go_wp2_with fail
    go_ret
    exact ⟨⟨false, rfl, fun _ => by rw [HXY.out.1, HXY.out.2]; exact HF.out.1⟩, HB.out.trans (HF.out.2.mono HB.out.size)⟩
 ·go_wp2_with fail
  go_ret
  exact ⟨⟨true, rfl, fun h => by cases h⟩, HB.out.trans (HI.out.mono HB.out.size)⟩
end Mend
end Go.Proofs.YtekhaejhmlebbaaGreat

/-
 The document's Differ (layer 14; TreeDiffer without the place, which TreeDoc has).
-/
namespace Go.Proofs.YtekhaejhmlebbaaGreat
namespace Tree
open Go.RowKit Vers Num Ring Disk Blk
open Go.Proofs.YtekhaejhmlebbaaGreat.Code hiding Bn
attribute [local go_sem ↓] Go.wp_at_zero Go.wp_at_succ

end Tree
end Go.Proofs.YtekhaejhmlebbaaGreat

/-
 Steps of an answer in memory: rows of three slices each (layer 14).
-/
namespace Go.Proofs.YtekhaejhmlebbaaGreat
namespace Mend
open Go.RowKit Vers Num Ring Disk Blk Tree
open Go.Proofs.YtekhaejhmlebbaaGreat.Code hiding Bn
abbrev Sl3 := Option Addr × Nat × Nat
abbrev St := Sl3 × Sl3 × Sl3
def slV (x : Sl3) : Value := .slice x.1 x.2.1 x.2.2
def stc (x : St) : List Value := [slV x.1, slV x.2.1, slV x.2.2]
def stcs (l : List St) : List Value := l.flatMap stc
theorem stcs_append (l m : List St) : stcs (l ++ m) = stcs l ++ stcs m := by simp [stcs]
theorem stcs_one (x : St) : stcs [x] = stc x := by simp [stcs]
theorem stcs_at (l : List St) : ∀ (j : Nat) (x : St), l[j]? = some x → ∀ r, r < 3 → (stcs l)[j * 3 + r]? = (stc x)[r]? := by
 induction l with
 | nil => intro j x h; simp at h
 | cons y l ih =>
  intro j x hj r hr
  have hc : stcs (y :: l) = stc y ++ stcs l := by simp [stcs]
  rw [hc]
  cases j with
  | zero =>
   simp at hj
   subst hj
   rw [Nat.zero_mul, Nat.zero_add, List.getElem?_append_left (by simp [stc]; omega)]
  | succ j =>
   rw [List.getElem?_cons_succ] at hj
   rw [List.getElem?_append_right (by simp [stc]; omega)]
   have e : (j + 1) * 3 + r - (stc y).length = j * 3 + r := by simp [stc]; omega
   rw [e]
   exact ih j x hj r hr
section
variable {P : Program} {w : World}
theorem wpList_append_st {ops : Array Oper} {rest : List Oper} {o : Oper} {a : Act} {Q : Exit → Act → World → Prop} (hgd : o.guard = none) (s x : Operand) (t : TypeId)
  (ho : o.op = .call { callee := .builtin .append, args := #[s, x], argTypes := #[t, t] })
  (base : Nat) (e : TypeId) (i : TypeInfo) (z : Value) (bytes : Nat) (ht : P.underlying t = some (.slice e)) (hi : P.info? e = some i) (hz : i.zero = some z)
  (hsize : i.size = 3) (hby : i.bytes = bytes) (hzs : z.cells.size = 3)
  (v : Value) (n : Nat) (l : List St) (hs : a.eval s = v) (hown : w.ownsRow base e 3 v n (stcs l)) (y : St) (c : Nat)
  (hx : a.eval x = .slice (some ⟨w.heap.size, 0, none⟩) 1 c)
  (hbytes : (n + 1) * bytes ≤ 140737488355328) (hn : n + 1 ≤ 140737488355328) (hbase : base ≤ w.heap.size)
  (h : ∀ v' w', w'.ownsRow base e 3 v' (n + 1) (stcs (l ++ [y])) → w.grownBy w' v.ownBlock → (v'.ownBlock = v.ownBlock ∨ ∃ g, v'.ownBlock = some g ∧ w.heap.size ≤ g) → wpList P ops Q rest (a.put o.dst v') w') :
  wpList P ops Q (o :: rest) a (w.alloc (.cells #[.slice y.1.1 y.1.2.1 y.1.2.2, .slice y.2.1.1 y.2.1.2.1 y.2.1.2.2, .slice y.2.2.1 y.2.2.2.1 y.2.2.2.2] e)) := by
 refine wpList_append_own_at _ hgd s x t ho base e i z 3 bytes ht hi hz hsize hby hzs (by omega) v n (stcs l) hs (hown.alloc _) ⟨w.heap.size, 0, none⟩ 1 c (stc y) hx rfl ?_ ?_ (by unfold maxLen; omega) hbytes (by simp; omega) ?_
 ·intro j u' hj
  match j, hj with
  | 0, hj => simp [stc, slV] at hj; subst hj; simp [Addr.add]
  | 1, hj => simp [stc, slV] at hj; subst hj; simp [Addr.add]
  | 2, hj => simp [stc, slV] at hj; subst hj; simp [Addr.add]
 ·intro u' hu
  simp [stc, slV] at hu
  rcases hu with rfl | rfl | rfl <;> rfl
 ·intro v' w' hown' hg _ hat
  refine h v' w' ?_ ?_ ?_
  ·rw [stcs_append, stcs_one]; exact hown'
  ·exact ⟨hg.os, hg.tape, hg.output, Nat.le_trans (by simp) hg.size, fun k hk hne => (hg.block k (by simp; omega) hne).trans (Below.heap_alloc w _ k hk)⟩
  ·rcases hat with h1 | h1
   ·exact .inl h1
   ·exact .inr ⟨_, h1, by simp⟩
end
def StIs (w : World) (x : St) (s : Stp3) : Prop :=
 (s.1.length = x.1.2.1 ∧ x.1.2.1 ≤ 4 ∧ Ns .i64 w w.heap.size x.1.1 s.1) ∧ (s.2.1.length = x.2.1.2.1 ∧ x.2.1.2.1 ≤ 16 ∧ Ns .u64 w w.heap.size x.2.1.1 s.2.1) ∧ s.2.2.length = x.2.2.2.1 ∧ x.2.2.2.1 ≤ 3518437208882 ∧ Rs w 0 w.heap.size x.2.2.1 s.2.2
theorem StIs.below {w w' : World} {x : St} {s : Stp3} (h : StIs w x s) (hb : Below w.heap.size w w') : StIs w' x s :=
 ⟨⟨h.1.1, h.1.2.1, (h.1.2.2.below hb).more hb.size⟩, ⟨h.2.1.1, h.2.1.2.1, (h.2.1.2.2.below hb).more hb.size⟩, h.2.2.1, h.2.2.2.1, (h.2.2.2.2.below hb).more hb.size⟩
def Sta (G : Nat → Prop) (w : World) (P : World → Prop) : Prop := ∀ w', w.heap.size ≤ w'.heap.size → (∀ k, k < w.heap.size → ¬ G k → w'.heap[k]? = w.heap[k]?) → P w'
theorem Sta.now {G : Nat → Prop} {w : World} {P : World → Prop} (h : Sta G w P) : P w := h w (Nat.le_refl _) fun _ _ _ => rfl
theorem Sta.less {G G' : Nat → Prop} {w : World} {P : World → Prop} (h : Sta G w P) (hG : ∀ k, G' k → G k) : Sta G' w P := fun w' hs hk => h w' hs fun k h1 h2 => hk k h1 fun h3 => h2 (hG k h3)
theorem Sta.go {G G' : Nat → Prop} {w w' : World} {P : World → Prop} (h : Sta G w P) (hs : w.heap.size ≤ w'.heap.size) (hk : ∀ k, k < w.heap.size → ¬ G k → w'.heap[k]? = w.heap[k]?) (hG : ∀ k, k < w.heap.size → G' k → G k) : Sta G' w' P := fun w2 hs2 hk2 => h w2 (Nat.le_trans hs hs2) fun k h1 h2 => (hk2 k (Nat.lt_of_lt_of_le h1 hs) fun h3 => h2 (hG k h1 h3)).trans (hk k h1 h2)
def StepsR (X : Nat → Prop) (t : TypeId) (base : Nat) (L : List Stp3) (v : Value) (w : World) : Prop :=
 ∃ sts : List St, sts.length = L.length ∧ w.ownsRow base t 3 v L.length (stcs sts) ∧ ∀ (j : Nat) (s : Stp3) (x : St), L[j]? = some s → sts[j]? = some x → Sta (fun k => X k ∨ v.ownBlock = some k) w (fun W => StIs W x s)
theorem steps_nil (X : Nat → Prop) (t : TypeId) (base : Nat) (w : World) : StepsR X t base [] (.slice none 0 0) w := ⟨[], rfl, World.ownsRow_nil _ _ _ _, fun j s x h => by simp at h⟩
theorem StepsR.less {X X' : Nat → Prop} {t : TypeId} {base : Nat} {L : List Stp3} {v : Value} {w : World} (h : StepsR X t base L v w) (hX : ∀ k, X' k → X k) : StepsR X' t base L v w := by
 obtain ⟨sts, h1, h2, h3⟩ := h
 exact ⟨sts, h1, h2, fun j s x a b => (h3 j s x a b).less fun k hk => hk.imp (hX k) id⟩
theorem StepsR.low {X : Nat → Prop} {t : TypeId} {base base' : Nat} {L : List Stp3} {v : Value} {w : World} (h : StepsR X t base L v w) (hb : base' ≤ base) : StepsR X t base' L v w := by
 obtain ⟨sts, h1, ⟨h0, h2⟩, h3⟩ := h
 refine ⟨sts, h1, ⟨h0, ?_⟩, h3⟩
 rcases h2 with h2 | ⟨g, cap, cur, e, hg, hr⟩
 ·exact .inl h2
 ·exact .inr ⟨g, cap, cur, e, Nat.le_trans hb hg, hr⟩
theorem StepsR.chg {X : Nat → Prop} {t : TypeId} {base : Nat} {L : List Stp3} {v : Value} {w w' : World} (h : StepsR X t base L v w) (hc : Chg X w w') (hX : ∀ g, v.ownBlock = some g → ¬ X g) : StepsR X t base L v w' := by
 obtain ⟨sts, h1, h2, h3⟩ := h
 refine ⟨sts, h1, Blk.own_keep h2 fun g hg => hc.block g (h2.lt g hg).2 (hX g hg), fun j s x a b => (h3 j s x a b).go hc.size (fun k hk hn => hc.block k hk fun e => hn (.inl e)) fun k _ hk => hk⟩
theorem StepsR.below {X : Nat → Prop} {t : TypeId} {base : Nat} {L : List Stp3} {v : Value} {w w' : World} (h : StepsR X t base L v w) (hb : Below w.heap.size w w') : StepsR X t base L v w' := by
 obtain ⟨sts, h1, h2, h3⟩ := h
 exact ⟨sts, h1, own_below h2 hb (Nat.le_refl _), fun j s x a b => (h3 j s x a b).go hb.size (fun k hk _ => hb.block k hk) fun k _ hk => hk⟩
theorem steps_more {X : Nat → Prop} {t : TypeId} {base : Nat} {L : List Stp3} {sts : List St} {v v' : Value} {Z w' : World} {n : Nat} {s : Stp3} {y : St} (hn : L.length = n) (h1 : sts.length = n)
  (h3 : ∀ (j : Nat) (s : Stp3) (x : St), L[j]? = some s → sts[j]? = some x → Sta (fun k => X k ∨ v.ownBlock = some k) Z (fun W => StIs W x s)) (hy : Sta (fun k => X k ∨ v.ownBlock = some k) Z (fun W => StIs W y s)) (_hX : ∀ k, X k → k < Z.heap.size)
  (ho : w'.ownsRow base t 3 v' (n + 1) (stcs (sts ++ [y]))) (hg : Z.grownBy w' v.ownBlock) (hat : v'.ownBlock = v.ownBlock ∨ ∃ g, v'.ownBlock = some g ∧ Z.heap.size ≤ g) : StepsR X t base (L ++ [s]) v' w' := by
 have hgo : ∀ P, Sta (fun k => X k ∨ v.ownBlock = some k) Z P → Sta (fun k => X k ∨ v'.ownBlock = some k) w' P := fun P hP => hP.go hg.size (fun k hk hn => hg.block k hk fun e => hn (.inr e.symm)) fun k hk hk2 => by
  rcases hk2 with hk2 | hk2
  ·exact .inl hk2
  ·rcases hat with e | ⟨g, e, hge⟩
   ·exact .inr (e ▸ hk2)
   ·rw [e] at hk2
    injection hk2 with hk2
    omega
 refine ⟨sts ++ [y], by simp [h1, hn], by rw [List.length_append, hn]; exact ho, fun j s' x a b => ?_⟩
 rcases Nat.lt_or_ge j n with hj | hj
 ·rw [List.getElem?_append_left (by omega)] at a b
  exact hgo _ (h3 j s' x a b)
 ·rw [List.getElem?_append_right (by omega)] at a b
  have hj0 : j - n = 0 := by
   have := (List.getElem?_eq_some_iff.1 a).1
   simp at this
   omega
  rw [hn, hj0] at a
  rw [h1, hj0] at b
  simp at a b
  subst a
  subst b
  exact hgo _ hy
theorem info_step : (Tryz.prog.info? 47).map (fun i => (i.zero, i.size, i.bytes)) = some (some (.agg #[.slice none 0 0, .slice none 0 0, .slice none 0 0]), 3, 72) := by kernel_rfl
end Mend
end Go.Proofs.YtekhaejhmlebbaaGreat

/-
 What an answer tells (layer 14).
-/
namespace Go.Proofs.YtekhaejhmlebbaaGreat
namespace Mend
open Go.RowKit Vers Num Ring Disk Blk Tree
open Go.Proofs.YtekhaejhmlebbaaGreat.Code hiding Bn
attribute [local go_sem ↓] Go.wp_at_zero Go.wp_at_succ
def AnsT (t : TypeId) (L : List Stp3) (V : World) (e : Ending) (w' : World) : Prop := ∃ A m c, e = .returned (.slice A m c) ∧ Hid (L.length = m ∧ m ≤ c ∧ StepsR (fun _ => False) t V.heap.size L (.slice A m c) w') ∧ Below V.heap.size V w'
theorem no_answer {l : List Rc} {p hs : List Int} (h : ¬ (okL l ∧ okP p ∧ p.length ≤ 1)) (t : TypeId) {V w : World} (hb : Below V.heap.size V w) : AnsT t (answerF l p hs) V (.returned (.slice none 0 0)) w := by
 unfold answerF
 rw [if_neg h]
 exact ⟨none, 0, 0, rfl, Lib.hid ⟨rfl, Nat.le_refl _, steps_nil _ _ _ _⟩, hb⟩
end Mend
end Go.Proofs.YtekhaejhmlebbaaGreat
