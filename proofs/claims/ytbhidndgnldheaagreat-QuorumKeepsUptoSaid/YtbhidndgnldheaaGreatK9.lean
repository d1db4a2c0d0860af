/-
  Several texts of this family in one: VersPut, VersMergeRef, VersSlice, DiskPlain.
-/
import Derived.Test.YtbhidndgnldheaaGreatK8
import Derived.Test.YtbhidndgnldheaaGreatK5
import Derived.Sort.Walk0
/-
 firthref05.put lays a version where its dot belongs.
-/
namespace Go.Proofs.YtbhidndgnldheaaGreat
namespace Vers
open Go.RowKit Span
attribute [local go_sem ↓] Go.wp_at_zero Go.wp_at_succ

theorem putV_index {l : List Vr} {v : Vr} {k : Nat} (hk : k ≤ l.length) (hb : ∀ j, j < k → dlt (l.getD j v0) v) (hs : k < l.length → ¬ dlt (l.getD k v0) v) :
  putV l v = if k < l.length ∧ same (l.getD k v0) v then l else l.take k ++ v :: l.drop k := by
 induction l generalizing k with
 | nil =>
  obtain rfl : k = 0 := by simpa using hk
  simp [putV]
 | cons x l ih =>
  unfold putV
  rcases k with _ | k
  ·have h0 := hs (by simp)
   simp only [List.getD_cons_zero] at h0
   rw [if_neg h0]
   by_cases hx : same x v
   ·rw [if_pos hx, if_pos ⟨by simp, by simpa using hx⟩]
   ·rw [if_neg hx, if_neg (fun h => hx (by simpa using h.2))]
    rfl
  ·have h0 := hb 0 (by omega)
   simp only [List.getD_cons_zero] at h0
   rw [if_pos h0]
   have h1 := ih (k := k) (by simpa using hk) (fun j hj => by simpa using hb (j + 1) (by omega)) (fun h => by simpa using hs (by simpa using h))
   rw [h1]
   simp only [List.getD_cons_succ, List.length_cons, Nat.add_lt_add_iff_right, List.take_succ_cons, List.drop_succ_cons, List.cons_append]
   split <;> rfl
theorem putV_len (l : List Vr) (v : Vr) : (putV l v).length ≤ l.length + 1 := by
 induction l with
 | nil => simp [putV]
 | cons x l ih =>
  unfold putV
  split
  ·simp; omega
  ·split <;> simp

theorem Vs.take {w : World} {L B : Nat} {A : Option Addr} {l : List Vr} (h : Vs w L B A l) (k : Nat) : Vs w L B A (l.take k) := fun hp => by
 rw [List.length_take] at hp
 obtain ⟨b, off, e, hL, hb, hc⟩ := h (by omega)
 refine ⟨b, off, e, hL, hb, fun j hj => ?_⟩
 rw [List.length_take] at hj
 have e1 : (l.take k).getD j v0 = l.getD j v0 := by simp [List.getD_eq_getElem?_getD, show j < k by omega]
 rw [e1]
 exact hc j (by omega)
theorem Vs.drop {w : World} {L B b off : Nat} {l : List Vr} (h : Vs w L B (some ⟨b, off, none⟩) l) (k : Nat) : Vs w L B (some ⟨b, off + k * 5, none⟩) (l.drop k) := fun hp => by
 rw [List.length_drop] at hp
 obtain ⟨b', off', e, hL, hb, hc⟩ := h (by omega)
 injection e with e
 injection e with e1 e2
 subst e1 e2
 refine ⟨b, off + k * 5, rfl, hL, hb, fun j hj => ?_⟩
 rw [List.length_drop] at hj
 have e1 : (l.drop k).getD j v0 = l.getD (k + j) v0 := by simp [List.getD_eq_getElem?_getD, List.getElem?_drop]
 rw [e1, show off + k * 5 + j * 5 = off + (k + j) * 5 by omega]
 exact hc (k + j) (by omega)

theorem Vs.grown {w w' : World} {L B : Nat} {A : Option Addr} {l : List Vr} {row : Option Nat} (h : Vs w L B A l) (hg : w.grownBy w' row) (hB : B ≤ w.heap.size) (hr : ∀ k, row = some k → B ≤ k) : Vs w' L B A l :=
 h.keep fun a _ ha => World.cell?_of_block (hg.block a.block (by omega) (fun e => by have := hr _ e.symm; omega))

def Reads (L : Nat) (l : List Vr) (w : World) (e : Ending) (w' : World) : Prop := ∃ A c, e = .returned (.slice A l.length c) ∧ l.length ≤ c ∧ Vs w' L w'.heap.size A l ∧ Below w.heap.size w w'

set_option maxRecDepth 100000 in
set_option maxHeartbeats 4000000 in
theorem put_any (A A1 : Option Addr) (c c1 n kp : Nat) (l : List Vr) (hn : l.length = n) (hnc : n ≤ c) (s vn : Int) (vp : List Sp) (vg : Bool) (vx : ByteArray) (hkp : vp.length = kp) (L : Nat) (w : World) (hLw : L ≤ w.heap.size) (hv : Vs w L w.heap.size A l) (hp : Pa w L w.heap.size A1 c1 ⟨s, vn, vp, vg, vx⟩) (hn2 : n ≤ 1024) :
  Calls Tryz.prog 67 #[.slice A n c, .agg #[.int .i64 s, .int .i64 vn, .slice A1 kp c1, .bool vg, .string vx]] w (Reads L (putV l ⟨s, vn, vp, vg, vx⟩) w) := by
 obtain ⟨i0, hi0, hz0, hz1, hz2⟩ := info_parts info_ver
 have HV := Lib.hid (And.intro hv (And.intro hn (And.intro hp hkp)))
 have HI : Hid (∀ k, k ≤ n → (∀ j, j < k → dlt (l.getD j v0) ⟨s, vn, vp, vg, vx⟩) → (k < n → ¬ dlt (l.getD k v0) ⟨s, vn, vp, vg, vx⟩) → putV l ⟨s, vn, vp, vg, vx⟩ = if k < l.length ∧ same (l.getD k v0) ⟨s, vn, vp, vg, vx⟩ then l else l.take k ++ ⟨s, vn, vp, vg, vx⟩ :: l.drop k) :=
  Lib.hid fun k h1 h2 h3 => putV_index (by omega) h2 (by rw [hn]; exact h3)
 obtain ⟨r, hr⟩ : ∃ r, putV l ⟨s, vn, vp, vg, vx⟩ = r := ⟨_, rfl⟩
 rw [hr] at HI ⊢
 clear hv hn hp hkp hr
 go_enter Tryz.func67, Tryz.ntmps67
 go_upto_block 0 with fail
 obtain ⟨W0, hW0⟩ : ∃ W0, w.alloc (.cells #[.int .i64 s, .int .i64 vn, .slice A1 kp c1, .bool vg, .string vx] 40) = W0 := ⟨_, rfl⟩
 obtain ⟨m, hm⟩ : ∃ m, w.heap.size = m := ⟨_, rfl⟩
 have y : W0.cell? ⟨m, 0, none⟩ = some (.int .i64 s) ∧ W0.cell? ⟨m, 1, none⟩ = some (.int .i64 vn) ∧ W0.cell? ⟨m, 2, none⟩ = some (.slice A1 kp c1) ∧ W0.cell? ⟨m, 3, none⟩ = some (.bool vg) ∧ W0.cell? ⟨m, 4, none⟩ = some (.string vx) := by
  rw [← hW0, ← hm]; exact ⟨by simp, by simp, by simp, by simp, by simp⟩
 have hl : m < W0.heap.size := by rw [← hW0, ← hm]; simp
 have B0 : Below w.heap.size w W0 := by rw [← hW0]; exact (Below.refl _ w).alloc (Nat.le_refl _) _
 have HB0 := Lib.hid B0
 have hs0 := B0.size
 have HM := Lib.hid hm
 rw [hW0, hm]
 clear hW0 hm B0
 go_cut [5] (fun iv V => ∃ k : Nat, iv = .int .i64 k ∧ Hid (k ≤ n ∧ Below W0.heap.size W0 V ∧ (∀ j, j < k → dlt (l.getD j v0) ⟨s, vn, vp, vg, vx⟩) ∧ (k < n → ¬ dlt (l.getD k v0) ⟨s, vn, vp, vg, vx⟩)))
 case first =>
  go_wp2_with fail
  go_loopw [5] (fun iv V => ∃ k : Nat, iv = .int .i64 k ∧ k ≤ n ∧ Below W0.heap.size W0 V ∧ Hid (∀ j, j < k → dlt (l.getD j v0) ⟨s, vn, vp, vg, vx⟩)) (fun iv _ => n - (intOf iv).toNat)
  case atStart => exact ⟨0, rfl, by omega, Below.refl _ _, Lib.hid fun j hj => absurd hj (by omega)⟩
  case round =>
   obtain ⟨k, rfl, hk, hb, hst⟩ := hrel
   have hsz := hb.size
   have hbw := Lib.hid (HB0.out.trans (hb.mono hs0))
   by_cases hlt : k < n
   ·obtain ⟨b, off, A2, c2, rfl, _, hbB, a0, a1, _⟩ := HV.out.1.at HV.out.2.1 hbw.out hlt rfl
    have e0 := (hb.cell (p := ⟨m, 0, none⟩) hl).trans y.1
    have e1 := (hb.cell (p := ⟨m, 1, none⟩) hl).trans y.2.1
    obtain ⟨u, hu⟩ : ∃ u, l.getD k v0 = u := ⟨_, rfl⟩
    rw [hu] at a0 a1
    have h1 := less_any u.s u.n s vn wr.drew
    obtain ⟨q, hq⟩ : ∃ q, decide (u.s < s ∨ (u.s = s ∧ u.n < vn)) = q := ⟨_, rfl⟩
    rw [hq] at h1
    have HN := Lib.hid (show (q = true → ∀ j, j < k + 1 → dlt (l.getD j v0) ⟨s, vn, vp, vg, vx⟩) ∧ (q = false → ¬ dlt (l.getD k v0) ⟨s, vn, vp, vg, vx⟩) from ⟨fun h j hj => by
     rcases Nat.lt_or_ge j k with h2 | h2
     ·exact hst.out j h2
     ·obtain rfl : j = k := by omega
      rw [hu]
      exact of_decide_eq_true (hq.trans h), fun h => by
     rw [hu]
     exact of_decide_eq_false (hq.trans h)⟩)
    have H1 := Lib.hid h1
    obtain ⟨us, un, up, ug, ux⟩ := u
    simp only at a0 a1
    have lb : b < wr.heap.size := by omega
    have lm : m < wr.heap.size := by omega
    have d1 : (0 : Int) ≤ (k : Int) := by omega
    have d2 : (k : Int) < (n : Int) := by omega
    have d3 : decide ((k : Int) < (n : Int)) = true := decide_eq_true d2
    have d4 : decide (k < n) = true := decide_eq_true hlt
    clear h1 hq hu y
    go_wp2_with fail
    go_region_held3 (fun V => V.cell? ⟨b, off + k * 5, none⟩ = some (.int .i64 us) ∧ V.cell? ⟨b, off + k * 5 + 1, none⟩ = some (.int .i64 un) ∧ V.cell? ⟨m, 0, none⟩ = some (.int .i64 s) ∧ V.cell? ⟨m, 1, none⟩ = some (.int .i64 vn))
     (first | exact ⟨a0, a1, e0, e1⟩ | exact ⟨cell_below b1 lb a0, cell_below b1 lb a1, cell_below b1 lm e0, cell_below b1 lm e1⟩)
     (first | (go_at_call 23; refine H1.out.mono ?_; rintro e w1 ⟨rfl, b1⟩))
    have BE : Below W0.heap.size W0 w1 := hb.drew.trans (Below.mono b1 (by exact hsz))
    cases q
    ·have HF := Lib.hid (HN.out.2 rfl)
     clear HN b1 hb
     go_wp2_with fail
     go_meet
     exact ⟨k, rfl, Lib.hid ⟨hk, BE, hst.out, fun _ => HF.out⟩⟩
    ·have HF := Lib.hid (HN.out.1 rfl)
     clear HN b1 hb
     go_wp2_with fail
     exact ⟨⟨k + 1, rfl, by omega, BE, HF⟩, by simp only [intOf]; omega⟩
   ·have hkn : k = n := by omega
    subst hkn
    have d3 : decide ((k : Int) < (k : Int)) = false := decide_eq_false (by omega)
    have d4 : decide (k < k) = false := decide_eq_false (by omega)
    clear y
    go_wp2_with fail
    go_quiet (fail)
    go_wp2_with fail
    go_meet
    exact ⟨k, rfl, Lib.hid ⟨hk, hb.trans (below_drewN _ _ _), hst.out, fun h => absurd h (by omega)⟩⟩
 case rest =>
  obtain ⟨k, rfl, hc⟩ := hcut
  obtain ⟨hk, hb, hlo, hst⟩ := hc.out
  have hres := HI.out k hk hlo hst
  have hbw := HB0.out.trans (hb.mono hs0)
  have hsw := hbw.size
  have hvw := (HV.out.1.below hbw)
  have z := five_below hl hb y
  obtain ⟨x0, x1, x2, x3, x4⟩ := z
  have hpw := HV.out.2.2.1.below hbw
  clear hc hlo hst y HI
  by_cases hsame : k < n ∧ same (l.getD k v0) ⟨s, vn, vp, vg, vx⟩
  ·rw [if_pos ⟨by have := HV.out.2.1; omega, hsame.2⟩] at hres
   have HF := Lib.hid hres
   obtain ⟨b, off, A2, c2, rfl, _, hbB, a0, a1, _⟩ := HV.out.1.at HV.out.2.1 hbw hsame.1 rfl
   obtain ⟨u, hu⟩ : ∃ u, l.getD k v0 = u := ⟨_, rfl⟩
   rw [hu] at a0 a1 hsame
   obtain ⟨us, un, up, ug, ux⟩ := u
   simp only at a0 a1
   obtain ⟨hkn, hs1, hs2⟩ := hsame
   simp only at hs1 hs2
   subst hs1 hs2
   have HBW := Lib.hid hbw
   have HL := Lib.hid HV.out.2.1
   have d1 : (0 : Int) ≤ (k : Int) := by omega
   have d2 : (k : Int) < (n : Int) := by omega
   have d3 : decide ((k : Int) < (n : Int)) = true := decide_eq_true d2
   have d4 : decide (k < n) = true := decide_eq_true hkn
   have HVS := Lib.hid (hvw.more hsw)
   clear hres hu hb hvw hpw hbw HV
   go_wp2_with fail
   go_quiet (fail)
   go_wp2_with fail
   go_ret
   rw [HF.out]
   exact ⟨_, _, by rw [HL.out]; rfl, by rw [HL.out]; exact hnc, HVS.out.drewN _, HBW.out.trans (below_drewN _ _ _)⟩
  ·rw [if_neg (fun h => hsame ⟨by have := HV.out.2.1; omega, h.2⟩)] at hres
   have HF := Lib.hid hres
   have HBW := Lib.hid hbw
   have ma : Option.map (fun x => x.add 0) A = A := by cases A <;> rfl
   have i1 : (0 : Int) ≤ (k : Int) := by omega
   have i2 : (k : Int) ≤ (c : Int) := by omega
   have i3 : (k : Int) ≤ (n : Int) := by omega
   have hlk : (l.take k).length = k := by rw [List.length_take]; have := HV.out.2.1; omega
   have hld : (l.drop k).length = n - k := by rw [List.length_drop]; have := HV.out.2.1; omega
   have HLK := Lib.hid hlk
   have HLD := Lib.hid hld
   have HVT := Lib.hid (And.intro (hvw.take k) hvw)
   have HPD : Hid (∀ V, Below wc.heap.size wc V → Pa V L w.heap.size A1 c1 ⟨s, vn, vp, vg, vx⟩) := Lib.hid fun V hV => hpw.below (hV.mono hsw)
   have hsz0 : W0.heap.size ≤ wc.heap.size := hb.size
   clear hlk hld hvw hpw hbw hb hres
   by_cases hkn : k < n
   ·obtain ⟨b, off, A2, c2, rfl, _, hbB, a0, a1, _⟩ := HV.out.1.at HV.out.2.1 HBW.out hkn rfl
    obtain ⟨u, hu⟩ : ∃ u, l.getD k v0 = u := ⟨_, rfl⟩
    rw [hu] at a0 a1 hsame
    obtain ⟨us, un, up, ug, ux⟩ := u
    simp only at a0 a1
    have hns : ((us == s) && (un == vn)) = false := by
     rw [Bool.and_eq_false_iff]
     by_cases h1 : us = s
     ·exact .inr (by simp; exact fun h2 => hsame ⟨hkn, h1, h2⟩)
     ·exact .inl (by simpa using h1)
    have hns2 : us = s → ¬ un = vn := fun h1 h2 => hsame ⟨hkn, h1, h2⟩
    have HNS := Lib.hid hns2
    have hck : ¬ c = k := by omega
    have hadd : (⟨b, off, none⟩ : Addr).add (k * 5) = ⟨b, off + k * 5, none⟩ := add_plain _ _ _
    have HVD := Lib.hid (HVT.out.2.drop k)
    have d2 : (k : Int) < (n : Int) := by omega
    have d3 : decide ((k : Int) < (n : Int)) = true := decide_eq_true d2
    have d4 : decide (k < n) = true := decide_eq_true hkn
    clear hu hsame hns2
    by_cases hu1 : us = s
    ·subst hu1
     have g1 : (us == us) = true := by simp
     have g2 : (un == vn) = false := by simpa using HNS.out rfl
     clear hns
     go_wp2_with fail
     go_quiet (fail)
     obtain ⟨W1, hW1⟩ : ∃ W1, wc.drewN nq = W1 := ⟨_, rfl⟩
     have b1 : Below w.heap.size w W1 := by rw [← hW1]; exact HBW.out.trans (below_drewN _ _ _)
     have t1 : Vs W1 L w.heap.size (some ⟨b, off, none⟩) (l.take k) := by rw [← hW1]; exact HVT.out.1.drewN nq
     have u1 : Vs W1 L w.heap.size (some ⟨b, off + k * 5, none⟩) (l.drop k) := by rw [← hW1]; exact HVD.out.drewN nq
     have p1 : Pa W1 L w.heap.size A1 c1 ⟨us, vn, vp, vg, vx⟩ := HPD.out W1 (by rw [← hW1]; exact below_drewN _ nq _)
     have lm : m < W1.heap.size := by rw [← hW1]; exact Nat.lt_of_lt_of_le hl hsz0
     have X1 : Hid (∀ V, (W1.grownBy V none) → V.cell? ⟨m, 0, none⟩ = some (.int .i64 us) ∧ V.cell? ⟨m, 1, none⟩ = some (.int .i64 vn) ∧ V.cell? ⟨m, 2, none⟩ = some (.slice A1 kp c1) ∧ V.cell? ⟨m, 3, none⟩ = some (.bool vg) ∧ V.cell? ⟨m, 4, none⟩ = some (.string vx)) := by
      refine Lib.hid fun V hg => ?_
      have h := fun o => (World.cell?_of_block (w := W1) (w' := V) (a := ⟨m, o, none⟩) (hg.block m lm (by simp))).trans (by rw [← hW1]; rfl : W1.cell? ⟨m, o, none⟩ = wc.cell? ⟨m, o, none⟩)
      exact ⟨(h 0).trans x0, (h 1).trans x1, (h 2).trans x2, (h 3).trans x3, (h 4).trans x4⟩
     have s1 := b1.size
     have HK1 := Lib.hid (And.intro t1 (And.intro p1 b1))
     have HU1 := Lib.hid u1
     rw [hW1]
     clear hW1 t1 p1 b1 x0 x1 x2 x3 x4 lm u1
     go_wp2_with (first
      | (at_builtin; refine wpList_append_vs _ rfl (.tmp 38) (.tmp 41) 22 rfl w.heap.size 40 i0 _ 64 Tryz.underlying22 hi0 hz0 hz1 hz2 rfl (.slice none 0 0) 0 [] rfl (World.ownsRow_nil _ _ _ _) L w.heap.size _ k c (l.take k) HLK.out rfl HK1.out.1 (by omega) (by omega) s1 ?_; intro v2 w2 qs1 e1 q1 o2 g2 at2
         obtain ⟨x0, x1, x2, x3, x4⟩ := X1.out _ g2
         have b2 : Below w.heap.size w w2 := HK1.out.2.2.grown g2 s1 (fun k hk => by simp [Value.ownBlock] at hk)
         have s2 := b2.size
         have K2 := Lib.hid (And.intro o2 (And.intro (pa_grown q1 g2 s1 (fun k hk => by simp [Value.ownBlock] at hk)) (And.intro e1 (And.intro b2 (HK1.out.2.1.keep (w' := w2) fun a _ ha => World.cell?_of_block (g2.block a.block (by omega) (by simp [Value.ownBlock])))))))
         have U2 := Lib.hid (HU1.out.grown g2 s1 (fun k hk => by simp [Value.ownBlock] at hk))
         clear o2 q1 e1 b2 g2 at2)
      | (at_builtin; refine wpList_append_v _ rfl (.tmp 43) (.tmp 45) 22 rfl w.heap.size 40 i0 _ 64 Tryz.underlying22 hi0 hz0 hz1 hz2 rfl v2 (0 + k) ([] ++ qs1) rfl K2.out.1 (⟨us, vn, vp, vg, vx⟩, A1, c1) kp HV.out.2.2.2 1 rfl (by omega) (by omega) s2 ?_; intro v3 w3 o3 g3 at3
         have hlt3 := fun k hk => (K2.out.1.lt k hk).1
         have b3 : Below w.heap.size w w3 := K2.out.2.2.2.1.grown g3 s2 hlt3
         have s3 := b3.size
         have K3 := Lib.hid (And.intro o3 (And.intro (pa_grown K2.out.2.1 g3 s2 hlt3) (And.intro b3 (K2.out.2.2.2.2.keep (w' := w3) fun a _ ha => World.cell?_of_block (g3.block a.block (by omega) (fun e => by have := hlt3 _ e.symm; omega))))))
         have U3 := Lib.hid (U2.out.grown g3 s2 hlt3)
         clear o3 b3 g3 at3 hlt3)
      | (at_builtin; refine wpList_append_vs _ rfl (.tmp 47) (.tmp 50) 22 rfl w.heap.size 40 i0 _ 64 Tryz.underlying22 hi0 hz0 hz1 hz2 rfl v3 (0 + k + 1) ([] ++ qs1 ++ [(⟨us, vn, vp, vg, vx⟩, A1, c1)]) rfl K3.out.1 L w.heap.size _ (n - k) _ (l.drop k) HLD.out rfl U3.out (by omega) (by omega) s3 ?_; intro v4 w4 qs2 e2 q2 o4 g4 at4
         have hlt4 := fun k hk => (K3.out.1.lt k hk).1
         have b4 : Below w.heap.size w w4 := K3.out.2.2.1.grown g4 s3 hlt4
         have K4 := Lib.hid (And.intro o4 (And.intro (pa_grown K3.out.2.1 g4 s3 hlt4) (And.intro b4 (And.intro e2 (And.intro (pa_grown q2 g4 s3 hlt4) (K3.out.2.2.2.keep (w' := w4) fun a _ ha => World.cell?_of_block (g4.block a.block (by omega) (fun e => by have := hlt4 _ e.symm; omega))))))))
         clear o4 b4 g4 at4 e2 q2 hlt4))
     obtain ⟨o4, q1, b4, e2, q2, pp⟩ := K4.out
     have e1 := K2.out.2.2.1
     obtain ⟨A4, c4, rfl⟩ := own_form o4
     have hps : (([] ++ qs1 ++ [((⟨us, vn, vp, vg, vx⟩ : Vr), A1, c1)] ++ qs2 : List Pv)).map Prod.fst = r := by
      rw [HF.out, List.map_append, List.map_append, List.map_append, e1, e2]
      simp
     have hrl : (([] ++ qs1 ++ [((⟨us, vn, vp, vg, vx⟩ : Vr), A1, c1)] ++ qs2 : List Pv)).length = r.length := by rw [← hps, List.length_map]
     have hrn : r.length = 0 + k + 1 + (n - k) := by
      rw [HF.out, List.length_append, List.length_cons, HLK.out, HLD.out]; omega
     rw [← hrn] at o4
     rw [← hrl] at o4
     have own : OwnVs w.heap.size L w.heap.size w4 (.slice A4 _ c4) ([] ++ qs1 ++ [((⟨us, vn, vp, vg, vx⟩ : Vr), A1, c1)] ++ qs2) := ⟨o4, fun p hp => by
      rcases List.mem_append.1 hp with hp | hp
      ·rcases List.mem_append.1 hp with hp | hp
       ·exact q1 p (by simpa using hp)
       ·rw [List.mem_singleton.1 hp]; exact pp
      ·exact q2 p hp⟩
     have hvv := own.vs hLw b4.size
     rw [hps] at hvv
     have hcl := (own_len o4).2
     have HFIN : Hid (Reads L r w (.returned (.slice A4 r.length c4)) w4) := Lib.hid ⟨A4, c4, rfl, by rw [← hrl]; exact hcl, hvv, b4⟩
     have hrn' := Lib.hid hrn
     clear own hvv hcl o4 q1 e1 e2 q2 pp hps hrl hrn K4 K3 K2 HK1
     go_wp2_with fail
     go_ret
     have h9 := HFIN.out
     rw [hrn'.out] at h9
     exact h9
    ·have g1 : (us == s) = false := by simpa using hu1
     clear hns hu1
     go_wp2_with fail
     go_quiet (fail)
     obtain ⟨W1, hW1⟩ : ∃ W1, wc.drewN nq = W1 := ⟨_, rfl⟩
     have b1 : Below w.heap.size w W1 := by rw [← hW1]; exact HBW.out.trans (below_drewN _ _ _)
     have t1 : Vs W1 L w.heap.size (some ⟨b, off, none⟩) (l.take k) := by rw [← hW1]; exact HVT.out.1.drewN nq
     have u1 : Vs W1 L w.heap.size (some ⟨b, off + k * 5, none⟩) (l.drop k) := by rw [← hW1]; exact HVD.out.drewN nq
     have p1 : Pa W1 L w.heap.size A1 c1 ⟨s, vn, vp, vg, vx⟩ := HPD.out W1 (by rw [← hW1]; exact below_drewN _ nq _)
     have lm : m < W1.heap.size := by rw [← hW1]; exact Nat.lt_of_lt_of_le hl hsz0
     have X1 : Hid (∀ V, (W1.grownBy V none) → V.cell? ⟨m, 0, none⟩ = some (.int .i64 s) ∧ V.cell? ⟨m, 1, none⟩ = some (.int .i64 vn) ∧ V.cell? ⟨m, 2, none⟩ = some (.slice A1 kp c1) ∧ V.cell? ⟨m, 3, none⟩ = some (.bool vg) ∧ V.cell? ⟨m, 4, none⟩ = some (.string vx)) := by
      refine Lib.hid fun V hg => ?_
      have h := fun o => (World.cell?_of_block (w := W1) (w' := V) (a := ⟨m, o, none⟩) (hg.block m lm (by simp))).trans (by rw [← hW1]; rfl : W1.cell? ⟨m, o, none⟩ = wc.cell? ⟨m, o, none⟩)
      exact ⟨(h 0).trans x0, (h 1).trans x1, (h 2).trans x2, (h 3).trans x3, (h 4).trans x4⟩
     have s1 := b1.size
     have HK1 := Lib.hid (And.intro t1 (And.intro p1 b1))
     have HU1 := Lib.hid u1
     rw [hW1]
     clear hW1 t1 p1 b1 x0 x1 x2 x3 x4 lm u1
     go_wp2_with (first
      | (at_builtin; refine wpList_append_vs _ rfl (.tmp 38) (.tmp 41) 22 rfl w.heap.size 40 i0 _ 64 Tryz.underlying22 hi0 hz0 hz1 hz2 rfl (.slice none 0 0) 0 [] rfl (World.ownsRow_nil _ _ _ _) L w.heap.size _ k c (l.take k) HLK.out rfl HK1.out.1 (by omega) (by omega) s1 ?_; intro v2 w2 qs1 e1 q1 o2 g2 at2
         obtain ⟨x0, x1, x2, x3, x4⟩ := X1.out _ g2
         have b2 : Below w.heap.size w w2 := HK1.out.2.2.grown g2 s1 (fun k hk => by simp [Value.ownBlock] at hk)
         have s2 := b2.size
         have K2 := Lib.hid (And.intro o2 (And.intro (pa_grown q1 g2 s1 (fun k hk => by simp [Value.ownBlock] at hk)) (And.intro e1 (And.intro b2 (HK1.out.2.1.keep (w' := w2) fun a _ ha => World.cell?_of_block (g2.block a.block (by omega) (by simp [Value.ownBlock])))))))
         have U2 := Lib.hid (HU1.out.grown g2 s1 (fun k hk => by simp [Value.ownBlock] at hk))
         clear o2 q1 e1 b2 g2 at2)
      | (at_builtin; refine wpList_append_v _ rfl (.tmp 43) (.tmp 45) 22 rfl w.heap.size 40 i0 _ 64 Tryz.underlying22 hi0 hz0 hz1 hz2 rfl v2 (0 + k) ([] ++ qs1) rfl K2.out.1 (⟨s, vn, vp, vg, vx⟩, A1, c1) kp HV.out.2.2.2 1 rfl (by omega) (by omega) s2 ?_; intro v3 w3 o3 g3 at3
         have hlt3 := fun k hk => (K2.out.1.lt k hk).1
         have b3 : Below w.heap.size w w3 := K2.out.2.2.2.1.grown g3 s2 hlt3
         have s3 := b3.size
         have K3 := Lib.hid (And.intro o3 (And.intro (pa_grown K2.out.2.1 g3 s2 hlt3) (And.intro b3 (K2.out.2.2.2.2.keep (w' := w3) fun a _ ha => World.cell?_of_block (g3.block a.block (by omega) (fun e => by have := hlt3 _ e.symm; omega))))))
         have U3 := Lib.hid (U2.out.grown g3 s2 hlt3)
         clear o3 b3 g3 at3 hlt3)
      | (at_builtin; refine wpList_append_vs _ rfl (.tmp 47) (.tmp 50) 22 rfl w.heap.size 40 i0 _ 64 Tryz.underlying22 hi0 hz0 hz1 hz2 rfl v3 (0 + k + 1) ([] ++ qs1 ++ [(⟨s, vn, vp, vg, vx⟩, A1, c1)]) rfl K3.out.1 L w.heap.size _ (n - k) _ (l.drop k) HLD.out rfl U3.out (by omega) (by omega) s3 ?_; intro v4 w4 qs2 e2 q2 o4 g4 at4
         have hlt4 := fun k hk => (K3.out.1.lt k hk).1
         have b4 : Below w.heap.size w w4 := K3.out.2.2.1.grown g4 s3 hlt4
         have K4 := Lib.hid (And.intro o4 (And.intro (pa_grown K3.out.2.1 g4 s3 hlt4) (And.intro b4 (And.intro e2 (And.intro (pa_grown q2 g4 s3 hlt4) (K3.out.2.2.2.keep (w' := w4) fun a _ ha => World.cell?_of_block (g4.block a.block (by omega) (fun e => by have := hlt4 _ e.symm; omega))))))))
         clear o4 b4 g4 at4 e2 q2 hlt4))
     obtain ⟨o4, q1, b4, e2, q2, pp⟩ := K4.out
     have e1 := K2.out.2.2.1
     obtain ⟨A4, c4, rfl⟩ := own_form o4
     have hps : (([] ++ qs1 ++ [((⟨s, vn, vp, vg, vx⟩ : Vr), A1, c1)] ++ qs2 : List Pv)).map Prod.fst = r := by
      rw [HF.out, List.map_append, List.map_append, List.map_append, e1, e2]
      simp
     have hrl : (([] ++ qs1 ++ [((⟨s, vn, vp, vg, vx⟩ : Vr), A1, c1)] ++ qs2 : List Pv)).length = r.length := by rw [← hps, List.length_map]
     have hrn : r.length = 0 + k + 1 + (n - k) := by
      rw [HF.out, List.length_append, List.length_cons, HLK.out, HLD.out]; omega
     rw [← hrn] at o4
     rw [← hrl] at o4
     have own : OwnVs w.heap.size L w.heap.size w4 (.slice A4 _ c4) ([] ++ qs1 ++ [((⟨s, vn, vp, vg, vx⟩ : Vr), A1, c1)] ++ qs2) := ⟨o4, fun p hp => by
      rcases List.mem_append.1 hp with hp | hp
      ·rcases List.mem_append.1 hp with hp | hp
       ·exact q1 p (by simpa using hp)
       ·rw [List.mem_singleton.1 hp]; exact pp
      ·exact q2 p hp⟩
     have hvv := own.vs hLw b4.size
     rw [hps] at hvv
     have hcl := (own_len o4).2
     have HFIN : Hid (Reads L r w (.returned (.slice A4 r.length c4)) w4) := Lib.hid ⟨A4, c4, rfl, by rw [← hrl]; exact hcl, hvv, b4⟩
     have hrn' := Lib.hid hrn
     clear own hvv hcl o4 q1 e1 e2 q2 pp hps hrl hrn K4 K3 K2 HK1
     go_wp2_with fail
     go_ret
     have h9 := HFIN.out
     rw [hrn'.out] at h9
     exact h9
   ·obtain rfl : k = n := by omega
    have d3 : decide ((k : Int) < (k : Int)) = false := decide_eq_false (by omega)
    have d4 : decide (k < k) = false := decide_eq_false (by omega)
    clear hsame
    go_wp2_with fail
    go_quiet (fail)
    obtain ⟨W1, hW1⟩ : ∃ W1, wc.drewN nq = W1 := ⟨_, rfl⟩
    have b1 : Below w.heap.size w W1 := by rw [← hW1]; exact HBW.out.trans (below_drewN _ _ _)
    have t1 : Vs W1 L w.heap.size A (l.take k) := by rw [← hW1]; exact HVT.out.1.drewN nq
    have p1 : Pa W1 L w.heap.size A1 c1 ⟨s, vn, vp, vg, vx⟩ := HPD.out W1 (by rw [← hW1]; exact below_drewN _ nq _)
    have lm : m < W1.heap.size := by rw [← hW1]; exact Nat.lt_of_lt_of_le hl hsz0
    have X1 : Hid (∀ V, (W1.grownBy V none) → V.cell? ⟨m, 0, none⟩ = some (.int .i64 s) ∧ V.cell? ⟨m, 1, none⟩ = some (.int .i64 vn) ∧ V.cell? ⟨m, 2, none⟩ = some (.slice A1 kp c1) ∧ V.cell? ⟨m, 3, none⟩ = some (.bool vg) ∧ V.cell? ⟨m, 4, none⟩ = some (.string vx)) := by
     refine Lib.hid fun V hg => ?_
     have h := fun o => (World.cell?_of_block (w := W1) (w' := V) (a := ⟨m, o, none⟩) (hg.block m lm (by simp))).trans (by rw [← hW1]; rfl : W1.cell? ⟨m, o, none⟩ = wc.cell? ⟨m, o, none⟩)
     exact ⟨(h 0).trans x0, (h 1).trans x1, (h 2).trans x2, (h 3).trans x3, (h 4).trans x4⟩
    have s1 := b1.size
    have HK1 := Lib.hid (And.intro t1 (And.intro p1 b1))
    rw [hW1]
    clear hW1 t1 p1 b1 x0 x1 x2 x3 x4 lm
    go_wp2_with (first
     | (at_builtin; refine wpList_append_vs _ rfl (.tmp 38) (.tmp 41) 22 rfl w.heap.size 40 i0 _ 64 Tryz.underlying22 hi0 hz0 hz1 hz2 rfl (.slice none 0 0) 0 [] rfl (World.ownsRow_nil _ _ _ _) L w.heap.size _ k c (l.take k) HLK.out rfl HK1.out.1 (by omega) (by omega) s1 ?_; intro v2 w2 qs1 e1 q1 o2 g2 at2
        obtain ⟨x0, x1, x2, x3, x4⟩ := X1.out _ g2
        have b2 : Below w.heap.size w w2 := HK1.out.2.2.grown g2 s1 (fun k hk => by simp [Value.ownBlock] at hk)
        have s2 := b2.size
        have K2 := Lib.hid (And.intro o2 (And.intro (pa_grown q1 g2 s1 (fun k hk => by simp [Value.ownBlock] at hk)) (And.intro e1 (And.intro b2 (HK1.out.2.1.keep (w' := w2) fun a _ ha => World.cell?_of_block (g2.block a.block (by omega) (by simp [Value.ownBlock])))))))
        clear o2 q1 e1 b2 g2 at2)
     | (at_builtin; refine wpList_append_v _ rfl (.tmp 43) (.tmp 45) 22 rfl w.heap.size 40 i0 _ 64 Tryz.underlying22 hi0 hz0 hz1 hz2 rfl v2 (0 + k) ([] ++ qs1) rfl K2.out.1 (⟨s, vn, vp, vg, vx⟩, A1, c1) kp HV.out.2.2.2 1 rfl (by omega) (by omega) s2 ?_; intro v3 w3 o3 g3 at3
        have hlt3 := fun k hk => (K2.out.1.lt k hk).1
        have b3 : Below w.heap.size w w3 := K2.out.2.2.2.1.grown g3 s2 hlt3
        have s3 := b3.size
        have K3 := Lib.hid (And.intro o3 (And.intro (pa_grown K2.out.2.1 g3 s2 hlt3) (And.intro b3 (K2.out.2.2.2.2.keep (w' := w3) fun a _ ha => World.cell?_of_block (g3.block a.block (by omega) (fun e => by have := hlt3 _ e.symm; omega))))))
        clear o3 b3 g3 at3 hlt3)
     | (at_builtin; refine wpList_append_vs _ rfl (.tmp 47) (.tmp 50) 22 rfl w.heap.size 40 i0 _ 64 Tryz.underlying22 hi0 hz0 hz1 hz2 rfl v3 (0 + k + 1) ([] ++ qs1 ++ [(⟨s, vn, vp, vg, vx⟩, A1, c1)]) rfl K3.out.1 L w.heap.size _ 0 _ [] rfl rfl (Vs.nil _) (by omega) (by omega) s3 ?_; intro v4 w4 qs2 e2 q2 o4 g4 at4
        have hlt4 := fun k hk => (K3.out.1.lt k hk).1
        have b4 : Below w.heap.size w w4 := K3.out.2.2.1.grown g4 s3 hlt4
        have K4 := Lib.hid (And.intro o4 (And.intro (pa_grown K3.out.2.1 g4 s3 hlt4) (And.intro b4 (And.intro e2 (And.intro (pa_grown q2 g4 s3 hlt4) (K3.out.2.2.2.keep (w' := w4) fun a _ ha => World.cell?_of_block (g4.block a.block (by omega) (fun e => by have := hlt4 _ e.symm; omega))))))))
        clear o4 b4 g4 at4 e2 q2 hlt4))
    all_goals
     obtain ⟨o4, q1, b4, e2, q2, pp⟩ := K4.out
     have e1 := K2.out.2.2.1
     obtain ⟨A4, c4, rfl⟩ := own_form o4
     have hps : (([] ++ qs1 ++ [((⟨s, vn, vp, vg, vx⟩ : Vr), A1, c1)] ++ qs2 : List Pv)).map Prod.fst = r := by
      rw [HF.out, List.map_append, List.map_append, List.map_append, e1, e2]
      simp
      rw [HV.out.2.1]
      exact Nat.le_refl _
     have hrl : (([] ++ qs1 ++ [((⟨s, vn, vp, vg, vx⟩ : Vr), A1, c1)] ++ qs2 : List Pv)).length = r.length := by rw [← hps, List.length_map]
     have hrn : r.length = 0 + k + 1 + 0 := by
      rw [HF.out, List.length_append, List.length_cons, HLK.out, HLD.out]; omega
     rw [← hrn] at o4
     rw [← hrl] at o4
     have own : OwnVs w.heap.size L w.heap.size w4 (.slice A4 _ c4) ([] ++ qs1 ++ [((⟨s, vn, vp, vg, vx⟩ : Vr), A1, c1)] ++ qs2) := ⟨o4, fun p hp => by
      rcases List.mem_append.1 hp with hp | hp
      ·rcases List.mem_append.1 hp with hp | hp
       ·exact q1 p (by simpa using hp)
       ·rw [List.mem_singleton.1 hp]; exact pp
      ·exact q2 p hp⟩
     have hvv := own.vs hLw b4.size
     rw [hps] at hvv
     have hcl := (own_len o4).2
     have HFIN : Hid (Reads L r w (.returned (.slice A4 r.length c4)) w4) := Lib.hid ⟨A4, c4, rfl, by rw [← hrl]; exact hcl, hvv, b4⟩
     have hrn' := Lib.hid hrn
     clear own hvv hcl o4 q1 e1 e2 q2 pp hps hrl hrn K4 K3 K2 HK1
     go_wp2_with fail
     go_ret
     have h9 := HFIN.out
     rw [hrn'.out] at h9
     exact h9
end Vers
end Go.Proofs.YtbhidndgnldheaaGreat

/-
 firthref05.Merge tells what mergeF tells.
-/
namespace Go.Proofs.YtbhidndgnldheaaGreat
namespace Vers
open Go.RowKit Span
attribute [local go_sem ↓] Go.wp_at_zero Go.wp_at_succ

def Merged (L : Nat) (r : List Vr × Int) (w : World) (e : Ending) (w' : World) : Prop :=
 ∃ A c, e = .returned (.tuple #[.slice A r.1.length c, .int .i64 r.2]) ∧ r.1.length ≤ c ∧ Vs w' L w'.heap.size A r.1 ∧ Below w.heap.size w w'
theorem merged_none (L : Nat) (k : Int) (w w' : World) (hb : Below w.heap.size w w') : Merged L ([], k) w (.returned (.tuple #[.slice none 0 0, .int .i64 k])) w' := ⟨none, 0, rfl, by simp, Vs.nil _, hb⟩

def NoTwin (a b : List Vr) (i k : Nat) : Prop := (∀ p, p < i → ∀ y ∈ b, ¬ (same (a.getD p v0) y ∧ a.getD p v0 ≠ y)) ∧ ∀ q, q < k → ¬ (same (a.getD i v0) (b.getD q v0) ∧ a.getD i v0 ≠ b.getD q v0)
theorem noTwin_end {a b : List Vr} {i : Nat} (h : NoTwin a b i b.length) : NoTwin a b (i + 1) 0 := ⟨fun p hp y hy => by
 rcases Nat.lt_or_ge p i with h1 | h1
 ·exact h.1 p h1 y hy
 ·obtain rfl : p = i := by omega
  obtain ⟨q, hq, rfl⟩ := List.getElem_of_mem hy
  have := h.2 q hq
  have e : b.getD q v0 = b[q] := by simp [List.getD_eq_getElem?_getD, hq]
  rwa [e] at this, fun q hq => absurd hq (by omega)⟩
theorem noTwin_all {a b : List Vr} (h : NoTwin a b a.length 0) : ¬ Twin a b := by
 rintro ⟨x, hx, y, hy, hs, hn⟩
 obtain ⟨p, hp, rfl⟩ := List.getElem_of_mem hx
 have e : a.getD p v0 = a[p] := by simp [List.getD_eq_getElem?_getD, hp]
 have := h.1 p hp y hy
 rw [e] at this
 exact this ⟨hs, hn⟩
theorem laidV_take {d l out : List Vr} {i : Nat} (h : i < l.length) : laidV d (l.take (i + 1)) out = if behind d (l.getD i v0).s (l.getD i v0).n then laidV d (l.take i) out else putV (laidV d (l.take i) out) (l.getD i v0) := by
 rw [take_v h, laidV_snoc]
theorem laidV_len (d l : List Vr) : ∀ (out : List Vr), (laidV d l out).length ≤ out.length + l.length := by
 unfold laidV
 have h1 : (l.filter fun v => !decide (behind d v.s v.n)).length ≤ l.length := List.length_filter_le _ _
 have h2 : ∀ (m out : List Vr), (m.foldl putV out).length ≤ out.length + m.length := by
  intro m
  induction m with
  | nil => intro out; simp
  | cons v m ih =>
   intro out
   have := ih (putV out v)
   have := putV_len out v
   simp only [List.foldl_cons, List.length_cons]
   omega
 intro out
 have := h2 (l.filter fun v => !decide (behind d v.s v.n)) out
 omega

def Laying (d l start : List Vr) (n : Nat) (w : World) (ov iv : Value) (wr : World) : Prop :=
 ∃ (i : Nat) (A : Option Addr) (c : Nat), iv = .int .i64 i ∧ i ≤ n ∧ ov = .slice A (laidV d (l.take i) start).length c ∧ Hid ((laidV d (l.take i) start).length ≤ c ∧ Vs wr 0 wr.heap.size A (laidV d (l.take i) start)) ∧ Below w.heap.size w wr

set_option maxRecDepth 100000 in
set_option maxHeartbeats 1000000 in
theorem ref_merge_any (A A' : Option Addr) (c c' n n' : Nat) (a b : List Vr) (hn : a.length = n) (hn' : b.length = n') (w : World) (hv : Vs w 0 w.heap.size A a) (hv' : Vs w 0 w.heap.size A' b) (hb2 : n ≤ 140737488355328) (hb2' : n' ≤ 140737488355328) :
  Calls Tryz.prog 37 #[.slice A n c, .slice A' n' c'] w (Merged 0 (mergeF a b) w) := by
 have h1 := ref_rightV_any A c n a hn w hv hb2
 have h2 := fun W (hbW : Below w.heap.size w W) => ref_rightV_any A' c' n' b hn' W ((hv'.below hbW).more hbW.size) hb2'
 by_cases ra : RightV a
 ·rw [decide_eq_true ra] at h1
  by_cases rb : RightV b
  ·have H1 := Lib.hid h1
   have H2 := Lib.hid (fun W hbW => (decide_eq_true rb) ▸ h2 W hbW)
   have HV := Lib.hid (And.intro hv (And.intro hv' (And.intro hn (And.intro hn' (And.intro ra rb)))))
   have hn5 : n ≤ 512 := by have := ra.1; omega
   have hn5' : n' ≤ 512 := by have := rb.1; omega
   obtain ⟨r, hr⟩ : ∃ r, mergeF a b = r := ⟨_, rfl⟩
   rw [hr]
   have HR := Lib.hid hr
   clear h1 h2 hv hv' hn hn' ra rb hr
   go_enter Tryz.func37, Tryz.ntmps37
   go_wp2_with fail
   refine H1.out.mono ?_
   rintro e w1 ⟨rfl, b1⟩
   have H2' := Lib.hid (H2.out _ b1)
   have B1 := Lib.hid b1
   have s1 := b1.size
   clear b1 H1 H2
   go_wp2_with fail
   refine H2'.out.mono ?_
   rintro e w2 ⟨rfl, b2⟩
   have B2 := Lib.hid (B1.out.trans (b2.mono s1))
   have s2 := B2.out.size
   clear b2 H2' B1 s1
   go_upto_block 0 with fail
   go_cut [6] (fun _ V => Hid (¬ Twin a b) ∧ Below w.heap.size w V)
   case first =>
    go_wp2_with fail
    go_loopw [6] (fun iv V => ∃ i : Nat, iv = .int .i64 i ∧ i ≤ n ∧ Hid (NoTwin a b i 0) ∧ Below w.heap.size w V) (fun iv _ => n - (intOf iv).toNat)
    case atStart => exact ⟨0, rfl, by omega, Lib.hid ⟨fun p hp => absurd hp (by omega), fun q hq => absurd hq (by omega)⟩, B2.out⟩
    case round =>
     obtain ⟨i, rfl, hi, ht, hb⟩ := hrel
     have hsz := hb.size
     by_cases hlt : i < n
     ·go_wp2_with fail
      go_loopw [7] (fun kv V => ∃ k : Nat, kv = .int .i64 k ∧ k ≤ n' ∧ Hid (NoTwin a b i k) ∧ Below w.heap.size w V) (fun kv _ => n' - (intOf kv).toNat)
      case atStart => exact ⟨0, rfl, by omega, ht, hb⟩
      case round =>
       obtain ⟨k, rfl, hk, htk, hbk⟩ := hrel
       have hszk := hbk.size
       by_cases hlk : k < n'
       ·obtain ⟨p, off, A1, c1, rfl, _, hpB, a0, a1, a2, a3, a4, hpa⟩ := HV.out.1.at HV.out.2.2.1 hbk hlt rfl
        obtain ⟨p', off', A1', c1', rfl, _, hpB', a0', a1', a2', a3', a4', hpa'⟩ := HV.out.2.1.at HV.out.2.2.2.1 hbk hlk rfl
        have hma := mem_v (l := a) (k := i) (by have := HV.out.2.2.1; omega)
        have hmb := mem_v (l := b) (k := k) (by have := HV.out.2.2.2.1; omega)
        have hmore : ¬ (same (a.getD i v0) (b.getD k v0) ∧ a.getD i v0 ≠ b.getD k v0) → NoTwin a b i (k + 1) := fun h => ⟨htk.out.1, fun q hq => by
         rcases Nat.lt_or_ge q k with h1 | h1
         ·exact htk.out.2 q h1
         ·obtain rfl : q = k := by omega
          exact h⟩
        have htw : (same (a.getD i v0) (b.getD k v0) ∧ a.getD i v0 ≠ b.getD k v0) → r = ([], 50) := fun h => by
         rw [← HR.out]
         exact merge_twin HV.out.2.2.2.2.1 HV.out.2.2.2.2.2 ⟨_, hma, _, hmb, h.1, h.2⟩
        obtain ⟨v, hvv⟩ : ∃ v, a.getD i v0 = v := ⟨_, rfl⟩
        obtain ⟨v', hvv'⟩ : ∃ v, b.getD k v0 = v := ⟨_, rfl⟩
        rw [hvv] at a0 a1 a2 a3 a4 hpa
        rw [hvv'] at a0' a1' a2' a3' a4' hpa'
        rw [hvv, hvv'] at hmore htw
        clear hvv hvv' hma hmb
        obtain ⟨s, vn, vp, vg, vx⟩ := v
        obtain ⟨s', vn', vp', vg', vx'⟩ := v'
        simp only at a0 a1 a2 a3 a4 a0' a1' a2' a3' a4'
        obtain ⟨hps, _, hpb, _, _⟩ := hpa
        obtain ⟨hps', _, hpb', _, _⟩ := hpa'
        simp only at hps hpb hps' hpb'
        obtain ⟨kp, hkp⟩ : ∃ kp, vp.length = kp := ⟨_, rfl⟩
        obtain ⟨kp', hkp'⟩ : ∃ kp, vp'.length = kp := ⟨_, rfl⟩
        rw [hkp] at a2 hpb
        rw [hkp'] at a2' hpb'
        have d1 : (0 : Int) ≤ (k : Int) := by omega
        have d2 : (k : Int) < (n' : Int) := by omega
        have d3 : (0 : Int) ≤ (i : Int) := by omega
        have d4 : (i : Int) < (n : Int) := by omega
        by_cases cd : s = s' ∧ vn = vn'
        ·have h3 := ref_sameone_any A1 A1' c1 c1' kp kp' s vn s' vn' vp vp' vg vg' vx vx' hkp hkp' wr.drew (hps.more (B' := wr.drew.heap.size) (by exact hszk)) (hps'.more (B' := wr.drew.heap.size) (by exact hszk)) hpb hpb'
         obtain ⟨q, hq⟩ : ∃ q, decide ((⟨s, vn, vp, vg, vx⟩ : Vr) = ⟨s', vn', vp', vg', vx'⟩) = q := ⟨_, rfl⟩
         rw [hq] at h3
         have HN := Lib.hid (show (q = true → NoTwin a b i (k + 1)) ∧ (q = false → r = ([], 50)) from ⟨fun h => hmore fun hh => hh.2 (of_decide_eq_true (hq.trans h)), fun h => htw ⟨cd, of_decide_eq_false (hq.trans h)⟩⟩)
         obtain ⟨rfl, rfl⟩ := cd
         have H3 := Lib.hid h3
         have lb : p < wr.heap.size := by omega
         have lb' : p' < wr.heap.size := by omega
         clear h3 hq hmore htw hps hps' hkp hkp' htk
         go_wp2_with fail
         go_region_held3 (fun V => V.cell? ⟨p, off + i * 5, none⟩ = some (.int .i64 s) ∧ V.cell? ⟨p, off + i * 5 + 1, none⟩ = some (.int .i64 vn) ∧ V.cell? ⟨p, off + i * 5 + 2, none⟩ = some (.slice A1 kp c1) ∧ V.cell? ⟨p, off + i * 5 + 3, none⟩ = some (.bool vg) ∧ V.cell? ⟨p, off + i * 5 + 4, none⟩ = some (.string vx) ∧
           V.cell? ⟨p', off' + k * 5, none⟩ = some (.int .i64 s) ∧ V.cell? ⟨p', off' + k * 5 + 1, none⟩ = some (.int .i64 vn) ∧ V.cell? ⟨p', off' + k * 5 + 2, none⟩ = some (.slice A1' kp' c1') ∧ V.cell? ⟨p', off' + k * 5 + 3, none⟩ = some (.bool vg') ∧ V.cell? ⟨p', off' + k * 5 + 4, none⟩ = some (.string vx'))
          (first | exact ⟨a0, a1, a2, a3, a4, a0', a1', a2', a3', a4'⟩ | exact ⟨cell_below b3 lb a0, cell_below b3 lb a1, cell_below b3 lb a2, cell_below b3 lb a3, cell_below b3 lb a4, cell_below b3 lb' a0', cell_below b3 lb' a1', cell_below b3 lb' a2', cell_below b3 lb' a3', cell_below b3 lb' a4'⟩)
          (first | (go_at_call 40; refine H3.out.mono ?_; rintro e w3 ⟨rfl, b3⟩))
         have BE : Below w.heap.size w w3 := hbk.drew.trans (Below.mono b3 (by exact hszk))
         clear b3 H3 hbk
         cases q
         ·have HF := Lib.hid (HN.out.2 rfl)
          clear HN
          go_wp2_with fail
          go_ret2
          rw [HF.out]
          exact merged_none 0 50 w w3 BE
         ·have HF := Lib.hid (HN.out.1 rfl)
          clear HN
          go_wp2_with fail
          exact ⟨⟨k + 1, rfl, by omega, HF, BE⟩, by simp only [intOf]; omega⟩
        ·have HF := Lib.hid (hmore fun h => cd h.1)
         have hx : ¬ (s = s') ∨ (s = s' ∧ ¬ vn = vn') := by
          by_cases h1 : s = s'
          ·exact .inr ⟨h1, fun h2 => cd ⟨h1, h2⟩⟩
          ·exact .inl h1
         clear hmore htw hps hps' hkp hkp' htk cd
         rcases hx with h1 | ⟨rfl, h1⟩
         ·have g1 : (s == s') = false := by simpa using h1
          clear h1
          go_wp2_with fail
          go_quiet (fail)
          go_wp2_with fail
          exact ⟨⟨k + 1, rfl, by omega, HF, hbk.trans (below_drewN _ _ _)⟩, by simp only [intOf]; omega⟩
         ·have g1 : (vn == vn') = false := by simpa using h1
          have g2 : (s == s) = true := by simp
          clear h1
          go_wp2_with fail
          go_quiet (fail)
          go_wp2_with fail
          exact ⟨⟨k + 1, rfl, by omega, HF, hbk.trans (below_drewN _ _ _)⟩, by simp only [intOf]; omega⟩
       ·have hkn : k = n' := by omega
        subst hkn
        have HF := Lib.hid (noTwin_end (by have := htk.out; rwa [← HV.out.2.2.2.1] at this))
        clear htk
        go_wp2_with fail
        go_roundw
        case rel => exact ⟨i + 1, rfl, by omega, HF, hbk⟩
        case measure => simp only [intOf]; omega
     ·have hin : i = n := by omega
      subst hin
      have HF := Lib.hid (noTwin_all (by have := ht.out; rwa [← HV.out.2.2.1] at this))
      clear ht
      go_wp2_with fail
      go_meet
      exact ⟨HF, hb⟩
   case rest =>
    obtain ⟨ht, hb⟩ := hcut
    have HT := Lib.hid ht.out
    have HSL : Hid (([] : List Vr).length ≤ 512) := Lib.hid (by simp)
    clear ht
    go_wp2_with fail
    go_loopw [8, 9] (fun ov iv wr => Laying b a [] n w ov iv wr) (fun _ iv _ => n - (intOf iv).toNat)
    case atStart => exact ⟨0, none, 0, rfl, by omega, rfl, Lib.hid ⟨by simp [laidV], Vs.nil _⟩, hb⟩
    case round =>
     obtain ⟨i, Ao, co, rfl, hi, rfl, ho, hb⟩ := hrel
     have hsz := hb.size
     by_cases hlt : i < n
     ·obtain ⟨p, off, A1, c1, rfl, _, hpB, a0, a1, a2, a3, a4, hpa⟩ := HV.out.1.at HV.out.2.2.1 hb hlt rfl
      have htk := laidV_take (d := b) (l := a) (out := []) (i := i) (by have := HV.out.2.2.1; omega)
      have hlen := laidV_len b (a.take i) []
      have hsl : ([]).length ≤ 512 := HSL.out
      rw [List.length_take] at hlen
      have hcells : ∀ V, Below w.heap.size w V → ∃ A1 c1, Vat V 0 w.heap.size p (off + i * 5) (a.getD i v0) A1 c1 := fun V hV => by
       obtain ⟨p', off', A1', c1', e, _, _, hvat⟩ := HV.out.1.at HV.out.2.2.1 hV hlt rfl
       injection e with e
       injection e with e1 e2
       subst e1 e2
       exact ⟨A1', c1', hvat⟩
      have hbhd := behind_any A' c' n' b HV.out.2.2.2.1 (a.getD i v0).s (a.getD i v0).n wr ((HV.out.2.1.below hb).more hsz) (by omega)
      obtain ⟨v, hvv⟩ : ∃ v, a.getD i v0 = v := ⟨_, rfl⟩
      rw [hvv] at a0 a1 htk hcells hbhd
      clear hvv hpa a2 a3 a4
      obtain ⟨X, hX⟩ : ∃ X, laidV b (a.take i) [] = X := ⟨_, rfl⟩
      rw [hX] at ho htk hlen ⊢
      have hXl : X.length ≤ 1024 := by omega
      obtain ⟨s, vn, vp, vg, vx⟩ := v
      simp only at a0 a1 hbhd htk
      have HX := Lib.hid hX
      have HB := Lib.hid hb
      have HC := Lib.hid hcells
      have HT := Lib.hid htk
      have d3 : (0 : Int) ≤ (i : Int) := by omega
      have d4 : (i : Int) < (n : Int) := by omega
      obtain ⟨nx, hnx⟩ : ∃ nx, X.length = nx := ⟨_, rfl⟩
      have HNX := Lib.hid hnx
      rw [hnx] at hXl ⊢
      clear hX hcells htk hlen hnx hb
      by_cases hbh : behind b s vn
      ·rw [decide_eq_true hbh] at hbhd
       have HF := Lib.hid (show laidV b (a.take (i + 1)) [] = X by rw [HT.out, if_pos hbh])
       have HBH := Lib.hid hbhd
       clear HT hbh hbhd
       go_wp2_with fail
       refine HBH.out.mono ?_
       rintro e w3 ⟨rfl, b3⟩
       have BE := HB.out.trans (b3.mono hsz)
       have HO3 : Hid (X.length ≤ co ∧ Vs w3 0 w3.heap.size Ao X) := Lib.hid ⟨ho.out.1, (ho.out.2.below b3).more b3.size⟩
       clear b3 HBH
       go_wp2_with fail
       exact ⟨⟨i + 1, Ao, co, rfl, by omega, by rw [HF.out, HNX.out], by rw [HF.out]; exact HO3, BE⟩, by simp only [intOf]; omega⟩
      ·rw [decide_eq_false hbh] at hbhd
       have HF := Lib.hid (show laidV b (a.take (i + 1)) [] = putV X ⟨s, vn, vp, vg, vx⟩ by rw [HT.out, if_neg hbh])
       have HBH := Lib.hid hbhd
       clear HT hbh hbhd
       go_wp2_with fail
       refine HBH.out.mono ?_
       rintro e w3 ⟨rfl, b3⟩
       have BE := HB.out.trans (b3.mono hsz)
       obtain ⟨A2, c2, z0, z1, z2, z3, z4, zp⟩ := HC.out w3 BE
       simp only at z0 z1 z2 z3 z4
       obtain ⟨kp, hkp⟩ : ∃ kp, vp.length = kp := ⟨_, rfl⟩
       rw [hkp] at z2
       have hput := put_any Ao A2 co c2 nx kp X HNX.out (by have := ho.out.1; have := HNX.out; omega) s vn vp vg vx hkp 0 w3 (Nat.zero_le _) ((ho.out.2.below b3).more b3.size) (zp.more BE.size) (by omega)
       have HP := Lib.hid hput
       have HBE := Lib.hid BE
       have s3 := BE.size
       clear hput b3 HBH hkp BE zp
       go_wp2_with fail
       refine HP.out.mono ?_
       rintro e w4 ⟨A4, c4, rfl, l4, v4, b4⟩
       have BE4 := HBE.out.trans (b4.mono s3)
       have HO4 := Lib.hid (And.intro l4 v4)
       clear HP b4 l4 v4
       go_wp2_with fail
       exact ⟨⟨i + 1, A4, c4, rfl, by omega, by rw [HF.out], by rw [HF.out]; exact HO4, BE4⟩, by simp only [intOf]; omega⟩
     ·have hin : n = i := by omega
      subst hin
      have HO1 : Hid ((laidV b a []).length ≤ co ∧ Vs wr 0 wr.heap.size Ao (laidV b a [])) := by
       have h := ho
       rwa [List.take_of_length_le (by have := HV.out.2.2.1; omega)] at h
      have HE1 : Hid (laidV b (a.take n) [] = laidV b a []) := Lib.hid (by rw [List.take_of_length_le (by have := HV.out.2.2.1; omega)])
      have hsl1 := laidV_len b a []
      have HSL : Hid ((laidV b a []).length ≤ 512) := Lib.hid (by have := HV.out.2.2.1; simp at hsl1; omega)
      rw [HE1.out]
      obtain ⟨n1, hn1⟩ : ∃ n1, (laidV b a []).length = n1 := ⟨_, rfl⟩
      have HN1 := Lib.hid hn1
      rw [hn1]
      clear ho HE1 hsl1 hn1
      go_wp2_with fail
      go_loopw [8, 10] (fun ov iv wr => Laying a b (laidV b a []) n' w ov iv wr) (fun _ iv _ => n' - (intOf iv).toNat)
      case atStart => exact ⟨0, Ao, co, rfl, by omega, by rw [List.take_zero, laidV_nil, HN1.out], by rw [List.take_zero, laidV_nil]; exact HO1, hb⟩
      case round =>
       obtain ⟨i, Ao, co, rfl, hi, rfl, ho, hb⟩ := hrel
       have hsz := hb.size
       by_cases hlt : i < n'
       ·obtain ⟨p, off, A1, c1, rfl, _, hpB, a0, a1, a2, a3, a4, hpa⟩ := HV.out.2.1.at HV.out.2.2.2.1 hb hlt rfl
        have htk := laidV_take (d := a) (l := b) (out := (laidV b a [])) (i := i) (by have := HV.out.2.2.2.1; omega)
        have hlen := laidV_len a (b.take i) (laidV b a [])
        have hsl : ((laidV b a [])).length ≤ 512 := HSL.out
        rw [List.length_take] at hlen
        have hcells : ∀ V, Below w.heap.size w V → ∃ A1 c1, Vat V 0 w.heap.size p (off + i * 5) (b.getD i v0) A1 c1 := fun V hV => by
         obtain ⟨p', off', A1', c1', e, _, _, hvat⟩ := HV.out.2.1.at HV.out.2.2.2.1 hV hlt rfl
         injection e with e
         injection e with e1 e2
         subst e1 e2
         exact ⟨A1', c1', hvat⟩
        have hbhd := behind_any A c n a HV.out.2.2.1 (b.getD i v0).s (b.getD i v0).n wr ((HV.out.1.below hb).more hsz) (by omega)
        obtain ⟨v, hvv⟩ : ∃ v, b.getD i v0 = v := ⟨_, rfl⟩
        rw [hvv] at a0 a1 htk hcells hbhd
        clear hvv hpa a2 a3 a4
        obtain ⟨X, hX⟩ : ∃ X, laidV a (b.take i) (laidV b a []) = X := ⟨_, rfl⟩
        rw [hX] at ho htk hlen ⊢
        have hXl : X.length ≤ 1024 := by omega
        obtain ⟨s, vn, vp, vg, vx⟩ := v
        simp only at a0 a1 hbhd htk
        have HX := Lib.hid hX
        have HB := Lib.hid hb
        have HC := Lib.hid hcells
        have HT := Lib.hid htk
        have d3 : (0 : Int) ≤ (i : Int) := by omega
        have d4 : (i : Int) < (n' : Int) := by omega
        obtain ⟨nx, hnx⟩ : ∃ nx, X.length = nx := ⟨_, rfl⟩
        have HNX := Lib.hid hnx
        rw [hnx] at hXl ⊢
        clear hX hcells htk hlen hnx hb
        by_cases hbh : behind a s vn
        ·rw [decide_eq_true hbh] at hbhd
         have HF := Lib.hid (show laidV a (b.take (i + 1)) (laidV b a []) = X by rw [HT.out, if_pos hbh])
         have HBH := Lib.hid hbhd
         clear HT hbh hbhd
         go_wp2_with fail
         refine HBH.out.mono ?_
         rintro e w3 ⟨rfl, b3⟩
         have BE := HB.out.trans (b3.mono hsz)
         have HO3 : Hid (X.length ≤ co ∧ Vs w3 0 w3.heap.size Ao X) := Lib.hid ⟨ho.out.1, (ho.out.2.below b3).more b3.size⟩
         clear b3 HBH
         go_wp2_with fail
         exact ⟨⟨i + 1, Ao, co, rfl, by omega, by rw [HF.out, HNX.out], by rw [HF.out]; exact HO3, BE⟩, by simp only [intOf]; omega⟩
        ·rw [decide_eq_false hbh] at hbhd
         have HF := Lib.hid (show laidV a (b.take (i + 1)) (laidV b a []) = putV X ⟨s, vn, vp, vg, vx⟩ by rw [HT.out, if_neg hbh])
         have HBH := Lib.hid hbhd
         clear HT hbh hbhd
         go_wp2_with fail
         refine HBH.out.mono ?_
         rintro e w3 ⟨rfl, b3⟩
         have BE := HB.out.trans (b3.mono hsz)
         obtain ⟨A2, c2, z0, z1, z2, z3, z4, zp⟩ := HC.out w3 BE
         simp only at z0 z1 z2 z3 z4
         obtain ⟨kp, hkp⟩ : ∃ kp, vp.length = kp := ⟨_, rfl⟩
         rw [hkp] at z2
         have hput := put_any Ao A2 co c2 nx kp X HNX.out (by have := ho.out.1; have := HNX.out; omega) s vn vp vg vx hkp 0 w3 (Nat.zero_le _) ((ho.out.2.below b3).more b3.size) (zp.more BE.size) (by omega)
         have HP := Lib.hid hput
         have HBE := Lib.hid BE
         have s3 := BE.size
         clear hput b3 HBH hkp BE zp
         go_wp2_with fail
         refine HP.out.mono ?_
         rintro e w4 ⟨A4, c4, rfl, l4, v4, b4⟩
         have BE4 := HBE.out.trans (b4.mono s3)
         have HO4 := Lib.hid (And.intro l4 v4)
         clear HP b4 l4 v4
         go_wp2_with fail
         exact ⟨⟨i + 1, A4, c4, rfl, by omega, by rw [HF.out], by rw [HF.out]; exact HO4, BE4⟩, by simp only [intOf]; omega⟩
       ·have hin : n' = i := by omega
        subst hin
        have hfull : laidV a (b.take n') (laidV b a []) = stayF a b := by rw [List.take_of_length_le (by have := HV.out.2.2.2.1; omega)]; rfl
        rw [hfull] at ho ⊢
        have hm1 := merge_long HV.out.2.2.2.2.1 HV.out.2.2.2.2.2 HT.out
        have hm2 := merge_ok HV.out.2.2.2.2.1 HV.out.2.2.2.2.2 HT.out
        rw [HR.out] at hm1 hm2
        have hfl := laidV_len a b (laidV b a [])
        have hfl2 : (stayF a b).length ≤ 1024 := by have h7 := HSL.out; have h8 := HV.out.2.2.2.1; have h9 : (stayF a b).length = (laidV a b (laidV b a [])).length := rfl; omega
        obtain ⟨Z, hZ⟩ : ∃ Z, stayF a b = Z := ⟨_, rfl⟩
        rw [hZ] at ho hm1 hm2 hfl2 ⊢
        obtain ⟨nz, hnz⟩ : ∃ nz, Z.length = nz := ⟨_, rfl⟩
        have HNZ := Lib.hid hnz
        rw [hnz] at hm1 hm2 hfl2 ⊢
        have HM := Lib.hid (And.intro hm1 hm2)
        have HBB := Lib.hid hb
        clear hm1 hm2 hfl hfull hZ hnz hb
        by_cases hlong : 512 < nz
        ·have HF := Lib.hid (HM.out.1 hlong)
         clear HM
         go_wp2_with fail
         go_ret2
         rw [HF.out]
         exact merged_none 0 3 w _ HBB.out
        ·have HF := Lib.hid (HM.out.2 hlong)
         clear HM
         go_wp2_with fail
         go_ret2
         rw [HF.out]
         exact ⟨Ao, co, by simp only; rw [HNZ.out]; rfl, ho.out.1, ho.out.2, HBB.out⟩
  ·have H1 := Lib.hid h1
   have H2 := Lib.hid (fun W hbW => (decide_eq_false rb) ▸ h2 W hbW)
   have HR := Lib.hid (merge_arg (a := a) (b := b) (.inr rb))
   obtain ⟨r, hr⟩ : ∃ r, mergeF a b = r := ⟨_, rfl⟩
   have HR2 := Lib.hid (hr.symm.trans HR.out)
   rw [hr]
   clear h1 h2 hv hv' hn hn' ra rb hr HR
   go_enter Tryz.func37, Tryz.ntmps37
   go_wp2_with fail
   refine H1.out.mono ?_
   rintro e w1 ⟨rfl, b1⟩
   have H2' := Lib.hid (H2.out _ b1)
   have B1 := Lib.hid b1
   have s1 := b1.size
   clear b1 H1 H2
   go_wp2_with fail
   refine H2'.out.mono ?_
   rintro e w2 ⟨rfl, b2⟩
   have BE := B1.out.trans (b2.mono s1)
   clear b2 H2' B1
   go_wp2_with fail
   go_ret2
   rw [HR2.out]
   exact merged_none 0 1 w w2 BE
 ·rw [decide_eq_false ra] at h1
  have H1 := Lib.hid h1
  obtain ⟨r, hr⟩ : ∃ r, mergeF a b = r := ⟨_, rfl⟩
  have HR2 := Lib.hid (hr.symm.trans (merge_arg (a := a) (b := b) (.inl ra)))
  rw [hr]
  clear h1 h2 hv hv' hn hn' ra hr
  go_enter Tryz.func37, Tryz.ntmps37
  go_wp2_with fail
  refine H1.out.mono ?_
  rintro e w1 ⟨rfl, b1⟩
  have BE := Lib.hid b1
  clear b1 H1
  go_wp2_with fail
  go_ret2
  rw [HR2.out]
  exact merged_none 0 1 w w1 BE.out
end Vers
end Go.Proofs.YtbhidndgnldheaaGreat

/-
 A slice of versions without its first one.
-/
namespace Go.Proofs.YtbhidndgnldheaaGreat
namespace Vers
open Go.RowKit Span

theorem vs_head {w : World} {L B : Nat} {A : Option Addr} {x : Vr} {l : List Vr} (h : Vs w L B A (x :: l)) : ∃ b off A1 c1, A = some ⟨b, off, none⟩ ∧ b < B ∧ Vat w L B b off x A1 c1 := by
 obtain ⟨b, off, rfl, _, hb, hc⟩ := h (by simp)
 obtain ⟨A1, c1, h1⟩ := hc 0 (by simp)
 exact ⟨b, off, A1, c1, rfl, hb, by simpa using h1⟩
theorem vs_tail {w : World} {L B b off : Nat} {x : Vr} {l : List Vr} (h : Vs w L B (some ⟨b, off, none⟩) (x :: l)) : Vs w L B (some ⟨b, off + 5, none⟩) l := by
 have := h.drop 1
 simpa using this

theorem elem_vers : Tryz.prog.underlying 22 = some (.slice (Tryz.prog.elem 22)) := by kernel_rfl
theorem slice_tail (b off k c : Nat) (h : k + 1 ≤ c) : ∃ Ax cx, (∀ V, (Instr.slice 22 (.slice (some ⟨b, off, none⟩) (k + 1) c) (some (.int .i64 1)) none none).run Tryz.prog V = .ok (.slice Ax k cx) V) ∧ k ≤ cx ∧
  ∀ w L B x l, l.length = k → Vs w L B (some ⟨b, off, none⟩) (x :: l) → Vs w L B Ax l := by
 obtain ⟨i0, hi0, hz0, hz1, hz2⟩ := info_parts info_ver
 refine ⟨if c = 1 then some ⟨b, off, none⟩ else some ⟨b, off + 5, none⟩, c - 1, fun V => ?_, by omega, fun w L B x l hl hv => ?_⟩
 ·have hs := run_slice_l (P := Tryz.prog) V 22 (some ⟨b, off, none⟩) (k + 1) c elem_vers .i64 1 (by omega) (by omega)
  rw [hs]
  have he : Tryz.prog.elem 22 = 40 := by kernel_rfl
  have ha : (⟨b, off, none⟩ : Addr).add 5 = ⟨b, off + 5, none⟩ := add_plain _ _ _
  rw [he]
  simp only [sizeOf, typeInfo, Sem.run_bind, Sem.run_pure, sliced, Option.map_some, Int.toNat_one, Nat.one_mul, Nat.add_sub_cancel]
  simp [go_sem, hi0, hz1]
 ·split
  ·have : l = [] := List.eq_nil_of_length_eq_zero (by omega)
   subst this
   exact Vs.nil _
  ·exact vs_tail hv

section
variable {V : World} {m b o : Nat} {u0 u1 u2 u3 u4 : Value}
def put5 (V : World) (m : Nat) (u0 u1 u2 u3 u4 : Value) : World := (((((V.setCell ⟨m, 0, none⟩ u0).setCell ⟨m, 1, none⟩ u1).setCell ⟨m, 2, none⟩ u2).setCell ⟨m, 3, none⟩ u3).setCell ⟨m, 4, none⟩ u4).drew
theorem drew_heap (X : World) : X.drew.heap = X.heap := rfl
theorem drew_cell (X : World) (a : Addr) : X.drew.cell? a = X.cell? a := rfl
theorem setCell_size (X : World) (a : Addr) (v : Value) : (X.setCell a v).heap.size = X.heap.size := by simp [World.setCell]
theorem below_set (X : World) (k r : Nat) (v : Value) : Below k X (X.setCell ⟨k, r, none⟩ v) := (Below.refl k X).setCell (Nat.le_refl _) v
theorem off_ne (X : World) (m i j : Nat) (v : Value) (h : i ≠ j) : (X.setCell ⟨m, i, none⟩ v).cell? ⟨m, j, none⟩ = X.cell? ⟨m, j, none⟩ := by apply World.cell?_setCell_other; intro e; apply h; injection e
theorem put5_heap {k : Nat} (h : k ≠ m) : (put5 V m u0 u1 u2 u3 u4).heap[k]? = V.heap[k]? := by
 unfold put5
 rw [drew_heap, Below.heap_setCell _ _ _ _ h, Below.heap_setCell _ _ _ _ h, Below.heap_setCell _ _ _ _ h, Below.heap_setCell _ _ _ _ h, Below.heap_setCell _ _ _ _ h]
theorem put5_size : (put5 V m u0 u1 u2 u3 u4).heap.size = V.heap.size := by
 unfold put5
 rw [drew_heap, setCell_size, setCell_size, setCell_size, setCell_size, setCell_size]
theorem put5_below : Below m V (put5 V m u0 u1 u2 u3 u4) := by
 unfold put5
 exact (((((below_set V m 0 u0).trans (below_set _ m 1 u1)).trans (below_set _ m 2 u2)).trans (below_set _ m 3 u3)).trans (below_set _ m 4 u4)).drew
theorem put5_far {x0 x1 x2 x3 x4 : Option Value} (hne : b ≠ m)
  (h : V.cell? ⟨b, o, none⟩ = x0 ∧ V.cell? ⟨b, o + 1, none⟩ = x1 ∧ V.cell? ⟨b, o + 2, none⟩ = x2 ∧ V.cell? ⟨b, o + 3, none⟩ = x3 ∧ V.cell? ⟨b, o + 4, none⟩ = x4) :
  (put5 V m u0 u1 u2 u3 u4).cell? ⟨b, o, none⟩ = x0 ∧ (put5 V m u0 u1 u2 u3 u4).cell? ⟨b, o + 1, none⟩ = x1 ∧ (put5 V m u0 u1 u2 u3 u4).cell? ⟨b, o + 2, none⟩ = x2 ∧ (put5 V m u0 u1 u2 u3 u4).cell? ⟨b, o + 3, none⟩ = x3 ∧ (put5 V m u0 u1 u2 u3 u4).cell? ⟨b, o + 4, none⟩ = x4 := by
 have key : ∀ k, (put5 V m u0 u1 u2 u3 u4).cell? ⟨b, k, none⟩ = V.cell? ⟨b, k, none⟩ := fun k => World.cell?_of_block (put5_heap hne)
 exact ⟨(key _).trans h.1, (key _).trans h.2.1, (key _).trans h.2.2.1, (key _).trans h.2.2.2.1, (key _).trans h.2.2.2.2⟩
theorem put5_new {z0 z1 z2 z3 z4 : Value} (h : V.cell? ⟨m, 0, none⟩ = some z0 ∧ V.cell? ⟨m, 1, none⟩ = some z1 ∧ V.cell? ⟨m, 2, none⟩ = some z2 ∧ V.cell? ⟨m, 3, none⟩ = some z3 ∧ V.cell? ⟨m, 4, none⟩ = some z4) :
  (put5 V m u0 u1 u2 u3 u4).cell? ⟨m, 0, none⟩ = some u0 ∧ (put5 V m u0 u1 u2 u3 u4).cell? ⟨m, 1, none⟩ = some u1 ∧ (put5 V m u0 u1 u2 u3 u4).cell? ⟨m, 2, none⟩ = some u2 ∧ (put5 V m u0 u1 u2 u3 u4).cell? ⟨m, 3, none⟩ = some u3 ∧ (put5 V m u0 u1 u2 u3 u4).cell? ⟨m, 4, none⟩ = some u4 := by
 have e : ∀ a, (put5 V m u0 u1 u2 u3 u4).cell? a = (((((V.setCell ⟨m, 0, none⟩ u0).setCell ⟨m, 1, none⟩ u1).setCell ⟨m, 2, none⟩ u2).setCell ⟨m, 3, none⟩ u3).setCell ⟨m, 4, none⟩ u4).cell? a := fun a => by unfold put5; rw [drew_cell]
 obtain ⟨h0, h1, h2, h3, h4⟩ := h
 have s0 : (V.setCell ⟨m, 0, none⟩ u0).cell? ⟨m, 0, none⟩ = some u0 := World.cell?_setCell_same' _ _ _ (by rw [h0]; rfl)
 have s1 : ((V.setCell ⟨m, 0, none⟩ u0).setCell ⟨m, 1, none⟩ u1).cell? ⟨m, 1, none⟩ = some u1 := World.cell?_setCell_same' _ _ _ (by rw [off_ne _ _ _ _ _ (by omega), h1]; rfl)
 have s2 : (((V.setCell ⟨m, 0, none⟩ u0).setCell ⟨m, 1, none⟩ u1).setCell ⟨m, 2, none⟩ u2).cell? ⟨m, 2, none⟩ = some u2 := World.cell?_setCell_same' _ _ _ (by rw [off_ne _ _ _ _ _ (by omega), off_ne _ _ _ _ _ (by omega), h2]; rfl)
 have s3 : ((((V.setCell ⟨m, 0, none⟩ u0).setCell ⟨m, 1, none⟩ u1).setCell ⟨m, 2, none⟩ u2).setCell ⟨m, 3, none⟩ u3).cell? ⟨m, 3, none⟩ = some u3 := World.cell?_setCell_same' _ _ _ (by rw [off_ne _ _ _ _ _ (by omega), off_ne _ _ _ _ _ (by omega), off_ne _ _ _ _ _ (by omega), h3]; rfl)
 have s4 : (((((V.setCell ⟨m, 0, none⟩ u0).setCell ⟨m, 1, none⟩ u1).setCell ⟨m, 2, none⟩ u2).setCell ⟨m, 3, none⟩ u3).setCell ⟨m, 4, none⟩ u4).cell? ⟨m, 4, none⟩ = some u4 := World.cell?_setCell_same' _ _ _ (by rw [off_ne _ _ _ _ _ (by omega), off_ne _ _ _ _ _ (by omega), off_ne _ _ _ _ _ (by omega), off_ne _ _ _ _ _ (by omega), h4]; rfl)
 refine ⟨?_, ?_, ?_, ?_, ?_⟩
 ·rw [e, off_ne _ _ _ _ _ (by omega), off_ne _ _ _ _ _ (by omega), off_ne _ _ _ _ _ (by omega), off_ne _ _ _ _ _ (by omega), s0]
 ·rw [e, off_ne _ _ _ _ _ (by omega), off_ne _ _ _ _ _ (by omega), off_ne _ _ _ _ _ (by omega), s1]
 ·rw [e, off_ne _ _ _ _ _ (by omega), off_ne _ _ _ _ _ (by omega), s2]
 ·rw [e, off_ne _ _ _ _ _ (by omega), s3]
 ·rw [e, s4]
theorem put5_far_lit {x0 x1 x2 x3 x4 : Option Value} (hne : b ≠ m)
  (h : V.cell? ⟨b, o, none⟩ = x0 ∧ V.cell? ⟨b, o + 1, none⟩ = x1 ∧ V.cell? ⟨b, o + 2, none⟩ = x2 ∧ V.cell? ⟨b, o + 3, none⟩ = x3 ∧ V.cell? ⟨b, o + 4, none⟩ = x4) :
  ((((((V.setCell ⟨m, 0, none⟩ u0).setCell ⟨m, 1, none⟩ u1).setCell ⟨m, 2, none⟩ u2).setCell ⟨m, 3, none⟩ u3).setCell ⟨m, 4, none⟩ u4).drew).cell? ⟨b, o, none⟩ = x0 ∧ ((((((V.setCell ⟨m, 0, none⟩ u0).setCell ⟨m, 1, none⟩ u1).setCell ⟨m, 2, none⟩ u2).setCell ⟨m, 3, none⟩ u3).setCell ⟨m, 4, none⟩ u4).drew).cell? ⟨b, o + 1, none⟩ = x1 ∧ ((((((V.setCell ⟨m, 0, none⟩ u0).setCell ⟨m, 1, none⟩ u1).setCell ⟨m, 2, none⟩ u2).setCell ⟨m, 3, none⟩ u3).setCell ⟨m, 4, none⟩ u4).drew).cell? ⟨b, o + 2, none⟩ = x2 ∧ ((((((V.setCell ⟨m, 0, none⟩ u0).setCell ⟨m, 1, none⟩ u1).setCell ⟨m, 2, none⟩ u2).setCell ⟨m, 3, none⟩ u3).setCell ⟨m, 4, none⟩ u4).drew).cell? ⟨b, o + 3, none⟩ = x3 ∧ ((((((V.setCell ⟨m, 0, none⟩ u0).setCell ⟨m, 1, none⟩ u1).setCell ⟨m, 2, none⟩ u2).setCell ⟨m, 3, none⟩ u3).setCell ⟨m, 4, none⟩ u4).drew).cell? ⟨b, o + 4, none⟩ = x4 := put5_far hne h
theorem five_drew {x0 x1 x2 x3 x4 : Option Value}
  (h : V.cell? ⟨b, o, none⟩ = x0 ∧ V.cell? ⟨b, o + 1, none⟩ = x1 ∧ V.cell? ⟨b, o + 2, none⟩ = x2 ∧ V.cell? ⟨b, o + 3, none⟩ = x3 ∧ V.cell? ⟨b, o + 4, none⟩ = x4) :
  V.drew.cell? ⟨b, o, none⟩ = x0 ∧ V.drew.cell? ⟨b, o + 1, none⟩ = x1 ∧ V.drew.cell? ⟨b, o + 2, none⟩ = x2 ∧ V.drew.cell? ⟨b, o + 3, none⟩ = x3 ∧ V.drew.cell? ⟨b, o + 4, none⟩ = x4 := h
theorem put5_lit : (((((V.setCell ⟨m, 0, none⟩ u0).setCell ⟨m, 1, none⟩ u1).setCell ⟨m, 2, none⟩ u2).setCell ⟨m, 3, none⟩ u3).setCell ⟨m, 4, none⟩ u4).drew = put5 V m u0 u1 u2 u3 u4 := rfl
end
end Vers
end Go.Proofs.YtbhidndgnldheaaGreat

/-
 Plain words of layer 7: files by their names, in order; what a change makes of them.
-/
namespace Go.Proofs.YtbhidndgnldheaaGreat
namespace Disk
abbrev Nm := ByteArray
def nlt (a b : Nm) : Bool := Op.bytesLess a.toList b.toList
theorem nm_ext {a b : Nm} (h : a.toList = b.toList) : a = b := by
 rw [Lib.toList_data, Lib.toList_data] at h
 exact ByteArray.ext (Array.toList_inj.1 h)
theorem nlt_iff {a b : Nm} : nlt a b = true ↔ a.toList < b.toList := by
 unfold nlt
 rw [bytesLess_eq, decide_eq_true_iff]
theorem nm_eq (a b : Nm) : (a.toList == b.toList) = decide (a = b) := by
 by_cases h : a = b
 ·subst h; simp
 ·rw [decide_eq_false h, beq_eq_false_iff_ne]
  exact fun e => h (nm_ext e)
theorem nlt_irrefl (a : Nm) : nlt a a = false := by
 rw [Bool.eq_false_iff]
 intro h
 exact List.lt_irrefl _ (nlt_iff.1 h)
theorem nlt_trans {a b c : Nm} (h : nlt a b = true) (h' : nlt b c = true) : nlt a c = true := nlt_iff.2 (List.lt_trans (nlt_iff.1 h) (nlt_iff.1 h'))
theorem nlt_asymm {a b : Nm} (h : nlt a b = true) : nlt b a = false := by
 rw [Bool.eq_false_iff]
 intro h'
 have := nlt_trans h h'
 rw [nlt_irrefl] at this
 cases this
theorem nlt_tri {a b : Nm} (h : nlt a b = false) (hne : a ≠ b) : nlt b a = true := by
 have h1 : ¬ a.toList < b.toList := fun e => by rw [nlt_iff.2 e] at h; cases h
 have h2 : b.toList ≤ a.toList := List.not_lt.1 h1
 rcases Classical.em (b.toList < a.toList) with h3 | h3
 ·exact nlt_iff.2 h3
 ·exact absurd (nm_ext (List.le_antisymm (List.not_lt.1 h3) h2)) hne
theorem nlt_ne {a b : Nm} (h : nlt a b = true) : a ≠ b := fun e => by subst e; rw [nlt_irrefl] at h; cases h
section
variable {β γ : Type}
def find : List (Nm × β) → Nm → Option β
 | [], _ => none
 | x :: l, s => if x.1 = s then some x.2 else find l s
def wout (l : List (Nm × β)) (s : Nm) : List (Nm × β) := l.filter fun x => !decide (x.1 = s)
def ins : List (Nm × β) → Nm → β → List (Nm × β)
 | [], s, b => [(s, b)]
 | x :: l, s, b => if nlt s x.1 then (s, b) :: x :: l else x :: ins l s b
def wit (l : List (Nm × β)) (s : Nm) (b : β) : List (Nm × β) := ins (wout l s) s b
def Srt (l : List (Nm × β)) : Prop := l.Pairwise fun x y => nlt x.1 y.1 = true
theorem Srt.nil : Srt ([] : List (Nm × β)) := List.Pairwise.nil
theorem find_none {l : List (Nm × β)} {s : Nm} : find l s = none ↔ ∀ x ∈ l, x.1 ≠ s := by
 induction l with
 | nil => simp [find]
 | cons y l ih =>
  unfold find
  by_cases h : y.1 = s
  ·simp [h]
  ·simp [h, ih]
theorem find_some {l : List (Nm × β)} {s : Nm} {b : β} (h : find l s = some b) : (s, b) ∈ l := by
 induction l with
 | nil => simp [find] at h
 | cons y l ih =>
  unfold find at h
  by_cases e : y.1 = s
  ·rw [if_pos e] at h
   injection h with h
   subst e h
   exact List.mem_cons_self
  ·rw [if_neg e] at h
   exact List.mem_cons_of_mem _ (ih h)
theorem find_mem {l : List (Nm × β)} (h : Srt l) {x : Nm × β} (hx : x ∈ l) : find l x.1 = some x.2 := by
 induction l with
 | nil => cases hx
 | cons y l ih =>
  obtain ⟨h1, h2⟩ := List.pairwise_cons.1 h
  unfold find
  rcases List.mem_cons.1 hx with rfl | hx
  ·rw [if_pos rfl]
  ·rw [if_neg (nlt_ne (h1 x hx)), ih h2 hx]
theorem Srt.wout {l : List (Nm × β)} (h : Srt l) (s : Nm) : Srt (wout l s) := List.Pairwise.filter _ h
theorem mem_wout {l : List (Nm × β)} {s : Nm} {x : Nm × β} : x ∈ wout l s ↔ x ∈ l ∧ x.1 ≠ s := by simp [Disk.wout, List.mem_filter]
theorem mem_ins {l : List (Nm × β)} {s : Nm} {b : β} {x : Nm × β} : x ∈ ins l s b ↔ x = (s, b) ∨ x ∈ l := by
 induction l with
 | nil => simp [ins]
 | cons y l ih =>
  unfold ins
  by_cases h : nlt s y.1 = true
  ·simp [h]
  ·simp [h, ih]
   constructor
   ·rintro (h | h | h)
    ·exact .inr (.inl h)
    ·exact .inl h
    ·exact .inr (.inr h)
   ·rintro (h | h | h)
    ·exact .inr (.inl h)
    ·exact .inl h
    ·exact .inr (.inr h)
theorem mem_wit {l : List (Nm × β)} {s : Nm} {b : β} {x : Nm × β} : x ∈ wit l s b ↔ x = (s, b) ∨ (x ∈ l ∧ x.1 ≠ s) := by rw [wit, mem_ins, mem_wout]
theorem Srt.ins {l : List (Nm × β)} (h : Srt l) {s : Nm} (b : β) (hs : ∀ x ∈ l, x.1 ≠ s) : Srt (ins l s b) := by
 induction l with
 | nil => exact List.pairwise_singleton _ _
 | cons y l ih =>
  obtain ⟨h1, h2⟩ := List.pairwise_cons.1 h
  unfold Disk.ins
  by_cases e : nlt s y.1 = true
  ·rw [if_pos e]
   refine List.pairwise_cons.2 ⟨fun x hx => ?_, h⟩
   rcases List.mem_cons.1 hx with rfl | hx
   ·exact e
   ·exact nlt_trans e (h1 x hx)
  ·rw [if_neg e]
   refine List.pairwise_cons.2 ⟨fun x hx => ?_, ih h2 fun x hx => hs x (List.mem_cons_of_mem _ hx)⟩
   rcases mem_ins.1 hx with rfl | hx
   ·exact nlt_tri (by simpa using e) (fun e2 => hs y List.mem_cons_self e2.symm)
   ·exact h1 x hx
theorem Srt.wit {l : List (Nm × β)} (h : Srt l) (s : Nm) (b : β) : Srt (wit l s b) := (h.wout s).ins b fun _ hx => (mem_wout.1 hx).2
theorem find_wout {l : List (Nm × β)} (s t : Nm) : find (wout l s) t = if t = s then none else find l t := by
 induction l with
 | nil => simp [Disk.wout, find]
 | cons y l ih =>
  have e : wout (y :: l) s = if y.1 = s then wout l s else y :: wout l s := by
   unfold Disk.wout
   by_cases h : y.1 = s
   ·simp [h]
   ·simp [h]
  rw [e]
  by_cases h : y.1 = s
  ·rw [if_pos h, ih]
   by_cases h2 : t = s
   ·rw [if_pos h2, if_pos h2]
   ·rw [if_neg h2, if_neg h2]
    show _ = (if y.1 = t then some y.2 else find l t)
    rw [if_neg (fun e => h2 (e.symm.trans h))]
  ·rw [if_neg h]
   show (if y.1 = t then some y.2 else find (wout l s) t) = if t = s then none else (if y.1 = t then some y.2 else find l t)
   rw [ih]
   by_cases h2 : t = s
   ·subst h2
    simp [h]
   ·simp [h2]
theorem find_ins {l : List (Nm × β)} (s : Nm) (b : β) (t : Nm) (hs : ∀ x ∈ l, x.1 ≠ s) : find (ins l s b) t = if t = s then some b else find l t := by
 induction l with
 | nil =>
  show (if s = t then some b else none) = _
  by_cases h : t = s
  ·subst h; simp
  ·rw [if_neg (fun e => h e.symm), if_neg h]; rfl
 | cons y l ih =>
  have hy := hs y List.mem_cons_self
  have ih := ih fun x hx => hs x (List.mem_cons_of_mem _ hx)
  unfold Disk.ins
  by_cases e : nlt s y.1 = true
  ·rw [if_pos e]
   show (if s = t then some b else find (y :: l) t) = _
   by_cases h : t = s
   ·subst h; simp
   ·rw [if_neg (fun e => h e.symm), if_neg h]
  ·rw [if_neg e]
   show (if y.1 = t then some y.2 else find (ins l s b) t) = if t = s then some b else (if y.1 = t then some y.2 else find l t)
   rw [ih]
   by_cases h : t = s
   ·subst h
    rw [if_neg hy, if_pos rfl, if_pos rfl]
   ·rw [if_neg h, if_neg h]
theorem find_wit (l : List (Nm × β)) (s : Nm) (b : β) (t : Nm) : find (wit l s b) t = if t = s then some b else find l t := by
 rw [wit, find_ins s b t fun x hx => (mem_wout.1 hx).2, find_wout]
 by_cases h : t = s
 ·rw [if_pos h, if_pos h]
 ·rw [if_neg h, if_neg h, if_neg h]
theorem srt_ext {l m : List (Nm × β)} (hl : Srt l) (hm : Srt m) (h : ∀ s, find l s = find m s) : l = m := by
 induction l generalizing m with
 | nil =>
  rcases m with _ | ⟨y, m⟩
  ·rfl
  ·have := h y.1
   unfold find at this
   simp at this
 | cons x l ih =>
  obtain ⟨l1, l2⟩ := List.pairwise_cons.1 hl
  rcases m with _ | ⟨y, m⟩
  ·have := h x.1
   unfold find at this
   simp at this
  ·obtain ⟨m1, m2⟩ := List.pairwise_cons.1 hm
   have hx : (x.1, x.2) ∈ y :: m := find_some ((h x.1).symm.trans (by unfold find; rw [if_pos rfl]))
   have hy : (y.1, y.2) ∈ x :: l := find_some ((h y.1).trans (by unfold find; rw [if_pos rfl]))
   have hxy : x = y := by
    rcases List.mem_cons.1 hx with e | hx
    ·exact e
    ·rcases List.mem_cons.1 hy with e | hy
     ·exact e.symm
     ·have h1 := m1 _ hx
      have h2 := l1 _ hy
      simp only at h1 h2
      rw [nlt_asymm h1] at h2
      cases h2
   subst hxy
   rw [ih l2 m2 fun s => ?_]
   have := h s
   unfold find at this
   by_cases e : x.1 = s
   ·have n1 : find l s = none := find_none.2 fun z hz e2 => nlt_ne (l1 z hz) (e.trans e2.symm)
    have n2 : find m s = none := find_none.2 fun z hz e2 => nlt_ne (m1 z hz) (e.trans e2.symm)
    rw [n1, n2]
   ·rwa [if_neg e, if_neg e] at this
def mapV (f : β → γ) (l : List (Nm × β)) : List (Nm × γ) := l.map fun x => (x.1, f x.2)
theorem Srt.map {l : List (Nm × β)} (h : Srt l) (f : β → γ) : Srt (mapV f l) := by
 unfold Srt mapV
 rw [List.pairwise_map]
 exact h
end
end Disk
end Go.Proofs.YtbhidndgnldheaaGreat
