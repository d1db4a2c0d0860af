/-
  firthref05.put lays a version where its dot belongs.
-/
import Derived.Test.YtbhidndgnldheaaVersOwn
namespace Go.Proofs.Ytbhidndgnldheaa
namespace Vers
open Go.RowKit Span
attribute [local go_sem ↓] Go.wp_at_zero Go.wp_at_succ

theorem putV_index {l : List Vr} {v : Vr} {k : Nat} (hk : k ≤ l.length) (hb : ∀ j, j < k → dlt (l.getD j v0) v) (hs : k < l.length → ¬ dlt (l.getD k v0) v) :
    putV l v = if k < l.length ∧ same (l.getD k v0) v then l else l.take k ++ v :: l.drop k := by
  induction l generalizing k with
  | nil =>
    obtain rfl : k = 0 := by simpa using hk
    simp [putV]
  | cons x l ih =>
    unfold putV
    rcases k with _ | k
    · have h0 := hs (by simp)
      simp only [List.getD_cons_zero] at h0
      rw [if_neg h0]
      by_cases hx : same x v
      · rw [if_pos hx, if_pos ⟨by simp, by simpa using hx⟩]
      · rw [if_neg hx, if_neg (fun h => hx (by simpa using h.2))]
        rfl
    · have h0 := hb 0 (by omega)
      simp only [List.getD_cons_zero] at h0
      rw [if_pos h0]
      have h1 := ih (k := k) (by simpa using hk) (fun j hj => by simpa using hb (j + 1) (by omega)) (fun h => by simpa using hs (by simpa using h))
      rw [h1]
      simp only [List.getD_cons_succ, List.length_cons, Nat.add_lt_add_iff_right, List.take_succ_cons, List.drop_succ_cons, List.cons_append]
      split <;> rfl
theorem putV_len (l : List Vr) (v : Vr) : (putV l v).length ≤ l.length + 1 := by
  induction l with
  | nil => simp [putV]
  | cons x l ih =>
    unfold putV
    split
    · simp; omega
    · split <;> simp

theorem Vs.take {w : World} {L B : Nat} {A : Option Addr} {l : List Vr} (h : Vs w L B A l) (k : Nat) : Vs w L B A (l.take k) := fun hp => by
  rw [List.length_take] at hp
  obtain ⟨b, off, e, hL, hb, hc⟩ := h (by omega)
  refine ⟨b, off, e, hL, hb, fun j hj => ?_⟩
  rw [List.length_take] at hj
  have e1 : (l.take k).getD j v0 = l.getD j v0 := by simp [List.getD_eq_getElem?_getD, show j < k by omega]
  rw [e1]
  exact hc j (by omega)
theorem Vs.drop {w : World} {L B b off : Nat} {l : List Vr} (h : Vs w L B (some ⟨b, off, none⟩) l) (k : Nat) : Vs w L B (some ⟨b, off + k * 5, none⟩) (l.drop k) := fun hp => by
  rw [List.length_drop] at hp
  obtain ⟨b', off', e, hL, hb, hc⟩ := h (by omega)
  injection e with e
  injection e with e1 e2
  subst e1 e2
  refine ⟨b, off + k * 5, rfl, hL, hb, fun j hj => ?_⟩
  rw [List.length_drop] at hj
  have e1 : (l.drop k).getD j v0 = l.getD (k + j) v0 := by simp [List.getD_eq_getElem?_getD, List.getElem?_drop]
  rw [e1, show off + k * 5 + j * 5 = off + (k + j) * 5 by omega]
  exact hc (k + j) (by omega)

theorem Vs.grown {w w' : World} {L B : Nat} {A : Option Addr} {l : List Vr} {row : Option Nat} (h : Vs w L B A l) (hg : w.grownBy w' row) (hB : B ≤ w.heap.size) (hr : ∀ k, row = some k → B ≤ k) : Vs w' L B A l :=
  h.keep fun a _ ha => World.cell?_of_block (hg.block a.block (by omega) (fun e => by have := hr _ e.symm; omega))

/-- A list that a call tells: it reads as l. -/
def Reads (L : Nat) (l : List Vr) (w : World) (e : Ending) (w' : World) : Prop := ∃ A c, e = .returned (.slice A l.length c) ∧ l.length ≤ c ∧ Vs w' L w'.heap.size A l ∧ Below w.heap.size w w'

set_option maxRecDepth 100000 in
set_option maxHeartbeats 4000000 in
theorem put_any (A A1 : Option Addr) (c c1 n kp : Nat) (l : List Vr) (hn : l.length = n) (hnc : n ≤ c) (s vn : Int) (vp : List Sp) (vg : Bool) (vx : ByteArray) (hkp : vp.length = kp) (L : Nat) (w : World) (hLw : L ≤ w.heap.size) (hv : Vs w L w.heap.size A l) (hp : Pa w L w.heap.size A1 c1 ⟨s, vn, vp, vg, vx⟩) (hn2 : n ≤ 1024) :
    Calls Try.prog 53 #[.slice A n c, .agg #[.int .i64 s, .int .i64 vn, .slice A1 kp c1, .bool vg, .string vx]] w (Reads L (putV l ⟨s, vn, vp, vg, vx⟩) w) := by
  obtain ⟨i0, hi0, hz0, hz1, hz2⟩ := info_parts info_ver
  have HV := Lib.hid (And.intro hv (And.intro hn (And.intro hp hkp)))
  have HI : Hid (∀ k, k ≤ n → (∀ j, j < k → dlt (l.getD j v0) ⟨s, vn, vp, vg, vx⟩) → (k < n → ¬ dlt (l.getD k v0) ⟨s, vn, vp, vg, vx⟩) → putV l ⟨s, vn, vp, vg, vx⟩ = if k < l.length ∧ same (l.getD k v0) ⟨s, vn, vp, vg, vx⟩ then l else l.take k ++ ⟨s, vn, vp, vg, vx⟩ :: l.drop k) :=
    Lib.hid fun k h1 h2 h3 => putV_index (by omega) h2 (by rw [hn]; exact h3)
  obtain ⟨r, hr⟩ : ∃ r, putV l ⟨s, vn, vp, vg, vx⟩ = r := ⟨_, rfl⟩
  rw [hr] at HI ⊢
  clear hv hn hp hkp hr
  go_enter Try.func53, Try.ntmps53
  go_upto_block 0 with fail
  obtain ⟨W0, hW0⟩ : ∃ W0, w.alloc (.cells #[.int .i64 s, .int .i64 vn, .slice A1 kp c1, .bool vg, .string vx] 69) = W0 := ⟨_, rfl⟩
  obtain ⟨m, hm⟩ : ∃ m, w.heap.size = m := ⟨_, rfl⟩
  have y : W0.cell? ⟨m, 0, none⟩ = some (.int .i64 s) ∧ W0.cell? ⟨m, 1, none⟩ = some (.int .i64 vn) ∧ W0.cell? ⟨m, 2, none⟩ = some (.slice A1 kp c1) ∧ W0.cell? ⟨m, 3, none⟩ = some (.bool vg) ∧ W0.cell? ⟨m, 4, none⟩ = some (.string vx) := by
    rw [← hW0, ← hm]; exact ⟨by simp, by simp, by simp, by simp, by simp⟩
  have hl : m < W0.heap.size := by rw [← hW0, ← hm]; simp
  have B0 : Below w.heap.size w W0 := by rw [← hW0]; exact (Below.refl _ w).alloc (Nat.le_refl _) _
  have HB0 := Lib.hid B0
  have hs0 := B0.size
  have HM := Lib.hid hm
  rw [hW0, hm]
  clear hW0 hm B0
  go_cut [5] (fun iv V => ∃ k : Nat, iv = .int .i64 k ∧ Hid (k ≤ n ∧ Below W0.heap.size W0 V ∧ (∀ j, j < k → dlt (l.getD j v0) ⟨s, vn, vp, vg, vx⟩) ∧ (k < n → ¬ dlt (l.getD k v0) ⟨s, vn, vp, vg, vx⟩)))
  case first =>
    go_wp2_with fail
    go_loopw [5] (fun iv V => ∃ k : Nat, iv = .int .i64 k ∧ k ≤ n ∧ Below W0.heap.size W0 V ∧ Hid (∀ j, j < k → dlt (l.getD j v0) ⟨s, vn, vp, vg, vx⟩)) (fun iv _ => n - (intOf iv).toNat)
    case atStart => exact ⟨0, rfl, by omega, Below.refl _ _, Lib.hid fun j hj => absurd hj (by omega)⟩
    case round =>
      obtain ⟨k, rfl, hk, hb, hst⟩ := hrel
      have hsz := hb.size
      have hbw := Lib.hid (HB0.out.trans (hb.mono hs0))
      by_cases hlt : k < n
      · obtain ⟨b, off, A2, c2, rfl, _, hbB, a0, a1, _⟩ := HV.out.1.at HV.out.2.1 hbw.out hlt rfl
        have e0 := (hb.cell (p := ⟨m, 0, none⟩) hl).trans y.1
        have e1 := (hb.cell (p := ⟨m, 1, none⟩) hl).trans y.2.1
        obtain ⟨u, hu⟩ : ∃ u, l.getD k v0 = u := ⟨_, rfl⟩
        rw [hu] at a0 a1
        have h1 := less_any u.s u.n s vn wr.drew
        obtain ⟨q, hq⟩ : ∃ q, decide (u.s < s ∨ (u.s = s ∧ u.n < vn)) = q := ⟨_, rfl⟩
        rw [hq] at h1
        have HN := Lib.hid (show (q = true → ∀ j, j < k + 1 → dlt (l.getD j v0) ⟨s, vn, vp, vg, vx⟩) ∧ (q = false → ¬ dlt (l.getD k v0) ⟨s, vn, vp, vg, vx⟩) from ⟨fun h j hj => by
          rcases Nat.lt_or_ge j k with h2 | h2
          · exact hst.out j h2
          · obtain rfl : j = k := by omega
            rw [hu]
            exact of_decide_eq_true (hq.trans h), fun h => by
          rw [hu]
          exact of_decide_eq_false (hq.trans h)⟩)
        have H1 := Lib.hid h1
        obtain ⟨us, un, up, ug, ux⟩ := u
        simp only at a0 a1
        have lb : b < wr.heap.size := by omega
        have lm : m < wr.heap.size := by omega
        have d1 : (0 : Int) ≤ (k : Int) := by omega
        have d2 : (k : Int) < (n : Int) := by omega
        have d3 : decide ((k : Int) < (n : Int)) = true := decide_eq_true d2
        have d4 : decide (k < n) = true := decide_eq_true hlt
        clear h1 hq hu y
        go_wp2_with fail
        go_region_held3 (fun V => V.cell? ⟨b, off + k * 5, none⟩ = some (.int .i64 us) ∧ V.cell? ⟨b, off + k * 5 + 1, none⟩ = some (.int .i64 un) ∧ V.cell? ⟨m, 0, none⟩ = some (.int .i64 s) ∧ V.cell? ⟨m, 1, none⟩ = some (.int .i64 vn))
          (first | exact ⟨a0, a1, e0, e1⟩ | exact ⟨cell_below b1 lb a0, cell_below b1 lb a1, cell_below b1 lm e0, cell_below b1 lm e1⟩)
          (first | (go_at_call 49; refine H1.out.mono ?_; rintro e w1 ⟨rfl, b1⟩))
        have BE : Below W0.heap.size W0 w1 := hb.drew.trans (Below.mono b1 (by exact hsz))
        cases q
        · have HF := Lib.hid (HN.out.2 rfl)
          clear HN b1 hb
          go_wp2_with fail
          go_meet
          exact ⟨k, rfl, Lib.hid ⟨hk, BE, hst.out, fun _ => HF.out⟩⟩
        · have HF := Lib.hid (HN.out.1 rfl)
          clear HN b1 hb
          go_wp2_with fail
          exact ⟨⟨k + 1, rfl, by omega, BE, HF⟩, by simp only [intOf]; omega⟩
      · have hkn : k = n := by omega
        subst hkn
        have d3 : decide ((k : Int) < (k : Int)) = false := decide_eq_false (by omega)
        have d4 : decide (k < k) = false := decide_eq_false (by omega)
        clear y
        go_wp2_with fail
        go_quiet (fail)
        go_wp2_with fail
        go_meet
        exact ⟨k, rfl, Lib.hid ⟨hk, hb.trans (below_drewN _ _ _), hst.out, fun h => absurd h (by omega)⟩⟩
  case rest =>
    obtain ⟨k, rfl, hc⟩ := hcut
    obtain ⟨hk, hb, hlo, hst⟩ := hc.out
    have hres := HI.out k hk hlo hst
    have hbw := HB0.out.trans (hb.mono hs0)
    have hsw := hbw.size
    have hvw := (HV.out.1.below hbw)
    have z := five_below hl hb y
    obtain ⟨x0, x1, x2, x3, x4⟩ := z
    have hpw := HV.out.2.2.1.below hbw
    clear hc hlo hst y HI
    by_cases hsame : k < n ∧ same (l.getD k v0) ⟨s, vn, vp, vg, vx⟩
    · rw [if_pos ⟨by have := HV.out.2.1; omega, hsame.2⟩] at hres
      have HF := Lib.hid hres
      obtain ⟨b, off, A2, c2, rfl, _, hbB, a0, a1, _⟩ := HV.out.1.at HV.out.2.1 hbw hsame.1 rfl
      obtain ⟨u, hu⟩ : ∃ u, l.getD k v0 = u := ⟨_, rfl⟩
      rw [hu] at a0 a1 hsame
      obtain ⟨us, un, up, ug, ux⟩ := u
      simp only at a0 a1
      obtain ⟨hkn, hs1, hs2⟩ := hsame
      simp only at hs1 hs2
      subst hs1 hs2
      have HBW := Lib.hid hbw
      have HL := Lib.hid HV.out.2.1
      have d1 : (0 : Int) ≤ (k : Int) := by omega
      have d2 : (k : Int) < (n : Int) := by omega
      have d3 : decide ((k : Int) < (n : Int)) = true := decide_eq_true d2
      have d4 : decide (k < n) = true := decide_eq_true hkn
      have HVS := Lib.hid (hvw.more hsw)
      clear hres hu hb hvw hpw hbw HV
      go_wp2_with fail
      go_quiet (fail)
      go_wp2_with fail
      go_ret
      rw [HF.out]
      exact ⟨_, _, by rw [HL.out]; rfl, by rw [HL.out]; exact hnc, HVS.out.drewN _, HBW.out.trans (below_drewN _ _ _)⟩
    · rw [if_neg (fun h => hsame ⟨by have := HV.out.2.1; omega, h.2⟩)] at hres
      have HF := Lib.hid hres
      have HBW := Lib.hid hbw
      have ma : Option.map (fun x => x.add 0) A = A := by cases A <;> rfl
      have i1 : (0 : Int) ≤ (k : Int) := by omega
      have i2 : (k : Int) ≤ (c : Int) := by omega
      have i3 : (k : Int) ≤ (n : Int) := by omega
      have hlk : (l.take k).length = k := by rw [List.length_take]; have := HV.out.2.1; omega
      have hld : (l.drop k).length = n - k := by rw [List.length_drop]; have := HV.out.2.1; omega
      have HLK := Lib.hid hlk
      have HLD := Lib.hid hld
      have HVT := Lib.hid (And.intro (hvw.take k) hvw)
      have HPD : Hid (∀ V, Below wc.heap.size wc V → Pa V L w.heap.size A1 c1 ⟨s, vn, vp, vg, vx⟩) := Lib.hid fun V hV => hpw.below (hV.mono hsw)
      have hsz0 : W0.heap.size ≤ wc.heap.size := hb.size
      clear hlk hld hvw hpw hbw hb hres
      by_cases hkn : k < n
      · obtain ⟨b, off, A2, c2, rfl, _, hbB, a0, a1, _⟩ := HV.out.1.at HV.out.2.1 HBW.out hkn rfl
        obtain ⟨u, hu⟩ : ∃ u, l.getD k v0 = u := ⟨_, rfl⟩
        rw [hu] at a0 a1 hsame
        obtain ⟨us, un, up, ug, ux⟩ := u
        simp only at a0 a1
        have hns : ((us == s) && (un == vn)) = false := by
          rw [Bool.and_eq_false_iff]
          by_cases h1 : us = s
          · exact .inr (by simp; exact fun h2 => hsame ⟨hkn, h1, h2⟩)
          · exact .inl (by simpa using h1)
        have hns2 : us = s → ¬ un = vn := fun h1 h2 => hsame ⟨hkn, h1, h2⟩
        have HNS := Lib.hid hns2
        have hck : ¬ c = k := by omega
        have hadd : (⟨b, off, none⟩ : Addr).add (k * 5) = ⟨b, off + k * 5, none⟩ := add_plain _ _ _
        have HVD := Lib.hid (HVT.out.2.drop k)
        have d2 : (k : Int) < (n : Int) := by omega
        have d3 : decide ((k : Int) < (n : Int)) = true := decide_eq_true d2
        have d4 : decide (k < n) = true := decide_eq_true hkn
        clear hu hsame hns2
        by_cases hu1 : us = s
        · subst hu1
          have g1 : (us == us) = true := by simp
          have g2 : (un == vn) = false := by simpa using HNS.out rfl
          clear hns
          go_wp2_with fail
          go_quiet (fail)
          obtain ⟨W1, hW1⟩ : ∃ W1, wc.drewN nq = W1 := ⟨_, rfl⟩
          have b1 : Below w.heap.size w W1 := by rw [← hW1]; exact HBW.out.trans (below_drewN _ _ _)
          have t1 : Vs W1 L w.heap.size (some ⟨b, off, none⟩) (l.take k) := by rw [← hW1]; exact HVT.out.1.drewN nq
          have u1 : Vs W1 L w.heap.size (some ⟨b, off + k * 5, none⟩) (l.drop k) := by rw [← hW1]; exact HVD.out.drewN nq
          have p1 : Pa W1 L w.heap.size A1 c1 ⟨us, vn, vp, vg, vx⟩ := HPD.out W1 (by rw [← hW1]; exact below_drewN _ nq _)
          have lm : m < W1.heap.size := by rw [← hW1]; exact Nat.lt_of_lt_of_le hl hsz0
          have X1 : Hid (∀ V, (W1.grownBy V none) → V.cell? ⟨m, 0, none⟩ = some (.int .i64 us) ∧ V.cell? ⟨m, 1, none⟩ = some (.int .i64 vn) ∧ V.cell? ⟨m, 2, none⟩ = some (.slice A1 kp c1) ∧ V.cell? ⟨m, 3, none⟩ = some (.bool vg) ∧ V.cell? ⟨m, 4, none⟩ = some (.string vx)) := by
            refine Lib.hid fun V hg => ?_
            have h := fun o => (World.cell?_of_block (w := W1) (w' := V) (a := ⟨m, o, none⟩) (hg.block m lm (by simp))).trans (by rw [← hW1]; rfl : W1.cell? ⟨m, o, none⟩ = wc.cell? ⟨m, o, none⟩)
            exact ⟨(h 0).trans x0, (h 1).trans x1, (h 2).trans x2, (h 3).trans x3, (h 4).trans x4⟩
          have s1 := b1.size
          have HK1 := Lib.hid (And.intro t1 (And.intro p1 b1))
          have HU1 := Lib.hid u1
          rw [hW1]
          clear hW1 t1 p1 b1 x0 x1 x2 x3 x4 lm u1
          go_wp2_with (first
            | (at_builtin; refine wpList_append_vs _ rfl (.tmp 38) (.tmp 41) 47 rfl w.heap.size 69 i0 _ 64 Try.underlying47 hi0 hz0 hz1 hz2 rfl (.slice none 0 0) 0 [] rfl (World.ownsRow_nil _ _ _ _) L w.heap.size _ k c (l.take k) HLK.out rfl HK1.out.1 (by omega) (by omega) s1 ?_; intro v2 w2 qs1 e1 q1 o2 g2 at2
               obtain ⟨x0, x1, x2, x3, x4⟩ := X1.out _ g2
               have b2 : Below w.heap.size w w2 := HK1.out.2.2.grown g2 s1 (fun k hk => by simp [Value.ownBlock] at hk)
               have s2 := b2.size
               have K2 := Lib.hid (And.intro o2 (And.intro (pa_grown q1 g2 s1 (fun k hk => by simp [Value.ownBlock] at hk)) (And.intro e1 (And.intro b2 (HK1.out.2.1.keep (w' := w2) fun a _ ha => World.cell?_of_block (g2.block a.block (by omega) (by simp [Value.ownBlock])))))))
               have U2 := Lib.hid (HU1.out.grown g2 s1 (fun k hk => by simp [Value.ownBlock] at hk))
               clear o2 q1 e1 b2 g2 at2)
            | (at_builtin; refine wpList_append_v _ rfl (.tmp 43) (.tmp 45) 47 rfl w.heap.size 69 i0 _ 64 Try.underlying47 hi0 hz0 hz1 hz2 rfl v2 (0 + k) ([] ++ qs1) rfl K2.out.1 (⟨us, vn, vp, vg, vx⟩, A1, c1) kp HV.out.2.2.2 1 rfl (by omega) (by omega) s2 ?_; intro v3 w3 o3 g3 at3
               have hlt3 := fun k hk => (K2.out.1.lt k hk).1
               have b3 : Below w.heap.size w w3 := K2.out.2.2.2.1.grown g3 s2 hlt3
               have s3 := b3.size
               have K3 := Lib.hid (And.intro o3 (And.intro (pa_grown K2.out.2.1 g3 s2 hlt3) (And.intro b3 (K2.out.2.2.2.2.keep (w' := w3) fun a _ ha => World.cell?_of_block (g3.block a.block (by omega) (fun e => by have := hlt3 _ e.symm; omega))))))
               have U3 := Lib.hid (U2.out.grown g3 s2 hlt3)
               clear o3 b3 g3 at3 hlt3)
            | (at_builtin; refine wpList_append_vs _ rfl (.tmp 47) (.tmp 50) 47 rfl w.heap.size 69 i0 _ 64 Try.underlying47 hi0 hz0 hz1 hz2 rfl v3 (0 + k + 1) ([] ++ qs1 ++ [(⟨us, vn, vp, vg, vx⟩, A1, c1)]) rfl K3.out.1 L w.heap.size _ (n - k) _ (l.drop k) HLD.out rfl U3.out (by omega) (by omega) s3 ?_; intro v4 w4 qs2 e2 q2 o4 g4 at4
               have hlt4 := fun k hk => (K3.out.1.lt k hk).1
               have b4 : Below w.heap.size w w4 := K3.out.2.2.1.grown g4 s3 hlt4
               have K4 := Lib.hid (And.intro o4 (And.intro (pa_grown K3.out.2.1 g4 s3 hlt4) (And.intro b4 (And.intro e2 (And.intro (pa_grown q2 g4 s3 hlt4) (K3.out.2.2.2.keep (w' := w4) fun a _ ha => World.cell?_of_block (g4.block a.block (by omega) (fun e => by have := hlt4 _ e.symm; omega))))))))
               clear o4 b4 g4 at4 e2 q2 hlt4))
          obtain ⟨o4, q1, b4, e2, q2, pp⟩ := K4.out
          have e1 := K2.out.2.2.1
          obtain ⟨A4, c4, rfl⟩ := own_form o4
          have hps : (([] ++ qs1 ++ [((⟨us, vn, vp, vg, vx⟩ : Vr), A1, c1)] ++ qs2 : List Pv)).map Prod.fst = r := by
            rw [HF.out, List.map_append, List.map_append, List.map_append, e1, e2]
            simp
          have hrl : (([] ++ qs1 ++ [((⟨us, vn, vp, vg, vx⟩ : Vr), A1, c1)] ++ qs2 : List Pv)).length = r.length := by rw [← hps, List.length_map]
          have hrn : r.length = 0 + k + 1 + (n - k) := by
            rw [HF.out, List.length_append, List.length_cons, HLK.out, HLD.out]; omega
          rw [← hrn] at o4
          rw [← hrl] at o4
          have own : OwnVs w.heap.size L w.heap.size w4 (.slice A4 _ c4) ([] ++ qs1 ++ [((⟨us, vn, vp, vg, vx⟩ : Vr), A1, c1)] ++ qs2) := ⟨o4, fun p hp => by
            rcases List.mem_append.1 hp with hp | hp
            · rcases List.mem_append.1 hp with hp | hp
              · exact q1 p (by simpa using hp)
              · rw [List.mem_singleton.1 hp]; exact pp
            · exact q2 p hp⟩
          have hvv := own.vs hLw b4.size
          rw [hps] at hvv
          have hcl := (own_len o4).2
          have HFIN : Hid (Reads L r w (.returned (.slice A4 r.length c4)) w4) := Lib.hid ⟨A4, c4, rfl, by rw [← hrl]; exact hcl, hvv, b4⟩
          have hrn' := Lib.hid hrn
          clear own hvv hcl o4 q1 e1 e2 q2 pp hps hrl hrn K4 K3 K2 HK1
          go_wp2_with fail
          go_ret
          have h9 := HFIN.out
          rw [hrn'.out] at h9
          exact h9
        · have g1 : (us == s) = false := by simpa using hu1
          clear hns hu1
          go_wp2_with fail
          go_quiet (fail)
          obtain ⟨W1, hW1⟩ : ∃ W1, wc.drewN nq = W1 := ⟨_, rfl⟩
          have b1 : Below w.heap.size w W1 := by rw [← hW1]; exact HBW.out.trans (below_drewN _ _ _)
          have t1 : Vs W1 L w.heap.size (some ⟨b, off, none⟩) (l.take k) := by rw [← hW1]; exact HVT.out.1.drewN nq
          have u1 : Vs W1 L w.heap.size (some ⟨b, off + k * 5, none⟩) (l.drop k) := by rw [← hW1]; exact HVD.out.drewN nq
          have p1 : Pa W1 L w.heap.size A1 c1 ⟨s, vn, vp, vg, vx⟩ := HPD.out W1 (by rw [← hW1]; exact below_drewN _ nq _)
          have lm : m < W1.heap.size := by rw [← hW1]; exact Nat.lt_of_lt_of_le hl hsz0
          have X1 : Hid (∀ V, (W1.grownBy V none) → V.cell? ⟨m, 0, none⟩ = some (.int .i64 s) ∧ V.cell? ⟨m, 1, none⟩ = some (.int .i64 vn) ∧ V.cell? ⟨m, 2, none⟩ = some (.slice A1 kp c1) ∧ V.cell? ⟨m, 3, none⟩ = some (.bool vg) ∧ V.cell? ⟨m, 4, none⟩ = some (.string vx)) := by
            refine Lib.hid fun V hg => ?_
            have h := fun o => (World.cell?_of_block (w := W1) (w' := V) (a := ⟨m, o, none⟩) (hg.block m lm (by simp))).trans (by rw [← hW1]; rfl : W1.cell? ⟨m, o, none⟩ = wc.cell? ⟨m, o, none⟩)
            exact ⟨(h 0).trans x0, (h 1).trans x1, (h 2).trans x2, (h 3).trans x3, (h 4).trans x4⟩
          have s1 := b1.size
          have HK1 := Lib.hid (And.intro t1 (And.intro p1 b1))
          have HU1 := Lib.hid u1
          rw [hW1]
          clear hW1 t1 p1 b1 x0 x1 x2 x3 x4 lm u1
          go_wp2_with (first
            | (at_builtin; refine wpList_append_vs _ rfl (.tmp 38) (.tmp 41) 47 rfl w.heap.size 69 i0 _ 64 Try.underlying47 hi0 hz0 hz1 hz2 rfl (.slice none 0 0) 0 [] rfl (World.ownsRow_nil _ _ _ _) L w.heap.size _ k c (l.take k) HLK.out rfl HK1.out.1 (by omega) (by omega) s1 ?_; intro v2 w2 qs1 e1 q1 o2 g2 at2
               obtain ⟨x0, x1, x2, x3, x4⟩ := X1.out _ g2
               have b2 : Below w.heap.size w w2 := HK1.out.2.2.grown g2 s1 (fun k hk => by simp [Value.ownBlock] at hk)
               have s2 := b2.size
               have K2 := Lib.hid (And.intro o2 (And.intro (pa_grown q1 g2 s1 (fun k hk => by simp [Value.ownBlock] at hk)) (And.intro e1 (And.intro b2 (HK1.out.2.1.keep (w' := w2) fun a _ ha => World.cell?_of_block (g2.block a.block (by omega) (by simp [Value.ownBlock])))))))
               have U2 := Lib.hid (HU1.out.grown g2 s1 (fun k hk => by simp [Value.ownBlock] at hk))
               clear o2 q1 e1 b2 g2 at2)
            | (at_builtin; refine wpList_append_v _ rfl (.tmp 43) (.tmp 45) 47 rfl w.heap.size 69 i0 _ 64 Try.underlying47 hi0 hz0 hz1 hz2 rfl v2 (0 + k) ([] ++ qs1) rfl K2.out.1 (⟨s, vn, vp, vg, vx⟩, A1, c1) kp HV.out.2.2.2 1 rfl (by omega) (by omega) s2 ?_; intro v3 w3 o3 g3 at3
               have hlt3 := fun k hk => (K2.out.1.lt k hk).1
               have b3 : Below w.heap.size w w3 := K2.out.2.2.2.1.grown g3 s2 hlt3
               have s3 := b3.size
               have K3 := Lib.hid (And.intro o3 (And.intro (pa_grown K2.out.2.1 g3 s2 hlt3) (And.intro b3 (K2.out.2.2.2.2.keep (w' := w3) fun a _ ha => World.cell?_of_block (g3.block a.block (by omega) (fun e => by have := hlt3 _ e.symm; omega))))))
               have U3 := Lib.hid (U2.out.grown g3 s2 hlt3)
               clear o3 b3 g3 at3 hlt3)
            | (at_builtin; refine wpList_append_vs _ rfl (.tmp 47) (.tmp 50) 47 rfl w.heap.size 69 i0 _ 64 Try.underlying47 hi0 hz0 hz1 hz2 rfl v3 (0 + k + 1) ([] ++ qs1 ++ [(⟨s, vn, vp, vg, vx⟩, A1, c1)]) rfl K3.out.1 L w.heap.size _ (n - k) _ (l.drop k) HLD.out rfl U3.out (by omega) (by omega) s3 ?_; intro v4 w4 qs2 e2 q2 o4 g4 at4
               have hlt4 := fun k hk => (K3.out.1.lt k hk).1
               have b4 : Below w.heap.size w w4 := K3.out.2.2.1.grown g4 s3 hlt4
               have K4 := Lib.hid (And.intro o4 (And.intro (pa_grown K3.out.2.1 g4 s3 hlt4) (And.intro b4 (And.intro e2 (And.intro (pa_grown q2 g4 s3 hlt4) (K3.out.2.2.2.keep (w' := w4) fun a _ ha => World.cell?_of_block (g4.block a.block (by omega) (fun e => by have := hlt4 _ e.symm; omega))))))))
               clear o4 b4 g4 at4 e2 q2 hlt4))
          obtain ⟨o4, q1, b4, e2, q2, pp⟩ := K4.out
          have e1 := K2.out.2.2.1
          obtain ⟨A4, c4, rfl⟩ := own_form o4
          have hps : (([] ++ qs1 ++ [((⟨s, vn, vp, vg, vx⟩ : Vr), A1, c1)] ++ qs2 : List Pv)).map Prod.fst = r := by
            rw [HF.out, List.map_append, List.map_append, List.map_append, e1, e2]
            simp
          have hrl : (([] ++ qs1 ++ [((⟨s, vn, vp, vg, vx⟩ : Vr), A1, c1)] ++ qs2 : List Pv)).length = r.length := by rw [← hps, List.length_map]
          have hrn : r.length = 0 + k + 1 + (n - k) := by
            rw [HF.out, List.length_append, List.length_cons, HLK.out, HLD.out]; omega
          rw [← hrn] at o4
          rw [← hrl] at o4
          have own : OwnVs w.heap.size L w.heap.size w4 (.slice A4 _ c4) ([] ++ qs1 ++ [((⟨s, vn, vp, vg, vx⟩ : Vr), A1, c1)] ++ qs2) := ⟨o4, fun p hp => by
            rcases List.mem_append.1 hp with hp | hp
            · rcases List.mem_append.1 hp with hp | hp
              · exact q1 p (by simpa using hp)
              · rw [List.mem_singleton.1 hp]; exact pp
            · exact q2 p hp⟩
          have hvv := own.vs hLw b4.size
          rw [hps] at hvv
          have hcl := (own_len o4).2
          have HFIN : Hid (Reads L r w (.returned (.slice A4 r.length c4)) w4) := Lib.hid ⟨A4, c4, rfl, by rw [← hrl]; exact hcl, hvv, b4⟩
          have hrn' := Lib.hid hrn
          clear own hvv hcl o4 q1 e1 e2 q2 pp hps hrl hrn K4 K3 K2 HK1
          go_wp2_with fail
          go_ret
          have h9 := HFIN.out
          rw [hrn'.out] at h9
          exact h9
      · obtain rfl : k = n := by omega
        have d3 : decide ((k : Int) < (k : Int)) = false := decide_eq_false (by omega)
        have d4 : decide (k < k) = false := decide_eq_false (by omega)
        clear hsame
        go_wp2_with fail
        go_quiet (fail)
        obtain ⟨W1, hW1⟩ : ∃ W1, wc.drewN nq = W1 := ⟨_, rfl⟩
        have b1 : Below w.heap.size w W1 := by rw [← hW1]; exact HBW.out.trans (below_drewN _ _ _)
        have t1 : Vs W1 L w.heap.size A (l.take k) := by rw [← hW1]; exact HVT.out.1.drewN nq
        have p1 : Pa W1 L w.heap.size A1 c1 ⟨s, vn, vp, vg, vx⟩ := HPD.out W1 (by rw [← hW1]; exact below_drewN _ nq _)
        have lm : m < W1.heap.size := by rw [← hW1]; exact Nat.lt_of_lt_of_le hl hsz0
        have X1 : Hid (∀ V, (W1.grownBy V none) → V.cell? ⟨m, 0, none⟩ = some (.int .i64 s) ∧ V.cell? ⟨m, 1, none⟩ = some (.int .i64 vn) ∧ V.cell? ⟨m, 2, none⟩ = some (.slice A1 kp c1) ∧ V.cell? ⟨m, 3, none⟩ = some (.bool vg) ∧ V.cell? ⟨m, 4, none⟩ = some (.string vx)) := by
          refine Lib.hid fun V hg => ?_
          have h := fun o => (World.cell?_of_block (w := W1) (w' := V) (a := ⟨m, o, none⟩) (hg.block m lm (by simp))).trans (by rw [← hW1]; rfl : W1.cell? ⟨m, o, none⟩ = wc.cell? ⟨m, o, none⟩)
          exact ⟨(h 0).trans x0, (h 1).trans x1, (h 2).trans x2, (h 3).trans x3, (h 4).trans x4⟩
        have s1 := b1.size
        have HK1 := Lib.hid (And.intro t1 (And.intro p1 b1))
        rw [hW1]
        clear hW1 t1 p1 b1 x0 x1 x2 x3 x4 lm
        go_wp2_with (first
          | (at_builtin; refine wpList_append_vs _ rfl (.tmp 38) (.tmp 41) 47 rfl w.heap.size 69 i0 _ 64 Try.underlying47 hi0 hz0 hz1 hz2 rfl (.slice none 0 0) 0 [] rfl (World.ownsRow_nil _ _ _ _) L w.heap.size _ k c (l.take k) HLK.out rfl HK1.out.1 (by omega) (by omega) s1 ?_; intro v2 w2 qs1 e1 q1 o2 g2 at2
             obtain ⟨x0, x1, x2, x3, x4⟩ := X1.out _ g2
             have b2 : Below w.heap.size w w2 := HK1.out.2.2.grown g2 s1 (fun k hk => by simp [Value.ownBlock] at hk)
             have s2 := b2.size
             have K2 := Lib.hid (And.intro o2 (And.intro (pa_grown q1 g2 s1 (fun k hk => by simp [Value.ownBlock] at hk)) (And.intro e1 (And.intro b2 (HK1.out.2.1.keep (w' := w2) fun a _ ha => World.cell?_of_block (g2.block a.block (by omega) (by simp [Value.ownBlock])))))))
             clear o2 q1 e1 b2 g2 at2)
          | (at_builtin; refine wpList_append_v _ rfl (.tmp 43) (.tmp 45) 47 rfl w.heap.size 69 i0 _ 64 Try.underlying47 hi0 hz0 hz1 hz2 rfl v2 (0 + k) ([] ++ qs1) rfl K2.out.1 (⟨s, vn, vp, vg, vx⟩, A1, c1) kp HV.out.2.2.2 1 rfl (by omega) (by omega) s2 ?_; intro v3 w3 o3 g3 at3
             have hlt3 := fun k hk => (K2.out.1.lt k hk).1
             have b3 : Below w.heap.size w w3 := K2.out.2.2.2.1.grown g3 s2 hlt3
             have s3 := b3.size
             have K3 := Lib.hid (And.intro o3 (And.intro (pa_grown K2.out.2.1 g3 s2 hlt3) (And.intro b3 (K2.out.2.2.2.2.keep (w' := w3) fun a _ ha => World.cell?_of_block (g3.block a.block (by omega) (fun e => by have := hlt3 _ e.symm; omega))))))
             clear o3 b3 g3 at3 hlt3)
          | (at_builtin; refine wpList_append_vs _ rfl (.tmp 47) (.tmp 50) 47 rfl w.heap.size 69 i0 _ 64 Try.underlying47 hi0 hz0 hz1 hz2 rfl v3 (0 + k + 1) ([] ++ qs1 ++ [(⟨s, vn, vp, vg, vx⟩, A1, c1)]) rfl K3.out.1 L w.heap.size _ 0 _ [] rfl rfl (Vs.nil _) (by omega) (by omega) s3 ?_; intro v4 w4 qs2 e2 q2 o4 g4 at4
             have hlt4 := fun k hk => (K3.out.1.lt k hk).1
             have b4 : Below w.heap.size w w4 := K3.out.2.2.1.grown g4 s3 hlt4
             have K4 := Lib.hid (And.intro o4 (And.intro (pa_grown K3.out.2.1 g4 s3 hlt4) (And.intro b4 (And.intro e2 (And.intro (pa_grown q2 g4 s3 hlt4) (K3.out.2.2.2.keep (w' := w4) fun a _ ha => World.cell?_of_block (g4.block a.block (by omega) (fun e => by have := hlt4 _ e.symm; omega))))))))
             clear o4 b4 g4 at4 e2 q2 hlt4))
        all_goals
          obtain ⟨o4, q1, b4, e2, q2, pp⟩ := K4.out
          have e1 := K2.out.2.2.1
          obtain ⟨A4, c4, rfl⟩ := own_form o4
          have hps : (([] ++ qs1 ++ [((⟨s, vn, vp, vg, vx⟩ : Vr), A1, c1)] ++ qs2 : List Pv)).map Prod.fst = r := by
            rw [HF.out, List.map_append, List.map_append, List.map_append, e1, e2]
            simp
            rw [HV.out.2.1]
            exact Nat.le_refl _
          have hrl : (([] ++ qs1 ++ [((⟨s, vn, vp, vg, vx⟩ : Vr), A1, c1)] ++ qs2 : List Pv)).length = r.length := by rw [← hps, List.length_map]
          have hrn : r.length = 0 + k + 1 + 0 := by
            rw [HF.out, List.length_append, List.length_cons, HLK.out, HLD.out]; omega
          rw [← hrn] at o4
          rw [← hrl] at o4
          have own : OwnVs w.heap.size L w.heap.size w4 (.slice A4 _ c4) ([] ++ qs1 ++ [((⟨s, vn, vp, vg, vx⟩ : Vr), A1, c1)] ++ qs2) := ⟨o4, fun p hp => by
            rcases List.mem_append.1 hp with hp | hp
            · rcases List.mem_append.1 hp with hp | hp
              · exact q1 p (by simpa using hp)
              · rw [List.mem_singleton.1 hp]; exact pp
            · exact q2 p hp⟩
          have hvv := own.vs hLw b4.size
          rw [hps] at hvv
          have hcl := (own_len o4).2
          have HFIN : Hid (Reads L r w (.returned (.slice A4 r.length c4)) w4) := Lib.hid ⟨A4, c4, rfl, by rw [← hrl]; exact hcl, hvv, b4⟩
          have hrn' := Lib.hid hrn
          clear own hvv hcl o4 q1 e1 e2 q2 pp hps hrl hrn K4 K3 K2 HK1
          go_wp2_with fail
          go_ret
          have h9 := HFIN.out
          rw [hrn'.out] at h9
          exact h9
end Vers
end Go.Proofs.Ytbhidndgnldheaa
