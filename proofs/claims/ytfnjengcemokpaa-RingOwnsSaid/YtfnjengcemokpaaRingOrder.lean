/-
  ring.order tells the order.
-/
import Derived.Test.YtfnjengcemokpaaRingOrdPlain
namespace Go.Proofs.Ytfnjengcemokpaa
namespace Ring
open Go.RowKit
attribute [local go_sem ↓] Go.wp_at_zero Go.wp_at_succ

theorem info_int : (Try.prog.info? 3).map (fun i => (i.zero, i.size, i.bytes)) = some (some (.int .i64 0), 1, 8) := by kernel_rfl

/-- The array of those met. -/
def MetA (w : World) (b : Nat) (l : List Int) : Prop := b < w.heap.size ∧ ∀ q : Nat, q < 9 → w.cell? ⟨b, q, none⟩ = some (.bool (decide ((q : Int) ∈ l))) ∧ w.frozen? ⟨b, q, none⟩ = false
theorem MetA.keep {w w' : World} {b B : Nat} {l : List Int} (h : MetA w b l) (hb : Below B w w') (hB : b < B) : MetA w' b l :=
  ⟨Nat.lt_of_lt_of_le h.1 hb.size, fun q hq => ⟨(hb.cell (p := ⟨b, q, none⟩) hB).trans (h.2 q hq).1, (hb.frozen (p := ⟨b, q, none⟩) hB).trans (h.2 q hq).2⟩⟩
theorem MetA.set {w : World} {b : Nat} {l : List Int} (h : MetA w b l) {z : Nat} (hz : z < 9) : MetA (w.setCell ⟨b, z, none⟩ (.bool true)) b (l ++ [(z : Int)]) := by
  refine ⟨by simpa [World.setCell] using h.1, fun q hq => ⟨?_, ?_⟩⟩
  · by_cases e : q = z
    · subst e
      rw [World.cell?_setCell_same' _ _ _ (by rw [(h.2 q hq).1]; rfl)]
      simp
    · rw [World.cell?_setCell_other _ _ _ _ (fun e2 => e (by injection e2 with _ e2; exact e2.symm)), (h.2 q hq).1]
      have : (q : Int) ≠ (z : Int) := by omega
      simp [this]
  · rw [World.frozen?_setCell]; exact (h.2 q hq).2

theorem size_set (X : World) (a : Addr) (v : Value) : (X.setCell a v).heap.size = X.heap.size := by simp [World.setCell]
theorem meta_start (w : World) : MetA (w.alloc (.cells #[.bool false, .bool false, .bool false, .bool false, .bool false, .bool false, .bool false, .bool false, .bool false] 53)) w.heap.size [] := by
  refine ⟨by simp, fun q hq => ⟨?_, by simp⟩⟩
  match q, hq with
  | 0, _ => simp
  | 1, _ => simp
  | 2, _ => simp
  | 3, _ => simp
  | 4, _ => simp
  | 5, _ => simp
  | 6, _ => simp
  | 7, _ => simp
  | 8, _ => simp
theorem Pts.set {w : World} {g mb o : Nat} {D : List Pt} {u : Value} (h : Pts w g D) (hne : g ≠ mb) : Pts (w.setCell ⟨mb, o, none⟩ u) g D := fun j hj =>
  ⟨(World.cell?_setCell_other _ _ _ _ (fun e => hne (by injection e with e _; exact e.symm))).trans (h j hj).1, (World.cell?_setCell_other _ _ _ _ (fun e => hne (by injection e with e _; exact e.symm))).trans (h j hj).2⟩

/-- i members' points are laid, and j of the next one's. -/
def Laying (ms : List Int) (_n base i j : Nat) (w0 : World) (pv : Value) (wr : World) : Prop :=
  ∃ Ap cp, pv = .slice Ap (i * 4 + j) cp ∧ Hid (wr.ownsRow base 50 2 (.slice Ap (i * 4 + j) cp) (i * 4 + j) (pcs (ptsL (ms.take i) ++ (ptm (ms.getD i 0)).take j)) ∧ w0.heap.size = base) ∧ Below w0.heap.size w0 wr
theorem lay_next {ms : List Int} {n base i : Nat} {w0 wr : World} {pv : Value} (hi : i < ms.length) (h : Laying ms n base i 4 w0 pv wr) : Laying ms n base (i + 1) 0 w0 pv wr := by
  obtain ⟨Ap, cp, e, ho, hb⟩ := h
  refine ⟨Ap, cp, by rw [e, show i * 4 + 4 = (i + 1) * 4 + 0 by omega], Lib.hid ⟨?_, ho.out.2⟩, hb⟩
  have h1 := ho.out.1
  rw [show i * 4 + 4 = (i + 1) * 4 + 0 by omega, show (ptm (ms.getD i 0)).take 4 = ptm (ms.getD i 0) from rfl, ← ptsL_snoc hi] at h1
  rw [List.take_zero, List.append_nil]
  exact h1

/-- i points have been met. -/
def Meeting (R : List Pt) (N base2 mb g : Nat) (D : List Pt) (w0 : World) (lv iv : Value) (wr : World) : Prop :=
  ∃ (i m : Nat) (Al : Option Addr) (cl : Nat), iv = .int .i64 i ∧ i ≤ N ∧ lv = .slice Al m cl ∧ m ≤ i ∧
    Hid ((metT R i).length = m ∧ wr.ownsRow base2 3 1 (.slice Al m cl) m (nums .i64 (metT R i)) ∧ MetA wr mb (metT R i) ∧ Pts wr g D ∧ w0.heap.size = base2) ∧ Below mb w0 wr

set_option maxRecDepth 100000 in
set_option maxHeartbeats 4000000 in
theorem order_any (A : Option Addr) (c n : Nat) (ms : List Int) (hn : ms.length = n) (part : Int) (w : World) (hr : Ns .i64 w w.heap.size A ms) (hbig : n ≤ 140737488355328) :
    Calls Try.prog 30 #[.slice A n c, .int .i64 part] w (OrdPost ms part w) := by
  have h1 := rightM_any A c n ms hn w hr hbig
  by_cases hrm : RightM ms
  rotate_left
  · rw [decide_eq_false hrm] at h1
    have H1 := Lib.hid h1
    have HN : Hid (¬ (RightM ms ∧ 0 ≤ part ∧ part < 8)) := Lib.hid fun h => hrm h.1
    clear h1 hrm hr hn
    go_enter Try.func30, Try.ntmps30
    go_wp2_with fail
    refine H1.out.mono ?_
    rintro e w1 ⟨rfl, b1⟩
    have B1 := Lib.hid b1
    clear b1
    go_wp2_with fail
    go_ret
    exact ordPost_none HN.out B1.out
  rw [decide_eq_true hrm] at h1
  by_cases hp0 : part < 0
  · have H1 := Lib.hid h1
    have HN : Hid (¬ (RightM ms ∧ 0 ≤ part ∧ part < 8)) := Lib.hid fun h => by omega
    clear h1 hrm hr hn
    go_enter Try.func30, Try.ntmps30
    go_wp2_with fail
    refine H1.out.mono ?_
    rintro e w1 ⟨rfl, b1⟩
    have B1 := Lib.hid b1
    clear b1
    go_wp2_with fail
    go_ret
    exact ordPost_none HN.out B1.out
  by_cases hp8 : 8 ≤ part
  · have H1 := Lib.hid h1
    have HN : Hid (¬ (RightM ms ∧ 0 ≤ part ∧ part < 8)) := Lib.hid fun h => by omega
    clear h1 hrm hr hn
    go_enter Try.func30, Try.ntmps30
    go_wp2_with fail
    refine H1.out.mono ?_
    rintro e w1 ⟨rfl, b1⟩
    have B1 := Lib.hid b1
    clear b1
    go_wp2_with fail
    go_ret
    exact ordPost_none HN.out B1.out
  have H1 := Lib.hid h1
  have HV := Lib.hid (And.intro hr (And.intro hn (And.intro hrm (show RightM ms ∧ 0 ≤ part ∧ part < 8 from ⟨hrm, by omega, by omega⟩))))
  have hn1 : 1 ≤ n := by have := hrm.1; omega
  have hn8 : n ≤ 8 := by have := hrm.2.1; omega
  obtain ⟨i0, hi0, hz0, hz1, hz2⟩ := info_parts info_point
  obtain ⟨j0, hj0, hy0, hy1, hy2⟩ := info_parts info_int
  clear h1 hrm hr hn
  go_enter Try.func30, Try.ntmps30
  go_wp2_with fail
  refine H1.out.mono ?_
  rintro e w1 ⟨rfl, b1⟩
  have B1 := Lib.hid b1
  obtain ⟨base, hbase⟩ : ∃ base, w1.heap.size = base := ⟨_, rfl⟩
  have HBASE : Hid (w.heap.size ≤ base) := Lib.hid (by rw [← hbase]; exact b1.size)
  have HI : Hid (Laying ms n base 0 0 w1 (.slice none 0 0) w1) := Lib.hid ⟨none, 0, rfl, Lib.hid ⟨World.ownsRow_nil _ _ _ _, hbase⟩, Below.refl _ _⟩
  clear b1 H1 hbase
  go_wp2_with fail
  go_loopw [5, 28] (fun pv iv wr => ∃ i : Nat, iv = .int .i64 i ∧ i ≤ n ∧ Hid (Laying ms n base i 0 w1 pv wr)) (fun _ iv _ => n - (intOf iv).toNat)
  case atStart => exact ⟨0, rfl, by omega, HI⟩
  case round =>
    obtain ⟨i, rfl, hi, hl⟩ := hrel
    by_cases hlt : i < n
    · have hil : i < ms.length := by have := HV.out.2.1; omega
      obtain ⟨b, off, rfl, _, hc⟩ := ((HV.out.1.below B1.out).more B1.out.size).below (B := w1.heap.size) (by obtain ⟨_, _, _, _, hb⟩ := hl.out; exact hb) (by omega)
      have c0 := hc i hil
      have hzr := (right_get HV.out.2.2.1 hil).1
      obtain ⟨z, hz⟩ : ∃ z, ms.getD i 0 = z := ⟨_, rfl⟩
      rw [hz] at c0 hzr
      have HZ := Lib.hid hz
      have HL := hl
      have d1 : (0 : Int) ≤ (i : Int) := by omega
      have d2 : (i : Int) < (n : Int) := by omega
      clear hc hz hl HI
      go_wp2_with fail
      go_loopw [5, 32] (fun pv iv wr => ∃ j : Nat, iv = .int .i64 j ∧ j ≤ 4 ∧ Hid (Laying ms n base i j w1 pv wr)) (fun _ iv _ => 4 - (intOf iv).toNat)
      case atStart => exact ⟨0, rfl, by omega, HL⟩
      case round =>
        obtain ⟨j, rfl, hj, hl⟩ := hrel
        by_cases hjl : j < 4
        · obtain ⟨Ap, cp, rfl, ho, hb⟩ := hl.out
          have hpt := point_any z (j : Int) (by omega) (by omega) wr
          have HPT := Lib.hid hpt
          have e1 : (j : Int) < 4 := by omega
          have e2 : (0 : Int) ≤ (j : Int) := by omega
          have HB := Lib.hid hb
          clear hpt hl hb
          go_wp2_with fail
          refine HPT.out.mono ?_
          rintro e w2 ⟨rfl, b2⟩
          have o2 := own_below ho.out.1 b2 (Nat.le_refl _)
          have HB2 := Lib.hid (HB.out.trans (b2.mono HB.out.size))
          have hbs : base ≤ w2.heap.size := by have h1 := HB2.out.size; have h2 := ho.out.2; omega
          have HO2 := Lib.hid o2
          clear b2 o2 HPT
          go_wp2_with (at_builtin; refine wpList_append_p _ rfl (.tmp 35) (.tmp 41) 47 rfl base 50 i0 _ 16 Try.underlying47 hi0 hz0 hz1 hz2 rfl (.slice Ap (i * 4 + j) cp) (i * 4 + j) _ rfl HO2.out (hp z j, z) 1 rfl (by omega) (by omega) hbs ?_; intro v3 w3 o3 g3)
          obtain ⟨A3, c3, rfl⟩ := own_form o3
          have hl3 : Laying ms n base i (j + 1) w1 (.slice A3 (i * 4 + (j + 1)) c3) w3 := by
            refine ⟨A3, c3, rfl, Lib.hid ⟨?_, ho.out.2⟩, HB2.out.grown g3 (by have h2 := ho.out.2; omega) (fun q hq => by have h1 := (HO2.out.lt q hq).1; have h2 := ho.out.2; omega)⟩
            rw [HZ.out, ptm_take z hjl, ← List.append_assoc]
            rw [HZ.out] at o3
            exact o3
          have HL3 := Lib.hid hl3
          clear hl3 o3 g3
          exact ⟨⟨j + 1, rfl, by omega, HL3⟩, by simp only [intOf]; omega⟩
        · have hj4 : j = 4 := by omega
          subst hj4
          have HL4 := Lib.hid (lay_next hil hl.out)
          clear hl
          go_wp2_with fail
          exact ⟨⟨i + 1, rfl, by omega, HL4⟩, by simp only [intOf]; omega⟩
    · have hin : i = n := by omega
      subst hin
      obtain ⟨Ap, cp, rfl, ho, hb⟩ := hl.out
      clear hl HI hlt
      rw [Nat.add_zero] at ho ⊢
      have ho' : wr.ownsRow base 50 2 (.slice Ap (i * 4) cp) (i * 4) (pcs (ptsL ms)) := by
        have h1 := ho.out.1
        rw [List.take_zero, List.append_nil, List.take_of_length_le (by have := HV.out.2.1; omega)] at h1
        exact h1
      obtain ⟨g, hg⟩ : ∃ g, Ap = some ⟨g, 0, none⟩ := by
        rcases ho'.2 with ⟨_, h0⟩ | ⟨g, cap, cur, hv, _⟩
        · omega
        · injection hv with h1 _ _
          exact ⟨g, h1⟩
      subst hg
      have hgl := ho'.lt g rfl
      have hlen : (ptsL ms).length = i * 4 := by rw [ptsL_len, HV.out.2.1]
      have hsort := sort_any g cp (i * 4) base (ptsL ms) hlen wr ho' (by omega)
      have HS := Lib.hid hsort
      have HB := Lib.hid (And.intro hb (And.intro ho.out.2 (And.intro hgl hlen)))
      have HGB : Hid (base ≤ g) := Lib.hid hgl.1
      clear hsort ho ho' hb hgl hlen
      obtain ⟨N, hN⟩ : ∃ N, i * 4 = N := ⟨_, rfl⟩
      have hN1 : 4 ≤ N := by omega
      have hN32 : N ≤ 32 := by omega
      rw [hN] at HS HB ⊢
      clear hN
      go_wp2_with fail
      refine HS.out.mono ?_
      rintro e w2 ⟨rfl, D, hD, hP, b2⟩
      have hbb : base ≤ wr.heap.size := by have := HB.out.1.size; have := HB.out.2.1; omega
      have HB2 : Hid (Below base w1 w2 ∧ wr.heap.size ≤ w2.heap.size) := Lib.hid ⟨(HB.out.1.mono (by have := HB.out.2.1; omega)).trans b2, b2.size⟩
      have HD : Hid (D.Perm (ptsL ms) ∧ D.Pairwise le0 ∧ D.length = N ∧ ∀ p ∈ D, 1 ≤ p.2 ∧ p.2 ≤ 8) := Lib.hid ⟨hD.out.1, hD.out.2, by rw [hD.out.1.length_eq]; exact HB.out.2.2.2, fun p hp => HV.out.2.2.1.2.2.1 _ (mem_pts.1 (hD.out.1.mem_iff.1 hp)).1⟩
      have HP := Lib.hid hP
      have hpt := point_any 255 part (by omega) (by omega) w2
      have HPT := Lib.hid hpt
      clear hD hP b2 HS hpt
      go_wp2_with fail
      refine HPT.out.mono ?_
      rintro e w3 ⟨rfl, b3⟩
      obtain ⟨f, hf⟩ : ∃ f, hp 255 part = f := ⟨_, rfl⟩
      have HF : Hid (hp 255 part = f ∧ U f) := Lib.hid ⟨hf, by rw [← hf]; exact hash_range _⟩
      have hg2 : g < w2.heap.size := by have := HB.out.2.2.1.2; have := HB2.out.2; omega
      have HP3 := Lib.hid (HP.out.below b3 hg2)
      have HB3 : Hid (Below base w1 w3 ∧ g < w3.heap.size ∧ base ≤ w3.heap.size) := Lib.hid ⟨HB2.out.1.trans (b3.mono (by have := HB2.out.2; omega)), by have := b3.size; omega, by have := b3.size; have := HB2.out.2; omega⟩
      rw [hf]
      clear hf b3 HPT HP hg2
      go_wp2_with fail
      go_loop [10] (fun iv => ∃ k : Nat, iv = .int .i64 k ∧ k ≤ N ∧ Hid (∀ p ∈ D.take k, p.1 < f)) (fun iv => N - (intOf iv).toNat)
      case atStart => exact ⟨0, rfl, by omega, Lib.hid (by simp)⟩
      case round =>
        obtain ⟨k, rfl, hk, hlo⟩ := hrel
        have e1 : (0 : Int) ≤ (k : Int) := by omega
        by_cases hgo : k < N ∧ (D.getD k (0, 0)).1 < f
        · obtain ⟨hkN, hlow⟩ := hgo
          have hcell := (HP3.out k (by have := HD.out.2.2.1; omega)).1
          have hst := Lib.hid (lo_step (by have := HD.out.2.2.1; omega) hlo.out hlow)
          obtain ⟨x, hx⟩ : ∃ x, (D.getD k (0, 0)).1 = x := ⟨_, rfl⟩
          rw [hx] at hcell hlow
          have e2 : (k : Int) < (N : Int) := by omega
          clear hx hlo
          go_wp2_with fail
          exact ⟨⟨k + 1, rfl, by omega, hst⟩, by simp only [intOf]; omega⟩
        · have HHI : Hid (∀ p ∈ D.drop k, f ≤ p.1) := Lib.hid (by
            by_cases hkN : k < N
            · exact rest_hi HD.out.2.1 (by have := HD.out.2.2.1; omega) (fun h => hgo ⟨hkN, h⟩)
            · intro p hp
              rw [List.drop_of_length_le (by have := HD.out.2.2.1; omega)] at hp
              simp at hp)
          have HG : Hid (k = N ∨ (k < N ∧ ¬ (D.getD k (0, 0)).1 < f)) := Lib.hid (by
            by_cases hkN : k < N
            · exact .inr ⟨hkN, fun h => hgo ⟨hkN, h⟩⟩
            · exact .inl (by omega))
          have HORD := Lib.hid (turn_ord HD.out.1 HD.out.2.1 HF.out.2 hlo.out HHI.out)
          obtain ⟨R, hR⟩ : ∃ R, turnL D k = R := ⟨_, rfl⟩
          have HR : Hid (turnL D k = R ∧ R.length = N) := Lib.hid ⟨hR, by rw [← hR, turn_len]; exact HD.out.2.2.1⟩
          have HFIN : Hid (OrdOK ms part (metT R N)) := Lib.hid (by
            have h1 := HORD.out
            rw [hR, ← HF.out.1] at h1
            unfold metT
            rw [List.take_of_length_le (by rw [HR.out.2]; exact Nat.le_refl _)]
            exact ordOK_some HV.out.2.2.2 h1)
          clear hgo hlo hR HORD HHI
          have hcut : True := trivial
          by_cases hkN : k < N
          · have hcell := (HP3.out k (by have := HD.out.2.2.1; omega)).1
            have hnl : ¬ (D.getD k (0, 0)).1 < f := by
              rcases HG.out with h | h
              · omega
              · exact h.2
            obtain ⟨x, hx⟩ : ∃ x, (D.getD k (0, 0)).1 = x := ⟨_, rfl⟩
            rw [hx] at hcell hnl
            have e2 : (k : Int) < (N : Int) := by omega
            clear hx HG
            go_wp2_with fail
            clear hcell hnl
            obtain ⟨mb, hmb⟩ : ∃ mb, w3.heap.size = mb := ⟨_, rfl⟩
            obtain ⟨W, hW⟩ : ∃ W, w3.alloc (.cells #[.bool false, .bool false, .bool false, .bool false, .bool false, .bool false, .bool false, .bool false, .bool false] 53) = W := ⟨_, rfl⟩
            have hMA : MetA W mb [] := by rw [← hW, ← hmb]; exact meta_start w3
            have hbW : Below w3.heap.size w3 W := by rw [← hW]; exact (Below.refl _ w3).alloc (Nat.le_refl _) _
            have hsW : W.heap.size = mb + 1 := by rw [← hW, ← hmb]; simp
            obtain ⟨base2, hb2⟩ : ∃ b, W.heap.size = b := ⟨_, rfl⟩
            have HI2 : Hid (Meeting R N base2 mb g D W (.slice none 0 0) (.int .i64 0) W) := Lib.hid ⟨0, 0, none, 0, rfl, by omega, rfl, by omega, Lib.hid ⟨by simp [metT, metF], World.ownsRow_nil _ _ _ _, by simpa [metT, metF] using hMA, HP3.out.below hbW HB3.out.2.1, hb2⟩, Below.refl _ _⟩
            have HWW : Hid (Below base w1 W ∧ base2 = mb + 1 ∧ g < mb ∧ base ≤ base2) := Lib.hid ⟨HB3.out.1.trans (hbW.mono HB3.out.2.2), by omega, by have := HB3.out.2.1; omega, by have := HB3.out.2.2; omega⟩
            have HKN := Lib.hid hk
            rw [hW, hmb]
            clear hMA hbW hsW hb2 hW hmb HB3 HP3 HB2 HB
            go_loopw [12, 66] (fun lv iv wr => Meeting R N base2 mb g D W lv iv wr) (fun _ iv _ => N - (intOf iv).toNat)
            case atStart => exact HI2.out
            case round =>
              obtain ⟨i, m, Al, cl, rfl, hi, rfl, hm, hH, hb⟩ := hrel
              clear HI2
              by_cases hlt : i < N
              · obtain ⟨q, hqd⟩ : ∃ q, (k + i) % N = q := ⟨_, rfl⟩
                have hqN : q < N := by rw [← hqd]; exact Nat.mod_lt _ (by omega)
                have e3 : ((k : Int) + (i : Int)) % (N : Int) = (q : Int) := by rw [← hqd, Int.natCast_emod, Int.natCast_add]
                have hRz : (R.getD i (0, 0)) = D.getD q (0, 0) := by
                  rw [← HR.out.1, turn_at (by have := HD.out.2.2.1; omega) (by have := HD.out.2.2.1; omega), HD.out.2.2.1, hqd]
                have hst := metT_step (R := R) (i := i) (by rw [HR.out.2]; exact hlt)
                rw [hRz] at hst
                have hcell := (hH.out.2.2.2.1 q (by have := HD.out.2.2.1; omega)).2
                have hzr := HD.out.2.2.2 (D.getD q (0, 0)) (by rw [List.getD_eq_getElem?_getD, List.getElem?_eq_getElem (by have := HD.out.2.2.1; omega)]; exact List.getElem_mem _)
                obtain ⟨z, hz⟩ : ∃ z : Nat, (D.getD q (0, 0)).2 = (z : Int) := ⟨(D.getD q (0, 0)).2.toNat, by omega⟩
                rw [hz] at hcell hzr hst
                have hz9 : z < 9 := by omega
                have hmet := hH.out.2.2.1.2 z hz9
                obtain ⟨mc, mf⟩ := hmet
                have e4 : (0 : Int) ≤ (i : Int) := by omega
                have e5 : (i : Int) < (N : Int) := by omega
                have e6 : (q : Int) < (N : Int) := by omega
                have e7 : (0 : Int) ≤ (q : Int) := by omega
                have e8 : (z : Int) < 9 := by omega
                have e9 : (0 : Int) ≤ (z : Int) := by omega
                have e10 : ¬ (N : Int) = 0 := by omega
                have HB5 := Lib.hid hb
                by_cases hin : (z : Int) ∈ metT R i
                · rw [decide_eq_true hin] at mc
                  rw [if_pos hin] at hst
                  have HST := Lib.hid hst
                  clear hst hz hRz hqd hb hzr hin
                  go_wp2_with fail
                  exact ⟨⟨i + 1, m, Al, cl, rfl, by omega, rfl, by omega, by rw [HST.out]; exact hH, HB5.out⟩, by simp only [intOf]; omega⟩
                · rw [decide_eq_false hin] at mc
                  rw [if_neg hin] at hst
                  have HST := Lib.hid hst
                  have HX : Hid ((wr.setCell ⟨mb, z, none⟩ (.bool true)).ownsRow base2 3 1 (.slice Al m cl) m (nums .i64 (metT R i)) ∧ MetA (wr.setCell ⟨mb, z, none⟩ (.bool true)) mb (metT R (i + 1)) ∧ Pts (wr.setCell ⟨mb, z, none⟩ (.bool true)) g D) := Lib.hid ⟨ownsRow_setCell_below hH.out.2.1 (by have := HWW.out.2.1; show mb < base2; omega) _, by rw [HST.out]; exact hH.out.2.2.1.set hz9, hH.out.2.2.2.1.set (by have := HWW.out.2.2.1; omega)⟩
                  have hbx : base2 ≤ (wr.setCell ⟨mb, z, none⟩ (.bool true)).heap.size := by rw [size_set]; have h1 := HB5.out.size; have h2 := hH.out.2.2.2.2; omega
                  have HBX := Lib.hid hbx
                  clear hst hz hRz hqd hb hzr hin hbx
                  go_wp2_with (at_builtin; refine wpList_append_one _ rfl (.tmp 85) (.tmp 87) 22 rfl base2 3 j0 (.int .i64 0) 8 Try.underlying22 hj0 hy0 hy1 hy2 rfl (.slice Al m cl) m (nums .i64 (metT R i)) rfl HX.out.1 (.int .i64 (z : Int)) 1 (by rw [size_set]; rfl) rfl (by omega) (by omega) HBX.out ?_; intro v3 w6 o6 g6 at6)
                  obtain ⟨A6, c6, rfl⟩ := own_form o6
                  have hrow : ∀ r, (Value.slice Al m cl).ownBlock = some r → base2 ≤ r := fun r hr => (HX.out.1.lt r hr).1
                  have hb6 : Below base2 (wr.setCell ⟨mb, z, none⟩ (.bool true)) w6 := (Below.refl _ _).grown g6 HBX.out hrow
                  have hbe : Below mb W w6 := (HB5.out.setCell (Nat.le_refl _) _).grown g6 (by rw [size_set]; have h1 := HB5.out.size; have h2 := hH.out.2.2.2.2; have := HWW.out.2.1; omega) (fun r hr => by have := hrow r hr; have := HWW.out.2.1; omega)
                  have hres : Meeting R N base2 mb g D W (.slice A6 (m + 1) c6) (.int .i64 ((i : Int) + 1)) w6 := ⟨i + 1, m + 1, A6, c6, rfl, by omega, rfl, by omega, Lib.hid ⟨by rw [HST.out, List.length_append, hH.out.1]; rfl, by
                    have h := o6
                    rw [HST.out]
                    unfold nums at h ⊢
                    rw [List.map_append]
                    exact h, HX.out.2.1.keep hb6 (by have := HWW.out.2.1; omega), HX.out.2.2.below hb6 (by have := HWW.out.2.1; have := HWW.out.2.2.1; omega), hH.out.2.2.2.2⟩, hbe⟩
                  exact ⟨hres, by simp only [intOf]; omega⟩
              · have hiN : i = N := by omega
                have hfin : OrdPost ms part w (.returned (.slice Al m cl)) wr := by
                  refine ordPost_of HFIN.out ⟨Al, cl, ?_, ?_, ?_⟩
                  · rw [← hiN, hH.out.1]
                  · rw [← hiN, hH.out.1]
                    exact own_base hH.out.2.1 (by have h1 := HWW.out.2.2.2; have h2 := HBASE.out; omega)
                  · exact B1.out.trans ((HWW.out.1.trans (hb.mono (by have h1 := HWW.out.2.2.1; have h2 := HGB.out; omega))).mono HBASE.out)
                have HFN := Lib.hid hfin
                clear hfin hH hb
                have e5 : ¬ (i : Int) < (N : Int) := by omega
                go_wp2_with fail
                go_ret
                exact HFN.out
          · have e2 : ¬ (k : Int) < (N : Int) := by omega
            clear HG
            go_wp2_with fail
            obtain ⟨mb, hmb⟩ : ∃ mb, w3.heap.size = mb := ⟨_, rfl⟩
            obtain ⟨W, hW⟩ : ∃ W, w3.alloc (.cells #[.bool false, .bool false, .bool false, .bool false, .bool false, .bool false, .bool false, .bool false, .bool false] 53) = W := ⟨_, rfl⟩
            have hMA : MetA W mb [] := by rw [← hW, ← hmb]; exact meta_start w3
            have hbW : Below w3.heap.size w3 W := by rw [← hW]; exact (Below.refl _ w3).alloc (Nat.le_refl _) _
            have hsW : W.heap.size = mb + 1 := by rw [← hW, ← hmb]; simp
            obtain ⟨base2, hb2⟩ : ∃ b, W.heap.size = b := ⟨_, rfl⟩
            have HI2 : Hid (Meeting R N base2 mb g D W (.slice none 0 0) (.int .i64 0) W) := Lib.hid ⟨0, 0, none, 0, rfl, by omega, rfl, by omega, Lib.hid ⟨by simp [metT, metF], World.ownsRow_nil _ _ _ _, by simpa [metT, metF] using hMA, HP3.out.below hbW HB3.out.2.1, hb2⟩, Below.refl _ _⟩
            have HWW : Hid (Below base w1 W ∧ base2 = mb + 1 ∧ g < mb ∧ base ≤ base2) := Lib.hid ⟨HB3.out.1.trans (hbW.mono HB3.out.2.2), by omega, by have := HB3.out.2.1; omega, by have := HB3.out.2.2; omega⟩
            have HKN := Lib.hid hk
            rw [hW, hmb]
            clear hMA hbW hsW hb2 hW hmb HB3 HP3 HB2 HB
            go_loopw [12, 66] (fun lv iv wr => Meeting R N base2 mb g D W lv iv wr) (fun _ iv _ => N - (intOf iv).toNat)
            case atStart => exact HI2.out
            case round =>
              obtain ⟨i, m, Al, cl, rfl, hi, rfl, hm, hH, hb⟩ := hrel
              clear HI2
              by_cases hlt : i < N
              · obtain ⟨q, hqd⟩ : ∃ q, (k + i) % N = q := ⟨_, rfl⟩
                have hqN : q < N := by rw [← hqd]; exact Nat.mod_lt _ (by omega)
                have e3 : ((k : Int) + (i : Int)) % (N : Int) = (q : Int) := by rw [← hqd, Int.natCast_emod, Int.natCast_add]
                have hRz : (R.getD i (0, 0)) = D.getD q (0, 0) := by
                  rw [← HR.out.1, turn_at (by have := HD.out.2.2.1; omega) (by have := HD.out.2.2.1; omega), HD.out.2.2.1, hqd]
                have hst := metT_step (R := R) (i := i) (by rw [HR.out.2]; exact hlt)
                rw [hRz] at hst
                have hcell := (hH.out.2.2.2.1 q (by have := HD.out.2.2.1; omega)).2
                have hzr := HD.out.2.2.2 (D.getD q (0, 0)) (by rw [List.getD_eq_getElem?_getD, List.getElem?_eq_getElem (by have := HD.out.2.2.1; omega)]; exact List.getElem_mem _)
                obtain ⟨z, hz⟩ : ∃ z : Nat, (D.getD q (0, 0)).2 = (z : Int) := ⟨(D.getD q (0, 0)).2.toNat, by omega⟩
                rw [hz] at hcell hzr hst
                have hz9 : z < 9 := by omega
                have hmet := hH.out.2.2.1.2 z hz9
                obtain ⟨mc, mf⟩ := hmet
                have e4 : (0 : Int) ≤ (i : Int) := by omega
                have e5 : (i : Int) < (N : Int) := by omega
                have e6 : (q : Int) < (N : Int) := by omega
                have e7 : (0 : Int) ≤ (q : Int) := by omega
                have e8 : (z : Int) < 9 := by omega
                have e9 : (0 : Int) ≤ (z : Int) := by omega
                have e10 : ¬ (N : Int) = 0 := by omega
                have HB5 := Lib.hid hb
                by_cases hin : (z : Int) ∈ metT R i
                · rw [decide_eq_true hin] at mc
                  rw [if_pos hin] at hst
                  have HST := Lib.hid hst
                  clear hst hz hRz hqd hb hzr hin
                  go_wp2_with fail
                  exact ⟨⟨i + 1, m, Al, cl, rfl, by omega, rfl, by omega, by rw [HST.out]; exact hH, HB5.out⟩, by simp only [intOf]; omega⟩
                · rw [decide_eq_false hin] at mc
                  rw [if_neg hin] at hst
                  have HST := Lib.hid hst
                  have HX : Hid ((wr.setCell ⟨mb, z, none⟩ (.bool true)).ownsRow base2 3 1 (.slice Al m cl) m (nums .i64 (metT R i)) ∧ MetA (wr.setCell ⟨mb, z, none⟩ (.bool true)) mb (metT R (i + 1)) ∧ Pts (wr.setCell ⟨mb, z, none⟩ (.bool true)) g D) := Lib.hid ⟨ownsRow_setCell_below hH.out.2.1 (by have := HWW.out.2.1; show mb < base2; omega) _, by rw [HST.out]; exact hH.out.2.2.1.set hz9, hH.out.2.2.2.1.set (by have := HWW.out.2.2.1; omega)⟩
                  have hbx : base2 ≤ (wr.setCell ⟨mb, z, none⟩ (.bool true)).heap.size := by rw [size_set]; have h1 := HB5.out.size; have h2 := hH.out.2.2.2.2; omega
                  have HBX := Lib.hid hbx
                  clear hst hz hRz hqd hb hzr hin hbx
                  go_wp2_with (at_builtin; refine wpList_append_one _ rfl (.tmp 85) (.tmp 87) 22 rfl base2 3 j0 (.int .i64 0) 8 Try.underlying22 hj0 hy0 hy1 hy2 rfl (.slice Al m cl) m (nums .i64 (metT R i)) rfl HX.out.1 (.int .i64 (z : Int)) 1 (by rw [size_set]; rfl) rfl (by omega) (by omega) HBX.out ?_; intro v3 w6 o6 g6 at6)
                  obtain ⟨A6, c6, rfl⟩ := own_form o6
                  have hrow : ∀ r, (Value.slice Al m cl).ownBlock = some r → base2 ≤ r := fun r hr => (HX.out.1.lt r hr).1
                  have hb6 : Below base2 (wr.setCell ⟨mb, z, none⟩ (.bool true)) w6 := (Below.refl _ _).grown g6 HBX.out hrow
                  have hbe : Below mb W w6 := (HB5.out.setCell (Nat.le_refl _) _).grown g6 (by rw [size_set]; have h1 := HB5.out.size; have h2 := hH.out.2.2.2.2; have := HWW.out.2.1; omega) (fun r hr => by have := hrow r hr; have := HWW.out.2.1; omega)
                  have hres : Meeting R N base2 mb g D W (.slice A6 (m + 1) c6) (.int .i64 ((i : Int) + 1)) w6 := ⟨i + 1, m + 1, A6, c6, rfl, by omega, rfl, by omega, Lib.hid ⟨by rw [HST.out, List.length_append, hH.out.1]; rfl, by
                    have h := o6
                    rw [HST.out]
                    unfold nums at h ⊢
                    rw [List.map_append]
                    exact h, HX.out.2.1.keep hb6 (by have := HWW.out.2.1; omega), HX.out.2.2.below hb6 (by have := HWW.out.2.1; have := HWW.out.2.2.1; omega), hH.out.2.2.2.2⟩, hbe⟩
                  exact ⟨hres, by simp only [intOf]; omega⟩
              · have hiN : i = N := by omega
                have hfin : OrdPost ms part w (.returned (.slice Al m cl)) wr := by
                  refine ordPost_of HFIN.out ⟨Al, cl, ?_, ?_, ?_⟩
                  · rw [← hiN, hH.out.1]
                  · rw [← hiN, hH.out.1]
                    exact own_base hH.out.2.1 (by have h1 := HWW.out.2.2.2; have h2 := HBASE.out; omega)
                  · exact B1.out.trans ((HWW.out.1.trans (hb.mono (by have h1 := HWW.out.2.2.1; have h2 := HGB.out; omega))).mono HBASE.out)
                have HFN := Lib.hid hfin
                clear hfin hH hb
                have e5 : ¬ (i : Int) < (N : Int) := by omega
                go_wp2_with fail
                go_ret
                exact HFN.out
end Ring
end Go.Proofs.Ytfnjengcemokpaa
