/-
  firthref04.Join, and whether one vector is below another: vect.Below, firthref04.Below.
-/
import Derived.Test.YtpgpeigaoonpcacVectJoin
namespace Go.Proofs.Ytpgpeigaoonpcac
namespace Vect
open Go.RowKit Span
attribute [local go_sem ↓] Go.wp_at_zero Go.wp_at_succ

instance (a b : List Int) : Decidable (BelowV a b) := by unfold BelowV; infer_instance

set_option maxHeartbeats 2000000 in
set_option maxRecDepth 100000 in
theorem ref_vjoin_any (A A' : Option Addr) (c c' n n' : Nat) (a b : List Int) (hn : a.length = n) (hn' : b.length = n') (w : World) (hr : Ns .i64 w w.heap.size A a) (hr' : Ns .i64 w w.heap.size A' b) (hbig : n ≤ 140737488355328) (hbig' : n' ≤ 140737488355328) :
    Calls Try.prog 21 #[.slice A n c, .slice A' n' c'] w (VJPost (vjL a b) (vjE a b) w) := by
  have h1 := ref_right_v A c n a hn w hr hbig
  have h2 := fun W h => ref_right_v A' c' n' b hn' W h hbig'
  obtain ⟨q1, hq1⟩ : ∃ q, decide (RightV a) = q := ⟨_, rfl⟩
  obtain ⟨q2, hq2⟩ : ∃ q, decide (RightV b) = q := ⟨_, rfl⟩
  rw [hq1] at h1
  rw [hq2] at h2
  obtain ⟨L, hL⟩ : ∃ L, vjL a b = L := ⟨_, rfl⟩
  obtain ⟨E, hE⟩ : ∃ E, vjE a b = E := ⟨_, rfl⟩
  rw [hL, hE]
  have HL := Lib.hid hL
  have HE := Lib.hid hE
  have H1 := Lib.hid h1
  have H2 := Lib.hid h2
  have HR := Lib.hid hr
  have HR' := Lib.hid hr'
  clear h1 h2 hr hr' hL hE
  cases q1
  · have hw := vj_wrong (a := a) (b := b) (fun h => of_decide_eq_false hq1 h.1)
    have HW := Lib.hid (And.intro (HL.out.symm.trans hw.2) (HE.out.symm.trans hw.1))
    clear hw hq1 hq2 H2 hn hn'
    go_enter Try.func21, Try.ntmps21
    go_wp2_with fail
    refine H1.out.mono ?_
    rintro e w1 ⟨rfl, b1⟩
    go_wp2
    go_ret2
    rw [HW.out.1, HW.out.2]
    exact vj_nil _ _ _ b1 _ rfl
  · cases q2
    · have hw := vj_wrong (a := a) (b := b) (fun h => of_decide_eq_false hq2 h.2.1)
      have HW := Lib.hid (And.intro (HL.out.symm.trans hw.2) (HE.out.symm.trans hw.1))
      clear hw hq1 hq2 hn hn'
      go_enter Try.func21, Try.ntmps21
      go_wp2_with fail
      refine H1.out.mono ?_
      rintro e w1 ⟨rfl, b1⟩
      have s1 := b1.size
      go_wp2_with fail
      refine (H2.out _ ((HR'.out.below b1).more s1)).mono ?_
      rintro e w2 ⟨rfl, b2⟩
      go_wp2
      go_ret2
      rw [HW.out.1, HW.out.2]
      exact vj_nil _ _ _ (b1.trans (b2.mono s1)) _ rfl
    · have hRa := of_decide_eq_true hq1
      have hRb := of_decide_eq_true hq2
      by_cases hlen : n = n'
      · subst hlen
        have hw := vj_good (a := a) (b := b) ⟨hRa, hRb, by omega⟩
        have HW := Lib.hid (And.intro (HL.out.symm.trans hw.2) (HE.out.symm.trans hw.1))
        have hn1 : n ≤ 16 := by rw [← hn]; exact hRa.2.1
        have HN := Lib.hid (And.intro hn hn')
        obtain ⟨info, hi, hz, hsize, hby⟩ := info_int64
        have HI := Lib.hid (And.intro hi (And.intro hz (And.intro hsize hby)))
        clear hw hq1 hq2 hn hn' hRa hRb hi hz hsize hby
        go_enter Try.func21, Try.ntmps21
        go_wp2_with fail
        refine H1.out.mono ?_
        rintro e w1 ⟨rfl, b1⟩
        have s1 := b1.size
        go_wp2_with fail
        refine (H2.out _ ((HR'.out.below b1).more s1)).mono ?_
        rintro e w2 ⟨rfl, b2⟩
        have HB2 := Lib.hid (b1.trans (b2.mono s1))
        clear H1 H2 b1 b2 s1
        go_wp2
        go_loopw [6, 7] (fun v q wr => ∃ (i : Nat) (Ao : Option Addr) (co : Nat), i ≤ n ∧ q = .int .i64 i ∧ v = .slice Ao i co ∧ Hid (wr.ownsRow w.heap.size 2 1 (.slice Ao i co) i (nums .i64 ((maxV a b).take i))) ∧ Hid (Below w.heap.size w wr)) (fun _ q _ => n - (intOf q).toNat)
        case atStart => exact ⟨0, none, 0, by omega, rfl, rfl, World.ownsRow_nil _ _ _ _, HB2⟩
        case round =>
          obtain ⟨i, Ao, co, hi1, rfl, rfl, ho, hb⟩ := hrel
          clear HB2
          by_cases hlt : i < n
          · obtain ⟨x, hx⟩ : ∃ x, a.getD i 0 = x := ⟨_, rfl⟩
            obtain ⟨y, hy⟩ : ∃ y, b.getD i 0 = y := ⟨_, rfl⟩
            obtain ⟨ba, ofa, rfl, hba, d1⟩ := ns_cell HR.out HN.out.1 hb.out hlt hx
            obtain ⟨bb, ofb, rfl, hbb, d0⟩ := ns_cell HR'.out HN.out.2 hb.out hlt hy
            have hm := max_at a b (k := i) (by rw [HN.out.1]; exact hlt)
            rw [hx, hy] at hm
            have htk := vtake_one (l := maxV a b) (i := i) (by rw [max_len, HN.out.1]; exact hlt) hm
            have hsz := hb.out.size
            by_cases hxy : x < y
            · rw [show max x y = y by omega] at htk
              have HT := Lib.hid htk
              clear hx hy hm htk HR HR' HN HL HE HW
              go_wp2_with (at_builtin; refine wpList_append_one _ rfl _ _ _ rfl w.heap.size 2 info (.int .i64 0) 8 Try.underlying22 HI.out.1 HI.out.2.1 HI.out.2.2.1 HI.out.2.2.2 rfl _ i (nums .i64 ((maxV a b).take i)) rfl ho.out (.int .i64 y) 1 rfl rfl (by omega) (by omega) hsz ?_; intro v5 w5 o5 g5 _; obtain ⟨A5, c5, rfl⟩ := own_form o5)
              exact ⟨⟨i + 1, A5, c5, by omega, rfl, rfl, Lib.hid (by rw [HT.out]; simpa [nums] using o5), Lib.hid (hb.out.grown g5 hsz (fun g hg => (ho.out.lt g hg).1))⟩, by simp only [intOf]; omega⟩
            · rw [show max x y = x by omega] at htk
              have HT := Lib.hid htk
              clear hx hy hm htk HR HR' HN HL HE HW
              go_wp2_with (at_builtin; refine wpList_append_one _ rfl _ _ _ rfl w.heap.size 2 info (.int .i64 0) 8 Try.underlying22 HI.out.1 HI.out.2.1 HI.out.2.2.1 HI.out.2.2.2 rfl _ i (nums .i64 ((maxV a b).take i)) rfl ho.out (.int .i64 x) 1 rfl rfl (by omega) (by omega) hsz ?_; intro v5 w5 o5 g5 _; obtain ⟨A5, c5, rfl⟩ := own_form o5)
              exact ⟨⟨i + 1, A5, c5, by omega, rfl, rfl, Lib.hid (by rw [HT.out]; simpa [nums] using o5), Lib.hid (hb.out.grown g5 hsz (fun g hg => (ho.out.lt g hg).1))⟩, by simp only [intOf]; omega⟩
          · have hie : i = n := by omega
            have ho' := ho.out
            have hml : (maxV a b).length = i := by rw [max_len, hie]; exact HN.out.1
            rw [List.take_of_length_le (by omega)] at ho'
            have HO := Lib.hid ho'
            have HM := Lib.hid hml
            clear ho ho' hml HL HE HN HR HR'
            go_wp2
            go_ret2
            rw [HW.out.1, HW.out.2]
            exact ⟨Ao, co, by rw [HM.out]; rfl, by rw [HM.out]; exact HO.out, hb.out⟩
      · have hw := vj_wrong (a := a) (b := b) (fun h => hlen (by have := h.2.2; omega))
        have HW := Lib.hid (And.intro (HL.out.symm.trans hw.2) (HE.out.symm.trans hw.1))
        have hne : ((n : Int) == (n' : Int)) = false := by simp; omega
        clear hw hq1 hq2 hn hn' hRa hRb
        go_enter Try.func21, Try.ntmps21
        go_wp2_with fail
        refine H1.out.mono ?_
        rintro e w1 ⟨rfl, b1⟩
        have s1 := b1.size
        go_wp2_with fail
        refine (H2.out _ ((HR'.out.below b1).more s1)).mono ?_
        rintro e w2 ⟨rfl, b2⟩
        go_wp2
        go_ret2
        rw [HW.out.1, HW.out.2]
        exact vj_nil _ _ _ (b1.trans (b2.mono s1)) _ rfl

set_option maxHeartbeats 2000000 in
set_option maxRecDepth 100000 in
theorem vbelow_any (A A' : Option Addr) (c c' n n' : Nat) (a b : List Int) (hn : a.length = n) (hn' : b.length = n') (w : World) (hr : Ns .i64 w w.heap.size A a) (hr' : Ns .i64 w w.heap.size A' b) (hbig : n ≤ 140737488355328) (hbig' : n' ≤ 140737488355328) :
    Calls Try.prog 17 #[.slice A n c, .slice A' n' c'] w fun e w' => e = .returned (.bool (decide (BelowV a b))) ∧ Below w.heap.size w w' := by
  have h1 := right_v A c n a hn w hr hbig
  have h2 := fun W h => right_v A' c' n' b hn' W h hbig'
  obtain ⟨q1, hq1⟩ : ∃ q, decide (RightV a) = q := ⟨_, rfl⟩
  obtain ⟨q2, hq2⟩ : ∃ q, decide (RightV b) = q := ⟨_, rfl⟩
  rw [hq1] at h1
  rw [hq2] at h2
  obtain ⟨Q, hQ⟩ : ∃ Q, decide (BelowV a b) = Q := ⟨_, rfl⟩
  rw [hQ]
  have H1 := Lib.hid h1
  have H2 := Lib.hid h2
  have HR := Lib.hid hr
  have HR' := Lib.hid hr'
  clear h1 h2 hr hr'
  cases q1
  · have HW := Lib.hid (hQ.symm.trans (decide_eq_false fun h => of_decide_eq_false hq1 h.1))
    clear hQ hq1 hq2 H2 hn hn'
    go_enter Try.func17, Try.ntmps17
    go_wp2_with fail
    refine H1.out.mono ?_
    rintro e w1 ⟨rfl, b1⟩
    go_wp2
    go_ret
    exact ⟨by rw [HW.out]; rfl, b1⟩
  · cases q2
    · have HW := Lib.hid (hQ.symm.trans (decide_eq_false fun h => of_decide_eq_false hq2 h.2.1))
      clear hQ hq1 hq2 hn hn'
      go_enter Try.func17, Try.ntmps17
      go_wp2_with fail
      refine H1.out.mono ?_
      rintro e w1 ⟨rfl, b1⟩
      have s1 := b1.size
      go_wp2_with fail
      refine (H2.out _ ((HR'.out.below b1).more s1)).mono ?_
      rintro e w2 ⟨rfl, b2⟩
      go_wp2
      go_ret
      exact ⟨by rw [HW.out]; rfl, b1.trans (b2.mono s1)⟩
    · have hRa := of_decide_eq_true hq1
      have hRb := of_decide_eq_true hq2
      by_cases hlen : n = n'
      · subst hlen
        have hn1 : n ≤ 16 := by rw [← hn]; exact hRa.2.1
        have HN := Lib.hid (And.intro hn hn')
        have HQ := Lib.hid hQ
        have HA := Lib.hid (And.intro hRa hRb)
        clear hQ hq1 hq2 hn hn' hRa hRb
        go_enter Try.func17, Try.ntmps17
        go_wp2_with fail
        refine H1.out.mono ?_
        rintro e w1 ⟨rfl, b1⟩
        have s1 := b1.size
        go_wp2_with fail
        refine (H2.out _ ((HR'.out.below b1).more s1)).mono ?_
        rintro e w2 ⟨rfl, b2⟩
        have HB2 := Lib.hid (b1.trans (b2.mono s1))
        clear H1 H2 b1 b2 s1
        go_wp2
        go_loopw [23] (fun q wr => ∃ i : Nat, i ≤ n ∧ q = .int .i64 i ∧ Hid (Below w.heap.size w wr) ∧ Hid (∀ k, k < i → a.getD k 0 ≤ b.getD k 0)) (fun q _ => n - (intOf q).toNat)
        case atStart => exact ⟨0, by omega, rfl, HB2, Lib.hid (fun k hk => absurd hk (Nat.not_lt_zero k))⟩
        case round =>
          obtain ⟨i, hi1, rfl, hb, hst⟩ := hrel
          clear HB2
          by_cases hlt : i < n
          · obtain ⟨x, hx⟩ : ∃ x, a.getD i 0 = x := ⟨_, rfl⟩
            obtain ⟨y, hy⟩ : ∃ y, b.getD i 0 = y := ⟨_, rfl⟩
            obtain ⟨ba, ofa, rfl, hba, d1⟩ := ns_cell HR.out HN.out.1 hb.out hlt hx
            obtain ⟨bb, ofb, rfl, hbb, d0⟩ := ns_cell HR'.out HN.out.2 hb.out hlt hy
            have r0 : (0 : Int) ≤ (i : Int) := by omega
            have r1 : (i : Int) < (n : Int) := by omega
            by_cases hxy : y < x
            · have g1 : decide (y < x) = true := decide_eq_true hxy
              have HZ := Lib.hid (HQ.out.symm.trans (decide_eq_false fun h => by have := h.2.2.2 i (by rw [HN.out.1]; exact hlt); omega))
              clear hx hy hst HR HR' HN HQ HA
              go_wp2
              go_quiet (fail)
              go_wp2
              go_ret
              exact ⟨by rw [HZ.out]; rfl, hb.out.trans (below_drewN _ _ _)⟩
            · have g1 : decide (y < x) = false := decide_eq_false hxy
              have HZ : Hid (∀ k, k < i + 1 → a.getD k 0 ≤ b.getD k 0) := Lib.hid (fun k hk => by
                by_cases hki : k = i
                · subst hki; omega
                · exact hst.out k (by omega))
              clear hx hy hst HR HR' HN HQ HA
              go_wp2
              go_quiet (fail)
              go_wp2
              exact ⟨⟨i + 1, by omega, rfl, Lib.hid (hb.out.trans (below_drewN _ _ _)), HZ⟩, by simp only [intOf]; omega⟩
          · have hie : i = n := by omega
            have HZ := Lib.hid (HQ.out.symm.trans (decide_eq_true ⟨HA.out.1, HA.out.2, by rw [HN.out.1, HN.out.2], fun k hk => hst.out k (by rw [HN.out.1] at hk; omega)⟩))
            clear hst HN HQ HA HR HR'
            go_wp2
            go_ret
            exact ⟨by rw [HZ.out]; rfl, hb.out⟩
      · have HW := Lib.hid (hQ.symm.trans (decide_eq_false fun h => hlen (by have := h.2.2.1; omega)))
        have hne : ((n : Int) == (n' : Int)) = false := by simp; omega
        clear hQ hq1 hq2 hn hn' hRa hRb
        go_enter Try.func17, Try.ntmps17
        go_wp2_with fail
        refine H1.out.mono ?_
        rintro e w1 ⟨rfl, b1⟩
        have s1 := b1.size
        go_wp2_with fail
        refine (H2.out _ ((HR'.out.below b1).more s1)).mono ?_
        rintro e w2 ⟨rfl, b2⟩
        go_wp2
        go_ret
        exact ⟨by rw [HW.out]; rfl, b1.trans (b2.mono s1)⟩

end Vect
end Go.Proofs.Ytpgpeigaoonpcac
