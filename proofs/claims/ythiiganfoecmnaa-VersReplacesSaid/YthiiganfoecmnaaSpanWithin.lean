/-
  span.Within and firthref03.Within: whether all dots of one right list are in another.
-/
import Derived.Test.YthiiganfoecmnaaSpanJoinRef
import Derived.Deep.LoopGhost
namespace Go.Proofs.Ythiiganfoecmnaa
namespace Span
open Go.RowKit
attribute [local go_sem ↓] Go.wp_at_zero Go.wp_at_succ

instance (b : List Sp) (x : Sp) : Decidable (inOne b x) := by unfold inOne; infer_instance
def withinF (a b : List Sp) : Bool := decide (Right a ∧ Right b ∧ ∀ x ∈ a, inOne b x)
theorem within_wrong {a b : List Sp} (h : ¬ (Right a ∧ Right b)) : withinF a b = false := decide_eq_false fun h' => h ⟨h'.1, h'.2.1⟩
theorem within_no {a b : List Sp} {x : Sp} (hx : x ∈ a) (h : ¬ inOne b x) : withinF a b = false := decide_eq_false fun h' => h (h'.2.2 x hx)
theorem within_yes {a b : List Sp} (ha : Right a) (hb : Right b) (h : ∀ x ∈ a, inOne b x) : withinF a b = true := decide_eq_true ⟨ha, hb, h⟩

set_option maxHeartbeats 2000000 in
theorem ref_within_any (A A' : Option Addr) (c c' n n' : Nat) (a b : List Sp) (hn : a.length = n) (hn' : b.length = n') (w : World) (hr : Ss w w.heap.size A a) (hr' : Ss w w.heap.size A' b) (hbig : n ≤ 140737488355328) (hbig' : n' ≤ 140737488355328) :
    Calls Try.prog 45 #[.slice A n c, .slice A' n' c'] w fun e w' => e = .returned (.bool (withinF a b)) ∧ Below w.heap.size w w' := by
  have h1 := ref_right_any A c n a hn w hr hbig
  have h2 := fun W h => ref_right_any A' c' n' b hn' W h hbig'
  obtain ⟨q1, hq1⟩ : ∃ q, decide (Right a) = q := ⟨_, rfl⟩
  obtain ⟨q2, hq2⟩ : ∃ q, decide (Right b) = q := ⟨_, rfl⟩
  rw [hq1] at h1
  rw [hq2] at h2
  obtain ⟨Q, hQ⟩ : ∃ Q, withinF a b = Q := ⟨_, rfl⟩
  rw [hQ]
  have H1 := Lib.hid h1
  have H2 := Lib.hid h2
  have HR := Lib.hid hr
  have HR' := Lib.hid hr'
  clear h1 h2 hr hr'
  cases q1
  · have HW := Lib.hid (hQ.symm.trans (within_wrong fun h => of_decide_eq_false hq1 h.1))
    clear hq1 hq2 H2 hn hn' hQ
    go_enter Try.func45, Try.ntmps45
    go_wp2_with fail
    refine H1.out.mono ?_
    rintro e w1 ⟨rfl, b1⟩
    go_wp2
    go_ret
    exact ⟨by rw [HW.out]; rfl, b1⟩
  · cases q2
    · have HW := Lib.hid (hQ.symm.trans (within_wrong fun h => of_decide_eq_false hq2 h.2))
      clear hq1 hq2 hn hn' hQ
      go_enter Try.func45, Try.ntmps45
      go_wp2_with fail
      refine H1.out.mono ?_
      rintro e w1 ⟨rfl, b1⟩
      have s1 := b1.size
      go_wp2_with fail
      refine (H2.out _ ((HR'.out.below b1).more s1)).mono ?_
      rintro e w2 ⟨rfl, b2⟩
      go_wp2
      go_ret
      exact ⟨by rw [HW.out]; rfl, b1.trans (b2.mono s1)⟩
    · have hRa := of_decide_eq_true hq1
      have hRb := of_decide_eq_true hq2
      have hn1 : n ≤ 1024 := by rw [← hn]; exact hRa.1
      have hn2 : n' ≤ 1024 := by rw [← hn']; exact hRb.1
      have HA := Lib.hid (And.intro hRa hRb)
      have HN := Lib.hid (And.intro hn hn')
      have HQ := Lib.hid hQ
      clear hq1 hq2 hRa hRb hn hn' hQ
      go_enter Try.func45, Try.ntmps45
      go_wp2_with fail
      refine H1.out.mono ?_
      rintro e w1 ⟨rfl, b1⟩
      have s1 := b1.size
      go_wp2_with fail
      refine (H2.out _ ((HR'.out.below b1).more s1)).mono ?_
      rintro e w2 ⟨rfl, b2⟩
      have HB2 := Lib.hid (b1.trans (b2.mono s1))
      clear H1 H2 s1 b1 b2
      go_wp2
      go_loopw [5] (fun q wr => ∃ i : Nat, i ≤ n ∧ q = .int .i64 i ∧ Hid (Below w.heap.size w wr) ∧ Hid (∀ x ∈ a.take i, inOne b x)) (fun q _ => n - (intOf q).toNat)
      case atStart => exact ⟨0, by omega, rfl, HB2, Lib.hid (by simp)⟩
      case round =>
        obtain ⟨i, hi1, rfl, hb, hin⟩ := hrel
        clear HB2
        by_cases hlt : i < n
        · obtain ⟨⟨x0, x1, x2⟩, hx⟩ : ∃ x, a.getD i (0, 0, 0) = x := ⟨_, rfl⟩
          have hi2 : i < a.length := by rw [HN.out.1]; exact hlt
          obtain ⟨b0, off, rfl, hbB, d0, d1, d2⟩ := ss_at HR.out HN.out.1 hb.out hlt hx
          have hxo := fine_getD HA.out.1.2 hi2 hx
          have hj := joinOf_is (b := [(x0, x1, x2)]) HA.out.2.2 (by simpa using hxo)
          have hps := put_same hxo HA.out.2.2 hj.1
          have hp := fun W h => put_any A' c' n' b HN.out.2 (x0, x1, x2) HA.out.2.2 hxo W h (by omega)
          obtain ⟨R, hR⟩ : ∃ R, joinOf b [(x0, x1, x2)] = R := ⟨_, rfl⟩
          rw [hR] at hj hps hp
          have hlR : R.length ≤ 1025 := by have := hj.2; simp only [List.length_cons, List.length_nil] at this; rw [HN.out.2] at this; omega
          have hsame := fun A2 c2 W h h' => same_any A2 A' c2 c' R.length n' R b rfl HN.out.2 W h h' (by omega) (by omega)
          obtain ⟨q, hq⟩ : ∃ q, decide (R = b) = q := ⟨_, rfl⟩
          rw [hq] at hsame
          have HP := Lib.hid hp
          have HS := Lib.hid hsame
          have HY : Hid (q = true → ∀ x ∈ a.take (i + 1), inOne b x) := Lib.hid fun h => by
            rw [take_one hi2 hx]
            intro x hxm
            rcases List.mem_append.1 hxm with hm | hm
            · exact hin.out x hm
            · rw [List.mem_singleton.1 hm]; exact hps.1 (of_decide_eq_true (hq.trans h))
          have HZ : Hid (q = false → Q = false) := Lib.hid fun h => HQ.out.symm.trans (within_no (getD_mem hi2 hx) fun h' => of_decide_eq_false (hq.trans h) (hps.2 h'))
          have hsz := hb.out.size
          obtain ⟨k, hk⟩ : ∃ k, R.length = k := ⟨_, rfl⟩
          have HK := Lib.hid hk
          simp only at d0 d1 d2
          clear hp hsame hq hps hj hR hxo hx hin HA HN HQ HR
          rw [hk] at hlR
          go_wp2_with fail
          refine (HP.out wr ((HR'.out.below hb.out).more hsz)).mono ?_
          rintro e w3 ⟨A3, c3, rfl, o3, b3⟩
          have HS3 := Lib.hid (own_ss o3)
          have HB3 := Lib.hid (hb.out.trans (b3.mono hsz))
          clear o3 b3 HP
          rw [hk]
          go_wp2_with fail
          have h3 := HS.out A3 c3 w3 HS3.out ((HR'.out.below HB3.out).more HB3.out.size)
          rw [hk] at h3
          refine h3.mono ?_
          rintro e w4 ⟨rfl, b4⟩
          have HB4 := Lib.hid (HB3.out.trans (b4.mono HB3.out.size))
          clear h3 b4 HS HS3 HB3
          cases q
          · have HW := Lib.hid (HZ.out rfl)
            clear HZ HY
            go_wp2
            go_ret
            exact ⟨by rw [HW.out]; rfl, HB4.out⟩
          · have HW := Lib.hid (HY.out rfl)
            clear HZ HY
            go_wp2
            exact ⟨⟨i + 1, by omega, rfl, HB4, HW⟩, by simp only [intOf]; omega⟩
        · have hie : i = n := by omega
          have hall := hin.out
          rw [hie, ← HN.out.1, List.take_length] at hall
          have HW := Lib.hid (HQ.out.symm.trans (within_yes HA.out.1 HA.out.2 hall))
          clear hall hin HA HN HQ
          go_wp2
          go_ret
          exact ⟨by rw [HW.out]; rfl, hb.out⟩
theorem Bx.drewN {W : World} {B : Nat} {x : Sp} (h : Bx W B x) (n : Nat) : Bx (W.drewN n) B x := h

end Span
end Go.Proofs.Ythiiganfoecmnaa
