/-
  The next dot of a site: vect.Next and firthref04.Next.
-/
import Derived.Test.YtpgpeigaoonpcacVectLooks
import Derived.Laws.ResultCell
namespace Go.Proofs.Ytpgpeigaoonpcac
namespace Vect
open Go.RowKit Span
attribute [local go_sem ↓] Go.wp_at_zero Go.wp_at_succ

/-- The next dot of a site, or the error's number. -/
def nextV (v : List Int) (s : Int) : Int × Int × Int :=
  if RightV v ∧ 1 ≤ s ∧ s ≤ v.length then (if v.getD (s - 1).toNat 0 = 4611686018427387904 then (0, 0, 40) else (s, v.getD (s - 1).toNat 0 + 1, 0)) else (0, 0, 1)
def NextPost (r : Int × Int × Int) (w : World) (e : Ending) (w' : World) : Prop := e = .returned (.tuple #[.agg #[.int .i64 r.1, .int .i64 r.2.1], .int .i64 r.2.2]) ∧ Below w.heap.size w w'
theorem next_wrong {v : List Int} {s a b e : Int} (h : ¬ (RightV v ∧ 1 ≤ s ∧ s ≤ v.length)) (hQ : nextV v s = (a, b, e)) : a = 0 ∧ b = 0 ∧ e = 1 := by
  unfold nextV at hQ
  rw [if_neg h] at hQ
  simp only [Prod.mk.injEq] at hQ
  exact ⟨hQ.1.symm, hQ.2.1.symm, hQ.2.2.symm⟩
theorem next_right {v : List Int} {k : Nat} {x a b e : Int} (hR : RightV v) (hk : k < v.length) (hx : v.getD k 0 = x) (hQ : nextV v ((k : Int) + 1) = (a, b, e)) :
    (x = 4611686018427387904 → a = 0 ∧ b = 0 ∧ e = 40) ∧ (¬ x = 4611686018427387904 → a = (k : Int) + 1 ∧ b = x + 1 ∧ e = 0) := by
  unfold nextV at hQ
  rw [if_pos ⟨hR, by omega, by omega⟩, show ((k : Int) + 1 - 1).toNat = k by omega, hx] at hQ
  constructor
  · intro h
    rw [if_pos h] at hQ
    simp only [Prod.mk.injEq] at hQ
    exact ⟨hQ.1.symm, hQ.2.1.symm, hQ.2.2.symm⟩
  · intro h
    rw [if_neg h] at hQ
    simp only [Prod.mk.injEq] at hQ
    exact ⟨hQ.1.symm, hQ.2.1.symm, hQ.2.2.symm⟩
theorem frozen_below {B : Nat} {w w' : World} {p : Addr} {b : Bool} (h : Below B w w') (hp : p.block < B) (hc : w.frozen? p = b) : w'.frozen? p = b := (World.frozen?_of_block (h.block p.block hp)).trans hc

set_option maxHeartbeats 1000000 in
theorem next_any (A : Option Addr) (c m : Nat) (v : List Int) (hm : v.length = m) (s : Int) (hs : -9223372036854775808 ≤ s ∧ s ≤ 9223372036854775807) (w : World) (hr : Ns .i64 w w.heap.size A v) (hbig : m ≤ 140737488355328) :
    Calls Try.prog 18 #[.slice A m c, .int .i64 s] w (NextPost (nextV v s) w) := by
  have h1 := fun W hW => right_v A c m v hm W hW hbig
  skip
  obtain ⟨q, hq⟩ : ∃ q, decide (RightV v) = q := ⟨_, rfl⟩
  rw [hq] at h1
  obtain ⟨⟨d1, d2, E⟩, hQ⟩ : ∃ Q, nextV v s = Q := ⟨_, rfl⟩
  rw [hQ]
  have hb1 := (Below.refl w.heap.size w).alloc (Nat.le_refl _) (.cells #[.int .i64 0, .int .i64 0] 24)
  have q0 : (w.alloc (.cells #[.int .i64 0, .int .i64 0] 24)).cell? ⟨w.heap.size, 0, none⟩ = some (.int .i64 0) := by simp
  have q1 : (w.alloc (.cells #[.int .i64 0, .int .i64 0] 24)).cell? ⟨w.heap.size, 1, none⟩ = some (.int .i64 0) := by simp
  have q2 : (w.alloc (.cells #[.int .i64 0, .int .i64 0] 24)).frozen? ⟨w.heap.size, 0, none⟩ = false := by simp
  have q3 : (w.alloc (.cells #[.int .i64 0, .int .i64 0] 24)).frozen? ⟨w.heap.size, 1, none⟩ = false := by simp
  have sA : (w.alloc (.cells #[.int .i64 0, .int .i64 0] 24)).heap.size = w.heap.size + 1 := by simp
  obtain ⟨W, hW⟩ : ∃ W, w.alloc (.cells #[.int .i64 0, .int .i64 0] 24) = W := ⟨_, rfl⟩
  rw [hW] at hb1 q0 q1 q2 q3 sA
  have hlw : w.heap.size < W.heap.size := by omega
  have hrW := (hr.below hb1).more hb1.size
  have H1 := Lib.hid (h1 W hrW)
  skip
  cases q
  · have HZ : Hid (d1 = 0 ∧ d2 = 0 ∧ E = 1) := Lib.hid (next_wrong (fun h => of_decide_eq_false hq h.1) hQ)
    clear h1 hr hm hQ hq hrW
    go_enter Try.func18, Try.ntmps18
    go_wp2_with fail
    refine H1.out.mono ?_
    rintro e w1 ⟨rfl, b1⟩
    have p0 := cell_below b1 hlw q0
    have p1 := cell_below b1 hlw q1
    have p2 := frozen_below b1 hlw q2
    have p3 := frozen_below b1 hlw q3
    have hb2 := Lib.hid (hb1.trans (b1.mono hb1.size))
    clear b1
    go_wp2
    (try simp only [Exit.inBlock, Exit.then])
    refine bodyPost_ret (v := .tuple #[.agg #[.int .i64 d1, .int .i64 d2], .int .i64 E]) ?_ rfl ⟨rfl, ?_⟩
    · rw [results_cell_tmp rfl]
      obtain ⟨rfl, rfl, rfl⟩ := HZ.out
      go_simp
    · exact (hb2.out.setCell (p := ⟨w.heap.size, 0, none⟩) (Nat.le_refl _) _).setCell (p := ⟨w.heap.size, 1, none⟩) (Nat.le_refl _) _
  · have hR := of_decide_eq_true hq
    have hm16 : m ≤ 16 := by rw [← hm]; exact hR.2.1
    by_cases hs1 : s < 1
    · have HZ : Hid (d1 = 0 ∧ d2 = 0 ∧ E = 1) := Lib.hid (next_wrong (fun h => by omega) hQ)
      clear h1 hr hm hQ hq hrW hR
      go_enter Try.func18, Try.ntmps18
      go_wp2_with fail
      refine H1.out.mono ?_
      rintro e w1 ⟨rfl, b1⟩
      have p0 := cell_below b1 hlw q0
      have p1 := cell_below b1 hlw q1
      have p2 := frozen_below b1 hlw q2
      have p3 := frozen_below b1 hlw q3
      have hb2 := Lib.hid (hb1.trans (b1.mono hb1.size))
      clear b1
      go_wp2
      (try simp only [Exit.inBlock, Exit.then])
      refine bodyPost_ret (v := .tuple #[.agg #[.int .i64 d1, .int .i64 d2], .int .i64 E]) ?_ rfl ⟨rfl, ?_⟩
      · rw [results_cell_tmp rfl]
        obtain ⟨rfl, rfl, rfl⟩ := HZ.out
        go_simp
      · exact (hb2.out.setCell (p := ⟨w.heap.size, 0, none⟩) (Nat.le_refl _) _).setCell (p := ⟨w.heap.size, 1, none⟩) (Nat.le_refl _) _
    · by_cases hs2 : (m : Int) < s
      · have HZ : Hid (d1 = 0 ∧ d2 = 0 ∧ E = 1) := Lib.hid (next_wrong (fun h => by omega) hQ)
        clear h1 hr hm hQ hq hrW hR
        go_enter Try.func18, Try.ntmps18
        go_wp2_with fail
        refine H1.out.mono ?_
        rintro e w1 ⟨rfl, b1⟩
        have p0 := cell_below b1 hlw q0
        have p1 := cell_below b1 hlw q1
        have p2 := frozen_below b1 hlw q2
        have p3 := frozen_below b1 hlw q3
        have hb2 := Lib.hid (hb1.trans (b1.mono hb1.size))
        clear b1
        go_wp2
        (try simp only [Exit.inBlock, Exit.then])
        refine bodyPost_ret (v := .tuple #[.agg #[.int .i64 d1, .int .i64 d2], .int .i64 E]) ?_ rfl ⟨rfl, ?_⟩
        · rw [results_cell_tmp rfl]
          obtain ⟨rfl, rfl, rfl⟩ := HZ.out
          go_simp
        · exact (hb2.out.setCell (p := ⟨w.heap.size, 0, none⟩) (Nat.le_refl _) _).setCell (p := ⟨w.heap.size, 1, none⟩) (Nat.le_refl _) _
      · obtain ⟨k, rfl⟩ : ∃ k : Nat, s = (k : Int) + 1 := ⟨(s - 1).toNat, by omega⟩
        have hk : k < m := by omega
        obtain ⟨x, hx⟩ : ∃ x, v.getD k 0 = x := ⟨_, rfl⟩
        have hxb := hR.2.2 x (vget_mem (by omega) hx)
        obtain ⟨b, off, rfl, hbB, d0⟩ := ns_cell hrW hm (Below.refl _ _) hk hx
        have hn := next_right hR (by omega) hx hQ
        have e0 : ((k : Int) + 1 - 1).toNat = k := by omega
        obtain ⟨x0, x1⟩ := hxb
        by_cases hmax : x = 4611686018427387904
        · have HZ : Hid (d1 = 0 ∧ d2 = 0 ∧ E = 40) := Lib.hid (hn.1 hmax)
          clear h1 hr hm hQ hq hrW hR hx hn
          subst hmax
          go_enter Try.func18, Try.ntmps18
          go_wp2_with fail
          refine H1.out.mono ?_
          rintro e w1 ⟨rfl, b1⟩
          have p0 := cell_below b1 hlw q0
          have p1 := cell_below b1 hlw q1
          have p2 := frozen_below b1 hlw q2
          have p3 := frozen_below b1 hlw q3
          have hb2 := Lib.hid (hb1.trans (b1.mono hb1.size))
          have d0' := cell_below b1 hbB d0
          clear b1
          go_wp2
          (try simp only [Exit.inBlock, Exit.then])
          refine bodyPost_ret (v := .tuple #[.agg #[.int .i64 d1, .int .i64 d2], .int .i64 E]) ?_ rfl ⟨rfl, ?_⟩
          · rw [results_cell_tmp rfl]
            obtain ⟨rfl, rfl, rfl⟩ := HZ.out
            go_simp
          · exact (hb2.out.setCell (p := ⟨w.heap.size, 0, none⟩) (Nat.le_refl _) _).setCell (p := ⟨w.heap.size, 1, none⟩) (Nat.le_refl _) _
        · have HZ : Hid (d1 = (k : Int) + 1 ∧ d2 = x + 1 ∧ E = 0) := Lib.hid (hn.2 hmax)
          clear h1 hr hm hQ hq hrW hR hx hn
          go_enter Try.func18, Try.ntmps18
          go_wp2_with fail
          refine H1.out.mono ?_
          rintro e w1 ⟨rfl, b1⟩
          have p0 := cell_below b1 hlw q0
          have p1 := cell_below b1 hlw q1
          have p2 := frozen_below b1 hlw q2
          have p3 := frozen_below b1 hlw q3
          have hb2 := Lib.hid (hb1.trans (b1.mono hb1.size))
          have d0' := cell_below b1 hbB d0
          clear b1
          go_wp2
          (try simp only [Exit.inBlock, Exit.then])
          refine bodyPost_ret (v := .tuple #[.agg #[.int .i64 d1, .int .i64 d2], .int .i64 E]) ?_ rfl ⟨rfl, ?_⟩
          · rw [results_cell_tmp rfl]
            obtain ⟨rfl, rfl, rfl⟩ := HZ.out
            go_simp
          · exact (hb2.out.setCell (p := ⟨w.heap.size, 0, none⟩) (Nat.le_refl _) _).setCell (p := ⟨w.heap.size, 1, none⟩) (Nat.le_refl _) _

end Vect
end Go.Proofs.Ytpgpeigaoonpcac
