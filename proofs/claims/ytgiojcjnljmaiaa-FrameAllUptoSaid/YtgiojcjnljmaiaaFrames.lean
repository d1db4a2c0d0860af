/-
  The iterator behind frame.All: what it tells, round by round, whatever the loop's body keeps of it.
-/
import Derived.RangeFuncNested
import Derived.RangeFuncBound
import Derived.RangeFuncCalls
import Derived.RangeFuncLeaves
import Derived.Shelf.Abstract
import Derived.Shelf.RegionOpen
import Derived.WalkKit
import Derived.OwnWalkIn
import Derived.TacticsInMore
import Derived.LoopNIn
import Derived.LoopIn
import Derived.Test.YtgiojcjnljmaiaaLists
import Derived.Test.YtgiojcjnljmaiaaAllPlain
import Derived.Test.YtgiojcjnljmaiaaNext
namespace Go.Proofs.Ytgiojcjnljmaiaa
namespace Frm
open Go.RowKit Go.Shelf Num
attribute [local go_sem] Oper.semAt_some

/-- What a round is told: the bytes (where they stand, and which), the end, why not. -/
structure Tell where
  (A : Option Addr) (c : Nat) (ys : List Int) (q : Nat) (e : Int)
def Tell.val (x : Tell) : Value := .agg #[.slice x.A x.ys.length x.c, .int .i64 x.q, .int .i64 x.e]

/-- Rounds that have told whole frames, from the first on to the place k. -/
inductive Went (zs : List Int) : List Tell → Nat → Prop
  | start : Went zs [] 0
  | more {pre : List Tell} {k : Nat} {x : Tell} : Went zs pre k → k < zs.length → nextF zs k = (x.ys, x.q, x.e) → x.e = 0 → Went zs (pre ++ [x]) x.q

theorem frames_in (n : Nat) (hn : 1 ≤ n) (l Bn m c : Nat) (A : Option Addr) (zs : List Int) (hby : ∀ z ∈ zs, 0 ≤ z ∧ z ≤ 255) (hlc : zs.length ≤ c) (hbig : zs.length ≤ 140737488351232) (J Jx : List Tell → World → Prop)
    (hY : ∀ pre x W0 W1, pre.length ≤ zs.length → J pre W0 → Below W0.heap.size W0 W1 → W1.ownsRow W0.heap.size 5 1 (.slice x.A x.ys.length x.c) x.ys.length (nums .u8 x.ys) → YieldAt Fence.wide (n - 1) Try.prog l #[x.val] W1 fun e W' =>
      (e = .returned (.bool true) ∧ J (pre ++ [x]) W' ∧ Below m W1 W' ∧ W'.cell? ⟨Bn, 0, none⟩ = W1.cell? ⟨Bn, 0, none⟩) ∨ (e = .returned (.bool false) ∧ Jx (pre ++ [x]) W'))
    (W : World) (hm : m ≤ W.heap.size) (hB : Bn < W.heap.size) (hBn : W.cell? ⟨Bn, 0, none⟩ = some (.slice A zs.length c)) (hr : Ns .u8 W m A zs) (h0 : J [] W) :
    CallsIn Fence.wide n Try.prog 13 #[.func (.yield l) #[] #[], .pointer (some ⟨Bn, 0, none⟩)] W fun e W' => (∃ v, e = .returned v) ∧
      ((∃ xs, Went zs xs zs.length ∧ J xs W') ∨ (∃ pre x k, Went zs pre k ∧ k < zs.length ∧ nextF zs k = (x.ys, x.q, x.e) ∧ ((J (pre ++ [x]) W' ∧ x.e ≠ 0) ∨ Jx (pre ++ [x]) W'))) := by
  refine callsIn_of_wp Try.func13 rfl trivial ?_ rfl
  simp only [Try.ntmps13, List.size_toArray, List.length_cons, List.length_nil, Nat.reduceAdd, Nat.reduceSub, Array.replicate_succ, Array.replicate_zero, List.push_toArray, List.append_toArray, List.nil_append, List.cons_append]
  gi_wp2
  gi_loopw [3] (fun p wr => ∃ (pre : List Tell) (k : Nat), p = .int .i64 k ∧ k ≤ zs.length ∧ pre.length ≤ k ∧ Went zs pre k ∧ J pre wr ∧ Below m W wr ∧ wr.cell? ⟨Bn, 0, none⟩ = some (.slice A zs.length c))
    (fun p _ => zs.length - (intOf p).toNat)
  case atStart => exact ⟨[], 0, rfl, by omega, by simp, .start, h0, Below.refl _ _, hBn⟩
  case round =>
    obtain ⟨pre, k, rfl, hk, hpl, hw, hJ, hb, hc⟩ := hrel
    by_cases hlt : k < zs.length
    · have d1 : (k : Int) < (zs.length : Int) := by omega
      have hbs := hb.size
      have h1 := next_any A c zs k wr ((hr.below hb).more (by omega)) hby hlc hbig hk
      obtain ⟨⟨Y, q, e⟩, hF⟩ : ∃ r, nextF zs k = r := ⟨_, rfl⟩
      rw [hF] at h1
      have H1 := Lib.hid h1
      have HF := Lib.hid hF
      have HW := Lib.hid hw
      have HY := Lib.hid hY
      have HC := Lib.hid hc
      have HQ : Hid (e = 0 → k + 4 < q ∧ q ≤ zs.length) := Lib.hid fun he => by
        have ho := next_ok hby (by rw [hF, he])
        exact ⟨ho.2.1, ho.2.2.1⟩
      clear h1 hF hw hY hr hby
      gi_wp2_with (first
        | (refine ⟨trivial, ?_⟩; gi_at_call 14; refine (callsIn_wide.2 H1.out).mono ?_; rintro e1 w1 ⟨A1, c1, rfl, o1, b1⟩; obtain ⟨fn, tmps, assign, body, hy, hR⟩ := HY.out pre ⟨A1, c1, Y, q, e⟩ wr w1 (by omega) hJ b1 o1; simp only [Tell.val] at hy hR; have B1 := Lib.hid (hb.trans (b1.mono (by omega))); have C1 := Lib.hid ((b1.cell (p := ⟨Bn, 0, none⟩) (by simp only; omega)).trans HC.out); clear o1 b1 hc))
      refine hR.mono ?_
      rintro e2 W3 (⟨rfl, hJ3, hk3, hc3⟩ | ⟨rfl, hJx3⟩)
      · have B3 := Lib.hid (B1.out.trans hk3)
        have J3 := Lib.hid hJ3
        have C3 := hc3.trans C1.out
        clear hk3 hJ3 hJ hb hy hR hc3
        by_cases he : e = 0
        · obtain ⟨hq1, hq2⟩ := HQ.out he
          have hw' := Went.more (x := ⟨A1, c1, Y, q, e⟩) HW.out hlt HF.out he
          have HW' := Lib.hid hw'
          subst he
          clear hw'
          gi_wp2
          go_roundw
          case rel => exact ⟨_, q, rfl, hq2, by simp; omega, HW'.out, J3.out, B3.out, C3⟩
          case measure => simp only [intOf]; omega
        · have hb0 : (e == 0) = false := by simpa using he
          have He := Lib.hid he
          clear he
          gi_wp2
          refine bodyPost_ret (results_none rfl _ _ _) rfl ?_
          exact ⟨⟨_, rfl⟩, .inr ⟨pre, ⟨A1, c1, Y, q, e⟩, k, HW.out, hlt, HF.out, .inl ⟨J3.out, He.out⟩⟩⟩
      · have J3 := Lib.hid hJx3
        clear hJx3 hJ hb hy hR
        gi_wp2
        refine bodyPost_ret (results_none rfl _ _ _) rfl ?_
        exact ⟨⟨_, rfl⟩, .inr ⟨pre, ⟨A1, c1, Y, q, e⟩, k, HW.out, hlt, HF.out, .inr J3.out⟩⟩
    · have hk0 : k = zs.length := by omega
      subst hk0
      have HW := Lib.hid hw
      clear hw hY hr hby
      gi_wp2
      go_end0
      exact ⟨⟨_, rfl⟩, .inl ⟨pre, HW.out, hJ⟩⟩
end Frm
end Go.Proofs.Ytgiojcjnljmaiaa
