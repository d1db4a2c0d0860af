/-
  gather.Spans, told: the spans of all dots of lists.
-/
import Derived.Test.YthiiganfoecmnaaGatherCat
namespace Go.Proofs.Ythiiganfoecmnaa
namespace Vers
open Go.RowKit Span
attribute [local go_sem ↓] Go.wp_at_zero Go.wp_at_succ

theorem ins_none (p : Option Addr) (cap : Nat) (fv : Value) (w : World) :
    Calls Try.prog 66 #[.slice p 0 cap, .int .i64 0, .int .i64 0, fv] w fun e w' => e = .returned (.tuple #[]) ∧ w' = w := by
  go_enter Try.func66, Try.ntmps66
  go_wp2
  refine wp_loop_rounds 1 ?_
  rw [rounds_succ]
  go_wp2
  go_end0
  exact ⟨rfl, rfl⟩
theorem pdq_none (p : Option Addr) (cap : Nat) (lim : Int) (fv : Value) (w : World) :
    Calls Try.prog 64 #[.slice p 0 cap, .int .i64 0, .int .i64 0, .int .i64 lim, fv] w fun e w' => e = .returned (.tuple #[]) ∧ w' = w := by
  go_enter Try.func64, Try.ntmps64
  go_wp2
  refine wp_loop_rounds 1 ?_
  rw [rounds_succ]
  go_wp2_with (refine (ins_none _ _ _ _).mono ?_; rintro e w' ⟨rfl, rfl⟩)
  (try simp only [Exit.inBlock, Exit.then]); refine bodyPost_ret (results_none rfl _ _ _) rfl ?_
  exact ⟨rfl, rfl⟩
theorem sort_none (p : Option Addr) (cap : Nat) (fv : Value) (w : World) :
    Calls Try.prog 59 #[.slice p 0 cap, fv] w fun e w' => e = .returned (.tuple #[]) ∧ w' = w := by
  have hl : ∀ W, Calls Try.prog 65 #[.int .u64 0] W fun e w' => e = .returned (.int .i64 (Lib.bitLen 0 : Nat)) ∧ w' = W := fun W => Any.bits_Len (SlLaysF0.n15.bits (P := Try.prog) (ρ := Try.sortSpan_ren) { Try.sortSpan with }) 0 W (by omega) (by omega)
  go_enter Try.func59, Try.ntmps59
  go_wp2_with (first
    | (go_at_call 65; refine (hl _).mono ?_; rintro e w' ⟨rfl, rfl⟩)
    | (go_at_call 64; refine (pdq_none _ _ _ _ _).mono ?_; rintro e w' ⟨rfl, rfl⟩))
  go_end0
  exact ⟨rfl, rfl⟩

/-- The sort of a row of the call's own, nil too. -/
theorem gsort_all (A : Option Addr) (c n base : Nat) (l : List Sp) (hn : l.length = n) (w : World) (ho : w.ownsRow base 46 3 (.slice A n c) n (sps l)) (hn2 : n < 4611686018427387904) :
    Calls Try.prog 59 #[.slice A n c, .func (.func 60) #[] #[]] w fun e w' => e = .returned (.tuple #[]) ∧ ∃ l', Hid (l'.Perm l ∧ l'.Pairwise leS) ∧ Ss w' w'.heap.size A l' ∧ Below base w w' := by
  have ho' := ho
  rcases ho.2 with ⟨hv, h0⟩ | ⟨g, cap, cur, hv, hbg, hg, _⟩
  · injection hv with h1 h2 h3
    subst h1 h2 h3
    obtain rfl : l = [] := List.eq_nil_of_length_eq_zero hn
    refine Calls.mono (sort_none none 0 _ w) ?_
    rintro e w' ⟨rfl, rfl⟩
    exact ⟨rfl, [], Lib.hid ⟨List.Perm.refl _, List.Pairwise.nil⟩, Ss.nil _, Below.refl _ _⟩
  · injection hv with h1 h2 h3
    subst h1 h3
    refine Calls.mono (gsort_any g c n base l hn w ho' hn2) ?_
    rintro e w' ⟨he, l', h1, h2, h3⟩
    refine ⟨he, l', h1, fun _ => ⟨g, 0, rfl, Nat.lt_of_lt_of_le (ho'.lt g rfl).2 h3.size, fun j hj => ?_⟩, h3⟩
    rw [Nat.zero_add]
    exact h2 j hj

/-- Behind i of the sorted spans. -/
def Gath (D : List Sp) (i : Nat) (out : List Sp) : Prop := Fine out ∧ (∀ t n, Span.mem out t n ↔ Span.mem (D.take i) t n) ∧ out.length ≤ i ∧ ∀ u ∈ D.drop i, ∀ z ∈ out, starts z u
theorem gath_start (D : List Sp) : Gath D 0 [] := ⟨⟨by simp, List.Pairwise.nil⟩, fun t n => Iff.rfl, Nat.le_refl _, by simp⟩
theorem gath_step {D out : List Sp} {i : Nat} {x : Sp} (hi : i < D.length) (hx : D.getD i (0, 0, 0) = x) (hok : okSp x) (hs : D.Pairwise leS) (h : Gath D i out) : Gath D (i + 1) (layF out x) := by
  obtain ⟨h1, h2, h3, h4⟩ := h
  have hd := drop_one hi hx
  rw [hd] at h4
  obtain ⟨g1, g2, g3, g4⟩ := lay_fine h1 hok (h4 x (by simp))
  refine ⟨g1, fun t n => ?_, by omega, fun u hu z hz => g4 u (h4 u (by simp [hu])) ?_ z hz⟩
  · rw [g2, take_one hi hx, mem_append, mem_one, h2]
  · have hp := hs
    rw [← List.take_append_drop i D, hd, List.pairwise_append, List.pairwise_cons] at hp
    exact hp.2.1.1 u hu
/-- What gather.Spans tells. -/
def Gathered (l : List Sp) (w : World) (e : Ending) (w' : World) : Prop := ∃ r, Hid (Fine r ∧ (∀ t n, Span.mem r t n ↔ Span.mem l t n) ∧ r.length ≤ l.length) ∧ MadeSp r w e w'
def Gathing (D : List Sp) (base : Nat) (W : World) (i : Nat) (ov : Value) (wr : World) : Prop :=
  ∃ (m : Nat) (Al : Option Addr) (cl : Nat) (out : List Sp), ov = .slice Al m cl ∧ m ≤ i ∧ Hid (out.length = m ∧ Gath D i out ∧ wr.ownsRow base 46 3 (.slice Al m cl) m (sps out)) ∧ Hid (Below base W wr)

set_option maxRecDepth 100000 in
set_option maxHeartbeats 2000000 in
theorem spans_any (A : Option Addr) (c n : Nat) (ls : List (List Sp)) (hn : ls.length = n) (hok : ∀ x ∈ ls.flatten, okSp x) (w : World) (hr : Lss w w.heap.size A ls) (hlc : n ≤ c) (hbig : ls.flatten.length * 24 ≤ 4294967296) (hn2 : n ≤ 140737488355328) :
    Calls Try.prog 46 #[.slice A n c] w (Gathered ls.flatten w) := by
  have HC := Lib.hid (concat_any A c n ls hn w hr hlc (by omega) hn2)
  obtain ⟨F, hF⟩ : ∃ F, ls.flatten = F := ⟨_, rfl⟩
  rw [hF] at HC hok hbig ⊢
  obtain ⟨N, hN⟩ : ∃ N, F.length = N := ⟨_, rfl⟩
  have HOK := Lib.hid (And.intro hok hN)
  rw [hN] at hbig
  obtain ⟨info, hi0, hz, hsize, hby⟩ := info_span
  have HI := Lib.hid (And.intro hi0 (And.intro hz (And.intro hsize hby)))
  clear hr hn hok hF hN hi0 hz hsize hby
  go_enter Try.func46, Try.ntmps46
  go_wp2_with fail
  refine HC.out.mono ?_
  rintro e w1 ⟨A1, c1, rfl, o1, b1⟩
  have HS := Lib.hid (gsort_all A1 c1 F.length w.heap.size F rfl w1 o1 (by have := HOK.out.2; omega))
  have B1 := Lib.hid b1
  rw [HOK.out.2] at HS ⊢
  clear o1 b1 HC
  go_wp2_with fail
  refine HS.out.mono ?_
  rintro e w2 ⟨rfl, D, hperm, hss, b2⟩
  obtain ⟨base, hbase⟩ : ∃ base, w2.heap.size = base := ⟨_, rfl⟩
  have HD : Hid (D.length = N ∧ (∀ x ∈ D, okSp x) ∧ D.Pairwise leS ∧ (∀ t n, Span.mem D t n ↔ Span.mem F t n) ∧ Ss w2 base A1 D ∧ Below w.heap.size w w2 ∧ w2.heap.size = base) := Lib.hid ⟨by rw [hperm.out.1.length_eq, HOK.out.2], fun x hx => HOK.out.1 x (hperm.out.1.mem_iff.1 hx), hperm.out.2, fun t n => by
    unfold Span.mem
    constructor
    · rintro ⟨x, hx, h⟩
      exact ⟨x, hperm.out.1.mem_iff.1 hx, h⟩
    · rintro ⟨x, hx, h⟩
      exact ⟨x, hperm.out.1.mem_iff.2 hx, h⟩, by rw [← hbase]; exact hss, B1.out.trans b2, hbase⟩
  have HST : Hid (Gathing D base w2 0 (.slice none 0 0) w2) := Lib.hid ⟨0, none, 0, [], rfl, Nat.le_refl _, Lib.hid ⟨rfl, gath_start D, World.ownsRow_nil _ _ _ _⟩, Lib.hid (Below.refl _ _)⟩
  clear hperm hss b2 B1 HS hbase
  go_wp2_with fail
  go_loopw [4, 14] (fun ov iv wr => ∃ i : Nat, iv = .int .i64 i ∧ i ≤ N ∧ Gathing D base w2 i ov wr) (fun _ iv _ => N - (intOf iv).toNat)
  case atStart => exact ⟨0, rfl, by omega, HST.out⟩
  case round =>
    clear HST
    obtain ⟨i, rfl, hi, hrel⟩ := hrel
    by_cases hlt : i < N
    · obtain ⟨m, Al, cl, out, rfl, hm, hH, hb⟩ := hrel
      have hiD : i < D.length := by have := HD.out.1; omega
      obtain ⟨x, hx⟩ : ∃ x, D.getD i (0, 0, 0) = x := ⟨_, rfl⟩
      have hox := HD.out.2.1 x (getD_mem hiD hx)
      have hgs := gath_step hiD hx hox HD.out.2.2.1 hH.out.2.1
      have hsx := hH.out.2.1.2.2.2 x (by rw [drop_one hiD hx]; simp)
      obtain ⟨pb, off, rfl, hpb, hc⟩ := (HD.out.2.2.2.2.1.below hb.out) (by omega)
      obtain ⟨c0, c1, c2⟩ := hc i hiD
      rw [hx] at c0 c1 c2
      obtain ⟨s0, s1, s2⟩ := x
      unfold okSp at hox
      simp only at c0 c1 c2 hox
      obtain ⟨ho0, ho1, ho2, ho3, ho4⟩ := hox
      have hbs : base ≤ wr.heap.size := by have h1 := hb.out.size; have h2 := HD.out.2.2.2.2.2.2; omega
      have HBS := Lib.hid hbs
      have q0 : (wr.alloc (.cells #[.int .i64 s0, .int .i64 s1, .int .i64 s2] 46)).cell? ⟨wr.heap.size, 0, none⟩ = some (.int .i64 s0) := by simp
      have q1 : (wr.alloc (.cells #[.int .i64 s0, .int .i64 s1, .int .i64 s2] 46)).cell? ⟨wr.heap.size, 1, none⟩ = some (.int .i64 s1) := by simp
      have q2 : (wr.alloc (.cells #[.int .i64 s0, .int .i64 s1, .int .i64 s2] 46)).cell? ⟨wr.heap.size, 2, none⟩ = some (.int .i64 s2) := by simp
      have e1 : (i : Int) < (N : Int) := by omega
      have e2 : (0 : Int) ≤ (i : Int) := by omega
      have HGS := Lib.hid hgs
      have bA := (Below.refl base wr).alloc hbs (.cells #[.int .i64 s0, .int .i64 s1, .int .i64 s2] 46)
      rcases List.eq_nil_or_concat out with rfl | ⟨l, z, rfl⟩
      · have hm0 : m = 0 := by have := hH.out.1; simpa using this.symm
        subst hm0
        have oA := hH.out.2.2.alloc (.cells #[.int .i64 s0, .int .i64 s1, .int .i64 s2] 46)
        have HOA := Lib.hid (And.intro oA bA)
        clear oA bA hH hgs hsx hbs hc hx
        go_wp2_with fail
        go_quiet (fail)
        obtain ⟨W, hW⟩ : ∃ W, ((wr.alloc (.cells #[.int .i64 s0, .int .i64 s1, .int .i64 s2] 46)).drewN nq) = W := ⟨_, rfl⟩
        have HW : Hid (W.ownsRow base 46 3 (.slice Al 0 cl) 0 (sps []) ∧ Below base wr W ∧ base ≤ W.heap.size) := Lib.hid (by
          subst hW
          exact ⟨own_below HOA.out.1 (below_drewN _ _ _) (Nat.le_refl _), HOA.out.2.trans (below_drewN _ _ _), Nat.le_trans HBS.out (by simp)⟩)
        have cW : W.cell? ⟨wr.heap.size, 0, none⟩ = some (.int .i64 s0) ∧ W.cell? ⟨wr.heap.size, 1, none⟩ = some (.int .i64 s1) ∧ W.cell? ⟨wr.heap.size, 2, none⟩ = some (.int .i64 s2) := by
          rw [← hW]
          exact ⟨(World.cell?_drewN _ _ _).trans (by simp), (World.cell?_drewN _ _ _).trans (by simp), (World.cell?_drewN _ _ _).trans (by simp)⟩
        obtain ⟨r0, r1, r2⟩ := cW
        rw [hW]
        clear hW q0 q1 q2 HOA
        go_wp2_with (at_builtin; refine wpList_append_sp _ rfl _ _ _ rfl base 46 info _ 24 Try.underlying26 HI.out.1 HI.out.2.1 HI.out.2.2.1 HI.out.2.2.2 rfl _ 0 [] rfl HW.out.1 (s0, s1, s2) 1 rfl (by omega) (by omega) HW.out.2.2 ?_; intro v' w' o' g' _; obtain ⟨A', c', rfl⟩ := own_form o')
        exact ⟨⟨i + 1, rfl, by omega, 1, A', c', [(s0, s1, s2)], rfl, by omega, Lib.hid ⟨rfl, HGS.out, o'⟩, Lib.hid ((hb.out.trans HW.out.2.1).grown g' HW.out.2.2 (fun r hr => (HW.out.1.lt r hr).1))⟩, by simp only [intOf]; omega⟩
      · rw [List.concat_eq_append] at hH hsx hgs HGS
        have hml : m = l.length + 1 := by have := hH.out.1; simpa using this.symm
        subst hml
        obtain ⟨z0, z1, z2⟩ := z
        have hz := hsx (z0, z1, z2) (by simp)
        have hrow := hH.out.2.2
        have hrow2 := hrow
        rw [show l.length + 1 = (l ++ [(z0, z1, z2)]).length by simp] at hrow2
        obtain ⟨g, rfl, hbg, hgw, y0, y1, y2, hfz⟩ := own_snoc hrow2
        unfold starts at hz
        simp only at hz y0 y1 y2
        have d0 : (wr.alloc (.cells #[.int .i64 s0, .int .i64 s1, .int .i64 s2] 46)).cell? ⟨g, l.length * 3, none⟩ = some (.int .i64 z0) := (World.cell?_alloc_lt wr _ _ hgw).trans y0
        have d1 : (wr.alloc (.cells #[.int .i64 s0, .int .i64 s1, .int .i64 s2] 46)).cell? ⟨g, l.length * 3 + 1, none⟩ = some (.int .i64 z1) := (World.cell?_alloc_lt wr _ _ hgw).trans y1
        have d2 : (wr.alloc (.cells #[.int .i64 s0, .int .i64 s1, .int .i64 s2] 46)).cell? ⟨g, l.length * 3 + 2, none⟩ = some (.int .i64 z2) := (World.cell?_alloc_lt wr _ _ hgw).trans y2
        have oA := hrow.alloc (.cells #[.int .i64 s0, .int .i64 s1, .int .i64 s2] 46)
        have hlD : l.length < N := by omega
        have hlay := lay_snoc l (z0, z1, z2) (s0, s1, s2)
        obtain ⟨q, hq⟩ : ∃ q, l.length = q := ⟨_, rfl⟩
        rw [hq] at d0 d1 d2 hm hlD
        have HQ := Lib.hid hq
        have k0 : ((q : Int) + 1 - 1).toNat = q := by omega
        have k1 : ((q : Int) + 1 - 1) = (q : Int) := by omega
        have k2 : IntKind.i64.wrap ((q : Int) + 1 - 1) = (q : Int) := by rw [k1]; exact IntWalk.i64_in _ (by omega)
        have k3 : decide (0 ≤ (q : Int)) = true := decide_eq_true (by omega)
        have k4 : (0 : Int) ≤ (q : Int) := by omega
        have k5 : (q : Int) < (q : Int) + 1 := by omega
        have k6 : q < q + 1 := by omega
        have HOA : Hid ((wr.alloc (.cells #[.int .i64 s0, .int .i64 s1, .int .i64 s2] 46)).ownsRow base 46 3 (.slice (some ⟨g, 0, none⟩) (q + 1) cl) (q + 1) (sps (l ++ [(z0, z1, z2)])) ∧ Below base wr (wr.alloc (.cells #[.int .i64 s0, .int .i64 s1, .int .i64 s2] 46))) := Lib.hid ⟨by rw [← hq]; exact oA, bA⟩
        have key : ∀ W, (∃ nq, (wr.alloc (.cells #[.int .i64 s0, .int .i64 s1, .int .i64 s2] 46)).drewN nq = W) →
            W.ownsRow base 46 3 (.slice (some ⟨g, 0, none⟩) (q + 1) cl) (q + 1) (sps (l ++ [(z0, z1, z2)])) ∧ Below base wr W ∧ base ≤ W.heap.size ∧ W.cell? ⟨wr.heap.size, 0, none⟩ = some (.int .i64 s0) ∧ W.cell? ⟨wr.heap.size, 1, none⟩ = some (.int .i64 s1) ∧ W.cell? ⟨wr.heap.size, 2, none⟩ = some (.int .i64 s2) ∧ W.cell? ⟨g, q * 3 + 2, none⟩ = some (.int .i64 z2) := by
          rintro W ⟨nq, rfl⟩
          exact ⟨own_below HOA.out.1 (below_drewN _ _ _) (Nat.le_refl _), HOA.out.2.trans (below_drewN _ _ _), Nat.le_trans HBS.out (by simp), (World.cell?_drewN _ _ _).trans q0, (World.cell?_drewN _ _ _).trans q1, (World.cell?_drewN _ _ _).trans q2, (World.cell?_drewN _ _ _).trans d2⟩
        have KEY := Lib.hid key
        rw [hq]
        by_cases hap : apart (z0, z1, z2) (s0, s1, s2)
        · rw [if_pos hap] at hlay
          rw [hlay] at HGS
          have hcs : ¬ z0 = s0 ∨ (z0 = s0 ∧ ¬ s1 - 1 ≤ z2) := by unfold apart at hap; simp only at hap; omega
          clear oA bA hH hgs hsx hbs hc hx hz hrow hrow2 y0 y1 y2 hap hlay key hq
          rcases hcs with hcs | ⟨rfl, hcs⟩
          · have g0 : (z0 == s0) = false := by simpa using hcs
            go_wp2_with fail
            go_quiet (fail)
            obtain ⟨W, hW⟩ : ∃ W, ((wr.alloc (.cells #[.int .i64 s0, .int .i64 s1, .int .i64 s2] 46)).drewN nq) = W := ⟨_, rfl⟩
            have HW := Lib.hid (KEY.out W ⟨nq, hW⟩)
            have r0 := HW.out.2.2.2.1
            have r1 := HW.out.2.2.2.2.1
            have r2 := HW.out.2.2.2.2.2.1
            rw [hW]
            clear hW q0 q1 q2 HOA d0 d1 d2
            go_wp2_with (at_builtin; refine wpList_append_sp _ rfl _ _ _ rfl base 46 info _ 24 Try.underlying26 HI.out.1 HI.out.2.1 HI.out.2.2.1 HI.out.2.2.2 rfl _ (q + 1) (l ++ [(z0, z1, z2)]) rfl HW.out.1 (s0, s1, s2) 1 rfl (by omega) (by omega) HW.out.2.2.1 ?_; intro v' w' o' g' _; obtain ⟨A', c', rfl⟩ := own_form o')
            exact ⟨⟨i + 1, rfl, by omega, q + 1 + 1, A', c', l ++ [(z0, z1, z2)] ++ [(s0, s1, s2)], rfl, by omega, Lib.hid ⟨by simp [HQ.out], HGS.out, o'⟩, Lib.hid ((hb.out.trans HW.out.2.1).grown g' HW.out.2.2.1 (fun r hr => (HW.out.1.lt r hr).1))⟩, by simp only [intOf]; omega⟩
          · have g0 : (z0 == z0) = true := by simp
            have g1 : decide (s1 - 1 ≤ z2) = false := decide_eq_false hcs
            go_wp2_with fail
            go_quiet (fail)
            obtain ⟨W, hW⟩ : ∃ W, ((wr.alloc (.cells #[.int .i64 z0, .int .i64 s1, .int .i64 s2] 46)).drewN nq) = W := ⟨_, rfl⟩
            have HW := Lib.hid (KEY.out W ⟨nq, hW⟩)
            have r0 := HW.out.2.2.2.1
            have r1 := HW.out.2.2.2.2.1
            have r2 := HW.out.2.2.2.2.2.1
            rw [hW]
            clear hW q0 q1 q2 HOA d0 d1 d2
            go_wp2_with (at_builtin; refine wpList_append_sp _ rfl _ _ _ rfl base 46 info _ 24 Try.underlying26 HI.out.1 HI.out.2.1 HI.out.2.2.1 HI.out.2.2.2 rfl _ (q + 1) (l ++ [(z0, z1, z2)]) rfl HW.out.1 (z0, s1, s2) 1 rfl (by omega) (by omega) HW.out.2.2.1 ?_; intro v' w' o' g' _; obtain ⟨A', c', rfl⟩ := own_form o')
            exact ⟨⟨i + 1, rfl, by omega, q + 1 + 1, A', c', l ++ [(z0, z1, z2)] ++ [(z0, s1, s2)], rfl, by omega, Lib.hid ⟨by simp [HQ.out], HGS.out, o'⟩, Lib.hid ((hb.out.trans HW.out.2.1).grown g' HW.out.2.2.1 (fun r hr => (HW.out.1.lt r hr).1))⟩, by simp only [intOf]; omega⟩
        · rw [if_neg hap] at hlay
          rw [hlay] at HGS
          have hcs : z0 = s0 ∧ s1 - 1 ≤ z2 := by unfold apart at hap; simp only at hap; omega
          obtain ⟨rfl, hcs⟩ := hcs
          have g0 : (z0 == z0) = true := by simp
          have g1 : decide (s1 - 1 ≤ z2) = true := decide_eq_true hcs
          have HBG := Lib.hid hbg
          clear oA bA hH hgs hsx hbs hc hx hz hrow hrow2 y0 y1 y2 hap hlay key hq hbg
          go_wp2_with fail
          go_quiet (fail)
          obtain ⟨W, hW⟩ : ∃ W, ((wr.alloc (.cells #[.int .i64 z0, .int .i64 s1, .int .i64 s2] 46)).drewN nq) = W := ⟨_, rfl⟩
          have HW := Lib.hid (KEY.out W ⟨nq, hW⟩)
          have r0 := HW.out.2.2.2.1
          have r1 := HW.out.2.2.2.2.1
          have r2 := HW.out.2.2.2.2.2.1
          have r3 := HW.out.2.2.2.2.2.2
          have r4 : W.frozen? ⟨g, q * 3 + 2, none⟩ = false := HW.out.1.frozenAt _
          have hst := Lib.hid (fun t => (HW.out.1.stored (q * 3 + 2) (.int .i64 t)).1)
          have hbl := Lib.hid (fun t => HW.out.2.1.setCell (p := ⟨g, q * 3 + 2, none⟩) HBG.out (.int .i64 t))
          rw [hW]
          clear hW q0 q1 q2 HOA d0 d1 d2
          go_wp2_with fail
          go_region_with (fail)
          all_goals
            obtain ⟨x, hx⟩ : ∃ x, max z2 s2 = x := ⟨_, rfl⟩
            rw [hx]
            have HX := Lib.hid hx
            clear hx
            go_wp2_with fail
            have ho := hst.out x
            have hbx := (hbl.out x).drew
            rw [show q * 3 + 2 = l.length * 3 + 2 by rw [HQ.out], sps_set_last] at ho
            rw [HQ.out] at ho
            exact ⟨⟨i + 1, rfl, by omega, q + 1, some ⟨g, 0, none⟩, cl, l ++ [(z0, z1, x)], rfl, by omega, Lib.hid ⟨by simp [HQ.out], by rw [← HX.out]; exact HGS.out, ho⟩, Lib.hid (hb.out.trans hbx)⟩, by simp only [intOf]; omega⟩
    · have hin : i = N := by omega
      have d1 : ¬ (i : Int) < (N : Int) := by omega
      obtain ⟨m, Al, cl, out, rfl, hm, hH, hb⟩ := hrel
      have HF : Hid (Gathered F w (.returned (.slice Al m cl)) wr) := Lib.hid (by
        obtain ⟨h1, h2, h3⟩ := hH.out
        subst h1
        refine ⟨out, Lib.hid ⟨h2.1, fun t n => ?_, by rw [HOK.out.2]; omega⟩, Al, cl, rfl, ?_, ?_⟩
        · rw [h2.2.1, List.take_of_length_le (by have := HD.out.1; omega)]
          exact HD.out.2.2.2.1 t n
        · exact own_base h3 (by have h1 := HD.out.2.2.2.2.2.1.size; have h2 := HD.out.2.2.2.2.2.2; omega)
        · exact HD.out.2.2.2.2.2.1.trans (hb.out.mono (by have h1 := HD.out.2.2.2.2.2.1.size; have h2 := HD.out.2.2.2.2.2.2; omega)))
      clear hH hb
      go_wp2_with fail
      go_ret
      exact HF.out
end Vers
end Go.Proofs.Ythiiganfoecmnaa
