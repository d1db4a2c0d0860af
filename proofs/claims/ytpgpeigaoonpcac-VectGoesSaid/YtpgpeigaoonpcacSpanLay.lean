/-
  span.lay puts a span behind those laid.
-/
import Derived.Test.YtpgpeigaoonpcacSpanReads
namespace Go.Proofs.Ytpgpeigaoonpcac
namespace Span
open Go.RowKit
attribute [local go_sem ↓] Go.wp_at_zero Go.wp_at_succ

theorem info_span : ∃ i, Try.prog.info? 50 = some i ∧ i.zero = some (.agg #[.int .i64 0, .int .i64 0, .int .i64 0]) ∧ i.size = 3 ∧ i.bytes = 24 := by
  have h : (Try.prog.info? 50).map (fun i => (i.zero, i.size, i.bytes)) = some (some (.agg #[.int .i64 0, .int .i64 0, .int .i64 0]), 3, 24) := by kernel_rfl
  obtain ⟨i, h1, h2⟩ := Option.map_eq_some_iff.1 h
  simp only [Prod.mk.injEq] at h2
  exact ⟨i, h1, h2.1, h2.2.1, h2.2.2⟩

/-- The slice l, made at or behind base; nothing below base has turned. -/
def GotSs (base : Nat) (l : List Sp) (w : World) (r : Ending) (w' : World) : Prop :=
  ∃ A c, r = .returned (.slice A l.length c) ∧ w'.ownsRow base 50 3 (.slice A l.length c) l.length (sps l) ∧ Below base w w'

theorem sps_set_last (l : List Sp) (z : Sp) (t : Int) : (sps (l ++ [z])).set (l.length * 3 + 2) (.int .i64 t) = sps (l ++ [(z.1, z.2.1, t)]) := by
  rw [sps_append, sps_append, sps_one, sps_one, List.set_append_right _ _ (by rw [sps_length]; omega)]
  rw [sps_length, show l.length * 3 + 2 - l.length * 3 = 2 by omega]
  rfl
theorem own_snoc {w : World} {base : Nat} {e : TypeId} {A : Option Addr} {c n : Nat} {l : List Sp} {z : Sp} (h : w.ownsRow base e 3 (.slice A n c) (l ++ [z]).length (sps (l ++ [z]))) :
    ∃ g, A = some ⟨g, 0, none⟩ ∧ base ≤ g ∧ g < w.heap.size ∧ w.cell? ⟨g, l.length * 3, none⟩ = some (.int .i64 z.1) ∧ w.cell? ⟨g, l.length * 3 + 1, none⟩ = some (.int .i64 z.2.1) ∧ w.cell? ⟨g, l.length * 3 + 2, none⟩ = some (.int .i64 z.2.2) ∧ ∀ j, w.frozen? ⟨g, j, none⟩ = false := by
  have hs := own_ss h
  obtain ⟨b, off, hA, hb, hc⟩ := hs (by simp)
  have h2 := hc l.length (by simp)
  rcases h.2 with ⟨_, h0⟩ | ⟨g, cap, cur, hv, hbg, hg, hn, hcm, hcs, htake⟩
  · simp at h0
  · injection hv with h1 _ h3
    rw [h1] at hA
    injection hA with hA
    injection hA with e1 e2
    subst e1
    subst e2
    have hz : (l ++ [z]).getD l.length (0, 0, 0) = z := by simp [List.getD_eq_getElem?_getD]
    rw [hz] at h2
    simp only [Nat.zero_add] at h2
    exact ⟨g, h1, hbg, (Array.getElem?_eq_some_iff.1 hg).1, h2.1, h2.2.1, h2.2.2, fun j => by simp [World.frozen?, hg]⟩

set_option maxHeartbeats 1000000 in
theorem lay_any (base : Nat) (A : Option Addr) (c n : Nat) (out : List Sp) (hn : out.length = n) (s : Sp) (hs : 1 ≤ s.2.1 ∧ s.2.1 ≤ 9223372036854775807) (w : World) (hbase : base ≤ w.heap.size)
    (ho : w.ownsRow base 50 3 (.slice A n c) out.length (sps out)) (hbig : n ≤ 4294967296) :
    Calls Try.prog 25 #[.slice A n c, .agg #[.int .i64 s.1, .int .i64 s.2.1, .int .i64 s.2.2]] w (GotSs base (layF out s) w) := by
  obtain ⟨info, hi, hz, hsize, hby⟩ := info_span
  have hap := fun z W => apart_is z s W hs
  obtain ⟨s0, s1, s2⟩ := s
  simp only at hs hap ⊢
  rcases List.eq_nil_or_concat out with rfl | ⟨l, z, rfl⟩
  · have hn0 : n = 0 := by rw [← hn]; rfl
    subst hn0
    rw [lay_nil]
    have HI := Lib.hid (And.intro hi (And.intro hz (And.intro hsize hby)))
    have HO := Lib.hid ho
    have g0 : decide ((-1 : Int) < 0) = true := rfl
    clear hap ho hi hz hsize hby hn
    go_enter Try.func25, Try.ntmps25
    go_wp2
    go_quiet (fail)
    obtain ⟨W, hW⟩ : ∃ W, ((w.alloc (.cells #[.int .i64 s0, .int .i64 s1, .int .i64 s2] 50)).drewN nq) = W := ⟨_, rfl⟩
    have oW : W.ownsRow base 50 3 (.slice A 0 c) 0 (sps []) := by rw [← hW]; exact (HO.out.alloc _)
    have bW : Below base w W := by rw [← hW]; exact ((Below.refl _ w).alloc hbase _).trans (below_drewN _ _ _)
    have cW : W.cell? ⟨w.heap.size, 0, none⟩ = some (.int .i64 s0) ∧ W.cell? ⟨w.heap.size, 1, none⟩ = some (.int .i64 s1) ∧ W.cell? ⟨w.heap.size, 2, none⟩ = some (.int .i64 s2) := by
      rw [← hW]
      exact ⟨(World.cell?_drewN _ _ _).trans (by simp), (World.cell?_drewN _ _ _).trans (by simp), (World.cell?_drewN _ _ _).trans (by simp)⟩
    have sW : base ≤ W.heap.size := Nat.le_trans hbase bW.size
    rw [hW]
    clear hW
    obtain ⟨q0, q1, q2⟩ := cW
    have OW := Lib.hid oW
    clear oW HO
    go_wp2_with (at_builtin; refine wpList_append_sp _ rfl _ _ _ rfl base 50 info _ 24 Try.underlying27 HI.out.1 HI.out.2.1 HI.out.2.2.1 HI.out.2.2.2 rfl _ 0 [] rfl OW.out (s0, s1, s2) 1 rfl (by omega) (by omega) sW ?_; intro v' w' o' g' _; obtain ⟨A', c', rfl⟩ := own_form o')
    go_ret
    exact ⟨A', c', rfl, o', bW.grown g' sW (fun g hg => (OW.out.lt g hg).1)⟩
  · rw [List.concat_eq_append] at hn ho ⊢
    obtain ⟨R, hR⟩ : ∃ R, layF (l ++ [z]) (s0, s1, s2) = R := ⟨_, rfl⟩
    rw [hR]
    rw [lay_snoc] at hR
    have HR := Lib.hid hR
    clear hR
    have hn1 : n = l.length + 1 := by rw [← hn]; simp
    clear hn
    subst hn1
    obtain ⟨g, rfl, hbg, hgw, c0, c1, c2, hfz⟩ := own_snoc ho
    rw [show (l ++ [z]).length = l.length + 1 by simp] at ho
    have hX := hap z
    obtain ⟨q, hq⟩ : ∃ q, decide (apart z (s0, s1, s2)) = q := ⟨_, rfl⟩
    rw [hq] at hX
    have HX := Lib.hid hX
    have HI := Lib.hid (And.intro hi (And.intro hz (And.intro hsize hby)))
    have HO := Lib.hid ho
    have d0 : (w.alloc (.cells #[.int .i64 s0, .int .i64 s1, .int .i64 s2] 50)).cell? ⟨g, l.length * 3, none⟩ = some (.int .i64 z.1) := (World.cell?_alloc_lt w _ _ hgw).trans c0
    have d1 : (w.alloc (.cells #[.int .i64 s0, .int .i64 s1, .int .i64 s2] 50)).cell? ⟨g, l.length * 3 + 1, none⟩ = some (.int .i64 z.2.1) := (World.cell?_alloc_lt w _ _ hgw).trans c1
    have d2 : (w.alloc (.cells #[.int .i64 s0, .int .i64 s1, .int .i64 s2] 50)).cell? ⟨g, l.length * 3 + 2, none⟩ = some (.int .i64 z.2.2) := (World.cell?_alloc_lt w _ _ hgw).trans c2
    have q0 : (w.alloc (.cells #[.int .i64 s0, .int .i64 s1, .int .i64 s2] 50)).cell? ⟨w.heap.size, 0, none⟩ = some (.int .i64 s0) := by simp
    have q1 : (w.alloc (.cells #[.int .i64 s0, .int .i64 s1, .int .i64 s2] 50)).cell? ⟨w.heap.size, 1, none⟩ = some (.int .i64 s1) := by simp
    have q2 : (w.alloc (.cells #[.int .i64 s0, .int .i64 s1, .int .i64 s2] 50)).cell? ⟨w.heap.size, 2, none⟩ = some (.int .i64 s2) := by simp
    have oA := ho.alloc (.cells #[.int .i64 s0, .int .i64 s1, .int .i64 s2] 50)
    have bA := (Below.refl base w).alloc hbase (.cells #[.int .i64 s0, .int .i64 s1, .int .i64 s2] 50)
    have sA : w.heap.size < (w.alloc (.cells #[.int .i64 s0, .int .i64 s1, .int .i64 s2] 50)).heap.size := by simp
    obtain ⟨W, hW⟩ : ∃ W, w.alloc (.cells #[.int .i64 s0, .int .i64 s1, .int .i64 s2] 50) = W := ⟨_, rfl⟩
    rw [hW] at d0 d1 d2 q0 q1 q2 oA bA sA
    obtain ⟨z0, z1, z2⟩ := z
    simp only at d0 d1 d2
    have k0 : ((l.length : Int) + 1 - 1).toNat = l.length := by omega
    have k1 : ((l.length : Int) + 1 - 1) = (l.length : Int) := by omega
    have k2 : IntKind.i64.wrap ((l.length : Int) + 1 - 1) = (l.length : Int) := by rw [k1]; exact IntWalk.i64_in _ (by omega)
    have k3 : decide ((l.length : Int) < 0) = false := decide_eq_false (by omega)
    have k4 : (0 : Int) ≤ (l.length : Int) := by omega
    have k5 : (l.length : Int) < (l.length : Int) + 1 := by omega
    have k6 : l.length < l.length + 1 := by omega
    clear hap ho hi hz hsize hby c0 c1 c2 hX
    have OA := Lib.hid oA
    clear oA
    obtain ⟨m, hm⟩ : ∃ m, l.length = m := ⟨_, rfl⟩
    have HM := Lib.hid hm
    rw [hm] at hbig d0 d1 d2 k0 k1 k2 k3 k4 k5 k6
    rw [hm] at HO OA ⊢
    go_enter Try.func25, Try.ntmps25
    go_wp2
    have hgW : g < W.heap.size := by omega
    go_region_held3 (fun W' => W'.cell? ⟨g, m * 3, none⟩ = some (.int .i64 z0) ∧ W'.cell? ⟨g, m * 3 + 1, none⟩ = some (.int .i64 z1) ∧ W'.cell? ⟨g, m * 3 + 2, none⟩ = some (.int .i64 z2) ∧
        W'.cell? ⟨w.heap.size, 0, none⟩ = some (.int .i64 s0) ∧ W'.cell? ⟨w.heap.size, 1, none⟩ = some (.int .i64 s1) ∧ W'.cell? ⟨w.heap.size, 2, none⟩ = some (.int .i64 s2)) (first
        | exact ⟨d0, d1, d2, q0, q1, q2⟩
        | exact ⟨cell_below b1 hgW d0, cell_below b1 hgW d1, cell_below b1 hgW d2, cell_below b1 sA q0, cell_below b1 sA q1, cell_below b1 sA q2⟩)
      (first | (go_at_call 26; refine (HX.out _).mono ?_; rintro e w1 ⟨rfl, b1⟩))
    have e0 := cell_below b1 hgW d0
    have e1 := cell_below b1 hgW d1
    have e2 := cell_below b1 hgW d2
    have f0 := cell_below b1 sA q0
    have f1 := cell_below b1 sA q1
    have f2 := cell_below b1 sA q2
    have bW := bA.drew.trans (Below.mono b1 (Nat.le_trans hbase (Nat.le_of_lt sA)))
    have oW := Lib.hid (own_below (w := W.drew) OA.out b1 (Nat.le_refl _))
    have sW : base ≤ w1.heap.size := Nat.le_trans (Nat.le_trans hbase (Nat.le_of_lt sA)) b1.size
    clear d0 d1 d2 q0 q1 q2 OA HO HX b1 bA hW sA hgW
    cases q
    · have hR := HR.out
      rw [if_neg (of_decide_eq_false hq)] at hR
      have HR2 := Lib.hid hR
      have h2 : w1.drew.cell? ⟨g, m * 3 + 2, none⟩ = some (.int .i64 z2) := e2
      have h3 : w1.drew.cell? ⟨w.heap.size, 2, none⟩ = some (.int .i64 s2) := f2
      have h4 : w1.drew.frozen? ⟨g, m * 3 + 2, none⟩ = false := oW.out.frozenAt _
      have hst := Lib.hid (fun t => (oW.out.stored (m * 3 + 2) (.int .i64 t)).1)
      have hbl := Lib.hid (fun t => bW.setCell (p := ⟨g, m * 3 + 2, none⟩) hbg (.int .i64 t))
      clear e0 e1 e2 f0 f1 f2 HR hR oW HI
      go_wp2
      go_region_with (fail)
      all_goals
        have hmx : (if z2 < s2 then s2 else z2) = max z2 s2 := by split <;> omega
        rw [hmx]
        obtain ⟨x, hx⟩ : ∃ x, max z2 s2 = x := ⟨_, rfl⟩
        rw [hx]
        have HX := Lib.hid hx
        clear hmx hx
        go_wp2
        go_ret
        have ho := hst.out x
        have hb := (hbl.out x).drew
        rw [show m * 3 + 2 = l.length * 3 + 2 by rw [HM.out], sps_set_last] at ho
        rw [HM.out] at ho
        rw [← HR2.out, HX.out]
        have hl : (l ++ [(z0, z1, x)]).length = m + 1 := by simp [HM.out]
        exact ⟨some ⟨g, 0, none⟩, c, by rw [hl]; rfl, by rw [hl]; exact ho, hb⟩
    · have hR := HR.out
      rw [if_pos (of_decide_eq_true hq)] at hR
      have HR2 := Lib.hid hR
      clear e0 e1 e2 HR hR
      go_wp2_with (at_builtin; refine wpList_append_sp _ rfl _ _ _ rfl base 50 info _ 24 Try.underlying27 HI.out.1 HI.out.2.1 HI.out.2.2.1 HI.out.2.2.2 rfl _ (m + 1) (l ++ [(z0, z1, z2)]) rfl oW.out (s0, s1, s2) 1 rfl (by omega) (by omega) sW ?_; intro v' w' o' g' _; obtain ⟨A', c', rfl⟩ := own_form o')
      go_ret
      rw [← HR2.out]
      have hl : (l ++ [(z0, z1, z2)] ++ [(s0, s1, s2)]).length = m + 1 + 1 := by simp [HM.out]
      exact ⟨A', c', by rw [hl]; rfl, by rw [hl]; exact o', bW.grown g' sW (fun g hg => (oW.out.lt g hg).1)⟩
end Span
end Go.Proofs.Ytpgpeigaoonpcac
