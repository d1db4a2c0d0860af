/-
  The closure of vers.together: a version is kept behind those that are kept, unless the last one has its dot.
-/
import Derived.Test.YtbhidndgnldheaaVersMergeRef
import Derived.RangeFuncBox
namespace Go.Proofs.Ytbhidndgnldheaa
namespace Vers
open Go.RowKit Span
attribute [local go_sem ↓] Go.wp_at_zero Go.wp_at_succ

/-- The box ab holds a row of versions of the call's own. -/
def Box (base B ab : Nat) (w : World) (ps : List Pv) : Prop := ∃ v, Boxed w ab 47 v ∧ OwnVs base 0 B w v ps

theorem Box.below {base B ab : Nat} {w w' : World} {ps : List Pv} (h : Box base B ab w ps) (hB : B ≤ w.heap.size) (hb : Below w.heap.size w w') : Box base B ab w' ps := by
  obtain ⟨v, h1, h2⟩ := h
  exact ⟨v, (hb.block ab h1.lt).trans h1, h2.below hB hb⟩

theorem vcc_last {w : World} {base g n cap : Nat} {ps : List Pv} (ho : w.ownsRow base 69 5 (.slice (some ⟨g, 0, none⟩) n cap) n (vcs ps)) (hn : ps.length = n) {k : Nat} (hk : k < n) :
    w.cell? ⟨g, k * 5, none⟩ = some (.int .i64 (ps.getD k z0).1.s) ∧ w.cell? ⟨g, k * 5 + 1, none⟩ = some (.int .i64 (ps.getD k z0).1.n) ∧ w.cell? ⟨g, k * 5 + 2, none⟩ = some (.slice (ps.getD k z0).2.1 (ps.getD k z0).1.past.length (ps.getD k z0).2.2) ∧
      w.cell? ⟨g, k * 5 + 3, none⟩ = some (.bool (ps.getD k z0).1.gone) ∧ w.cell? ⟨g, k * 5 + 4, none⟩ = some (.string (ps.getD k z0).1.val) := by
  have h := fun r (hr : r < 5) => (World.ownsRow.cellAt ho (k * 5 + r) (by omega)).trans (vcs_at ps k (by omega) r hr)
  exact ⟨by simpa [vcc] using h 0 (by omega), by simpa [vcc] using h 1 (by omega), by simpa [vcc] using h 2 (by omega), by simpa [vcc] using h 3 (by omega), by simpa [vcc] using h 4 (by omega)⟩

set_option maxRecDepth 100000 in
set_option maxHeartbeats 2000000 in
/-- One whose dot the last one hasn't is laid behind. -/
theorem keep_new (base B ab : Nat) (A1 : Option Addr) (c1 kp : Nat) (s vn : Int) (vp : List Sp) (vg : Bool) (vx : ByteArray) (hkp : vp.length = kp) (ps : List Pv) (w : World) (hab : base ≤ ab) (hB : B ≤ base) (hbw : base ≤ w.heap.size) (hx : Box base B ab w ps) (hp : Pa w 0 B A1 c1 ⟨s, vn, vp, vg, vx⟩) (hn : ps.length ≤ 1024)
    (hlast : 0 < ps.length → ¬ ((ps.getD (ps.length - 1) z0).1.s = s ∧ (ps.getD (ps.length - 1) z0).1.n = vn)) :
    Calls Try.prog 76 #[.agg #[.int .i64 s, .int .i64 vn, .slice A1 kp c1, .bool vg, .string vx], .pointer (some ⟨ab, 0, none⟩)] w
      fun e w' => e = .returned (.bool true) ∧ Box base B ab w' (ps ++ [(⟨s, vn, vp, vg, vx⟩, A1, c1)]) ∧ Below base w w' := by
  obtain ⟨i0, hi0, hz0, hz1, hz2⟩ := info_parts info_ver
  obtain ⟨v, hbox, hown⟩ := hx
  obtain ⟨ho, hpa⟩ := hown
  obtain ⟨A2, c2, rfl⟩ := own_form ho
  obtain ⟨n, hnn⟩ : ∃ n, ps.length = n := ⟨_, rfl⟩
  rw [hnn] at ho hbox hn hlast
  have hc0 := hbox.cell
  have hcells : 0 < n → ∃ g, A2 = some ⟨g, 0, none⟩ ∧ w.cell? ⟨g, (n - 1) * 5, none⟩ = some (.int .i64 (ps.getD (n - 1) z0).1.s) ∧ w.cell? ⟨g, (n - 1) * 5 + 1, none⟩ = some (.int .i64 (ps.getD (n - 1) z0).1.n) := fun h0 => by
    rcases ho.2 with ⟨_, h1⟩ | ⟨g, cap, cur, hv, _⟩
    · omega
    · injection hv with h1 h2 h3
      subst h1
      have := vcc_last ho hnn (show n - 1 < n by omega)
      exact ⟨g, rfl, this.1, this.2.1⟩
  have HO := Lib.hid (And.intro ho (And.intro hpa (And.intro hnn (And.intro hkp (And.intro hbox hp)))))
  have HW : Hid (∀ V nq, V = w.alloc (.cells #[.int .i64 s, .int .i64 vn, .slice A1 kp c1, .bool vg, .string vx] 69) → Boxed (V.drewN nq) ab 47 (.slice A2 n c2) ∧ (V.drewN nq).ownsRow base 69 5 (.slice A2 n c2) n (vcs ps) ∧ (∀ p ∈ ps, Pa (V.drewN nq) 0 B p.2.1 p.2.2 p.1) ∧ Pa (V.drewN nq) 0 B A1 c1 ⟨s, vn, vp, vg, vx⟩ ∧ Below base w (V.drewN nq)) := Lib.hid fun V nq hV => by
    have hb : Below w.heap.size w (V.drewN nq) := by rw [hV]; exact ((Below.refl _ w).alloc (Nat.le_refl _) _).trans (below_drewN _ _ _)
    exact ⟨(hb.block ab hbox.lt).trans hbox, own_below ho hb (Nat.le_refl _), fun p hq => (hpa p hq).below (hb.mono (by omega)), hp.below (hb.mono (by omega)), hb.mono hbw⟩
  have hlt := hbox.lt
  clear ho hpa hnn hkp hbox hp
  by_cases h0 : 0 < n
  · obtain ⟨g, rfl, l0, l1⟩ := hcells h0
    have hl := hlast h0
    obtain ⟨us, hus⟩ : ∃ us, (ps.getD (n - 1) z0).1.s = us := ⟨_, rfl⟩
    obtain ⟨un, hun⟩ : ∃ un, (ps.getD (n - 1) z0).1.n = un := ⟨_, rfl⟩
    rw [hus] at l0 hl
    rw [hun] at l1 hl
    have HL := Lib.hid hl
    obtain ⟨ho, hbox⟩ := And.intro HO.out.1 HO.out.2.2.2.2.1
    have lg : g < w.heap.size := (ho.lt g rfl).2
    obtain ⟨W0, hW0⟩ : ∃ W0, w.alloc (.cells #[.int .i64 s, .int .i64 vn, .slice A1 kp c1, .bool vg, .string vx] 69) = W0 := ⟨_, rfl⟩
    have f0 : ((n : Int) - 1).toNat = n - 1 := by omega
    have f1 : (0 : Int) ≤ (n : Int) - 1 := by omega
    have f2 : (n : Int) - 1 < (n : Int) := by omega
    have f5 : (1 : Int) ≤ (n : Int) := by omega
    have f6 : (n : Int) ≤ (n : Int) := by omega
    have f7 : 1 ≤ n := by omega
    have f8 : ((n : Int) - 1 < (n : Int)) = True := eq_true (by omega)
    have f9 : (0 ≤ (n : Int) - 1) = True := eq_true (by omega)
    have f10 : decide ((0 : Int) ≤ (n : Int) - 1) = true := decide_eq_true (by omega)
    have f11 : decide ((1 : Int) ≤ (n : Int)) = true := decide_eq_true (by omega)
    have f12 : decide (1 ≤ n) = true := decide_eq_true (by omega)
    have f4 : IntKind.i64.wrap ((n : Int) - 1) = (n : Int) - 1 := IntWalk.i64_in _ (by omega)
    have la0 := (World.cell?_alloc_lt w (.cells #[.int .i64 s, .int .i64 vn, .slice A1 kp c1, .bool vg, .string vx] 69) ⟨g, (n - 1) * 5, none⟩ lg).trans l0
    have la1 := (World.cell?_alloc_lt w (.cells #[.int .i64 s, .int .i64 vn, .slice A1 kp c1, .bool vg, .string vx] 69) ⟨g, (n - 1) * 5 + 1, none⟩ lg).trans l1
    clear hcells hlast hl hus hun ho hbox hW0
    by_cases hs : us = s
    · have hn2 : ¬ un = vn := fun h => HL.out ⟨hs, h⟩
      have g2 : (un == vn) = false := by simpa using hn2
      subst hs
      have g1 : (us == us) = true := by simp
      clear hn2 HL
      go_enter Try.func76, Try.ntmps76
      go_wp2_with fail
      go_quiet (fail)
      obtain ⟨hbox, ho, hpa, hp, hb⟩ := HW.out _ nq rfl
      obtain ⟨W1, hW1⟩ : ∃ W1, (w.alloc (.cells #[.int .i64 us, .int .i64 vn, .slice A1 kp c1, .bool vg, .string vx] 69)).drewN nq = W1 := ⟨_, rfl⟩
      have y0 : W1.cell? ⟨w.heap.size, 0, none⟩ = some (.int .i64 us) := by rw [← hW1]; show World.cell? (w.alloc _) _ = _; simp
      have y1 : W1.cell? ⟨w.heap.size, 1, none⟩ = some (.int .i64 vn) := by rw [← hW1]; show World.cell? (w.alloc _) _ = _; simp
      have y2 : W1.cell? ⟨w.heap.size, 2, none⟩ = some (.slice A1 kp c1) := by rw [← hW1]; show World.cell? (w.alloc _) _ = _; simp
      have y3 : W1.cell? ⟨w.heap.size, 3, none⟩ = some (.bool vg) := by rw [← hW1]; show World.cell? (w.alloc _) _ = _; simp
      have y4 : W1.cell? ⟨w.heap.size, 4, none⟩ = some (.string vx) := by rw [← hW1]; show World.cell? (w.alloc _) _ = _; simp
      rw [hW1] at hbox ho hpa hp hb ⊢
      have hcb := hbox.cell
      have hsz1 : base ≤ W1.heap.size := Nat.le_trans hbw hb.size
      have HK := Lib.hid (And.intro hbox (And.intro ho (And.intro hpa (And.intro hp hb))))
      clear hW1 hbox ho hpa hp hb hc0
      go_wp2_with (at_builtin; refine wpList_append_v _ rfl (.tmp 26) (.tmp 28) 47 rfl base 69 i0 _ 64 Try.underlying47 hi0 hz0 hz1 hz2 rfl (.slice (some ⟨g, 0, none⟩) n c2) n ps rfl HK.out.2.1 (⟨us, vn, vp, vg, vx⟩, A1, c1) kp HO.out.2.2.2.1 1 rfl (by omega) (by omega) hsz1 ?_; intro v3 w3 o3 g3 at3
                   have hb3 := HK.out.1.kept g3 (HK.out.1.not_row (by decide) HK.out.2.1)
                   have hc3 := hb3.cell
                   have hf3 := hb3.frozen
                   obtain ⟨A3, c3, rfl⟩ := own_form o3
                   have K3 := Lib.hid (And.intro hb3 (And.intro o3 g3))
                   clear hb3 o3 g3 at3)
      obtain ⟨hb3, o3, g3⟩ := K3.out
      have hlt3 := fun k hk => (HK.out.2.1.lt k hk).1
      have gs := grownBy_setCell' w3 ab (.slice A3 (n + 1) c3)
      have o4 := World.ownsRow.kept o3 gs (.inr (hb3.not_row (by decide) o3).symm)
      have hres : Box base B ab (w3.setCell ⟨ab, 0, none⟩ (.slice A3 (n + 1) c3)) (ps ++ [(⟨us, vn, vp, vg, vx⟩, A1, c1)]) := ⟨_, hb3.set _, by rw [List.length_append, HO.out.2.2.1]; exact o4, fun q hq => by
        have key : ∀ A c v, Pa W1 0 B A c v → Pa (w3.setCell ⟨ab, 0, none⟩ (.slice A3 (n + 1) c3)) 0 B A c v := fun A c v h => h.keep fun a _ ha => by
          have h1 : w3.cell? a = W1.cell? a := World.cell?_of_block (g3.block a.block (by omega) (fun e => by have := hlt3 _ e.symm; omega))
          rw [← h1]
          exact World.cell?_of_block (Below.heap_setCell _ _ _ _ (by simp only; omega))
        rcases List.mem_append.1 hq with hq | hq
        · exact key _ _ _ (HK.out.2.2.1 q hq)
        · rw [List.mem_singleton.1 hq]; exact key _ _ _ HK.out.2.2.2.1⟩
      have hbel : Below base w (w3.setCell ⟨ab, 0, none⟩ (.slice A3 (n + 1) c3)) := (HK.out.2.2.2.2.grown g3 hsz1 hlt3).setCell (by exact hab) _
      have HFIN := Lib.hid (And.intro hres hbel)
      clear hb3 o3 g3 hlt3 gs o4 hres hbel K3 HK HW HO
      go_wp2_with fail
      go_ret
      exact ⟨rfl, HFIN.out⟩
    · have g1 : (us == s) = false := by simpa using hs
      clear hs HL
      go_enter Try.func76, Try.ntmps76
      go_wp2_with fail
      go_quiet (fail)
      obtain ⟨hbox, ho, hpa, hp, hb⟩ := HW.out _ nq rfl
      obtain ⟨W1, hW1⟩ : ∃ W1, (w.alloc (.cells #[.int .i64 s, .int .i64 vn, .slice A1 kp c1, .bool vg, .string vx] 69)).drewN nq = W1 := ⟨_, rfl⟩
      have y0 : W1.cell? ⟨w.heap.size, 0, none⟩ = some (.int .i64 s) := by rw [← hW1]; show World.cell? (w.alloc _) _ = _; simp
      have y1 : W1.cell? ⟨w.heap.size, 1, none⟩ = some (.int .i64 vn) := by rw [← hW1]; show World.cell? (w.alloc _) _ = _; simp
      have y2 : W1.cell? ⟨w.heap.size, 2, none⟩ = some (.slice A1 kp c1) := by rw [← hW1]; show World.cell? (w.alloc _) _ = _; simp
      have y3 : W1.cell? ⟨w.heap.size, 3, none⟩ = some (.bool vg) := by rw [← hW1]; show World.cell? (w.alloc _) _ = _; simp
      have y4 : W1.cell? ⟨w.heap.size, 4, none⟩ = some (.string vx) := by rw [← hW1]; show World.cell? (w.alloc _) _ = _; simp
      rw [hW1] at hbox ho hpa hp hb ⊢
      have hcb := hbox.cell
      have hsz1 : base ≤ W1.heap.size := Nat.le_trans hbw hb.size
      have HK := Lib.hid (And.intro hbox (And.intro ho (And.intro hpa (And.intro hp hb))))
      clear hW1 hbox ho hpa hp hb hc0
      go_wp2_with (at_builtin; refine wpList_append_v _ rfl (.tmp 26) (.tmp 28) 47 rfl base 69 i0 _ 64 Try.underlying47 hi0 hz0 hz1 hz2 rfl (.slice (some ⟨g, 0, none⟩) n c2) n ps rfl HK.out.2.1 (⟨s, vn, vp, vg, vx⟩, A1, c1) kp HO.out.2.2.2.1 1 rfl (by omega) (by omega) hsz1 ?_; intro v3 w3 o3 g3 at3
                   have hb3 := HK.out.1.kept g3 (HK.out.1.not_row (by decide) HK.out.2.1)
                   have hc3 := hb3.cell
                   have hf3 := hb3.frozen
                   obtain ⟨A3, c3, rfl⟩ := own_form o3
                   have K3 := Lib.hid (And.intro hb3 (And.intro o3 g3))
                   clear hb3 o3 g3 at3)
      obtain ⟨hb3, o3, g3⟩ := K3.out
      have hlt3 := fun k hk => (HK.out.2.1.lt k hk).1
      have gs := grownBy_setCell' w3 ab (.slice A3 (n + 1) c3)
      have o4 := World.ownsRow.kept o3 gs (.inr (hb3.not_row (by decide) o3).symm)
      have hres : Box base B ab (w3.setCell ⟨ab, 0, none⟩ (.slice A3 (n + 1) c3)) (ps ++ [(⟨s, vn, vp, vg, vx⟩, A1, c1)]) := ⟨_, hb3.set _, by rw [List.length_append, HO.out.2.2.1]; exact o4, fun q hq => by
        have key : ∀ A c v, Pa W1 0 B A c v → Pa (w3.setCell ⟨ab, 0, none⟩ (.slice A3 (n + 1) c3)) 0 B A c v := fun A c v h => h.keep fun a _ ha => by
          have h1 : w3.cell? a = W1.cell? a := World.cell?_of_block (g3.block a.block (by omega) (fun e => by have := hlt3 _ e.symm; omega))
          rw [← h1]
          exact World.cell?_of_block (Below.heap_setCell _ _ _ _ (by simp only; omega))
        rcases List.mem_append.1 hq with hq | hq
        · exact key _ _ _ (HK.out.2.2.1 q hq)
        · rw [List.mem_singleton.1 hq]; exact key _ _ _ HK.out.2.2.2.1⟩
      have hbel : Below base w (w3.setCell ⟨ab, 0, none⟩ (.slice A3 (n + 1) c3)) := (HK.out.2.2.2.2.grown g3 hsz1 hlt3).setCell (by exact hab) _
      have HFIN := Lib.hid (And.intro hres hbel)
      clear hb3 o3 g3 hlt3 gs o4 hres hbel K3 HK HW HO
      go_wp2_with fail
      go_ret
      exact ⟨rfl, HFIN.out⟩
  · obtain rfl : n = 0 := by omega
    have z0 : ((0 : Nat) : Int) = 0 := rfl
    clear hcells hlast
    go_enter Try.func76, Try.ntmps76
    go_wp2_with fail
    go_quiet (fail)
    obtain ⟨hbox, ho, hpa, hp, hb⟩ := HW.out _ nq rfl
    obtain ⟨W1, hW1⟩ : ∃ W1, (w.alloc (.cells #[.int .i64 s, .int .i64 vn, .slice A1 kp c1, .bool vg, .string vx] 69)).drewN nq = W1 := ⟨_, rfl⟩
    have y0 : W1.cell? ⟨w.heap.size, 0, none⟩ = some (.int .i64 s) := by rw [← hW1]; show World.cell? (w.alloc _) _ = _; simp
    have y1 : W1.cell? ⟨w.heap.size, 1, none⟩ = some (.int .i64 vn) := by rw [← hW1]; show World.cell? (w.alloc _) _ = _; simp
    have y2 : W1.cell? ⟨w.heap.size, 2, none⟩ = some (.slice A1 kp c1) := by rw [← hW1]; show World.cell? (w.alloc _) _ = _; simp
    have y3 : W1.cell? ⟨w.heap.size, 3, none⟩ = some (.bool vg) := by rw [← hW1]; show World.cell? (w.alloc _) _ = _; simp
    have y4 : W1.cell? ⟨w.heap.size, 4, none⟩ = some (.string vx) := by rw [← hW1]; show World.cell? (w.alloc _) _ = _; simp
    rw [hW1] at hbox ho hpa hp hb ⊢
    have hcb := hbox.cell
    have hsz1 : base ≤ W1.heap.size := Nat.le_trans hbw hb.size
    have HK := Lib.hid (And.intro hbox (And.intro ho (And.intro hpa (And.intro hp hb))))
    clear hW1 hbox ho hpa hp hb hc0
    go_wp2_with (at_builtin; refine wpList_append_v _ rfl (.tmp 26) (.tmp 28) 47 rfl base 69 i0 _ 64 Try.underlying47 hi0 hz0 hz1 hz2 rfl (.slice A2 0 c2) 0 ps rfl HK.out.2.1 (⟨s, vn, vp, vg, vx⟩, A1, c1) kp HO.out.2.2.2.1 1 rfl (by omega) (by omega) hsz1 ?_; intro v3 w3 o3 g3 at3
                 have hb3 := HK.out.1.kept g3 (HK.out.1.not_row (by decide) HK.out.2.1)
                 have hc3 := hb3.cell
                 have hf3 := hb3.frozen
                 obtain ⟨A3, c3, rfl⟩ := own_form o3
                 have K3 := Lib.hid (And.intro hb3 (And.intro o3 g3))
                 clear hb3 o3 g3 at3)
    obtain ⟨hb3, o3, g3⟩ := K3.out
    have hlt3 := fun k hk => (HK.out.2.1.lt k hk).1
    have gs := grownBy_setCell' w3 ab (.slice A3 (0 + 1) c3)
    have o4 := World.ownsRow.kept o3 gs (.inr (hb3.not_row (by decide) o3).symm)
    have hres : Box base B ab (w3.setCell ⟨ab, 0, none⟩ (.slice A3 (0 + 1) c3)) (ps ++ [(⟨s, vn, vp, vg, vx⟩, A1, c1)]) := ⟨_, hb3.set _, by rw [List.length_append, HO.out.2.2.1]; exact o4, fun q hq => by
      have key : ∀ A c v, Pa W1 0 B A c v → Pa (w3.setCell ⟨ab, 0, none⟩ (.slice A3 (0 + 1) c3)) 0 B A c v := fun A c v h => h.keep fun a _ ha => by
        have h1 : w3.cell? a = W1.cell? a := World.cell?_of_block (g3.block a.block (by omega) (fun e => by have := hlt3 _ e.symm; omega))
        rw [← h1]
        exact World.cell?_of_block (Below.heap_setCell _ _ _ _ (by simp only; omega))
      rcases List.mem_append.1 hq with hq | hq
      · exact key _ _ _ (HK.out.2.2.1 q hq)
      · rw [List.mem_singleton.1 hq]; exact key _ _ _ HK.out.2.2.2.1⟩
    have hbel : Below base w (w3.setCell ⟨ab, 0, none⟩ (.slice A3 (0 + 1) c3)) := (HK.out.2.2.2.2.grown g3 hsz1 hlt3).setCell (by exact hab) _
    have HFIN := Lib.hid (And.intro hres hbel)
    clear hb3 o3 g3 hlt3 gs o4 hres hbel K3 HK HW HO
    go_wp2_with fail
    go_ret
    exact ⟨rfl, HFIN.out⟩

set_option maxRecDepth 100000 in
set_option maxHeartbeats 2000000 in
/-- One whose dot the last one has is held against it. -/
theorem keep_old (base B ab : Nat) (A1 : Option Addr) (c1 kp : Nat) (s vn : Int) (vp : List Sp) (vg : Bool) (vx : ByteArray) (hkp : vp.length = kp) (ps : List Pv) (w : World) (hB : B ≤ w.heap.size) (hx : Box base B ab w ps) (hp : Pa w 0 B A1 c1 ⟨s, vn, vp, vg, vx⟩) (hn : ps.length ≤ 1024)
    (h0 : 0 < ps.length) (hlast : (ps.getD (ps.length - 1) z0).1.s = s ∧ (ps.getD (ps.length - 1) z0).1.n = vn) :
    Calls Try.prog 76 #[.agg #[.int .i64 s, .int .i64 vn, .slice A1 kp c1, .bool vg, .string vx], .pointer (some ⟨ab, 0, none⟩)] w
      fun e w' => e = .returned (.bool (decide ((ps.getD (ps.length - 1) z0).1 = (⟨s, vn, vp, vg, vx⟩ : Vr)))) ∧ Below w.heap.size w w' := by
  obtain ⟨v, hbox, hown⟩ := hx
  obtain ⟨ho, hpa⟩ := hown
  obtain ⟨A2, c2, rfl⟩ := own_form ho
  obtain ⟨n, hnn⟩ : ∃ n, ps.length = n := ⟨_, rfl⟩
  rw [hnn] at ho hbox hn hlast h0 ⊢
  have hc0 := hbox.cell
  rcases ho.2 with ⟨_, h1⟩ | ⟨g, cap, cur, hv, _⟩
  · omega
  injection hv with h1 h2 h3
  subst h1
  have hcl := vcc_last ho hnn (show n - 1 < n by omega)
  have hmem : ps.getD (n - 1) z0 ∈ ps := by
    rw [List.getD_eq_getElem?_getD, List.getElem?_eq_getElem (by omega)]
    exact List.getElem_mem _
  have hpu := hpa _ hmem
  obtain ⟨⟨u, A3, c3⟩, hu⟩ : ∃ u, ps.getD (n - 1) z0 = u := ⟨_, rfl⟩
  rw [hu] at hcl hpu hlast ⊢
  obtain ⟨us, un, up, ug, ux⟩ := u
  simp only at hcl hpu hlast ⊢
  obtain ⟨rfl, rfl⟩ := hlast
  obtain ⟨l0, l1, l2, l3, l4⟩ := hcl
  obtain ⟨ku, hku⟩ : ∃ ku, up.length = ku := ⟨_, rfl⟩
  rw [hku] at l2
  have lg : g < w.heap.size := (ho.lt g rfl).2
  have lab := hbox.lt
  obtain ⟨R, hR⟩ : ∃ R, decide ((⟨us, un, up, ug, ux⟩ : Vr) = ⟨us, un, vp, vg, vx⟩) = R := ⟨_, rfl⟩
  have h5 := fun W (hW : Below w.heap.size w W) => sameone_any A3 A1 c3 c1 ku kp us un us un up vp ug vg ux vx hku hkp W (((hpu.1.more hB).below hW).more hW.size) (((hp.1.more hB).below hW).more hW.size) (by rw [← hku]; exact hpu.2.2.1) (by rw [← hkp]; exact hp.2.2.1)
  rw [hR] at h5 ⊢
  have H5 := Lib.hid h5
  have f0 : ((n : Int) - 1).toNat = n - 1 := by omega
  have f1 : (0 : Int) ≤ (n : Int) - 1 := by omega
  have f2 : (n : Int) - 1 < (n : Int) := by omega
  have f5 : (1 : Int) ≤ (n : Int) := by omega
  have f6 : (n : Int) ≤ (n : Int) := by omega
  have f7 : 1 ≤ n := by omega
  have f8 : ((n : Int) - 1 < (n : Int)) = True := eq_true (by omega)
  have f9 : (0 ≤ (n : Int) - 1) = True := eq_true (by omega)
  have f10 : decide ((0 : Int) ≤ (n : Int) - 1) = true := decide_eq_true (by omega)
  have f11 : decide ((1 : Int) ≤ (n : Int)) = true := decide_eq_true (by omega)
  have f12 : decide (1 ≤ n) = true := decide_eq_true (by omega)
  have f4 : IntKind.i64.wrap ((n : Int) - 1) = (n : Int) - 1 := IntWalk.i64_in _ (by omega)
  have g1 : (us == us) = true := by simp
  have g2 : (un == un) = true := by simp
  have al := fun o (hb : o < w.heap.size) k => World.cell?_alloc_lt w (.cells #[.int .i64 us, .int .i64 un, .slice A1 kp c1, .bool vg, .string vx] 69) ⟨o, k, none⟩ hb
  have la0 := (al g lg _).trans l0
  have la1 := (al g lg _).trans l1
  have la2 := (al g lg _).trans l2
  have la3 := (al g lg _).trans l3
  have la4 := (al g lg _).trans l4
  have lac := (al ab lab 0).trans hc0
  have hbW : Below w.heap.size w (w.alloc (.cells #[.int .i64 us, .int .i64 un, .slice A1 kp c1, .bool vg, .string vx] 69)) := (Below.refl _ w).alloc (Nat.le_refl _) _
  have HBW := Lib.hid hbW
  have lm : w.heap.size < (w.alloc (.cells #[.int .i64 us, .int .i64 un, .slice A1 kp c1, .bool vg, .string vx] 69)).heap.size := by simp
  have lmg : g < (w.alloc (.cells #[.int .i64 us, .int .i64 un, .slice A1 kp c1, .bool vg, .string vx] 69)).heap.size := by simp; omega
  have lma : ab < (w.alloc (.cells #[.int .i64 us, .int .i64 un, .slice A1 kp c1, .bool vg, .string vx] 69)).heap.size := by simp; omega
  have LL := Lib.hid (And.intro lm (And.intro lmg lma))
  clear ho hpa hmem hpu hu hku hkp h5 hR hbox hnn h2 h3 al hp hbW lm lmg lma l0 l1 l2 l3 l4 hc0
  go_enter Try.func76, Try.ntmps76
  go_wp2_with fail
  go_quiet (fail)
  go_wp2_with fail
  obtain ⟨W1, hW1⟩ : ∃ W1, (w.alloc (.cells #[.int .i64 us, .int .i64 un, .slice A1 kp c1, .bool vg, .string vx] 69)).drewN nq = W1 := ⟨_, rfl⟩
  have y : W1.cell? ⟨w.heap.size, 0, none⟩ = some (.int .i64 us) ∧ W1.cell? ⟨w.heap.size, 1, none⟩ = some (.int .i64 un) ∧ W1.cell? ⟨w.heap.size, 2, none⟩ = some (.slice A1 kp c1) ∧ W1.cell? ⟨w.heap.size, 3, none⟩ = some (.bool vg) ∧ W1.cell? ⟨w.heap.size, 4, none⟩ = some (.string vx) := by
    rw [← hW1]
    refine ⟨?_, ?_, ?_, ?_, ?_⟩ <;> (show World.cell? (w.alloc _) _ = _; simp)
  have z : W1.cell? ⟨g, (n - 1) * 5, none⟩ = some (.int .i64 us) ∧ W1.cell? ⟨g, (n - 1) * 5 + 1, none⟩ = some (.int .i64 un) ∧ W1.cell? ⟨g, (n - 1) * 5 + 2, none⟩ = some (.slice A3 ku c3) ∧ W1.cell? ⟨g, (n - 1) * 5 + 3, none⟩ = some (.bool ug) ∧ W1.cell? ⟨g, (n - 1) * 5 + 4, none⟩ = some (.string ux) := by
    rw [← hW1]; exact ⟨la0, la1, la2, la3, la4⟩
  have zc : W1.cell? ⟨ab, 0, none⟩ = some (.slice (some ⟨g, 0, none⟩) n c2) := by rw [← hW1]; exact lac
  have hb1 : Below w.heap.size w W1 := by rw [← hW1]; exact HBW.out.trans (below_drewN _ _ _)
  have l1 : w.heap.size < W1.heap.size := by rw [← hW1]; exact LL.out.1
  have l2 : g < W1.heap.size := by rw [← hW1]; exact LL.out.2.1
  have l3 : ab < W1.heap.size := by rw [← hW1]; exact LL.out.2.2
  have H6 := Lib.hid (H5.out W1.drew hb1.drew)
  rw [hW1]
  clear hW1 la0 la1 la2 la3 la4 lac H5
  obtain ⟨m, hm⟩ : ∃ m, w.heap.size = m := ⟨_, rfl⟩
  have HFIN : Hid (∀ V, Below W1.heap.size W1.drew V → Below w.heap.size w V) := Lib.hid fun V hV => hb1.drew.trans (hV.mono hb1.size)
  rw [hm] at y l1 ⊢
  clear hm
  go_region_held3 (fun V => V.cell? ⟨ab, 0, none⟩ = some (.slice (some ⟨g, 0, none⟩) n c2) ∧ V.cell? ⟨g, (n - 1) * 5, none⟩ = some (.int .i64 us) ∧ V.cell? ⟨g, (n - 1) * 5 + 1, none⟩ = some (.int .i64 un) ∧ V.cell? ⟨g, (n - 1) * 5 + 2, none⟩ = some (.slice A3 ku c3) ∧ V.cell? ⟨g, (n - 1) * 5 + 3, none⟩ = some (.bool ug) ∧ V.cell? ⟨g, (n - 1) * 5 + 4, none⟩ = some (.string ux) ∧
      V.cell? ⟨m, 0, none⟩ = some (.int .i64 us) ∧ V.cell? ⟨m, 1, none⟩ = some (.int .i64 un) ∧ V.cell? ⟨m, 2, none⟩ = some (.slice A1 kp c1) ∧ V.cell? ⟨m, 3, none⟩ = some (.bool vg) ∧ V.cell? ⟨m, 4, none⟩ = some (.string vx))
    (first | exact ⟨zc, z.1, z.2.1, z.2.2.1, z.2.2.2.1, z.2.2.2.2, y⟩ | exact ⟨cell_below b3 l3 zc, cell_below b3 l2 z.1, cell_below b3 l2 z.2.1, cell_below b3 l2 z.2.2.1, cell_below b3 l2 z.2.2.2.1, cell_below b3 l2 z.2.2.2.2, five_below (by exact l1) b3 y⟩)
    (first | (go_at_call 77; refine H6.out.mono ?_; rintro e w3 ⟨rfl, b3⟩))
  have BE := HFIN.out _ b3
  clear b3 HFIN
  go_wp2_with fail
  go_ret
  exact ⟨rfl, BE⟩
end Vers
end Go.Proofs.Ytbhidndgnldheaa
