/-
  Several texts of this family in one: VersKeep, VersTogether, ToldBound, Text, PutNum, PutText, RingHash, VectReads, Bulk.
-/
import Derived.Test.YtbhidndgnldheaaGreatK9
import Derived.RangeFuncBox
import Derived.Test.YtbhidndgnldheaaGreatK8
import Derived.Test.YtbhidndgnldheaaGreatK5
import Derived.Test.YtbhidndgnldheaaGreatK1
import Derived.Laws.BitsAllLaws
import Derived.Laws.Bits64
import Derived.Test.YtbhidndgnldheaaGreatRows
/-
 The closure of vers.together: a version is kept behind those that are kept, unless the last one has its dot.
-/
namespace Go.Proofs.YtbhidndgnldheaaGreat
namespace Vers
open Go.RowKit Span
attribute [local go_sem ↓] Go.wp_at_zero Go.wp_at_succ

def Box (base B ab : Nat) (w : World) (ps : List Pv) : Prop := ∃ v, Boxed w ab 22 v ∧ OwnVs base 0 B w v ps

theorem Box.below {base B ab : Nat} {w w' : World} {ps : List Pv} (h : Box base B ab w ps) (hB : B ≤ w.heap.size) (hb : Below w.heap.size w w') : Box base B ab w' ps := by
 obtain ⟨v, h1, h2⟩ := h
 exact ⟨v, (hb.block ab h1.lt).trans h1, h2.below hB hb⟩

theorem vcc_last {w : World} {base g n cap : Nat} {ps : List Pv} (ho : w.ownsRow base 40 5 (.slice (some ⟨g, 0, none⟩) n cap) n (vcs ps)) (hn : ps.length = n) {k : Nat} (hk : k < n) :
  w.cell? ⟨g, k * 5, none⟩ = some (.int .i64 (ps.getD k z0).1.s) ∧ w.cell? ⟨g, k * 5 + 1, none⟩ = some (.int .i64 (ps.getD k z0).1.n) ∧ w.cell? ⟨g, k * 5 + 2, none⟩ = some (.slice (ps.getD k z0).2.1 (ps.getD k z0).1.past.length (ps.getD k z0).2.2) ∧
   w.cell? ⟨g, k * 5 + 3, none⟩ = some (.bool (ps.getD k z0).1.gone) ∧ w.cell? ⟨g, k * 5 + 4, none⟩ = some (.string (ps.getD k z0).1.val) := by
 have h := fun r (hr : r < 5) => (World.ownsRow.cellAt ho (k * 5 + r) (by omega)).trans (vcs_at ps k (by omega) r hr)
 exact ⟨(h 0 (by omega)).trans rfl, (h 1 (by omega)).trans rfl, (h 2 (by omega)).trans rfl, (h 3 (by omega)).trans rfl, (h 4 (by omega)).trans rfl⟩

set_option maxRecDepth 100000 in
set_option maxHeartbeats 2000000 in
theorem keep_new (base B ab : Nat) (A1 : Option Addr) (c1 kp : Nat) (s vn : Int) (vp : List Sp) (vg : Bool) (vx : ByteArray) (hkp : vp.length = kp) (ps : List Pv) (w : World) (hab : base ≤ ab) (hB : B ≤ base) (hbw : base ≤ w.heap.size) (hx : Box base B ab w ps) (hp : Pa w 0 B A1 c1 ⟨s, vn, vp, vg, vx⟩) (hn : ps.length ≤ 1024)
  (hlast : 0 < ps.length → ¬ ((ps.getD (ps.length - 1) z0).1.s = s ∧ (ps.getD (ps.length - 1) z0).1.n = vn)) :
  Calls Tryz.prog 78 #[.agg #[.int .i64 s, .int .i64 vn, .slice A1 kp c1, .bool vg, .string vx], .pointer (some ⟨ab, 0, none⟩)] w
   fun e w' => e = .returned (.bool true) ∧ Box base B ab w' (ps ++ [(⟨s, vn, vp, vg, vx⟩, A1, c1)]) ∧ Below base w w' := by
 obtain ⟨i0, hi0, hz0, hz1, hz2⟩ := info_parts info_ver
 obtain ⟨v, hbox, hown⟩ := hx
 obtain ⟨ho, hpa⟩ := hown
 obtain ⟨A2, c2, rfl⟩ := own_form ho
 obtain ⟨n, hnn⟩ : ∃ n, ps.length = n := ⟨_, rfl⟩
 rw [hnn] at ho hbox hn hlast
 have hc0 := hbox.cell
 have hcells : 0 < n → ∃ g, A2 = some ⟨g, 0, none⟩ ∧ w.cell? ⟨g, (n - 1) * 5, none⟩ = some (.int .i64 (ps.getD (n - 1) z0).1.s) ∧ w.cell? ⟨g, (n - 1) * 5 + 1, none⟩ = some (.int .i64 (ps.getD (n - 1) z0).1.n) := fun h0 => by
  rcases ho.2 with ⟨_, h1⟩ | ⟨g, cap, cur, hv, _⟩
  ·omega
  ·injection hv with h1 h2 h3
   subst h1
   have := vcc_last ho hnn (show n - 1 < n by omega)
   exact ⟨g, rfl, this.1, this.2.1⟩
 have HO := Lib.hid (And.intro ho (And.intro hpa (And.intro hnn (And.intro hkp (And.intro hbox hp)))))
 have HW : Hid (∀ V nq, V = w.alloc (.cells #[.int .i64 s, .int .i64 vn, .slice A1 kp c1, .bool vg, .string vx] 40) → Boxed (V.drewN nq) ab 22 (.slice A2 n c2) ∧ (V.drewN nq).ownsRow base 40 5 (.slice A2 n c2) n (vcs ps) ∧ (∀ p ∈ ps, Pa (V.drewN nq) 0 B p.2.1 p.2.2 p.1) ∧ Pa (V.drewN nq) 0 B A1 c1 ⟨s, vn, vp, vg, vx⟩ ∧ Below base w (V.drewN nq)) := Lib.hid fun V nq hV => by
  have hb : Below w.heap.size w (V.drewN nq) := by rw [hV]; exact ((Below.refl _ w).alloc (Nat.le_refl _) _).trans (below_drewN _ _ _)
  exact ⟨(hb.block ab hbox.lt).trans hbox, own_below ho hb (Nat.le_refl _), fun p hq => (hpa p hq).below (hb.mono (by omega)), hp.below (hb.mono (by omega)), hb.mono hbw⟩
 have hlt := hbox.lt
 clear ho hpa hnn hkp hbox hp
 by_cases h0 : 0 < n
 ·obtain ⟨g, rfl, l0, l1⟩ := hcells h0
  have hl := hlast h0
  obtain ⟨us, hus⟩ : ∃ us, (ps.getD (n - 1) z0).1.s = us := ⟨_, rfl⟩
  obtain ⟨un, hun⟩ : ∃ un, (ps.getD (n - 1) z0).1.n = un := ⟨_, rfl⟩
  rw [hus] at l0 hl
  rw [hun] at l1 hl
  have HL := Lib.hid hl
  obtain ⟨ho, hbox⟩ := And.intro HO.out.1 HO.out.2.2.2.2.1
  have lg : g < w.heap.size := (ho.lt g rfl).2
  obtain ⟨W0, hW0⟩ : ∃ W0, w.alloc (.cells #[.int .i64 s, .int .i64 vn, .slice A1 kp c1, .bool vg, .string vx] 40) = W0 := ⟨_, rfl⟩
  have f0 : ((n : Int) - 1).toNat = n - 1 := by omega
  have f1 : (0 : Int) ≤ (n : Int) - 1 := by omega
  have f2 : (n : Int) - 1 < (n : Int) := by omega
  have f5 : (1 : Int) ≤ (n : Int) := by omega
  have f6 : (n : Int) ≤ (n : Int) := by omega
  have f7 : 1 ≤ n := by omega
  have f8 : ((n : Int) - 1 < (n : Int)) = True := eq_true (by omega)
  have f9 : (0 ≤ (n : Int) - 1) = True := eq_true (by omega)
  have f10 : decide ((0 : Int) ≤ (n : Int) - 1) = true := decide_eq_true (by omega)
  have f11 : decide ((1 : Int) ≤ (n : Int)) = true := decide_eq_true (by omega)
  have f12 : decide (1 ≤ n) = true := decide_eq_true (by omega)
  have f4 : IntKind.i64.wrap ((n : Int) - 1) = (n : Int) - 1 := IntWalk.i64_in _ (by omega)
  have la0 := (World.cell?_alloc_lt w (.cells #[.int .i64 s, .int .i64 vn, .slice A1 kp c1, .bool vg, .string vx] 40) ⟨g, (n - 1) * 5, none⟩ lg).trans l0
  have la1 := (World.cell?_alloc_lt w (.cells #[.int .i64 s, .int .i64 vn, .slice A1 kp c1, .bool vg, .string vx] 40) ⟨g, (n - 1) * 5 + 1, none⟩ lg).trans l1
  clear hcells hlast hl hus hun ho hbox hW0
  by_cases hs : us = s
  ·have hn2 : ¬ un = vn := fun h => HL.out ⟨hs, h⟩
   have g2 : (un == vn) = false := by simpa using hn2
   subst hs
   have g1 : (us == us) = true := by simp
   clear hn2 HL
   go_enter Tryz.func78, Tryz.ntmps78
   go_wp2_with fail
   go_quiet (fail)
   obtain ⟨hbox, ho, hpa, hp, hb⟩ := HW.out _ nq rfl
   obtain ⟨W1, hW1⟩ : ∃ W1, (w.alloc (.cells #[.int .i64 us, .int .i64 vn, .slice A1 kp c1, .bool vg, .string vx] 40)).drewN nq = W1 := ⟨_, rfl⟩
   have y0 : W1.cell? ⟨w.heap.size, 0, none⟩ = some (.int .i64 us) := by rw [← hW1]; show World.cell? (w.alloc _) _ = _; simp
   have y1 : W1.cell? ⟨w.heap.size, 1, none⟩ = some (.int .i64 vn) := by rw [← hW1]; show World.cell? (w.alloc _) _ = _; simp
   have y2 : W1.cell? ⟨w.heap.size, 2, none⟩ = some (.slice A1 kp c1) := by rw [← hW1]; show World.cell? (w.alloc _) _ = _; simp
   have y3 : W1.cell? ⟨w.heap.size, 3, none⟩ = some (.bool vg) := by rw [← hW1]; show World.cell? (w.alloc _) _ = _; simp
   have y4 : W1.cell? ⟨w.heap.size, 4, none⟩ = some (.string vx) := by rw [← hW1]; show World.cell? (w.alloc _) _ = _; simp
   rw [hW1] at hbox ho hpa hp hb ⊢
   have hcb := hbox.cell
   have hsz1 : base ≤ W1.heap.size := Nat.le_trans hbw hb.size
   have HK := Lib.hid (And.intro hbox (And.intro ho (And.intro hpa (And.intro hp hb))))
   clear hW1 hbox ho hpa hp hb hc0
   go_wp2_with (at_builtin; refine wpList_append_v _ rfl (.tmp 26) (.tmp 28) 22 rfl base 40 i0 _ 64 Tryz.underlying22 hi0 hz0 hz1 hz2 rfl (.slice (some ⟨g, 0, none⟩) n c2) n ps rfl HK.out.2.1 (⟨us, vn, vp, vg, vx⟩, A1, c1) kp HO.out.2.2.2.1 1 rfl (by omega) (by omega) hsz1 ?_; intro v3 w3 o3 g3 at3
                have hb3 := HK.out.1.kept g3 (HK.out.1.not_row (by decide) HK.out.2.1)
                have hc3 := hb3.cell
                have hf3 := hb3.frozen
                obtain ⟨A3, c3, rfl⟩ := own_form o3
                have K3 := Lib.hid (And.intro hb3 (And.intro o3 g3))
                clear hb3 o3 g3 at3)
   obtain ⟨hb3, o3, g3⟩ := K3.out
   have hlt3 := fun k hk => (HK.out.2.1.lt k hk).1
   have gs := grownBy_setCell' w3 ab (.slice A3 (n + 1) c3)
   have o4 := World.ownsRow.kept o3 gs (.inr (hb3.not_row (by decide) o3).symm)
   have hres : Box base B ab (w3.setCell ⟨ab, 0, none⟩ (.slice A3 (n + 1) c3)) (ps ++ [(⟨us, vn, vp, vg, vx⟩, A1, c1)]) := ⟨_, hb3.set _, by rw [List.length_append, HO.out.2.2.1]; exact o4, fun q hq => by
    have key : ∀ A c v, Pa W1 0 B A c v → Pa (w3.setCell ⟨ab, 0, none⟩ (.slice A3 (n + 1) c3)) 0 B A c v := fun A c v h => h.keep fun a _ ha => by
     have h1 : w3.cell? a = W1.cell? a := World.cell?_of_block (g3.block a.block (by omega) (fun e => by have := hlt3 _ e.symm; omega))
     rw [← h1]
     exact World.cell?_of_block (Below.heap_setCell _ _ _ _ (by simp only; omega))
    rcases List.mem_append.1 hq with hq | hq
    ·exact key _ _ _ (HK.out.2.2.1 q hq)
    ·rw [List.mem_singleton.1 hq]; exact key _ _ _ HK.out.2.2.2.1⟩
   have hbel : Below base w (w3.setCell ⟨ab, 0, none⟩ (.slice A3 (n + 1) c3)) := (HK.out.2.2.2.2.grown g3 hsz1 hlt3).setCell (by exact hab) _
   have HFIN := Lib.hid (And.intro hres hbel)
   clear hb3 o3 g3 hlt3 gs o4 hres hbel K3 HK HW HO
   go_wp2_with fail
   go_ret
   exact ⟨rfl, HFIN.out⟩
  ·have g1 : (us == s) = false := by simpa using hs
   clear hs HL
   go_enter Tryz.func78, Tryz.ntmps78
   go_wp2_with fail
   go_quiet (fail)
   obtain ⟨hbox, ho, hpa, hp, hb⟩ := HW.out _ nq rfl
   obtain ⟨W1, hW1⟩ : ∃ W1, (w.alloc (.cells #[.int .i64 s, .int .i64 vn, .slice A1 kp c1, .bool vg, .string vx] 40)).drewN nq = W1 := ⟨_, rfl⟩
   have y0 : W1.cell? ⟨w.heap.size, 0, none⟩ = some (.int .i64 s) := by rw [← hW1]; show World.cell? (w.alloc _) _ = _; simp
   have y1 : W1.cell? ⟨w.heap.size, 1, none⟩ = some (.int .i64 vn) := by rw [← hW1]; show World.cell? (w.alloc _) _ = _; simp
   have y2 : W1.cell? ⟨w.heap.size, 2, none⟩ = some (.slice A1 kp c1) := by rw [← hW1]; show World.cell? (w.alloc _) _ = _; simp
   have y3 : W1.cell? ⟨w.heap.size, 3, none⟩ = some (.bool vg) := by rw [← hW1]; show World.cell? (w.alloc _) _ = _; simp
   have y4 : W1.cell? ⟨w.heap.size, 4, none⟩ = some (.string vx) := by rw [← hW1]; show World.cell? (w.alloc _) _ = _; simp
   rw [hW1] at hbox ho hpa hp hb ⊢
   have hcb := hbox.cell
   have hsz1 : base ≤ W1.heap.size := Nat.le_trans hbw hb.size
   have HK := Lib.hid (And.intro hbox (And.intro ho (And.intro hpa (And.intro hp hb))))
   clear hW1 hbox ho hpa hp hb hc0
   go_wp2_with (at_builtin; refine wpList_append_v _ rfl (.tmp 26) (.tmp 28) 22 rfl base 40 i0 _ 64 Tryz.underlying22 hi0 hz0 hz1 hz2 rfl (.slice (some ⟨g, 0, none⟩) n c2) n ps rfl HK.out.2.1 (⟨s, vn, vp, vg, vx⟩, A1, c1) kp HO.out.2.2.2.1 1 rfl (by omega) (by omega) hsz1 ?_; intro v3 w3 o3 g3 at3
                have hb3 := HK.out.1.kept g3 (HK.out.1.not_row (by decide) HK.out.2.1)
                have hc3 := hb3.cell
                have hf3 := hb3.frozen
                obtain ⟨A3, c3, rfl⟩ := own_form o3
                have K3 := Lib.hid (And.intro hb3 (And.intro o3 g3))
                clear hb3 o3 g3 at3)
   obtain ⟨hb3, o3, g3⟩ := K3.out
   have hlt3 := fun k hk => (HK.out.2.1.lt k hk).1
   have gs := grownBy_setCell' w3 ab (.slice A3 (n + 1) c3)
   have o4 := World.ownsRow.kept o3 gs (.inr (hb3.not_row (by decide) o3).symm)
   have hres : Box base B ab (w3.setCell ⟨ab, 0, none⟩ (.slice A3 (n + 1) c3)) (ps ++ [(⟨s, vn, vp, vg, vx⟩, A1, c1)]) := ⟨_, hb3.set _, by rw [List.length_append, HO.out.2.2.1]; exact o4, fun q hq => by
    have key : ∀ A c v, Pa W1 0 B A c v → Pa (w3.setCell ⟨ab, 0, none⟩ (.slice A3 (n + 1) c3)) 0 B A c v := fun A c v h => h.keep fun a _ ha => by
     have h1 : w3.cell? a = W1.cell? a := World.cell?_of_block (g3.block a.block (by omega) (fun e => by have := hlt3 _ e.symm; omega))
     rw [← h1]
     exact World.cell?_of_block (Below.heap_setCell _ _ _ _ (by simp only; omega))
    rcases List.mem_append.1 hq with hq | hq
    ·exact key _ _ _ (HK.out.2.2.1 q hq)
    ·rw [List.mem_singleton.1 hq]; exact key _ _ _ HK.out.2.2.2.1⟩
   have hbel : Below base w (w3.setCell ⟨ab, 0, none⟩ (.slice A3 (n + 1) c3)) := (HK.out.2.2.2.2.grown g3 hsz1 hlt3).setCell (by exact hab) _
   have HFIN := Lib.hid (And.intro hres hbel)
   clear hb3 o3 g3 hlt3 gs o4 hres hbel K3 HK HW HO
   go_wp2_with fail
   go_ret
   exact ⟨rfl, HFIN.out⟩
 ·obtain rfl : n = 0 := by omega
  have z0 : ((0 : Nat) : Int) = 0 := rfl
  clear hcells hlast
  go_enter Tryz.func78, Tryz.ntmps78
  go_wp2_with fail
  go_quiet (fail)
  obtain ⟨hbox, ho, hpa, hp, hb⟩ := HW.out _ nq rfl
  obtain ⟨W1, hW1⟩ : ∃ W1, (w.alloc (.cells #[.int .i64 s, .int .i64 vn, .slice A1 kp c1, .bool vg, .string vx] 40)).drewN nq = W1 := ⟨_, rfl⟩
  have y0 : W1.cell? ⟨w.heap.size, 0, none⟩ = some (.int .i64 s) := by rw [← hW1]; show World.cell? (w.alloc _) _ = _; simp
  have y1 : W1.cell? ⟨w.heap.size, 1, none⟩ = some (.int .i64 vn) := by rw [← hW1]; show World.cell? (w.alloc _) _ = _; simp
  have y2 : W1.cell? ⟨w.heap.size, 2, none⟩ = some (.slice A1 kp c1) := by rw [← hW1]; show World.cell? (w.alloc _) _ = _; simp
  have y3 : W1.cell? ⟨w.heap.size, 3, none⟩ = some (.bool vg) := by rw [← hW1]; show World.cell? (w.alloc _) _ = _; simp
  have y4 : W1.cell? ⟨w.heap.size, 4, none⟩ = some (.string vx) := by rw [← hW1]; show World.cell? (w.alloc _) _ = _; simp
  rw [hW1] at hbox ho hpa hp hb ⊢
  have hcb := hbox.cell
  have hsz1 : base ≤ W1.heap.size := Nat.le_trans hbw hb.size
  have HK := Lib.hid (And.intro hbox (And.intro ho (And.intro hpa (And.intro hp hb))))
  clear hW1 hbox ho hpa hp hb hc0
  go_wp2_with (at_builtin; refine wpList_append_v _ rfl (.tmp 26) (.tmp 28) 22 rfl base 40 i0 _ 64 Tryz.underlying22 hi0 hz0 hz1 hz2 rfl (.slice A2 0 c2) 0 ps rfl HK.out.2.1 (⟨s, vn, vp, vg, vx⟩, A1, c1) kp HO.out.2.2.2.1 1 rfl (by omega) (by omega) hsz1 ?_; intro v3 w3 o3 g3 at3
               have hb3 := HK.out.1.kept g3 (HK.out.1.not_row (by decide) HK.out.2.1)
               have hc3 := hb3.cell
               have hf3 := hb3.frozen
               obtain ⟨A3, c3, rfl⟩ := own_form o3
               have K3 := Lib.hid (And.intro hb3 (And.intro o3 g3))
               clear hb3 o3 g3 at3)
  obtain ⟨hb3, o3, g3⟩ := K3.out
  have hlt3 := fun k hk => (HK.out.2.1.lt k hk).1
  have gs := grownBy_setCell' w3 ab (.slice A3 (0 + 1) c3)
  have o4 := World.ownsRow.kept o3 gs (.inr (hb3.not_row (by decide) o3).symm)
  have hres : Box base B ab (w3.setCell ⟨ab, 0, none⟩ (.slice A3 (0 + 1) c3)) (ps ++ [(⟨s, vn, vp, vg, vx⟩, A1, c1)]) := ⟨_, hb3.set _, by rw [List.length_append, HO.out.2.2.1]; exact o4, fun q hq => by
   have key : ∀ A c v, Pa W1 0 B A c v → Pa (w3.setCell ⟨ab, 0, none⟩ (.slice A3 (0 + 1) c3)) 0 B A c v := fun A c v h => h.keep fun a _ ha => by
    have h1 : w3.cell? a = W1.cell? a := World.cell?_of_block (g3.block a.block (by omega) (fun e => by have := hlt3 _ e.symm; omega))
    rw [← h1]
    exact World.cell?_of_block (Below.heap_setCell _ _ _ _ (by simp only; omega))
   rcases List.mem_append.1 hq with hq | hq
   ·exact key _ _ _ (HK.out.2.2.1 q hq)
   ·rw [List.mem_singleton.1 hq]; exact key _ _ _ HK.out.2.2.2.1⟩
  have hbel : Below base w (w3.setCell ⟨ab, 0, none⟩ (.slice A3 (0 + 1) c3)) := (HK.out.2.2.2.2.grown g3 hsz1 hlt3).setCell (by exact hab) _
  have HFIN := Lib.hid (And.intro hres hbel)
  clear hb3 o3 g3 hlt3 gs o4 hres hbel K3 HK HW HO
  go_wp2_with fail
  go_ret
  exact ⟨rfl, HFIN.out⟩

set_option maxRecDepth 100000 in
set_option maxHeartbeats 2000000 in
theorem keep_old (base B ab : Nat) (A1 : Option Addr) (c1 kp : Nat) (s vn : Int) (vp : List Sp) (vg : Bool) (vx : ByteArray) (hkp : vp.length = kp) (ps : List Pv) (w : World) (hB : B ≤ w.heap.size) (hx : Box base B ab w ps) (hp : Pa w 0 B A1 c1 ⟨s, vn, vp, vg, vx⟩) (hn : ps.length ≤ 1024)
  (h0 : 0 < ps.length) (hlast : (ps.getD (ps.length - 1) z0).1.s = s ∧ (ps.getD (ps.length - 1) z0).1.n = vn) :
  Calls Tryz.prog 78 #[.agg #[.int .i64 s, .int .i64 vn, .slice A1 kp c1, .bool vg, .string vx], .pointer (some ⟨ab, 0, none⟩)] w
   fun e w' => e = .returned (.bool (decide ((ps.getD (ps.length - 1) z0).1 = (⟨s, vn, vp, vg, vx⟩ : Vr)))) ∧ Below w.heap.size w w' := by
 obtain ⟨v, hbox, hown⟩ := hx
 obtain ⟨ho, hpa⟩ := hown
 obtain ⟨A2, c2, rfl⟩ := own_form ho
 obtain ⟨n, hnn⟩ : ∃ n, ps.length = n := ⟨_, rfl⟩
 rw [hnn] at ho hbox hn hlast h0 ⊢
 have hc0 := hbox.cell
 rcases ho.2 with ⟨_, h1⟩ | ⟨g, cap, cur, hv, _⟩
 ·omega
 injection hv with h1 h2 h3
 subst h1
 have hcl := vcc_last ho hnn (show n - 1 < n by omega)
 have hmem : ps.getD (n - 1) z0 ∈ ps := by
  rw [List.getD_eq_getElem?_getD, List.getElem?_eq_getElem (by omega)]
  exact List.getElem_mem _
 have hpu := hpa _ hmem
 obtain ⟨⟨u, A3, c3⟩, hu⟩ : ∃ u, ps.getD (n - 1) z0 = u := ⟨_, rfl⟩
 rw [hu] at hcl hpu hlast ⊢
 obtain ⟨us, un, up, ug, ux⟩ := u
 simp only at hcl hpu hlast ⊢
 obtain ⟨rfl, rfl⟩ := hlast
 obtain ⟨l0, l1, l2, l3, l4⟩ := hcl
 obtain ⟨ku, hku⟩ : ∃ ku, up.length = ku := ⟨_, rfl⟩
 rw [hku] at l2
 have lg : g < w.heap.size := (ho.lt g rfl).2
 have lab := hbox.lt
 obtain ⟨R, hR⟩ : ∃ R, decide ((⟨us, un, up, ug, ux⟩ : Vr) = ⟨us, un, vp, vg, vx⟩) = R := ⟨_, rfl⟩
 have h5 := fun W (hW : Below w.heap.size w W) => sameone_any A3 A1 c3 c1 ku kp us un us un up vp ug vg ux vx hku hkp W (((hpu.1.more hB).below hW).more hW.size) (((hp.1.more hB).below hW).more hW.size) (by rw [← hku]; exact hpu.2.2.1) (by rw [← hkp]; exact hp.2.2.1)
 rw [hR] at h5 ⊢
 have H5 := Lib.hid h5
 have f0 : ((n : Int) - 1).toNat = n - 1 := by omega
 have f1 : (0 : Int) ≤ (n : Int) - 1 := by omega
 have f2 : (n : Int) - 1 < (n : Int) := by omega
 have f5 : (1 : Int) ≤ (n : Int) := by omega
 have f6 : (n : Int) ≤ (n : Int) := by omega
 have f7 : 1 ≤ n := by omega
 have f8 : ((n : Int) - 1 < (n : Int)) = True := eq_true (by omega)
 have f9 : (0 ≤ (n : Int) - 1) = True := eq_true (by omega)
 have f10 : decide ((0 : Int) ≤ (n : Int) - 1) = true := decide_eq_true (by omega)
 have f11 : decide ((1 : Int) ≤ (n : Int)) = true := decide_eq_true (by omega)
 have f12 : decide (1 ≤ n) = true := decide_eq_true (by omega)
 have f4 : IntKind.i64.wrap ((n : Int) - 1) = (n : Int) - 1 := IntWalk.i64_in _ (by omega)
 have g1 : (us == us) = true := by simp
 have g2 : (un == un) = true := by simp
 have al := fun o (hb : o < w.heap.size) k => World.cell?_alloc_lt w (.cells #[.int .i64 us, .int .i64 un, .slice A1 kp c1, .bool vg, .string vx] 40) ⟨o, k, none⟩ hb
 have la0 := (al g lg _).trans l0
 have la1 := (al g lg _).trans l1
 have la2 := (al g lg _).trans l2
 have la3 := (al g lg _).trans l3
 have la4 := (al g lg _).trans l4
 have lac := (al ab lab 0).trans hc0
 have hbW : Below w.heap.size w (w.alloc (.cells #[.int .i64 us, .int .i64 un, .slice A1 kp c1, .bool vg, .string vx] 40)) := (Below.refl _ w).alloc (Nat.le_refl _) _
 have HBW := Lib.hid hbW
 have lm : w.heap.size < (w.alloc (.cells #[.int .i64 us, .int .i64 un, .slice A1 kp c1, .bool vg, .string vx] 40)).heap.size := by simp
 have lmg : g < (w.alloc (.cells #[.int .i64 us, .int .i64 un, .slice A1 kp c1, .bool vg, .string vx] 40)).heap.size := by simp; omega
 have lma : ab < (w.alloc (.cells #[.int .i64 us, .int .i64 un, .slice A1 kp c1, .bool vg, .string vx] 40)).heap.size := by simp; omega
 have LL := Lib.hid (And.intro lm (And.intro lmg lma))
 clear ho hpa hmem hpu hu hku hkp h5 hR hbox hnn h2 h3 al hp hbW lm lmg lma l0 l1 l2 l3 l4 hc0
 go_enter Tryz.func78, Tryz.ntmps78
 go_wp2_with fail
 go_quiet (fail)
 go_wp2_with fail
 obtain ⟨W1, hW1⟩ : ∃ W1, (w.alloc (.cells #[.int .i64 us, .int .i64 un, .slice A1 kp c1, .bool vg, .string vx] 40)).drewN nq = W1 := ⟨_, rfl⟩
 have y : W1.cell? ⟨w.heap.size, 0, none⟩ = some (.int .i64 us) ∧ W1.cell? ⟨w.heap.size, 1, none⟩ = some (.int .i64 un) ∧ W1.cell? ⟨w.heap.size, 2, none⟩ = some (.slice A1 kp c1) ∧ W1.cell? ⟨w.heap.size, 3, none⟩ = some (.bool vg) ∧ W1.cell? ⟨w.heap.size, 4, none⟩ = some (.string vx) := by
  rw [← hW1]
  refine ⟨?_, ?_, ?_, ?_, ?_⟩ <;> (show World.cell? (w.alloc _) _ = _; simp)
 have z : W1.cell? ⟨g, (n - 1) * 5, none⟩ = some (.int .i64 us) ∧ W1.cell? ⟨g, (n - 1) * 5 + 1, none⟩ = some (.int .i64 un) ∧ W1.cell? ⟨g, (n - 1) * 5 + 2, none⟩ = some (.slice A3 ku c3) ∧ W1.cell? ⟨g, (n - 1) * 5 + 3, none⟩ = some (.bool ug) ∧ W1.cell? ⟨g, (n - 1) * 5 + 4, none⟩ = some (.string ux) := by
  rw [← hW1]; exact ⟨la0, la1, la2, la3, la4⟩
 have zc : W1.cell? ⟨ab, 0, none⟩ = some (.slice (some ⟨g, 0, none⟩) n c2) := by rw [← hW1]; exact lac
 have hb1 : Below w.heap.size w W1 := by rw [← hW1]; exact HBW.out.trans (below_drewN _ _ _)
 have l1 : w.heap.size < W1.heap.size := by rw [← hW1]; exact LL.out.1
 have l2 : g < W1.heap.size := by rw [← hW1]; exact LL.out.2.1
 have l3 : ab < W1.heap.size := by rw [← hW1]; exact LL.out.2.2
 have H6 := Lib.hid (H5.out W1.drew hb1.drew)
 rw [hW1]
 clear hW1 la0 la1 la2 la3 la4 lac H5
 obtain ⟨m, hm⟩ : ∃ m, w.heap.size = m := ⟨_, rfl⟩
 have HFIN : Hid (∀ V, Below W1.heap.size W1.drew V → Below w.heap.size w V) := Lib.hid fun V hV => hb1.drew.trans (hV.mono hb1.size)
 rw [hm] at y l1 ⊢
 clear hm
 go_region_held3 (fun V => V.cell? ⟨ab, 0, none⟩ = some (.slice (some ⟨g, 0, none⟩) n c2) ∧ V.cell? ⟨g, (n - 1) * 5, none⟩ = some (.int .i64 us) ∧ V.cell? ⟨g, (n - 1) * 5 + 1, none⟩ = some (.int .i64 un) ∧ V.cell? ⟨g, (n - 1) * 5 + 2, none⟩ = some (.slice A3 ku c3) ∧ V.cell? ⟨g, (n - 1) * 5 + 3, none⟩ = some (.bool ug) ∧ V.cell? ⟨g, (n - 1) * 5 + 4, none⟩ = some (.string ux) ∧
   V.cell? ⟨m, 0, none⟩ = some (.int .i64 us) ∧ V.cell? ⟨m, 1, none⟩ = some (.int .i64 un) ∧ V.cell? ⟨m, 2, none⟩ = some (.slice A1 kp c1) ∧ V.cell? ⟨m, 3, none⟩ = some (.bool vg) ∧ V.cell? ⟨m, 4, none⟩ = some (.string vx))
  (first | exact ⟨zc, z.1, z.2.1, z.2.2.1, z.2.2.2.1, z.2.2.2.2, y⟩ | exact ⟨cell_below b3 l3 zc, cell_below b3 l2 z.1, cell_below b3 l2 z.2.1, cell_below b3 l2 z.2.2.1, cell_below b3 l2 z.2.2.2.1, cell_below b3 l2 z.2.2.2.2, five_below (by exact l1) b3 y⟩)
  (first | (go_at_call 79; refine H6.out.mono ?_; rintro e w3 ⟨rfl, b3⟩))
 have BE := HFIN.out _ b3
 clear b3 HFIN
 go_wp2_with fail
 go_ret
 exact ⟨rfl, BE⟩
end Vers
end Go.Proofs.YtbhidndgnldheaaGreat

/-
 vers.together tells all versions of both sets by rising dots, each once, or that two unlike ones have one dot.
-/
namespace Go.Proofs.YtbhidndgnldheaaGreat
namespace Vers
open Go.RowKit Span
attribute [local go_sem ↓] Go.wp_at_zero Go.wp_at_succ

def lenV : Value → Nat | .slice _ n _ => n | _ => 0

def Together (a b : List Vr) (w : World) (e : Ending) (w' : World) : Prop :=
 (∃ A c ps, e = .returned (.tuple #[.slice A ps.length c, .int .i64 0]) ∧ OwnVs w.heap.size 0 w.heap.size w' (.slice A ps.length c) ps ∧ ps.length ≤ a.length + b.length ∧ Below w.heap.size w w' ∧ Hid ((ps.map Prod.fst).Pairwise dlt ∧ (∀ v, v ∈ ps.map Prod.fst ↔ v ∈ a ∨ v ∈ b) ∧ ¬ Twin a b)) ∨
 (e = .returned (.tuple #[.slice none 0 0, .int .i64 50]) ∧ Below w.heap.size w w' ∧ Hid (Twin a b))

def Going (a b : List Vr) (base ab : Nat) (w : World) (av bv : Value) (wr : World) : Prop :=
 ∃ (i j na nb : Nat) (Aa Ab : Option Addr) (ca cb : Nat) (ps : List Pv), av = .slice Aa na ca ∧ bv = .slice Ab nb cb ∧ Hid ((a.drop i).length = na ∧ (b.drop j).length = nb ∧ Tog a b i j (ps.map Prod.fst) ∧ ps.length ≤ i + j) ∧ na ≤ ca ∧ nb ≤ cb ∧
  Hid (Vs wr 0 w.heap.size Aa (a.drop i)) ∧ Hid (Vs wr 0 w.heap.size Ab (b.drop j)) ∧ Hid (Box base w.heap.size ab wr ps) ∧ Hid (Below w.heap.size w wr) ∧ base ≤ wr.heap.size

theorem two_keep {W0 V V' : World} {p o p' o' : Nat} {x0 x1 y0 y1 : Option Value} (hp : p < W0.heap.size) (hp' : p' < W0.heap.size) (hb : Below V.heap.size V V')
  (h : V.cell? ⟨p, o, none⟩ = x0 ∧ V.cell? ⟨p, o + 1, none⟩ = x1 ∧ V.cell? ⟨p', o', none⟩ = y0 ∧ V.cell? ⟨p', o' + 1, none⟩ = y1 ∧ Below W0.heap.size W0 V) :
  V'.cell? ⟨p, o, none⟩ = x0 ∧ V'.cell? ⟨p, o + 1, none⟩ = x1 ∧ V'.cell? ⟨p', o', none⟩ = y0 ∧ V'.cell? ⟨p', o' + 1, none⟩ = y1 ∧ Below W0.heap.size W0 V' := by
 have hs := h.2.2.2.2.size
 have key : ∀ a : Addr, a.block < W0.heap.size → V'.cell? a = V.cell? a := fun a ha => hb.cell (by omega)
 exact ⟨(key ⟨p, o, none⟩ hp).trans h.1, (key ⟨p, o + 1, none⟩ hp).trans h.2.1, (key ⟨p', o', none⟩ hp').trans h.2.2.1, (key ⟨p', o' + 1, none⟩ hp').trans h.2.2.2.1, h.2.2.2.2.trans (hb.mono hs)⟩
theorem two_drew {W0 V : World} {p o p' o' : Nat} {x0 x1 y0 y1 : Option Value}
  (h : V.cell? ⟨p, o, none⟩ = x0 ∧ V.cell? ⟨p, o + 1, none⟩ = x1 ∧ V.cell? ⟨p', o', none⟩ = y0 ∧ V.cell? ⟨p', o' + 1, none⟩ = y1 ∧ Below W0.heap.size W0 V) :
  V.drew.cell? ⟨p, o, none⟩ = x0 ∧ V.drew.cell? ⟨p, o + 1, none⟩ = x1 ∧ V.drew.cell? ⟨p', o', none⟩ = y0 ∧ V.drew.cell? ⟨p', o' + 1, none⟩ = y1 ∧ Below W0.heap.size W0 V.drew := ⟨h.1, h.2.1, h.2.2.1, h.2.2.2.1, h.2.2.2.2.drew⟩
theorem both_heads {sa vna sb vnb q : Int} {vpa vpb : List Sp} {vga vgb : Bool} {vxa vxb : ByteArray} {la lb : List Vr} (hcl : q ≤ 0 ↔ sa < sb ∨ (sa = sb ∧ vna ≤ vnb)) (ha : (⟨sa, vna, vpa, vga, vxa⟩ :: la : List Vr).Pairwise dlt) (hb : (⟨sb, vnb, vpb, vgb, vxb⟩ :: lb : List Vr).Pairwise dlt) :
  (q ≤ 0 → ∀ z ∈ (⟨sb, vnb, vpb, vgb, vxb⟩ :: lb : List Vr), dlt ⟨sa, vna, vpa, vga, vxa⟩ z ∨ same ⟨sa, vna, vpa, vga, vxa⟩ z) ∧ (¬ q ≤ 0 → ∀ z ∈ (⟨sa, vna, vpa, vga, vxa⟩ :: la : List Vr), dlt ⟨sb, vnb, vpb, vgb, vxb⟩ z) := by
 rw [List.pairwise_cons] at ha hb
 constructor
 ·intro h z hz
  have h1 := hcl.1 h
  rcases List.mem_cons.1 hz with rfl | hz
  ·unfold dlt same; simp only; omega
  ·have h2 := hb.1 z hz
   unfold dlt at h2 ⊢; unfold same; simp only at h2 ⊢; omega
 ·intro h z hz
  have h1 : ¬ (sa < sb ∨ (sa = sb ∧ vna ≤ vnb)) := fun h2 => h (hcl.2 h2)
  rcases List.mem_cons.1 hz with rfl | hz
  ·unfold dlt; simp only; omega
  ·have h2 := ha.1 z hz
   unfold dlt at h2 ⊢; simp only at h2 ⊢; omega
theorem last_mem {ps : List Pv} (h : 0 < ps.length) : (ps.getD (ps.length - 1) z0).1 ∈ ps.map Prod.fst := by
 refine List.mem_map.2 ⟨ps.getD (ps.length - 1) z0, ?_, rfl⟩
 rw [List.getD_eq_getElem?_getD, List.getElem?_eq_getElem (by omega)]
 exact List.getElem_mem _
theorem last_map {ps : List Pv} (h : 0 < ps.length) : (ps.map Prod.fst).getD ((ps.map Prod.fst).length - 1) v0 = (ps.getD (ps.length - 1) z0).1 := by
 have h1 : ps.length - 1 < ps.length := by omega
 simp [List.getD_eq_getElem?_getD, h1]
theorem step_a_last {a b : List Vr} {i j : Nat} {ps : List Pv} (h : Tog a b i j (ps.map Prod.fst)) {x : Vr} {l : List Vr} (hx : a.drop i = x :: l) (h0 : 0 < ps.length) :
  ¬ ((ps.getD (ps.length - 1) z0).1.s = x.s ∧ (ps.getD (ps.length - 1) z0).1.n = x.n) := fun hs => dlt_irrefl (h.la _ (last_mem h0) x (by rw [hx]; simp)) hs
theorem step_b_new {a b : List Vr} {i j : Nat} {ps : List Pv} (h : Tog a b i j (ps.map Prod.fst)) {y : Vr} {l : List Vr} (hy : b.drop j = y :: l) (hn : 0 < ps.length → ¬ ((ps.getD (ps.length - 1) z0).1.s = y.s ∧ (ps.getD (ps.length - 1) z0).1.n = y.n)) :
  ∀ u ∈ ps.map Prod.fst, dlt u y := tog_new h hy fun hp => by
 rw [List.length_map] at hp
 rw [last_map hp]
 exact hn hp
theorem tog_close {a b us : List Vr} {i j : Nat} (h : Tog a b i j us) (ha : a.drop i = []) (hb : b.drop j = []) : us.Pairwise dlt ∧ (∀ v, v ∈ us ↔ v ∈ a ∨ v ∈ b) ∧ ¬ Twin a b := by
 have h1 := List.drop_eq_nil_iff.1 ha
 have h2 := List.drop_eq_nil_iff.1 hb
 have e1 : i = a.length := Nat.le_antisymm h.ri h1
 have e2 : j = b.length := Nat.le_antisymm h.rj h2
 rw [e1, e2] at h
 exact tog_end h
section
variable {a b : List Vr} {i j ka kb na nb base ab : Nat} {w wr w4 : World} {ps : List Pv} {x y : Vr} {la lb : List Vr} {Aa Ab Ax P : Option Addr} {ca cb cx q : Nat}
theorem going_a (hT : (x :: la).length = ka + 1 ∧ lb.length = nb ∧ Tog a b i j (ps.map Prod.fst) ∧ ps.length ≤ i + j) (ha : a.Pairwise dlt) (hb : b.Pairwise dlt) (hx : a.drop i = x :: la) (hlb : b.drop j = lb) (hle : ∀ z ∈ lb, dlt x z ∨ same x z)
  (ht : Vs wr 0 w.heap.size Ax la) (hvb : Vs wr 0 w.heap.size Ab lb) (hbx : Box base w.heap.size ab w4 (ps ++ [(x, P, q)])) (hbel : Below w.heap.size w wr) (hb4 : Below w.heap.size wr w4) (hkx : ka ≤ cx) (hcb : nb ≤ cb) (hs : base ≤ w4.heap.size) : Going a b base ab w (.slice Ax ka cx) (.slice Ab nb cb) w4 := by
 obtain ⟨hi, _, hd⟩ := drop_split hx
 refine ⟨i + 1, j, ka, nb, Ax, Ab, cx, cb, ps ++ [(x, P, q)], rfl, rfl, Lib.hid ⟨?_, ?_, ?_, ?_⟩, hkx, hcb, Lib.hid ?_, Lib.hid ?_, Lib.hid hbx, Lib.hid (hbel.trans hb4), hs⟩
 ·rw [hd]; simpa using hT.1
 ·rw [hlb]; exact hT.2.1
 ·rw [List.map_append]
  exact tog_a hT.2.2.1 ha hb hx (by rw [hlb]; exact hle)
 ·have := hT.2.2.2
  simp; omega
 ·rw [hd]; exact ht.below hb4
 ·rw [hlb]; exact hvb.below hb4
theorem going_b (hT : la.length = na ∧ (y :: lb).length = kb + 1 ∧ Tog a b i j (ps.map Prod.fst) ∧ ps.length ≤ i + j) (hb : b.Pairwise dlt) (hla : a.drop i = la) (hy : b.drop j = y :: lb) (hlt : ∀ z ∈ la, dlt y z) (hnew : ∀ u ∈ ps.map Prod.fst, dlt u y)
  (ht : Vs wr 0 w.heap.size Ax lb) (hva : Vs wr 0 w.heap.size Aa la) (hbx : Box base w.heap.size ab w4 (ps ++ [(y, P, q)])) (hbel : Below w.heap.size w wr) (hb4 : Below w.heap.size wr w4) (hkx : kb ≤ cx) (hca : na ≤ ca) (hs : base ≤ w4.heap.size) : Going a b base ab w (.slice Aa na ca) (.slice Ax kb cx) w4 := by
 obtain ⟨hi, _, hd⟩ := drop_split hy
 refine ⟨i, j + 1, na, kb, Aa, Ax, ca, cx, ps ++ [(y, P, q)], rfl, rfl, Lib.hid ⟨?_, ?_, ?_, ?_⟩, hca, hkx, Lib.hid ?_, Lib.hid ?_, Lib.hid hbx, Lib.hid (hbel.trans hb4), hs⟩
 ·rw [hla]; exact hT.1
 ·rw [hd]; simpa using hT.2.1
 ·rw [List.map_append]
  exact tog_b hT.2.2.1 hb hy (by rw [hla]; exact hlt) hnew
 ·have := hT.2.2.2
  simp; omega
 ·rw [hla]; exact hva.below hb4
 ·rw [hd]; exact ht.below hb4
theorem going_b_old (hT : la.length = na ∧ (y :: lb).length = kb + 1 ∧ Tog a b i j (ps.map Prod.fst) ∧ ps.length ≤ i + j) (hb : b.Pairwise dlt) (hla : a.drop i = la) (hy : b.drop j = y :: lb) (hin : y ∈ ps.map Prod.fst)
  (ht : Vs wr 0 w.heap.size Ax lb) (hva : Vs wr 0 w.heap.size Aa la) (hbx : Box base w.heap.size ab w4 ps) (hbel : Below w.heap.size w wr) (hb4 : Below w.heap.size wr w4) (hkx : kb ≤ cx) (hca : na ≤ ca) (hs : base ≤ w4.heap.size) : Going a b base ab w (.slice Aa na ca) (.slice Ax kb cx) w4 := by
 obtain ⟨hi, _, hd⟩ := drop_split hy
 refine ⟨i, j + 1, na, kb, Aa, Ax, ca, cx, ps, rfl, rfl, Lib.hid ⟨?_, ?_, ?_, ?_⟩, hca, hkx, Lib.hid ?_, Lib.hid ?_, Lib.hid hbx, Lib.hid (hbel.trans hb4), hs⟩
 ·rw [hla]; exact hT.1
 ·rw [hd]; simpa using hT.2.1
 ·exact tog_again hT.2.2.1 hb hy hin
 ·have := hT.2.2.2
  omega
 ·rw [hla]; exact hva.below hb4
 ·rw [hd]; exact ht.below hb4
end

set_option maxRecDepth 100000 in
set_option maxHeartbeats 1000000 in
theorem together_any (A A' : Option Addr) (c c' n n' : Nat) (a b : List Vr) (hn : a.length = n) (hn' : b.length = n') (hnc : n ≤ c) (hnc' : n' ≤ c') (w : World) (hv : Vs w 0 w.heap.size A a) (hv' : Vs w 0 w.heap.size A' b) (hra : a.Pairwise dlt) (hrb : b.Pairwise dlt) (hl : n ≤ 512) (hl' : n' ≤ 512) :
  Calls Tryz.prog 60 #[.slice A n c, .slice A' n' c'] w (Together a b w) := by
 obtain ⟨i0, hi0, hz0, hz1, hz2⟩ := info_parts info_ver
 have HV := Lib.hid (And.intro hv (And.intro hv' (And.intro hn (And.intro hn' (And.intro hra hrb)))))
 clear hv hv' hn hn' hra hrb
 go_enter Tryz.func60, Tryz.ntmps60
 go_wp2_with (at_make; refine wpList_make_own _ rfl _ _ 22 rfl w.heap.size 40 i0 _ 5 Tryz.underlying22 hi0 hz0 hz1 _ _ _ (n + n') rfl rfl (by simp) (by rw [hz2]; omega) (by unfold maxLen; omega) (Nat.le_refl _) ?_; intro w1 o1 g1)
 obtain ⟨base, hbase⟩ : ∃ base, w.heap.size = base := ⟨_, rfl⟩
 have hs1 := g1.size
 have hs1' := (o1.lt w.heap.size rfl).2
 have HI : Hid (∀ W, W = w1.alloc (.cells #[.slice (some ⟨w.heap.size, 0, none⟩) 0 (n + n')] 22) → Going a b base w1.heap.size w (.slice A n c) (.slice A' n' c') W) := Lib.hid fun W hW => by
  have b1 : Below w.heap.size w w1 := (Below.refl _ _).grown g1 (Nat.le_refl _) (fun k hk => by cases hk)
  have b2 : Below w.heap.size w W := by rw [hW]; exact b1.alloc hs1 _
  have hbx : Boxed W w1.heap.size 22 (.slice (some ⟨w.heap.size, 0, none⟩) 0 (n + n')) := by rw [hW]; exact World.alloc_heap_new _ _
  have how : W.ownsRow w.heap.size 40 5 (.slice (some ⟨w.heap.size, 0, none⟩) 0 (n + n')) 0 [] := by rw [hW]; exact o1.alloc _
  refine ⟨0, 0, n, n', A, A', c, c', [], rfl, rfl, Lib.hid ⟨by simpa using HV.out.2.2.1, by simpa using HV.out.2.2.2.1, tog_start a b, by simp⟩, hnc, hnc', Lib.hid (HV.out.1.below b2), Lib.hid (HV.out.2.1.below b2), Lib.hid ⟨_, hbx, ?_, by simp⟩, Lib.hid b2, ?_⟩
  ·rw [← hbase]; exact how
  ·rw [← hbase]; exact b2.size
 have hab : w.heap.size ≤ w1.heap.size := hs1
 have HBS := Lib.hid hbase
 obtain ⟨ab, habb⟩ : ∃ ab, w1.heap.size = ab := ⟨_, rfl⟩
 have hbab : base ≤ ab := by omega
 rw [habb] at HI
 have HAB := Lib.hid habb
 go_wp2_with fail
 rw [habb]
 rw [hbase] at HI ⊢
 clear o1 g1 hs1 hs1' hab habb hbase
 go_loopw [0, 1] (fun av bv wr => Going a b base ab w av bv wr) (fun av bv _ => lenV av + lenV bv)
 case atStart => exact HI.out _ rfl
 case round =>
  obtain ⟨i, j, na, nb, Aa, Ab, ca, cb, ps, rfl, rfl, hT, hca, hcb, hva, hvb, hbox, hbel, hbs⟩ := hrel
  clear HI
  obtain ⟨la, hla⟩ : ∃ la, a.drop i = la := ⟨_, rfl⟩
  obtain ⟨lb, hlb⟩ : ∃ lb, b.drop j = lb := ⟨_, rfl⟩
  rw [hla] at hT hva
  rw [hlb] at hT hvb
  have HL := Lib.hid (And.intro hla hlb)
  clear hla hlb
  have hbw := hbel.out
  have hsz := hbw.size
  obtain ⟨W0, hW0⟩ : ∃ W0, wr.alloc (.cells #[.int .i64 0, .int .i64 0, .slice none 0 0, .bool false, .string ⟨#[]⟩] 40) = W0 := ⟨_, rfl⟩
  obtain ⟨m, hm⟩ : ∃ m, wr.heap.size = m := ⟨_, rfl⟩
  have Z0 : W0.cell? ⟨m, 0, none⟩ = some (.int .i64 0) ∧ W0.cell? ⟨m, 1, none⟩ = some (.int .i64 0) ∧ W0.cell? ⟨m, 2, none⟩ = some (.slice none 0 0) ∧ W0.cell? ⟨m, 3, none⟩ = some (.bool false) ∧ W0.cell? ⟨m, 4, none⟩ = some (.string ⟨#[]⟩) := by
   rw [← hW0, ← hm]; exact ⟨by simp, by simp, by simp, by simp, by simp⟩
  have hnew : W0.heap[m]? = some (.cells #[.int .i64 0, .int .i64 0, .slice none 0 0, .bool false, .string ⟨#[]⟩] 40) := by rw [← hW0, ← hm]; exact World.alloc_heap_new _ _
  have F0 : ∀ r, W0.frozen? ⟨m, r, none⟩ = false := fun r => by simp [World.frozen?, hnew]
  have lm : m < W0.heap.size := by rw [← hW0, ← hm]; simp
  have bW0 : Below wr.heap.size wr W0 := by rw [← hW0]; exact (Below.refl _ _).alloc (Nat.le_refl _) _
  have HZ := Lib.hid (And.intro Z0 (And.intro F0 (And.intro lm bW0)))
  have HW0 := Lib.hid (And.intro hW0 hm)
  have hmsz : w.heap.size ≤ m := by omega
  clear Z0 F0 lm bW0 hW0 hm hbw hnew
  rcases la with _ | ⟨xa, la⟩
  ·obtain rfl : na = 0 := by have := hT.out.1; simpa using this.symm
   rcases lb with _ | ⟨xb, lb⟩
   ·obtain rfl : nb = 0 := by have := hT.out.2.1; simpa using this.symm
    have hend := Lib.hid (And.intro (tog_close hT.out.2.2.1 HL.out.1 HL.out.2) (show ps.length ≤ a.length + b.length by have h1 := hT.out.2.2.2; have h2 := hT.out.2.2.1.ri; have h3 := hT.out.2.2.1.rj; omega))
    obtain ⟨v, hb1, hb2⟩ := hbox.out
    obtain ⟨A2, c2, rfl⟩ := own_form hb2.1
    have hc0 := hb1.cell
    have HB2 := Lib.hid hb2
    clear hb1 hb2
    go_wp2_with fail
    go_ret2
    exact .inl ⟨A2, c2, ps, rfl, by have h := HB2.out; rw [← HBS.out] at h; exact h, hend.out.2, hbel.out, Lib.hid hend.out.1⟩
   ·obtain ⟨kb, rfl⟩ : ∃ kb, nb = kb + 1 := ⟨nb - 1, by have := hT.out.2.1; simp at this; omega⟩
    have hkb : lb.length = kb := by have := hT.out.2.1; simpa using this
    obtain ⟨pb, offb, Pb1, qb, rfl, hpb, hxb⟩ := vs_head hvb.out
    have htl := vs_tail hvb.out
    obtain ⟨sb, vnb, vpb, vgb, vxb⟩ := xb
    obtain ⟨kpb, hkpb⟩ : ∃ kpb, vpb.length = kpb := ⟨_, rfl⟩
    have HPB := Lib.hid (And.intro hkpb (And.intro hxb (And.intro htl hkb)))
    have e1 : (0 : Int) < ((kb : Int) + 1) := by omega
    have e2b : (((kb : Int) + 1) == 0) = false := by simp; omega
    have e3b : decide ((0 : Int) < ((kb : Int) + 1)) = true := decide_eq_true (by omega)
    have e4b : ¬ ((kb : Int) + 1 = 0) := by omega
    clear hkpb hxb htl hkb
    have HLE : Hid (∀ z ∈ ([] : List Vr), dlt ⟨sb, vnb, vpb, vgb, vxb⟩ z) := Lib.hid (by simp)
    go_wp2_with fail
    rw [HW0.out.1]
    go_quiet (fail)
    obtain ⟨V1, hV1⟩ : ∃ V1, W0.drewN nq = V1 := ⟨_, rfl⟩
    have hB1 : Below W0.heap.size W0 V1 := by rw [← hV1]; exact below_drewN _ _ _
    rw [hV1, HW0.out.2]
    clear hV1
    obtain ⟨⟨zz0, zz1, zz2, zz3, zz4⟩, zf, lm, bW0⟩ := HZ.out
    have z0 := (hB1.cell (p := ⟨m, 0, none⟩) lm).trans zz0
    have z1 := (hB1.cell (p := ⟨m, 1, none⟩) lm).trans zz1
    have z2 := (hB1.cell (p := ⟨m, 2, none⟩) lm).trans zz2
    have z3 := (hB1.cell (p := ⟨m, 3, none⟩) lm).trans zz3
    have z4 := (hB1.cell (p := ⟨m, 4, none⟩) lm).trans zz4
    have bV : Below m wr V1 := by have h := bW0.trans (hB1.mono bW0.size); rwa [HW0.out.2] at h
    have fV : ∀ r, V1.frozen? ⟨m, r, none⟩ = false := fun r => (hB1.frozen (p := ⟨m, r, none⟩) lm).trans (zf r)
    have f0 := fV 0
    have f1 := fV 1
    have f2 := fV 2
    have f3 := fV 3
    have f4 := fV 4
    have lmV : m < V1.heap.size := Nat.lt_of_lt_of_le lm hB1.size
    obtain ⟨x0, x1, x2, x3, x4, _⟩ := HPB.out.2.1.keep (w' := V1) (Nat.zero_le _) hpb (fun q _ hq => bV.cell (by omega))
    simp only at x0 x1 x2 x3 x4
    rw [HPB.out.1] at x2
    have hne : pb ≠ m := by omega
    have HV1 := Lib.hid (And.intro bV lmV)
    clear zz0 zz1 zz2 zz3 zz4 zf lm bW0 bV fV lmV hB1
    obtain ⟨Ax, cx, hrun, hkx, htlx⟩ := slice_tail pb offb kb cb hcb
    have HTX := Lib.hid htlx
    clear htlx
    go_wp2_with fail
    go_region_held3 (fun V => V.cell? ⟨pb, offb, none⟩ = some (.int .i64 sb) ∧ V.cell? ⟨pb, offb + 1, none⟩ = some (.int .i64 vnb) ∧ V.cell? ⟨pb, offb + 2, none⟩ = some (.slice Pb1 kpb qb) ∧ V.cell? ⟨pb, offb + 3, none⟩ = some (.bool vgb) ∧ V.cell? ⟨pb, offb + 4, none⟩ = some (.string vxb))
     (first | (with_reducible exact put5_far_lit hne hHeld) | (with_reducible exact put5_far_lit hne ⟨x0, x1, x2, x3, x4⟩) | (with_reducible exact five_drew ⟨x0, x1, x2, x3, x4⟩)) (fail)
    obtain ⟨V2, hV2⟩ : ∃ V2, put5 V1 m (.int .i64 sb) (.int .i64 vnb) (.slice Pb1 kpb qb) (.bool vgb) (.string vxb) = V2 := ⟨_, rfl⟩
    rw [put5_lit, hV2]
    have hn5 := put5_new (V := V1) (u0 := .int .i64 sb) (u1 := .int .i64 vnb) (u2 := .slice Pb1 kpb qb) (u3 := .bool vgb) (u4 := .string vxb) ⟨z0, z1, z2, z3, z4⟩
    have hb5 := put5_below (V := V1) (m := m) (u0 := .int .i64 sb) (u1 := .int .i64 vnb) (u2 := .slice Pb1 kpb qb) (u3 := .bool vgb) (u4 := .string vxb)
    rw [hV2] at hn5 hb5
    obtain ⟨y0, y1, y2, y3, y4⟩ := hn5
    have bV2 : Below m wr V2 := HV1.out.1.trans hb5
    have HV2 := Lib.hid bV2
    clear hV2 hb5 bV2 x0 x1 x2 x3 x4 z0 z1 z2 z3 z4 f0 f1 f2 f3 f4 hrun
    have hB0 : Below w.heap.size wr V2 := HV2.out.mono hmsz
    have hbxV : Box base w.heap.size ab V2 ps := hbox.out.below hsz (by rw [HW0.out.2]; exact HV2.out)
    have hpV : Pa V2 0 w.heap.size Pb1 qb ⟨sb, vnb, vpb, vgb, vxb⟩ := Pa.below HPB.out.2.1.2.2.2.2.2 hB0
    have hBb : w.heap.size ≤ base := by rw [← HBS.out]; exact Nat.le_refl _
    have hsV : base ≤ V2.heap.size := Nat.le_trans hbs HV2.out.size
    have hps : ps.length ≤ 1024 := by have h1 := hT.out.2.2.2; have h2 := hT.out.2.2.1.ri; have h3 := hT.out.2.2.1.rj; have h4 := HV.out.2.2.1; have h5 := HV.out.2.2.2.1; omega
    by_cases hdd : 0 < ps.length ∧ (ps.getD (ps.length - 1) z0).1.s = sb ∧ (ps.getD (ps.length - 1) z0).1.n = vnb
    ·have HD := Lib.hid hdd
     have hK := keep_old base w.heap.size ab Pb1 qb kpb sb vnb vpb vgb vxb HPB.out.1 ps V2 (Nat.le_trans hBb hsV) hbxV hpV hps hdd.1 hdd.2
     have hB4 := Nat.le_trans hBb hsV
     have HBX := Lib.hid hbxV
     clear hbxV hpV hps hdd
     by_cases heq : (ps.getD (ps.length - 1) z0).1 = (⟨sb, vnb, vpb, vgb, vxb⟩ : Vr)
     ·rw [decide_eq_true heq] at hK
      have HIN : Hid ((⟨sb, vnb, vpb, vgb, vxb⟩ : Vr) ∈ ps.map Prod.fst) := Lib.hid (by rw [← heq]; exact last_mem HD.out.1)
      clear heq
      go_wp2_with fail
      refine Calls.mono hK ?_
      rintro e w4 ⟨rfl, hb4⟩
      have H4 := Lib.hid hb4
      clear hK hb4
      go_wp2_with fail
      exact ⟨going_b_old hT.out HV.out.2.2.2.2.2 HL.out.1 HL.out.2 HIN.out (HTX.out wr 0 w.heap.size _ lb HPB.out.2.2.2 hvb.out) hva.out (HBX.out.below hB4 H4.out) hbel.out (hB0.trans (H4.out.mono hB4)) hkx hca (Nat.le_trans hsV H4.out.size), by simp only [lenV]; omega⟩
     ·rw [decide_eq_false heq] at hK
      have HTW : Hid (Twin a b) := Lib.hid (tog_twin hT.out.2.2.1 HV.out.2.2.2.2.2 HL.out.2 (last_mem HD.out.1) HD.out.2 heq)
      clear heq
      go_wp2_with fail
      refine Calls.mono hK ?_
      rintro e w4 ⟨rfl, hb4⟩
      have H4 := Lib.hid hb4
      clear hK hb4
      go_wp2_with fail
      go_ret2
      exact .inr ⟨rfl, (hbel.out.trans hB0).trans (H4.out.mono hB4), HTW⟩
    ·have HN := Lib.hid hdd
     have HK := Lib.hid (fun hl => keep_new base w.heap.size ab Pb1 qb kpb sb vnb vpb vgb vxb HPB.out.1 ps V2 hbab hBb hsV hbxV hpV hps hl)
     have hK := HK.out (fun h0 hs => HN.out ⟨h0, hs⟩)
     clear HK hbxV hpV hps hdd
     go_wp2_with fail
     refine Calls.mono hK ?_
     rintro e w4 ⟨rfl, hbx4, hb4⟩
     have H4 := Lib.hid (And.intro hbx4 hb4)
     clear hK hbx4 hb4
     go_wp2_with fail
     exact ⟨going_b hT.out HV.out.2.2.2.2.2 HL.out.1 HL.out.2 HLE.out (step_b_new hT.out.2.2.1 HL.out.2 (fun h0 hs => HN.out ⟨h0, hs⟩)) (HTX.out wr 0 w.heap.size _ lb HPB.out.2.2.2 hvb.out) hva.out H4.out.1 hbel.out (hB0.trans (H4.out.2.mono hBb)) hkx hca (Nat.le_trans hsV H4.out.2.size), by simp only [lenV]; omega⟩

  ·obtain ⟨ka, rfl⟩ : ∃ ka, na = ka + 1 := ⟨na - 1, by have := hT.out.1; simp at this; omega⟩
   have hka : la.length = ka := by have := hT.out.1; simpa using this
   obtain ⟨pa, offa, Pa1, qa, rfl, hpa, hxa⟩ := vs_head hva.out
   have htl := vs_tail hva.out
   obtain ⟨sa, vna, vpa, vga, vxa⟩ := xa
   obtain ⟨kpa, hkpa⟩ : ∃ kpa, vpa.length = kpa := ⟨_, rfl⟩
   have HPA := Lib.hid (And.intro hkpa (And.intro hxa (And.intro htl hka)))
   have e1 : (0 : Int) < ((ka : Int) + 1) := by omega
   have e2a : (((ka : Int) + 1) == 0) = false := by simp; omega
   have e3a : decide ((0 : Int) < ((ka : Int) + 1)) = true := decide_eq_true (by omega)
   have e4a : ¬ ((ka : Int) + 1 = 0) := by omega
   clear hkpa hxa htl hka
   rcases lb with _ | ⟨xb, lb⟩
   ·obtain rfl : nb = 0 := by have := hT.out.2.1; simpa using this.symm
    have HLE : Hid (∀ z ∈ ([] : List Vr), dlt ⟨sa, vna, vpa, vga, vxa⟩ z ∨ same ⟨sa, vna, vpa, vga, vxa⟩ z) := Lib.hid (by simp)
    go_wp2_with fail
    rw [HW0.out.1]
    go_quiet (fail)
    obtain ⟨V1, hV1⟩ : ∃ V1, W0.drewN nq = V1 := ⟨_, rfl⟩
    have hB1 : Below W0.heap.size W0 V1 := by rw [← hV1]; exact below_drewN _ _ _
    rw [hV1, HW0.out.2]
    clear hV1
    obtain ⟨⟨zz0, zz1, zz2, zz3, zz4⟩, zf, lm, bW0⟩ := HZ.out
    have z0 := (hB1.cell (p := ⟨m, 0, none⟩) lm).trans zz0
    have z1 := (hB1.cell (p := ⟨m, 1, none⟩) lm).trans zz1
    have z2 := (hB1.cell (p := ⟨m, 2, none⟩) lm).trans zz2
    have z3 := (hB1.cell (p := ⟨m, 3, none⟩) lm).trans zz3
    have z4 := (hB1.cell (p := ⟨m, 4, none⟩) lm).trans zz4
    have bV : Below m wr V1 := by have h := bW0.trans (hB1.mono bW0.size); rwa [HW0.out.2] at h
    have fV : ∀ r, V1.frozen? ⟨m, r, none⟩ = false := fun r => (hB1.frozen (p := ⟨m, r, none⟩) lm).trans (zf r)
    have f0 := fV 0
    have f1 := fV 1
    have f2 := fV 2
    have f3 := fV 3
    have f4 := fV 4
    have lmV : m < V1.heap.size := Nat.lt_of_lt_of_le lm hB1.size
    obtain ⟨x0, x1, x2, x3, x4, _⟩ := HPA.out.2.1.keep (w' := V1) (Nat.zero_le _) hpa (fun q _ hq => bV.cell (by omega))
    simp only at x0 x1 x2 x3 x4
    rw [HPA.out.1] at x2
    have hne : pa ≠ m := by omega
    have HV1 := Lib.hid (And.intro bV lmV)
    clear zz0 zz1 zz2 zz3 zz4 zf lm bW0 bV fV lmV hB1
    obtain ⟨Ax, cx, hrun, hkx, htlx⟩ := slice_tail pa offa ka ca hca
    have HTX := Lib.hid htlx
    clear htlx
    go_wp2_with fail
    go_region_held3 (fun V => V.cell? ⟨pa, offa, none⟩ = some (.int .i64 sa) ∧ V.cell? ⟨pa, offa + 1, none⟩ = some (.int .i64 vna) ∧ V.cell? ⟨pa, offa + 2, none⟩ = some (.slice Pa1 kpa qa) ∧ V.cell? ⟨pa, offa + 3, none⟩ = some (.bool vga) ∧ V.cell? ⟨pa, offa + 4, none⟩ = some (.string vxa))
     (first | (with_reducible exact put5_far_lit hne hHeld) | (with_reducible exact put5_far_lit hne ⟨x0, x1, x2, x3, x4⟩) | (with_reducible exact five_drew ⟨x0, x1, x2, x3, x4⟩)) (fail)
    obtain ⟨V2, hV2⟩ : ∃ V2, put5 V1 m (.int .i64 sa) (.int .i64 vna) (.slice Pa1 kpa qa) (.bool vga) (.string vxa) = V2 := ⟨_, rfl⟩
    rw [put5_lit, hV2]
    have hn5 := put5_new (V := V1) (u0 := .int .i64 sa) (u1 := .int .i64 vna) (u2 := .slice Pa1 kpa qa) (u3 := .bool vga) (u4 := .string vxa) ⟨z0, z1, z2, z3, z4⟩
    have hb5 := put5_below (V := V1) (m := m) (u0 := .int .i64 sa) (u1 := .int .i64 vna) (u2 := .slice Pa1 kpa qa) (u3 := .bool vga) (u4 := .string vxa)
    rw [hV2] at hn5 hb5
    obtain ⟨y0, y1, y2, y3, y4⟩ := hn5
    have bV2 : Below m wr V2 := HV1.out.1.trans hb5
    have HV2 := Lib.hid bV2
    clear hV2 hb5 bV2 x0 x1 x2 x3 x4 z0 z1 z2 z3 z4 f0 f1 f2 f3 f4 hrun
    have hB0 : Below w.heap.size wr V2 := HV2.out.mono hmsz
    have hbxV : Box base w.heap.size ab V2 ps := hbox.out.below hsz (by rw [HW0.out.2]; exact HV2.out)
    have hpV : Pa V2 0 w.heap.size Pa1 qa ⟨sa, vna, vpa, vga, vxa⟩ := Pa.below HPA.out.2.1.2.2.2.2.2 hB0
    have hBb : w.heap.size ≤ base := by rw [← HBS.out]; exact Nat.le_refl _
    have hsV : base ≤ V2.heap.size := Nat.le_trans hbs HV2.out.size
    have hps : ps.length ≤ 1024 := by have h1 := hT.out.2.2.2; have h2 := hT.out.2.2.1.ri; have h3 := hT.out.2.2.1.rj; have h4 := HV.out.2.2.1; have h5 := HV.out.2.2.2.1; omega
    have HK := Lib.hid (fun hl => keep_new base w.heap.size ab Pa1 qa kpa sa vna vpa vga vxa HPA.out.1 ps V2 hbab hBb hsV hbxV hpV hps hl)
    have hK := HK.out (step_a_last hT.out.2.2.1 HL.out.1)
    clear HK hbxV hpV hps
    go_wp2_with fail
    refine Calls.mono hK ?_
    rintro e w4 ⟨rfl, hbx4, hb4⟩
    have H4 := Lib.hid (And.intro hbx4 hb4)
    clear hK hbx4 hb4
    go_wp2_with fail
    exact ⟨going_a hT.out HV.out.2.2.2.2.1 HV.out.2.2.2.2.2 HL.out.1 HL.out.2 HLE.out (HTX.out wr 0 w.heap.size _ la HPA.out.2.2.2 hva.out) hvb.out H4.out.1 hbel.out (hB0.trans (H4.out.2.mono hBb)) hkx hcb (Nat.le_trans hsV H4.out.2.size), by simp only [lenV]; omega⟩
   ·obtain ⟨kb, rfl⟩ : ∃ kb, nb = kb + 1 := ⟨nb - 1, by have := hT.out.2.1; simp at this; omega⟩
    have hkb : lb.length = kb := by have := hT.out.2.1; simpa using this
    obtain ⟨pb, offb, Pb1, qb, rfl, hpb, hxb⟩ := vs_head hvb.out
    have htl := vs_tail hvb.out
    obtain ⟨sb, vnb, vpb, vgb, vxb⟩ := xb
    obtain ⟨kpb, hkpb⟩ : ∃ kpb, vpb.length = kpb := ⟨_, rfl⟩
    have HPB := Lib.hid (And.intro hkpb (And.intro hxb (And.intro htl hkb)))
    have e1 : (0 : Int) < ((kb : Int) + 1) := by omega
    have e2b : (((kb : Int) + 1) == 0) = false := by simp; omega
    have e3b : decide ((0 : Int) < ((kb : Int) + 1)) = true := decide_eq_true (by omega)
    have e4b : ¬ ((kb : Int) + 1 = 0) := by omega
    clear hkpb hxb htl hkb
    have hcl := cmpD_le sa vna sb vnb
    obtain ⟨q, hq⟩ : ∃ q, cmpD sa vna sb vnb = q := ⟨_, rfl⟩
    rw [hq] at hcl
    have HQ : Hid ((q ≤ 0 → ∀ z ∈ (⟨sb, vnb, vpb, vgb, vxb⟩ :: lb : List Vr), dlt ⟨sa, vna, vpa, vga, vxa⟩ z ∨ same ⟨sa, vna, vpa, vga, vxa⟩ z) ∧ (¬ q ≤ 0 → ∀ z ∈ (⟨sa, vna, vpa, vga, vxa⟩ :: la : List Vr), dlt ⟨sb, vnb, vpb, vgb, vxb⟩ z)) := Lib.hid (both_heads hcl (by have := rise_drop HV.out.2.2.2.2.1 i; rwa [HL.out.1] at this) (by have := rise_drop HV.out.2.2.2.2.2 j; rwa [HL.out.2] at this))
    have H2 : Hid (∀ V, Calls Tryz.prog 52 #[.agg #[.int .i64 sa, .int .i64 vna], .agg #[.int .i64 sb, .int .i64 vnb]] V fun e w' => e = .returned (.int .i64 q) ∧ Below V.heap.size V w') := Lib.hid fun V => by rw [← hq]; exact compare_any sa vna sb vnb V
    clear hcl hq
    have hst : W0.cell? ⟨pa, offa, none⟩ = some (.int .i64 sa) ∧ W0.cell? ⟨pa, offa + 1, none⟩ = some (.int .i64 vna) ∧ W0.cell? ⟨pb, offb, none⟩ = some (.int .i64 sb) ∧ W0.cell? ⟨pb, offb + 1, none⟩ = some (.int .i64 vnb) ∧ Below W0.heap.size W0 W0 :=
     have b0 := HZ.out.2.2.2
     ⟨(b0.cell (p := ⟨pa, offa, none⟩) (by simp only; omega)).trans HPA.out.2.1.1, (b0.cell (p := ⟨pa, offa + 1, none⟩) (by simp only; omega)).trans HPA.out.2.1.2.1, (b0.cell (p := ⟨pb, offb, none⟩) (by simp only; omega)).trans HPB.out.2.1.1, (b0.cell (p := ⟨pb, offb + 1, none⟩) (by simp only; omega)).trans HPB.out.2.1.2.1, Below.refl _ _⟩
    have lpa : pa < W0.heap.size := by have := HZ.out.2.2.1; omega
    have lpb : pb < W0.heap.size := by have := HZ.out.2.2.1; omega
    have hst' := two_drew hst
    by_cases hq0 : q ≤ 0
    ·have g5 : decide (q ≤ 0) = true := decide_eq_true hq0
     have HLE : Hid (∀ z ∈ (⟨sb, vnb, vpb, vgb, vxb⟩ :: lb : List Vr), dlt ⟨sa, vna, vpa, vga, vxa⟩ z ∨ same ⟨sa, vna, vpa, vga, vxa⟩ z) := Lib.hid (HQ.out.1 hq0)
     clear hq0
     go_wp2_with fail
     rw [HW0.out.1, HW0.out.2]
     go_region_held3 (fun V => V.cell? ⟨pa, offa, none⟩ = some (.int .i64 sa) ∧ V.cell? ⟨pa, offa + 1, none⟩ = some (.int .i64 vna) ∧ V.cell? ⟨pb, offb, none⟩ = some (.int .i64 sb) ∧ V.cell? ⟨pb, offb + 1, none⟩ = some (.int .i64 vnb) ∧ Below W0.heap.size W0 V) (first | exact hst' | exact two_keep lpa lpb (by assumption) (by assumption)) (first | (go_at_call 52; refine (H2.out _).mono ?_; rintro e V1 ⟨rfl, b1⟩))
     have hB1 : Below W0.heap.size W0 V1 := (Below.refl _ _).drew.trans b1
     clear hst hst' lpa lpb b1
     obtain ⟨⟨zz0, zz1, zz2, zz3, zz4⟩, zf, lm, bW0⟩ := HZ.out
     have z0 := (hB1.cell (p := ⟨m, 0, none⟩) lm).trans zz0
     have z1 := (hB1.cell (p := ⟨m, 1, none⟩) lm).trans zz1
     have z2 := (hB1.cell (p := ⟨m, 2, none⟩) lm).trans zz2
     have z3 := (hB1.cell (p := ⟨m, 3, none⟩) lm).trans zz3
     have z4 := (hB1.cell (p := ⟨m, 4, none⟩) lm).trans zz4
     have bV : Below m wr V1 := by have h := bW0.trans (hB1.mono bW0.size); rwa [HW0.out.2] at h
     have fV : ∀ r, V1.frozen? ⟨m, r, none⟩ = false := fun r => (hB1.frozen (p := ⟨m, r, none⟩) lm).trans (zf r)
     have f0 := fV 0
     have f1 := fV 1
     have f2 := fV 2
     have f3 := fV 3
     have f4 := fV 4
     have lmV : m < V1.heap.size := Nat.lt_of_lt_of_le lm hB1.size
     obtain ⟨x0, x1, x2, x3, x4, _⟩ := HPA.out.2.1.keep (w' := V1) (Nat.zero_le _) hpa (fun q _ hq => bV.cell (by omega))
     simp only at x0 x1 x2 x3 x4
     rw [HPA.out.1] at x2
     have hne : pa ≠ m := by omega
     have HV1 := Lib.hid (And.intro bV lmV)
     clear zz0 zz1 zz2 zz3 zz4 zf lm bW0 bV fV lmV hB1
     obtain ⟨Ax, cx, hrun, hkx, htlx⟩ := slice_tail pa offa ka ca hca
     have HTX := Lib.hid htlx
     clear htlx
     go_wp2_with fail
     go_region_held3 (fun V => V.cell? ⟨pa, offa, none⟩ = some (.int .i64 sa) ∧ V.cell? ⟨pa, offa + 1, none⟩ = some (.int .i64 vna) ∧ V.cell? ⟨pa, offa + 2, none⟩ = some (.slice Pa1 kpa qa) ∧ V.cell? ⟨pa, offa + 3, none⟩ = some (.bool vga) ∧ V.cell? ⟨pa, offa + 4, none⟩ = some (.string vxa))
      (first | (with_reducible exact put5_far_lit hne hHeld) | (with_reducible exact put5_far_lit hne ⟨x0, x1, x2, x3, x4⟩) | (with_reducible exact five_drew ⟨x0, x1, x2, x3, x4⟩)) (fail)
     obtain ⟨V2, hV2⟩ : ∃ V2, put5 V1 m (.int .i64 sa) (.int .i64 vna) (.slice Pa1 kpa qa) (.bool vga) (.string vxa) = V2 := ⟨_, rfl⟩
     rw [put5_lit, hV2]
     have hn5 := put5_new (V := V1) (u0 := .int .i64 sa) (u1 := .int .i64 vna) (u2 := .slice Pa1 kpa qa) (u3 := .bool vga) (u4 := .string vxa) ⟨z0, z1, z2, z3, z4⟩
     have hb5 := put5_below (V := V1) (m := m) (u0 := .int .i64 sa) (u1 := .int .i64 vna) (u2 := .slice Pa1 kpa qa) (u3 := .bool vga) (u4 := .string vxa)
     rw [hV2] at hn5 hb5
     obtain ⟨y0, y1, y2, y3, y4⟩ := hn5
     have bV2 : Below m wr V2 := HV1.out.1.trans hb5
     have HV2 := Lib.hid bV2
     clear hV2 hb5 bV2 x0 x1 x2 x3 x4 z0 z1 z2 z3 z4 f0 f1 f2 f3 f4 hrun
     have hB0 : Below w.heap.size wr V2 := HV2.out.mono hmsz
     have hbxV : Box base w.heap.size ab V2 ps := hbox.out.below hsz (by rw [HW0.out.2]; exact HV2.out)
     have hpV : Pa V2 0 w.heap.size Pa1 qa ⟨sa, vna, vpa, vga, vxa⟩ := Pa.below HPA.out.2.1.2.2.2.2.2 hB0
     have hBb : w.heap.size ≤ base := by rw [← HBS.out]; exact Nat.le_refl _
     have hsV : base ≤ V2.heap.size := Nat.le_trans hbs HV2.out.size
     have hps : ps.length ≤ 1024 := by have h1 := hT.out.2.2.2; have h2 := hT.out.2.2.1.ri; have h3 := hT.out.2.2.1.rj; have h4 := HV.out.2.2.1; have h5 := HV.out.2.2.2.1; omega
     have HK := Lib.hid (fun hl => keep_new base w.heap.size ab Pa1 qa kpa sa vna vpa vga vxa HPA.out.1 ps V2 hbab hBb hsV hbxV hpV hps hl)
     have hK := HK.out (step_a_last hT.out.2.2.1 HL.out.1)
     clear HK hbxV hpV hps
     go_wp2_with fail
     refine Calls.mono hK ?_
     rintro e w4 ⟨rfl, hbx4, hb4⟩
     have H4 := Lib.hid (And.intro hbx4 hb4)
     clear hK hbx4 hb4
     go_wp2_with fail
     exact ⟨going_a hT.out HV.out.2.2.2.2.1 HV.out.2.2.2.2.2 HL.out.1 HL.out.2 HLE.out (HTX.out wr 0 w.heap.size _ la HPA.out.2.2.2 hva.out) hvb.out H4.out.1 hbel.out (hB0.trans (H4.out.2.mono hBb)) hkx hcb (Nat.le_trans hsV H4.out.2.size), by simp only [lenV]; omega⟩
    ·have g5 : decide (q ≤ 0) = false := decide_eq_false hq0
     have HLE : Hid (∀ z ∈ (⟨sa, vna, vpa, vga, vxa⟩ :: la : List Vr), dlt ⟨sb, vnb, vpb, vgb, vxb⟩ z) := Lib.hid (HQ.out.2 hq0)
     clear hq0
     go_wp2_with fail
     rw [HW0.out.1, HW0.out.2]
     go_region_held3 (fun V => V.cell? ⟨pa, offa, none⟩ = some (.int .i64 sa) ∧ V.cell? ⟨pa, offa + 1, none⟩ = some (.int .i64 vna) ∧ V.cell? ⟨pb, offb, none⟩ = some (.int .i64 sb) ∧ V.cell? ⟨pb, offb + 1, none⟩ = some (.int .i64 vnb) ∧ Below W0.heap.size W0 V) (first | exact hst' | exact two_keep lpa lpb (by assumption) (by assumption)) (first | (go_at_call 52; refine (H2.out _).mono ?_; rintro e V1 ⟨rfl, b1⟩))
     have hB1 : Below W0.heap.size W0 V1 := (Below.refl _ _).drew.trans b1
     clear hst hst' lpa lpb b1
     obtain ⟨⟨zz0, zz1, zz2, zz3, zz4⟩, zf, lm, bW0⟩ := HZ.out
     have z0 := (hB1.cell (p := ⟨m, 0, none⟩) lm).trans zz0
     have z1 := (hB1.cell (p := ⟨m, 1, none⟩) lm).trans zz1
     have z2 := (hB1.cell (p := ⟨m, 2, none⟩) lm).trans zz2
     have z3 := (hB1.cell (p := ⟨m, 3, none⟩) lm).trans zz3
     have z4 := (hB1.cell (p := ⟨m, 4, none⟩) lm).trans zz4
     have bV : Below m wr V1 := by have h := bW0.trans (hB1.mono bW0.size); rwa [HW0.out.2] at h
     have fV : ∀ r, V1.frozen? ⟨m, r, none⟩ = false := fun r => (hB1.frozen (p := ⟨m, r, none⟩) lm).trans (zf r)
     have f0 := fV 0
     have f1 := fV 1
     have f2 := fV 2
     have f3 := fV 3
     have f4 := fV 4
     have lmV : m < V1.heap.size := Nat.lt_of_lt_of_le lm hB1.size
     obtain ⟨x0, x1, x2, x3, x4, _⟩ := HPB.out.2.1.keep (w' := V1) (Nat.zero_le _) hpb (fun q _ hq => bV.cell (by omega))
     simp only at x0 x1 x2 x3 x4
     rw [HPB.out.1] at x2
     have hne : pb ≠ m := by omega
     have HV1 := Lib.hid (And.intro bV lmV)
     clear zz0 zz1 zz2 zz3 zz4 zf lm bW0 bV fV lmV hB1
     obtain ⟨Ax, cx, hrun, hkx, htlx⟩ := slice_tail pb offb kb cb hcb
     have HTX := Lib.hid htlx
     clear htlx
     go_wp2_with fail
     go_region_held3 (fun V => V.cell? ⟨pb, offb, none⟩ = some (.int .i64 sb) ∧ V.cell? ⟨pb, offb + 1, none⟩ = some (.int .i64 vnb) ∧ V.cell? ⟨pb, offb + 2, none⟩ = some (.slice Pb1 kpb qb) ∧ V.cell? ⟨pb, offb + 3, none⟩ = some (.bool vgb) ∧ V.cell? ⟨pb, offb + 4, none⟩ = some (.string vxb))
      (first | (with_reducible exact put5_far_lit hne hHeld) | (with_reducible exact put5_far_lit hne ⟨x0, x1, x2, x3, x4⟩) | (with_reducible exact five_drew ⟨x0, x1, x2, x3, x4⟩)) (fail)
     obtain ⟨V2, hV2⟩ : ∃ V2, put5 V1 m (.int .i64 sb) (.int .i64 vnb) (.slice Pb1 kpb qb) (.bool vgb) (.string vxb) = V2 := ⟨_, rfl⟩
     rw [put5_lit, hV2]
     have hn5 := put5_new (V := V1) (u0 := .int .i64 sb) (u1 := .int .i64 vnb) (u2 := .slice Pb1 kpb qb) (u3 := .bool vgb) (u4 := .string vxb) ⟨z0, z1, z2, z3, z4⟩
     have hb5 := put5_below (V := V1) (m := m) (u0 := .int .i64 sb) (u1 := .int .i64 vnb) (u2 := .slice Pb1 kpb qb) (u3 := .bool vgb) (u4 := .string vxb)
     rw [hV2] at hn5 hb5
     obtain ⟨y0, y1, y2, y3, y4⟩ := hn5
     have bV2 : Below m wr V2 := HV1.out.1.trans hb5
     have HV2 := Lib.hid bV2
     clear hV2 hb5 bV2 x0 x1 x2 x3 x4 z0 z1 z2 z3 z4 f0 f1 f2 f3 f4 hrun
     have hB0 : Below w.heap.size wr V2 := HV2.out.mono hmsz
     have hbxV : Box base w.heap.size ab V2 ps := hbox.out.below hsz (by rw [HW0.out.2]; exact HV2.out)
     have hpV : Pa V2 0 w.heap.size Pb1 qb ⟨sb, vnb, vpb, vgb, vxb⟩ := Pa.below HPB.out.2.1.2.2.2.2.2 hB0
     have hBb : w.heap.size ≤ base := by rw [← HBS.out]; exact Nat.le_refl _
     have hsV : base ≤ V2.heap.size := Nat.le_trans hbs HV2.out.size
     have hps : ps.length ≤ 1024 := by have h1 := hT.out.2.2.2; have h2 := hT.out.2.2.1.ri; have h3 := hT.out.2.2.1.rj; have h4 := HV.out.2.2.1; have h5 := HV.out.2.2.2.1; omega
     by_cases hdd : 0 < ps.length ∧ (ps.getD (ps.length - 1) z0).1.s = sb ∧ (ps.getD (ps.length - 1) z0).1.n = vnb
     ·have HD := Lib.hid hdd
      have hK := keep_old base w.heap.size ab Pb1 qb kpb sb vnb vpb vgb vxb HPB.out.1 ps V2 (Nat.le_trans hBb hsV) hbxV hpV hps hdd.1 hdd.2
      have hB4 := Nat.le_trans hBb hsV
      have HBX := Lib.hid hbxV
      clear hbxV hpV hps hdd
      by_cases heq : (ps.getD (ps.length - 1) z0).1 = (⟨sb, vnb, vpb, vgb, vxb⟩ : Vr)
      ·rw [decide_eq_true heq] at hK
       have HIN : Hid ((⟨sb, vnb, vpb, vgb, vxb⟩ : Vr) ∈ ps.map Prod.fst) := Lib.hid (by rw [← heq]; exact last_mem HD.out.1)
       clear heq
       go_wp2_with fail
       refine Calls.mono hK ?_
       rintro e w4 ⟨rfl, hb4⟩
       have H4 := Lib.hid hb4
       clear hK hb4
       go_wp2_with fail
       exact ⟨going_b_old hT.out HV.out.2.2.2.2.2 HL.out.1 HL.out.2 HIN.out (HTX.out wr 0 w.heap.size _ lb HPB.out.2.2.2 hvb.out) hva.out (HBX.out.below hB4 H4.out) hbel.out (hB0.trans (H4.out.mono hB4)) hkx hca (Nat.le_trans hsV H4.out.size), by simp only [lenV]; omega⟩
      ·rw [decide_eq_false heq] at hK
       have HTW : Hid (Twin a b) := Lib.hid (tog_twin hT.out.2.2.1 HV.out.2.2.2.2.2 HL.out.2 (last_mem HD.out.1) HD.out.2 heq)
       clear heq
       go_wp2_with fail
       refine Calls.mono hK ?_
       rintro e w4 ⟨rfl, hb4⟩
       have H4 := Lib.hid hb4
       clear hK hb4
       go_wp2_with fail
       go_ret2
       exact .inr ⟨rfl, (hbel.out.trans hB0).trans (H4.out.mono hB4), HTW⟩
     ·have HN := Lib.hid hdd
      have HK := Lib.hid (fun hl => keep_new base w.heap.size ab Pb1 qb kpb sb vnb vpb vgb vxb HPB.out.1 ps V2 hbab hBb hsV hbxV hpV hps hl)
      have hK := HK.out (fun h0 hs => HN.out ⟨h0, hs⟩)
      clear HK hbxV hpV hps hdd
      go_wp2_with fail
      refine Calls.mono hK ?_
      rintro e w4 ⟨rfl, hbx4, hb4⟩
      have H4 := Lib.hid (And.intro hbx4 hb4)
      clear hK hbx4 hb4
      go_wp2_with fail
      exact ⟨going_b hT.out HV.out.2.2.2.2.2 HL.out.1 HL.out.2 HLE.out (step_b_new hT.out.2.2.1 HL.out.2 (fun h0 hs => HN.out ⟨h0, hs⟩)) (HTX.out wr 0 w.heap.size _ lb HPB.out.2.2.2 hvb.out) hva.out H4.out.1 hbel.out (hB0.trans (H4.out.2.mono hBb)) hkx hca (Nat.le_trans hsV H4.out.2.size), by simp only [lenV]; omega⟩
end Vers
end Go.Proofs.YtbhidndgnldheaaGreat

/-
 A range over a method value (its receiver is bound ahead) whose rounds are told, beside what is told, what holds of it.
-/
namespace Go.Proofs.YtbhidndgnldheaaGreat
namespace Rounds
open Go.RowKit
variable {F : Fence} {n : Nat} {P : Program}
theorem range_bound {α : Type} {g : Operand} {ps : Array Tmp} {assign body : Code} {Q : Exit → Act → World → Prop} {a : Act} {w : World} {D : Nat} (hD : w.heap.size = D)
  (hro : F.round = none) (h1 : 1 ≤ n) {gf : Nat} {lb : Array Value} (hg : a.eval g = .func (.func gf) lb #[]) (hFg : F.fn gf) (eg : ∀ args w, (callFunc gf args).run P w = .ok (.enter gf args) w)
  (encs : α → Array Value) (hps : ∀ x, (encs x).size = ps.size) (T : List α → World → α → World → Prop) (hT : ∀ pre W0 x W1, T pre W0 x W1 → Below W0.heap.size W0 W1) (Kp : World → World → Prop)
  (I : List α → World → Prop) (Ix : Code → List α → World → Prop) (hI : ∀ xs W o, I xs W → I xs (W.putObj (D + 1) o)) (hIx : ∀ c xs W o, Ix c xs W → Ix c xs (W.putObj (D + 1) o)) (Ej Ex : List α → Prop)
  (hseq : ∀ (J Jx : List α → World → Prop) (W : World), Below D w W → W.heap.size = D + 2 → J [] W →
   (∀ pre x W0 W1, T pre W0 x W1 → J pre W0 → YieldAt F (n - 1 - 1) P (D + 1) (encs x) W1 fun e W' => (e = .returned (.bool true) ∧ J (pre ++ [x]) W' ∧ Kp W1 W') ∨ (e = .returned (.bool false) ∧ Jx (pre ++ [x]) W')) →
   CallsIn F (n - 1) P gf (lb ++ #[.func (.yield (D + 1)) #[] #[]]) W fun e W' => (∃ v, e = .returned v) ∧ ((∃ xs, Ej xs ∧ J xs W') ∨ (∃ xs, Ex xs ∧ Jx xs W')))
  (h0 : ∀ W, Below D w W → W.heap.size = D + 2 → I [] W)
  (hround : ∀ pre x W0 W1, D + 2 ≤ W0.heap.size → I pre W0 → T pre W0 x W1 → assign.wpIn (F.inRound (D + 1)) (n - 1 - 1) P
   (Exit.then (fun a' Wa => Held D W1 Wa ∧ ∀ o, body.wpIn (F.inRound (D + 1)) (n - 1 - 1) P (toldPost D Kp I Ix (pre ++ [x]) W1 (Wa.putObj (D + 1) o)) a' (Wa.putObj (D + 1) o)) (fun _ _ _ => False))
   { tmps := (ps.zip (encs x)).foldl (fun t (p, v) => t.setIfInBounds p v) a.tmps, defers := [] } W1)
  (hdone : ∀ xs W, Ej xs → I xs W → W.heap[D]? = some (.deferred (some [])) → Q .normal { a with defers := { target := .collected D, args := #[] } :: a.defers } W)
  (hstop : ∀ c xs W, Ex xs → Ix c xs W → W.heap[D]? = some (.deferred (some [])) → c.wpIn F n P Q { a with defers := { target := .collected D, args := #[] } :: a.defers } W) :
  (Code.rangeFunc g ps assign body).wpIn F n P Q a w := by
 subst hD
 refine wpIn_rangeFunc fun fn hfn => ?_
 rw [hro]
 obtain ⟨rec, hrec⟩ : ∃ rec : LoopState → Option Code → Loop, rec = fun st pe => { state := st, pending := pe, fn, tmps := a.tmps, params := ps, assign, body, defers := w.heap.size } := ⟨_, rfl⟩
 obtain ⟨Wl, hWl⟩ : ∃ Wl, (w.alloc (.deferred (some []))).alloc (.loop (rec .ready none)) = Wl := ⟨_, rfl⟩
 have two : Wl.heap[w.heap.size + 1]? = some (.loop (rec .ready none)) := by
  rw [← hWl]; simpa using World.alloc_heap_new (w.alloc (.deferred (some []))) (.loop (rec .ready none))
 have one : Wl.heap[w.heap.size]? = some (.deferred (some [])) := by
  rw [← hWl, Below.heap_alloc _ _ _ (by simp), World.alloc_heap_new]
 have bel : Below w.heap.size w Wl := by
  rw [← hWl]; exact ((Below.refl _ w).alloc (Nat.le_refl _) _).alloc (by simp) _
 have siz : Wl.heap.size = w.heap.size + 2 := by rw [← hWl]; simp
 refine ⟨w.heap.size + 1, [{ target := .collected w.heap.size, args := #[] }], Wl, { target := .fn (.func gf) #[], args := lb ++ #[.func (.yield (w.heap.size + 1)) #[] #[]] }, Wl, gf,
  lb ++ #[.func (.yield (w.heap.size + 1)) #[] #[]], Wl, ?_, ?_, ?_, ?_, fun _ => h1, ?_⟩
 ·rw [← hWl, hrec]; exact run_enterLoop_outer _ _ _ _ _
 ·simp only [resolve, hg]
  simp [go_sem]
 ·intro f' hf'; simp [Target.leads] at hf'; subst hf'; exact hFg
 ·simp [invoke, go_sem, eg]
 have two_lt : ∀ {W : World} {o : Obj}, W.heap[w.heap.size + 1]? = some o → w.heap.size + 1 < W.heap.size := fun h => (Array.getElem?_eq_some_iff.1 h).1
 refine (hseq (fun xs W => I xs W ∧ W.heap[w.heap.size + 1]? = some (.loop (rec .ready none)) ∧ W.heap[w.heap.size]? = some (.deferred (some [])))
  (fun xs W => ∃ c, Ix c xs W ∧ W.heap[w.heap.size + 1]? = some (.loop (rec .done (some c))) ∧ W.heap[w.heap.size]? = some (.deferred (some []))) Wl bel siz ⟨h0 _ bel siz, two, one⟩ ?_).mono ?_
 ·rintro pre x W0 W1 ht ⟨hi, hl, hk⟩
  have lt0 := two_lt hl
  have h01 : Held w.heap.size W0 W1 := Held.below (hT _ _ _ _ ht) lt0
  have hl1 := h01.two.trans hl
  have hk1 := h01.one.trans hk
  have hy := run_yield (P := P) (args := encs x) hl1 (by rw [hrec]; exact hps x)
  rw [hrec] at hy
  refine ⟨fn, _, assign, body, hy, roundIn_of_wpIn hfn (wpIn_mono (hround pre x W0 W1 lt0 hi ht) ?_)⟩
  intro e a' Wa hp
  cases e with
  | normal =>
   obtain ⟨h1a, hbody⟩ := hp
   have hla := h1a.two.trans hl1
   have hka := h1a.one.trans hk1
   refine ⟨_, run_beginRound hla (by rw [hrec]), ?_⟩
   have lta := two_lt hla
   have hl2 : (Wa.putObj (w.heap.size + 1) (.loop { rec .ready none with state := .busy })).heap[w.heap.size + 1]? = some (.loop { rec .ready none with state := .busy }) := World.putObj_heap_same lta
   have hk2 : (Wa.putObj (w.heap.size + 1) (.loop { rec .ready none with state := .busy })).heap[w.heap.size]? = some (.deferred (some [])) := (World.putObj_heap_other (by omega)).trans hka
   refine wpIn_mono (hbody _) ?_
   have fin : ∀ (jump : Option Code) (W3 : World), Held w.heap.size (Wa.putObj (w.heap.size + 1) (.loop { rec .ready none with state := .busy })) W3 →
     (Instr.endRound (w.heap.size + 1) jump).run P W3 = .ok (.bool jump.isNone) (W3.putObj (w.heap.size + 1) (.loop (rec (if jump.isNone then .ready else .done) jump))) ∧
     (W3.putObj (w.heap.size + 1) (.loop (rec (if jump.isNone then .ready else .done) jump))).heap[w.heap.size + 1]? = some (.loop (rec (if jump.isNone then .ready else .done) jump)) ∧
     (W3.putObj (w.heap.size + 1) (.loop (rec (if jump.isNone then .ready else .done) jump))).heap[w.heap.size]? = some (.deferred (some [])) := fun jump W3 h3 => by
    have hl3 := h3.two.trans hl2
    have hr := run_endRound (P := P) jump hl3
    rw [hrec] at hr ⊢
    exact ⟨hr, World.putObj_heap_same (two_lt hl3), (World.putObj_heap_other (by omega)).trans (h3.one.trans hk2)⟩
   rintro e a3 W3 hp3
   cases e with
   | normal =>
    obtain ⟨h3, hi3, hkp⟩ := hp3
    obtain ⟨hr, hl4, hk4⟩ := fin none W3 h3
    exact ⟨_, _, hr, .inl ⟨rfl, ⟨hI _ _ _ hi3, hl4, hk4⟩, hkp _⟩⟩
   | ret =>
    obtain ⟨hr, hl4, hk4⟩ := fin (some .ret) W3 hp3.1
    exact ⟨_, _, hr, .inr ⟨rfl, .ret, hIx _ _ _ _ hp3.2, hl4, hk4⟩⟩
   | exit id =>
    obtain ⟨hr, hl4, hk4⟩ := fin (some (.exit id)) W3 hp3.1
    exact ⟨_, _, hr, .inr ⟨rfl, .exit id, hIx _ _ _ _ hp3.2, hl4, hk4⟩⟩
   | goto t =>
    obtain ⟨hr, hl4, hk4⟩ := fin (some (.goto t)) W3 hp3.1
    exact ⟨_, _, hr, .inr ⟨rfl, .goto t, hIx _ _ _ _ hp3.2, hl4, hk4⟩⟩
   | panic ch => exact hp3.elim
   | outgrown => exact hp3.elim
  | ret => exact hp.elim
  | exit id => exact hp.elim
  | goto t => exact hp.elim
  | panic ch => exact hp.elim
  | outgrown => exact hp.elim
 ·rintro e W2 ⟨⟨v, rfl⟩, ⟨xs, hE, hi, hl, hk⟩ | ⟨xs, hE, c, hi, hl, hk⟩⟩
  ·have hr := run_endLoop (P := P) hl (by rw [hrec]; simp)
   rw [hrec] at hr
   exact ⟨none, _, hr, hdone xs _ hE (hI _ _ _ hi) ((World.putObj_heap_other (by omega)).trans hk)⟩
  ·have hr := run_endLoop (P := P) hl (by rw [hrec]; simp)
   rw [hrec] at hr
   exact ⟨some c, _, hr, hstop c xs _ hE (hIx _ _ _ _ hi) ((World.putObj_heap_other (by omega)).trans hk)⟩
end Rounds
end Go.Proofs.YtbhidndgnldheaaGreat

/-
 num.Text and firthref01.Text tell what textF tells.
-/
namespace Go.Proofs.YtbhidndgnldheaaGreat
namespace Num
open Go.RowKit

def textF (zs : List Int) (i : Nat) (most : Int) : List Int × Nat × Int :=
 if (numF zs i).2.2 ≠ 0 then ([], 0, (numF zs i).2.2)
 else if max most 0 < (numF zs i).1 then ([], 0, 3)
 else if (zs.length : Int) - (numF zs i).2.1 < (numF zs i).1 then ([], 0, 4)
 else ((zs.drop (numF zs i).2.1).take (numF zs i).1.toNat, (numF zs i).2.1 + (numF zs i).1.toNat, 0)

end Num
end Go.Proofs.YtbhidndgnldheaaGreat

/-
 num.PutNum and firthref01.PutNum make the bytes of the number, putL.
-/
namespace Go.Proofs.YtbhidndgnldheaaGreat
namespace Num
open Go.RowKit

end Num
end Go.Proofs.YtbhidndgnldheaaGreat

/-
 num.PutText and firthref01.PutText make the bytes of a text.
-/
namespace Go.Proofs.YtbhidndgnldheaaGreat
namespace Num
open Go.RowKit

def textL (s : ByteArray) : List Int := putL (s.size : Int) ++ strNums s

end Num
end Go.Proofs.YtbhidndgnldheaaGreat

/-
 The marks of bytes, of both: one function of the bytes.
-/
namespace Go.Proofs.YtbhidndgnldheaaGreat
namespace Ring
open Go.RowKit

def U (x : Int) : Prop := 0 ≤ x ∧ x < 18446744073709551616
def xorU (a b : Int) : Int := ((a.toNat ^^^ b.toNat : Nat) : Int)
theorem xor_range {a b : Int} (ha : U a) (hb : U b) : U (xorU a b) := by
 unfold U xorU at *
 have h := Nat.xor_lt_two_pow (n := 64) (x := a.toNat) (y := b.toNat) (by omega) (by omega)
 omega
theorem wrap_range (x : Int) : U (IntKind.u64.wrap x) := by
 unfold U
 have h : IntKind.u64.wrap x = x % 18446744073709551616 := by simp [IntKind.wrap, IntKind.signed, IntKind.bits]
 rw [h]
 omega
def stepH (h c : Int) : Int := IntKind.u64.wrap (xorU h c * 1099511628211)
def foldH (zs : List Int) : Int := zs.foldl stepH 14695981039346656037
def finH (h : Int) : Int := xorU h (h / 8589934592)
def hashL (zs : List Int) : Int := finH (IntKind.u64.wrap (finH (foldH zs) * 18397679294719823053))

theorem fin_range {h : Int} (hh : U h) : U (finH h) := xor_range hh (by unfold U at *; omega)
theorem hash_range (zs : List Int) : U (hashL zs) := fin_range (wrap_range _)
end Ring
end Go.Proofs.YtbhidndgnldheaaGreat

/-
 Vectors: which are right, and the functions that only read them.
-/
namespace Go.Proofs.YtbhidndgnldheaaGreat
namespace Vect
open Go.RowKit Span
attribute [local go_sem ↓] Go.wp_at_zero Go.wp_at_succ

def RightV (v : List Int) : Prop := 1 ≤ v.length ∧ v.length ≤ 16 ∧ ∀ z ∈ v, 0 ≤ z ∧ z ≤ 4611686018427387904
instance (v : List Int) : Decidable (RightV v) := by unfold RightV; infer_instance
def CoversV (v : List Int) (s n : Int) : Prop := 0 < n ∧ 1 ≤ s ∧ s ≤ v.length ∧ n ≤ v.getD (s - 1).toNat 0
instance (v : List Int) (s n : Int) : Decidable (CoversV v s n) := by unfold CoversV; infer_instance

end Vect
end Go.Proofs.YtbhidndgnldheaaGreat

/-
 What a bound on the input's bulk says of its parts.
-/
namespace Go.Proofs.YtbhidndgnldheaaGreat
namespace Bulk
open Go.ChangeShapes Go.RowKit

theorem bound {H : Type} {l : List (DataW H)} (hk : Rows.uptoSmall H l = true) : Rows.uptoBulkAll l ≤ 1048576 := of_decide_eq_true hk

end Bulk
end Go.Proofs.YtbhidndgnldheaaGreat
