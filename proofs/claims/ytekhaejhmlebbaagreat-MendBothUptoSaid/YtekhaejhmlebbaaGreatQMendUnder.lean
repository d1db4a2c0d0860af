/-
 firthlaw14.under: did a version come behind all that another one came behind, span by span?
-/
import Derived.Test.YtekhaejhmlebbaaGreatQHMendA
import Derived.Test.YtekhaejhmlebbaaGreatQGSame
namespace Go.Proofs.YtekhaejhmlebbaaGreat
namespace Mend
open Go.RowKit Vers Span Blk
attribute [local go_sem ↓] Go.wp_at_zero Go.wp_at_succ
def inOne (x y : Sp) : Bool := (x.1 == y.1) && (decide (y.2.1 ≤ x.2.1) && decide (x.2.2 ≤ y.2.2))
def underF (a b : List Sp) : Bool := a.all fun x => b.any (inOne x)
theorem take_one' {α : Type} {l : List α} {k : Nat} {x : α} (h : l[k]? = some x) : l.take (k + 1) = l.take k ++ [x] := by
 obtain ⟨hk, rfl⟩ := List.getElem?_eq_some_iff.1 h
 exact List.take_succ_eq_append_getElem hk
set_option maxRecDepth 100000 in
set_option maxHeartbeats 4000000 in
theorem under_any (s n : Int) (A : Option Addr) (k c : Nat) (g : Bool) (vx : ByteArray) (s' n' : Int) (A' : Option Addr) (k' c' : Nat) (g' : Bool) (vx' : ByteArray) (a b : List Sp) (hk : a.length = k) (hk' : b.length = k') (w : World) (hr : Ss w w.heap.size A a) (hr' : Ss w w.heap.size A' b) (hb1 : k ≤ 140737488355328) (hb2 : k' ≤ 140737488355328) :
  Calls Tryz.prog 59 #[.agg #[.int .i64 s, .int .i64 n, .slice A k c, .bool g, .string vx], .agg #[.int .i64 s', .int .i64 n', .slice A' k' c', .bool g', .string vx']] w fun e w' => e = .returned (.bool (underF a b)) ∧ Below w.heap.size w w' := by
 obtain ⟨R, hR⟩ : ∃ R, underF a b = R := ⟨_, rfl⟩
 rw [hR]
 obtain ⟨ab, hab⟩ : ∃ ab, w.heap.size = ab := ⟨_, rfl⟩
 obtain ⟨U0, hU0⟩ : ∃ U, w.alloc (.cells #[.int .i64 s, .int .i64 n, .slice A k c, .bool g, .string vx] 59) = U := ⟨_, rfl⟩
 obtain ⟨bb, hbb⟩ : ∃ bb, U0.heap.size = bb := ⟨_, rfl⟩
 obtain ⟨U, hU⟩ : ∃ U, U0.alloc (.cells #[.int .i64 s', .int .i64 n', .slice A' k' c', .bool g', .string vx'] 59) = U := ⟨_, rfl⟩
 have b0 : Below w.heap.size w U0 := by rw [← hU0]; exact (Below.refl _ w).alloc (Nat.le_refl _) _
 have b1 : Below U0.heap.size U0 U := by rw [← hU]; exact (Below.refl _ U0).alloc (Nat.le_refl _) _
 have BA : Bn ab 59 [.int .i64 s, .int .i64 n, .slice A k c, .bool g, .string vx] U0 := by rw [← hU0, ← hab]; exact World.alloc_heap_new _ _
 have BB : Bn bb 59 [.int .i64 s', .int .i64 n', .slice A' k' c', .bool g', .string vx'] U := by rw [← hU, ← hbb]; exact World.alloc_heap_new _ _
 have BA' := BA.same (b1.block ab BA.lt)
 have bw : Below w.heap.size w U := b0.trans (b1.mono b0.size)
 have HB : Hid (∀ V, Below U.heap.size U V → V.cell? ⟨ab, 2, none⟩ = some (.slice A k c) ∧ V.cell? ⟨bb, 2, none⟩ = some (.slice A' k' c')) := Lib.hid fun V hV => by
  have x0 := (BA'.same (hV.block ab BA'.lt)).cell 2
  have x1 := (BB.same (hV.block bb BB.lt)).cell 2
  simp only [List.getElem?_cons_zero, List.getElem?_cons_succ] at x0 x1
  exact ⟨x0, x1⟩
 have HX := Lib.hid (And.intro hr (And.intro hr' (And.intro hk (And.intro hk' (And.intro hR bw)))))
 clear hr hr' hk hk' hR b0 b1 BA BB BA' bw
 go_enter Tryz.func59, Tryz.ntmps59
 go_wp2_with fail
 go_loopw [5] (fun iv wr => ∃ i : Nat, iv = .int .i64 i ∧ i ≤ k ∧ Hid ((a.take i).all (fun x => b.any (inOne x)) = true) ∧ Hid (Below U.heap.size U wr)) (fun iv _ => k - (intOf iv).toNat)
 case atStart => exact ⟨0, rfl, by omega, Lib.hid (by simp), Lib.hid (Below.refl _ _)⟩
 case round =>
  obtain ⟨i, rfl, hi, ht, hb⟩ := hrel
  obtain ⟨ba2, bb2⟩ := HB.out wr hb.out
  by_cases hlt : i < k
  ·obtain ⟨pb, off, rfl, hpb, hat⟩ := HX.out.1 (by have := HX.out.2.2.1; omega)
   obtain ⟨⟨x1, x2, x3⟩, hx⟩ : ∃ x, a[i]? = some x := ⟨a[i]'(by have := HX.out.2.2.1; omega), by simp⟩
   have hgx : a.getD i (0, 0, 0) = (x1, x2, x3) := by rw [List.getD_eq_getElem?_getD, hx]; rfl
   obtain ⟨p0, p1, p2⟩ : wr.cell? ⟨pb, off + i * 3, none⟩ = some (.int .i64 x1) ∧ wr.cell? ⟨pb, off + i * 3 + 1, none⟩ = some (.int .i64 x2) ∧ wr.cell? ⟨pb, off + i * 3 + 2, none⟩ = some (.int .i64 x3) := by
    have h := hat i (by have := HX.out.2.2.1; omega)
    rw [hgx] at h
    have hV := HX.out.2.2.2.2.2.trans (hb.out.mono HX.out.2.2.2.2.2.size)
    exact ⟨(hV.cell (p := ⟨pb, _, none⟩) hpb).trans h.1, (hV.cell (p := ⟨pb, _, none⟩) hpb).trans h.2.1, (hV.cell (p := ⟨pb, _, none⟩) hpb).trans h.2.2⟩
   have d3 : (0 : Int) ≤ (i : Int) := by omega
   have d4 : (i : Int) < (k : Int) := by omega
   obtain ⟨xb, hxb⟩ : ∃ xb, wr.heap.size = xb := ⟨_, rfl⟩
   have bX : Below wr.heap.size wr (wr.alloc (.cells #[.int .i64 x1, .int .i64 x2, .int .i64 x3] 61)) := (Below.refl _ wr).alloc (Nat.le_refl _) _
   have BX : Bn xb 61 [.int .i64 x1, .int .i64 x2, .int .i64 x3] (wr.alloc (.cells #[.int .i64 x1, .int .i64 x2, .int .i64 x3] 61)) := by rw [← hxb]; exact World.alloc_heap_new _ _
   have HI := Lib.hid (And.intro hx (And.intro (hb.out.trans (bX.mono hb.out.size)) BX))
   clear hat hgx hpb hx bX BX
   go_wp2_with fail
   obtain ⟨X, hX⟩ : ∃ X, wr.alloc (.cells #[.int .i64 x1, .int .i64 x2, .int .i64 x3] 61) = X := ⟨_, rfl⟩
   rw [hX] at HI ⊢
   clear p0 p1 p2 ba2 bb2
   go_loopw [7, 8] (fun bv kv V => ∃ (j : Nat) (bi : Bool), bv = .bool bi ∧ kv = .int .i64 j ∧ j ≤ k' ∧ Hid ((b.take j).any (inOne (x1, x2, x3)) = bi) ∧ Hid (Below X.heap.size X V)) (fun _ kv _ => k' - (intOf kv).toNat)
   case atStart => exact ⟨0, false, rfl, rfl, by omega, Lib.hid (by simp), Lib.hid (Below.refl _ _)⟩
   case round =>
    obtain ⟨j, bi, rfl, rfl, hj, hbi, hbk⟩ := hrel
    have hVU : Below U.heap.size U wr := HI.out.2.1.trans (hbk.out.mono HI.out.2.1.size)
    obtain ⟨ba2, bb2⟩ := HB.out wr hVU
    have HVU := Lib.hid hVU
    clear hVU
    by_cases hlk : j < k'
    ·obtain ⟨pc, off', rfl, hpc, hat⟩ := HX.out.2.1 (by have := HX.out.2.2.2.1; omega)
     obtain ⟨⟨y1, y2, y3⟩, hy⟩ : ∃ y, b[j]? = some y := ⟨b[j]'(by have := HX.out.2.2.2.1; omega), by simp⟩
     have hgy : b.getD j (0, 0, 0) = (y1, y2, y3) := by rw [List.getD_eq_getElem?_getD, hy]; rfl
     obtain ⟨q0, q1, q2⟩ : wr.cell? ⟨pc, off' + j * 3, none⟩ = some (.int .i64 y1) ∧ wr.cell? ⟨pc, off' + j * 3 + 1, none⟩ = some (.int .i64 y2) ∧ wr.cell? ⟨pc, off' + j * 3 + 2, none⟩ = some (.int .i64 y3) := by
      have h := hat j (by have := HX.out.2.2.2.1; omega)
      rw [hgy] at h
      have hV := HX.out.2.2.2.2.2.trans (HVU.out.mono HX.out.2.2.2.2.2.size)
      exact ⟨(hV.cell (p := ⟨pc, _, none⟩) hpc).trans h.1, (hV.cell (p := ⟨pc, _, none⟩) hpc).trans h.2.1, (hV.cell (p := ⟨pc, _, none⟩) hpc).trans h.2.2⟩
     have HT : Hid (∀ z, (bi || inOne (x1, x2, x3) (y1, y2, y3)) = z → (b.take (j + 1)).any (inOne (x1, x2, x3)) = z) := Lib.hid fun z hz => by
      rw [take_one' hy, List.any_append, hbi.out]
      simpa using hz
     obtain ⟨yb, hyb⟩ : ∃ yb, wr.heap.size = yb := ⟨_, rfl⟩
     have BXY := (HI.out.2.2.same (hbk.out.block xb HI.out.2.2.lt))
     have bY : Below wr.heap.size wr (wr.alloc (.cells #[.int .i64 y1, .int .i64 y2, .int .i64 y3] 61)) := (Below.refl _ wr).alloc (Nat.le_refl _) _
     have x0' := (BXY.same (bY.block xb BXY.lt)).cell 0
     have x1' := (BXY.same (bY.block xb BXY.lt)).cell 1
     have x2' := (BXY.same (bY.block xb BXY.lt)).cell 2
     simp only [List.getElem?_cons_zero, List.getElem?_cons_succ] at x0' x1' x2'
     have HE : Hid (Below X.heap.size X (wr.alloc (.cells #[.int .i64 y1, .int .i64 y2, .int .i64 y3] 61))) := Lib.hid (hbk.out.trans (bY.mono hbk.out.size))
     have d1 : (0 : Int) ≤ (j : Int) := by omega
     have d2 : (j : Int) < (k' : Int) := by omega
     clear hat hgy hpc hy hbi hbk BXY bY
     cases bi
     ·by_cases e1 : x1 = y1
      ·subst e1
       by_cases e2 : y2 ≤ x2
       ·have g2 : decide (y2 ≤ x2) = true := decide_eq_true e2
        by_cases e3 : x3 ≤ y3
        ·have g3 : decide (x3 ≤ y3) = true := decide_eq_true e3
         have HW := Lib.hid (HT.out true (by simp [inOne, g2, g3]))
         go_wp2_with fail
         exact ⟨⟨j + 1, true, rfl, rfl, by omega, HW, HE⟩, by simp only [intOf]; omega⟩
        ·have g3 : decide (x3 ≤ y3) = false := decide_eq_false e3
         have HW := Lib.hid (HT.out false (by simp [inOne, g3]))
         go_wp2_with fail
         exact ⟨⟨j + 1, false, rfl, rfl, by omega, HW, HE⟩, by simp only [intOf]; omega⟩
       ·have g2 : decide (y2 ≤ x2) = false := decide_eq_false e2
        have HW := Lib.hid (HT.out false (by simp [inOne, g2]))
        go_wp2_with fail
        exact ⟨⟨j + 1, false, rfl, rfl, by omega, HW, HE⟩, by simp only [intOf]; omega⟩
      ·have g1 : (x1 == y1) = false := by simpa using e1
       have HW := Lib.hid (HT.out false (by simp [inOne, g1]))
       go_wp2_with fail
       exact ⟨⟨j + 1, false, rfl, rfl, by omega, HW, HE⟩, by simp only [intOf]; omega⟩
     ·have HW := Lib.hid (HT.out true (by simp))
      go_wp2_with fail
      exact ⟨⟨j + 1, true, rfl, rfl, by omega, HW, HE⟩, by simp only [intOf]; omega⟩
    ·have hkm : j = k' := by omega
     have hbb : b.any (inOne (x1, x2, x3)) = bi := by
      have h := hbi.out
      rwa [List.take_of_length_le (by have := HX.out.2.2.2.1; omega)] at h
     have HBB := Lib.hid hbb
     clear hbb hbi hbk
     cases bi
     ·have HN : Hid (R = false) := Lib.hid (by
       rw [← HX.out.2.2.2.2.1]
       unfold underF
       rw [List.all_eq_false]
       exact ⟨_, List.mem_of_getElem? HI.out.1, by rw [HBB.out]; decide⟩)
      go_wp2_with fail
      go_ret
      exact ⟨by rw [HN.out]; rfl, HX.out.2.2.2.2.2.trans (HVU.out.mono HX.out.2.2.2.2.2.size)⟩
     ·have HN : Hid ((a.take (i + 1)).all (fun x => b.any (inOne x)) = true) := Lib.hid (by
       rw [take_one' HI.out.1, List.all_append, ht.out]
       simp [HBB.out])
      go_wp2_with fail
      exact ⟨⟨i + 1, rfl, by omega, HN, HVU⟩, by simp only [intOf]; omega⟩
  ·have hin : k = i := by omega
   subst hin
   have HN : Hid (R = true) := Lib.hid (by
    rw [← HX.out.2.2.2.2.1]
    have h := ht.out
    rwa [List.take_of_length_le (by have := HX.out.2.2.1; omega)] at h)
   go_wp2_with fail
   go_ret
   exact ⟨by rw [HN.out]; rfl, HX.out.2.2.2.2.2.trans (hb.out.mono HX.out.2.2.2.2.2.size)⟩
end Mend
end Go.Proofs.YtekhaejhmlebbaaGreat
