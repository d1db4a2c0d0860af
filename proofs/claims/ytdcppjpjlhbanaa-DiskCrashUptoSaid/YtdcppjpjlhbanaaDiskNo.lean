/-
  disk: what is refused (layer 7). Written by wip/gen7/no.py.
-/
import Derived.Test.YtdcppjpjlhbanaaDiskAppend
import Derived.Test.YtdcppjpjlhbanaaDiskRename
import Derived.Test.YtdcppjpjlhbanaaDiskCut
namespace Go.Proofs.Ytdcppjpjlhbanaa
namespace Disk
open Go.RowKit Blk Go.Maps
attribute [local go_sem ↓] Go.wp_at_zero Go.wp_at_succ
section
variable {F : Nat → Prop} {own : Nat → Nat} {w : World} {db N : Nat} {room : Int} {es : Es} {r : List Un}
set_option maxRecDepth 100000 in
theorem append_name (_h : DK F own N w db room es r) (s : Nm) (Ab : Option Addr) (kb cb : Nat) (hs : ¬ (1 ≤ s.size ∧ s.size ≤ 16)) :
    Calls Try.prog 21 #[hd db, .string s, .slice Ab kb cb] w (fun e w' => e = .returned (.int .i64 70) ∧ Below w.heap.size w w') := by
  obtain ⟨bd, hbd⟩ : ∃ b, w.heap.size = b := ⟨_, rfl⟩
  obtain ⟨U0, hU0⟩ : ∃ V, w.alloc (.cells #[hd db] 24) = V := ⟨_, rfl⟩
  have eU0 : Below w.heap.size w U0 := by rw [← hU0]; exact (Below.refl _ w).alloc (Nat.le_refl _) _
  have B0_0 : Bn bd 24 [hd db] U0 := by rw [← hU0, ← hbd]; exact heap_alloc_new w _
  have bU0 : Below w.heap.size w U0 := eU0
  obtain ⟨bn, hbn⟩ : ∃ b, U0.heap.size = b := ⟨_, rfl⟩
  obtain ⟨U1, hU1⟩ : ∃ V, U0.alloc (.cells #[.string s] 9) = V := ⟨_, rfl⟩
  have eU1 : Below U0.heap.size U0 U1 := by rw [← hU1]; exact (Below.refl _ U0).alloc (Nat.le_refl _) _
  have B1_1 : Bn bn 9 [.string s] U1 := by rw [← hU1, ← hbn]; exact heap_alloc_new U0 _
  have bU1 : Below w.heap.size w U1 := bU0.trans (eU1.mono bU0.size)
  have B0_1 := B0_0.same (eU1.block bd B0_0.lt)
  have x0 := (B0_1.cell 0).trans rfl
  have x1 := (B1_1.cell 0).trans rfl
  have H1 := right_any s U1
  rw [decide_eq_false hs] at H1
  have H1 := Lib.hid H1
  have HB := Lib.hid bU1
  go_enter Try.func21, Try.ntmps21
  go_wp2_with fail
  refine H1.out.mono ?_
  rintro e w2 ⟨rfl, hw2⟩
  obtain rfl := hw2.symm
  go_wp2_with fail
  go_ret
  exact ⟨rfl, HB.out⟩
set_option maxRecDepth 100000 in
theorem append_full (h : DK F own N w db room es r) (s : Nm) (hs : 1 ≤ s.size ∧ s.size ≤ 16) (Ab : Option Addr) (kb cb : Nat) (hfit : room - used (fsE es) < (kb : Int)) (hr0 : 0 ≤ room) :
    Calls Try.prog 21 #[hd db, .string s, .slice Ab kb cb] w (fun e w' => e = .returned (.int .i64 72) ∧ Below w.heap.size w w') := by
  obtain ⟨mb, A, n, c, hp⟩ := h.parts
  obtain ⟨bd, hbd⟩ : ∃ b, w.heap.size = b := ⟨_, rfl⟩
  obtain ⟨U0, hU0⟩ : ∃ V, w.alloc (.cells #[hd db] 24) = V := ⟨_, rfl⟩
  have eU0 : Below w.heap.size w U0 := by rw [← hU0]; exact (Below.refl _ w).alloc (Nat.le_refl _) _
  have B0_0 : Bn bd 24 [hd db] U0 := by rw [← hU0, ← hbd]; exact heap_alloc_new w _
  have bU0 : Below w.heap.size w U0 := eU0
  obtain ⟨bn, hbn⟩ : ∃ b, U0.heap.size = b := ⟨_, rfl⟩
  obtain ⟨U1, hU1⟩ : ∃ V, U0.alloc (.cells #[.string s] 9) = V := ⟨_, rfl⟩
  have eU1 : Below U0.heap.size U0 U1 := by rw [← hU1]; exact (Below.refl _ U0).alloc (Nat.le_refl _) _
  have B1_1 : Bn bn 9 [.string s] U1 := by rw [← hU1, ← hbn]; exact heap_alloc_new U0 _
  have bU1 : Below w.heap.size w U1 := bU0.trans (eU1.mono bU0.size)
  have B0_1 := B0_0.same (eU1.block bd B0_0.lt)
  have x0 := (B0_1.cell 0).trans rfl
  have x1 := (B1_1.cell 0).trans rfl
  have hC := hp.1.below bU1
  have k0 := (hC.1.cell 0).trans rfl
  have k1 := (hC.1.cell 1).trans rfl
  have hur := hp.2.2.2.2.1.2.1.head
  have hrm := hp.2.2.2.2.1.2.2.1
  obtain ⟨u, hu⟩ : ∃ u, used (fsE es) = u := ⟨_, rfl⟩
  rw [hu] at k1 hfit hur
  have e1 : IntKind.i64.wrap (room - (u : Int)) = room - (u : Int) := Go.IntWalk.i64_in _ (by omega)
  have d1 : decide (room - (u : Int) < (kb : Int)) = true := decide_eq_true hfit
  have H1 := right_any s U1
  rw [decide_eq_true hs] at H1
  have H1 := Lib.hid H1
  have HB : Hid (∀ k, Below w.heap.size w (U1.drewN k)) := Lib.hid fun k => ⟨bU1.os, bU1.tape, bU1.output, bU1.size, bU1.block⟩
  have HB2 := Lib.hid bU1
  clear hp hC hur hfit hu hrm
  go_enter Try.func21, Try.ntmps21
  go_wp2_with fail
  refine H1.out.mono ?_
  rintro e w2 ⟨rfl, hw2⟩
  obtain rfl := hw2.symm
  go_wp2_with fail
  go_region
  all_goals
    go_wp2_with fail
    go_ret
    exact ⟨rfl, by first | exact HB2.out | exact HB2.out.drew | exact HB2.out.drew.drew | exact HB.out _⟩
set_option maxRecDepth 100000 in
theorem cut_name (_h : DK F own N w db room es r) (s : Nm) (z : Int) (hs : ¬ (1 ≤ s.size ∧ s.size ≤ 16)) :
    Calls Try.prog 27 #[hd db, .string s, .int .i64 z] w (fun e w' => e = .returned (.int .i64 70) ∧ Below w.heap.size w w') := by
  obtain ⟨bd, hbd⟩ : ∃ b, w.heap.size = b := ⟨_, rfl⟩
  obtain ⟨U0, hU0⟩ : ∃ V, w.alloc (.cells #[hd db] 24) = V := ⟨_, rfl⟩
  have eU0 : Below w.heap.size w U0 := by rw [← hU0]; exact (Below.refl _ w).alloc (Nat.le_refl _) _
  have B0_0 : Bn bd 24 [hd db] U0 := by rw [← hU0, ← hbd]; exact heap_alloc_new w _
  have bU0 : Below w.heap.size w U0 := eU0
  obtain ⟨bn, hbn⟩ : ∃ b, U0.heap.size = b := ⟨_, rfl⟩
  obtain ⟨U1, hU1⟩ : ∃ V, U0.alloc (.cells #[.string s] 9) = V := ⟨_, rfl⟩
  have eU1 : Below U0.heap.size U0 U1 := by rw [← hU1]; exact (Below.refl _ U0).alloc (Nat.le_refl _) _
  have B1_1 : Bn bn 9 [.string s] U1 := by rw [← hU1, ← hbn]; exact heap_alloc_new U0 _
  have bU1 : Below w.heap.size w U1 := bU0.trans (eU1.mono bU0.size)
  have B0_1 := B0_0.same (eU1.block bd B0_0.lt)
  have x0 := (B0_1.cell 0).trans rfl
  have x1 := (B1_1.cell 0).trans rfl
  have H1 := right_any s U1
  rw [decide_eq_false hs] at H1
  have H1 := Lib.hid H1
  have HB := Lib.hid bU1
  go_enter Try.func27, Try.ntmps27
  go_wp2_with fail
  refine H1.out.mono ?_
  rintro e w2 ⟨rfl, hw2⟩
  obtain rfl := hw2.symm
  go_wp2_with fail
  go_ret
  exact ⟨rfl, HB.out⟩
set_option maxRecDepth 100000 in
set_option maxHeartbeats 1000000 in
theorem cut_none (h : DK F own N w db room es r) (s : Nm) (z : Int) (hs : 1 ≤ s.size ∧ s.size ≤ 16) (hy : find es s = none) :
    Calls Try.prog 27 #[hd db, .string s, .int .i64 z] w (fun e w' => e = .returned (.int .i64 71) ∧ Below w.heap.size w w') := by
  obtain ⟨mb, A, n, c, hp⟩ := h.parts
  obtain ⟨bd, hbd⟩ : ∃ b, w.heap.size = b := ⟨_, rfl⟩
  obtain ⟨U0, hU0⟩ : ∃ V, w.alloc (.cells #[hd db] 24) = V := ⟨_, rfl⟩
  have eU0 : Below w.heap.size w U0 := by rw [← hU0]; exact (Below.refl _ w).alloc (Nat.le_refl _) _
  have B0_0 : Bn bd 24 [hd db] U0 := by rw [← hU0, ← hbd]; exact heap_alloc_new w _
  have bU0 : Below w.heap.size w U0 := eU0
  obtain ⟨bn, hbn⟩ : ∃ b, U0.heap.size = b := ⟨_, rfl⟩
  obtain ⟨U1, hU1⟩ : ∃ V, U0.alloc (.cells #[.string s] 9) = V := ⟨_, rfl⟩
  have eU1 : Below U0.heap.size U0 U1 := by rw [← hU1]; exact (Below.refl _ U0).alloc (Nat.le_refl _) _
  have B1_1 : Bn bn 9 [.string s] U1 := by rw [← hU1, ← hbn]; exact heap_alloc_new U0 _
  have bU1 : Below w.heap.size w U1 := bU0.trans (eU1.mono bU0.size)
  have B0_1 := B0_0.same (eU1.block bd B0_0.lt)
  have x0 := (B0_1.cell 0).trans rfl
  have x1 := (B1_1.cell 0).trans rfl
  have hC := hp.1.below bU1
  have k2 := (hC.1.cell 2).trans rfl
  have hall : ∀ V, Below U1.heap.size U1 V → V.cell? ⟨bd, 0, none⟩ = some (hd db) ∧ V.cell? ⟨bn, 0, none⟩ = some (.string s) ∧ V.cell? ⟨db, 2, none⟩ = some (.map (some mb)) ∧ (Instr.lookup 57 (.map (some mb)) (.string s) true).run Try.prog V = .ok (.tuple #[.slice none 0 0, .bool false]) V := fun V hV =>
    ⟨(hV.cell B0_1.lt).trans x0, (hV.cell B1_1.lt).trans x1, (hV.cell hC.1.lt).trans k2, by
      have q := MI.look_ok (w := V) (hC.below hV).2 s (ok_of hs.2)
      rw [find_map, hy] at q
      exact q⟩
  obtain ⟨xa0, xb0, xc0, xd0⟩ := hall U1.drew (show Below U1.heap.size U1 U1.drew from (Below.refl _ U1).drew)
  obtain ⟨xa1, xb1, xc1, xd1⟩ := hall (U1.alloc (.cells #[.slice none 0 0] 29)).drew (show Below U1.heap.size U1 (U1.alloc (.cells #[.slice none 0 0] 29)).drew from ((Below.refl _ U1).alloc (Nat.le_refl _) _).drew)
  have H1 := right_any s U1
  rw [decide_eq_true hs] at H1
  have H1 := Lib.hid H1
  have HE : Hid (Below w.heap.size w (U1.alloc (.cells #[.slice none 0 0] 29)).drew) := Lib.hid (bU1.alloc bU1.size _).drew
  clear hp hC hall hy
  go_enter Try.func27, Try.ntmps27
  go_wp2_with fail
  refine H1.out.mono ?_
  rintro e w2 ⟨rfl, hw2⟩
  obtain rfl := hw2.symm
  go_wp2_with fail
  go_region
  all_goals
    go_wp2_with fail
    go_ret
    exact ⟨rfl, HE.out⟩
set_option maxRecDepth 100000 in
set_option maxHeartbeats 1000000 in
theorem cut_arg (h : DK F own N w db room es r) (s : Nm) (z : Int) (hs : 1 ≤ s.size ∧ s.size ≤ 16) (y : Fl) (hy : find es s = some y) (hz : z < 0 ∨ (y.d.length : Int) < z) :
    Calls Try.prog 27 #[hd db, .string s, .int .i64 z] w (fun e w' => e = .returned (.int .i64 1) ∧ Below w.heap.size w w') := by
  obtain ⟨mb, A, n, c, hp⟩ := h.parts
  obtain ⟨k, hk⟩ : ∃ k, y.d.length = k := ⟨_, rfl⟩
  rw [hk] at hz
  obtain ⟨bd, hbd⟩ : ∃ b, w.heap.size = b := ⟨_, rfl⟩
  obtain ⟨U0, hU0⟩ : ∃ V, w.alloc (.cells #[hd db] 24) = V := ⟨_, rfl⟩
  have eU0 : Below w.heap.size w U0 := by rw [← hU0]; exact (Below.refl _ w).alloc (Nat.le_refl _) _
  have B0_0 : Bn bd 24 [hd db] U0 := by rw [← hU0, ← hbd]; exact heap_alloc_new w _
  have bU0 : Below w.heap.size w U0 := eU0
  obtain ⟨bn, hbn⟩ : ∃ b, U0.heap.size = b := ⟨_, rfl⟩
  obtain ⟨U1, hU1⟩ : ∃ V, U0.alloc (.cells #[.string s] 9) = V := ⟨_, rfl⟩
  have eU1 : Below U0.heap.size U0 U1 := by rw [← hU1]; exact (Below.refl _ U0).alloc (Nat.le_refl _) _
  have B1_1 : Bn bn 9 [.string s] U1 := by rw [← hU1, ← hbn]; exact heap_alloc_new U0 _
  have bU1 : Below w.heap.size w U1 := bU0.trans (eU1.mono bU0.size)
  have B0_1 := B0_0.same (eU1.block bd B0_0.lt)
  have x0 := (B0_1.cell 0).trans rfl
  have x1 := (B1_1.cell 0).trans rfl
  have hC := hp.1.below bU1
  have k2 := (hC.1.cell 2).trans rfl
  have hall : ∀ V, Below U1.heap.size U1 V → V.cell? ⟨bd, 0, none⟩ = some (hd db) ∧ V.cell? ⟨bn, 0, none⟩ = some (.string s) ∧ V.cell? ⟨db, 2, none⟩ = some (.map (some mb)) ∧ (Instr.lookup 57 (.map (some mb)) (.string s) true).run Try.prog V = .ok (.tuple #[.slice y.A k y.c, .bool true]) V := fun V hV =>
    ⟨(hV.cell B0_1.lt).trans x0, (hV.cell B1_1.lt).trans x1, (hV.cell hC.1.lt).trans k2, by
      have q := MI.look_ok (w := V) (hC.below hV).2 s (ok_of hs.2)
      rw [find_map, hy] at q
      rw [← hk]
      exact q⟩
  obtain ⟨xa0, xb0, xc0, xd0⟩ := hall U1.drew (show Below U1.heap.size U1 U1.drew from (Below.refl _ U1).drew)
  obtain ⟨xa1, xb1, xc1, xd1⟩ := hall (U1.alloc (.cells #[.slice none 0 0] 29)).drew (show Below U1.heap.size U1 (U1.alloc (.cells #[.slice none 0 0] 29)).drew from ((Below.refl _ U1).alloc (Nat.le_refl _) _).drew)
  have H1 := right_any s U1
  rw [decide_eq_true hs] at H1
  have H1 := Lib.hid H1
  have q := one_new U1 29 (.slice y.A k y.c)
  obtain ⟨bw, hbw⟩ : ∃ b, U1.heap.size = b := ⟨_, rfl⟩
  have hBw : Bn bw 29 [.slice y.A k y.c] (U1.alloc (.cells #[.slice y.A k y.c] 29)).drew := by rw [← hbw]; exact q.1
  have y0 := (hBw.cell 0).trans rfl
  have HE : Hid (Below w.heap.size w (U1.alloc (.cells #[.slice y.A k y.c] 29)).drew) := Lib.hid (bU1.alloc bU1.size _).drew
  obtain ⟨X, hX⟩ : ∃ V, (U1.alloc (.cells #[.slice y.A k y.c] 29)).drew = V := ⟨_, rfl⟩
  have HX := Lib.hid hX
  rw [hX] at y0 HE
  clear hp hC hall hy hk q hBw hX
  by_cases hz0 : z < 0
  · have d1 : decide (z < 0) = true := decide_eq_true hz0
    go_enter Try.func27, Try.ntmps27
    go_wp2_with fail
    refine H1.out.mono ?_
    rintro e w2 ⟨rfl, hw2⟩
    obtain rfl := hw2.symm
    go_wp2_with fail
    go_region
    all_goals
      rw [HX.out]
      go_wp2_with fail
      go_ret
      exact ⟨rfl, HE.out⟩
  · have d1 : decide (z < 0) = false := decide_eq_false hz0
    have d2 : decide ((k : Int) < z) = true := decide_eq_true (by omega)
    go_enter Try.func27, Try.ntmps27
    go_wp2_with fail
    refine H1.out.mono ?_
    rintro e w2 ⟨rfl, hw2⟩
    obtain rfl := hw2.symm
    go_wp2_with fail
    go_region
    all_goals
      rw [HX.out]
      go_wp2_with fail
      go_ret
      exact ⟨rfl, HE.out⟩
set_option maxRecDepth 100000 in
theorem remove_name (_h : DK F own N w db room es r) (s : Nm) (hs : ¬ (1 ≤ s.size ∧ s.size ≤ 16)) :
    Calls Try.prog 25 #[hd db, .string s] w (fun e w' => e = .returned (.int .i64 70) ∧ Below w.heap.size w w') := by
  obtain ⟨bd, hbd⟩ : ∃ b, w.heap.size = b := ⟨_, rfl⟩
  obtain ⟨U0, hU0⟩ : ∃ V, w.alloc (.cells #[hd db] 24) = V := ⟨_, rfl⟩
  have eU0 : Below w.heap.size w U0 := by rw [← hU0]; exact (Below.refl _ w).alloc (Nat.le_refl _) _
  have B0_0 : Bn bd 24 [hd db] U0 := by rw [← hU0, ← hbd]; exact heap_alloc_new w _
  have bU0 : Below w.heap.size w U0 := eU0
  obtain ⟨bn, hbn⟩ : ∃ b, U0.heap.size = b := ⟨_, rfl⟩
  obtain ⟨U1, hU1⟩ : ∃ V, U0.alloc (.cells #[.string s] 9) = V := ⟨_, rfl⟩
  have eU1 : Below U0.heap.size U0 U1 := by rw [← hU1]; exact (Below.refl _ U0).alloc (Nat.le_refl _) _
  have B1_1 : Bn bn 9 [.string s] U1 := by rw [← hU1, ← hbn]; exact heap_alloc_new U0 _
  have bU1 : Below w.heap.size w U1 := bU0.trans (eU1.mono bU0.size)
  have B0_1 := B0_0.same (eU1.block bd B0_0.lt)
  have x0 := (B0_1.cell 0).trans rfl
  have x1 := (B1_1.cell 0).trans rfl
  have H1 := right_any s U1
  rw [decide_eq_false hs] at H1
  have H1 := Lib.hid H1
  have HB := Lib.hid bU1
  go_enter Try.func25, Try.ntmps25
  go_wp2_with fail
  refine H1.out.mono ?_
  rintro e w2 ⟨rfl, hw2⟩
  obtain rfl := hw2.symm
  go_wp2_with fail
  go_ret
  exact ⟨rfl, HB.out⟩
set_option maxRecDepth 100000 in
set_option maxHeartbeats 1000000 in
theorem remove_none (h : DK F own N w db room es r) (s : Nm) (hs : 1 ≤ s.size ∧ s.size ≤ 16) (hy : find es s = none) :
    Calls Try.prog 25 #[hd db, .string s] w (fun e w' => e = .returned (.int .i64 71) ∧ Below w.heap.size w w') := by
  obtain ⟨mb, A, n, c, hp⟩ := h.parts
  obtain ⟨bd, hbd⟩ : ∃ b, w.heap.size = b := ⟨_, rfl⟩
  obtain ⟨U0, hU0⟩ : ∃ V, w.alloc (.cells #[hd db] 24) = V := ⟨_, rfl⟩
  have eU0 : Below w.heap.size w U0 := by rw [← hU0]; exact (Below.refl _ w).alloc (Nat.le_refl _) _
  have B0_0 : Bn bd 24 [hd db] U0 := by rw [← hU0, ← hbd]; exact heap_alloc_new w _
  have bU0 : Below w.heap.size w U0 := eU0
  obtain ⟨bn, hbn⟩ : ∃ b, U0.heap.size = b := ⟨_, rfl⟩
  obtain ⟨U1, hU1⟩ : ∃ V, U0.alloc (.cells #[.string s] 9) = V := ⟨_, rfl⟩
  have eU1 : Below U0.heap.size U0 U1 := by rw [← hU1]; exact (Below.refl _ U0).alloc (Nat.le_refl _) _
  have B1_1 : Bn bn 9 [.string s] U1 := by rw [← hU1, ← hbn]; exact heap_alloc_new U0 _
  have bU1 : Below w.heap.size w U1 := bU0.trans (eU1.mono bU0.size)
  have B0_1 := B0_0.same (eU1.block bd B0_0.lt)
  have x0 := (B0_1.cell 0).trans rfl
  have x1 := (B1_1.cell 0).trans rfl
  have hC := hp.1.below bU1
  have k2 := (hC.1.cell 2).trans rfl
  have hall : ∀ V, Below U1.heap.size U1 V → V.cell? ⟨bd, 0, none⟩ = some (hd db) ∧ V.cell? ⟨bn, 0, none⟩ = some (.string s) ∧ V.cell? ⟨db, 2, none⟩ = some (.map (some mb)) ∧ (Instr.lookup 57 (.map (some mb)) (.string s) true).run Try.prog V = .ok (.tuple #[.slice none 0 0, .bool false]) V := fun V hV =>
    ⟨(hV.cell B0_1.lt).trans x0, (hV.cell B1_1.lt).trans x1, (hV.cell hC.1.lt).trans k2, by
      have q := MI.look_ok (w := V) (hC.below hV).2 s (ok_of hs.2)
      rw [find_map, hy] at q
      exact q⟩
  obtain ⟨xa0, xb0, xc0, xd0⟩ := hall U1.drew (show Below U1.heap.size U1 U1.drew from (Below.refl _ U1).drew)
  obtain ⟨xa1, xb1, xc1, xd1⟩ := hall (U1.alloc (.cells #[.slice none 0 0] 29)).drew (show Below U1.heap.size U1 (U1.alloc (.cells #[.slice none 0 0] 29)).drew from ((Below.refl _ U1).alloc (Nat.le_refl _) _).drew)
  have H1 := right_any s U1
  rw [decide_eq_true hs] at H1
  have H1 := Lib.hid H1
  have HE : Hid (Below w.heap.size w (U1.alloc (.cells #[.slice none 0 0] 29)).drew) := Lib.hid (bU1.alloc bU1.size _).drew
  clear hp hC hall hy
  go_enter Try.func25, Try.ntmps25
  go_wp2_with fail
  refine H1.out.mono ?_
  rintro e w2 ⟨rfl, hw2⟩
  obtain rfl := hw2.symm
  go_wp2_with fail
  go_region
  all_goals
    go_wp2_with fail
    go_ret
    exact ⟨rfl, HE.out⟩
set_option maxRecDepth 100000 in
theorem rename_name (_h : DK F own N w db room es r) (s t : Nm) (hs : ¬ (1 ≤ s.size ∧ s.size ≤ 16)) :
    Calls Try.prog 23 #[hd db, .string s, .string t] w (fun e w' => e = .returned (.int .i64 70) ∧ Below w.heap.size w w') := by
  obtain ⟨bd, hbd⟩ : ∃ b, w.heap.size = b := ⟨_, rfl⟩
  obtain ⟨U0, hU0⟩ : ∃ V, w.alloc (.cells #[hd db] 24) = V := ⟨_, rfl⟩
  have eU0 : Below w.heap.size w U0 := by rw [← hU0]; exact (Below.refl _ w).alloc (Nat.le_refl _) _
  have B0_0 : Bn bd 24 [hd db] U0 := by rw [← hU0, ← hbd]; exact heap_alloc_new w _
  have bU0 : Below w.heap.size w U0 := eU0
  obtain ⟨bn, hbn⟩ : ∃ b, U0.heap.size = b := ⟨_, rfl⟩
  obtain ⟨U1, hU1⟩ : ∃ V, U0.alloc (.cells #[.string s] 9) = V := ⟨_, rfl⟩
  have eU1 : Below U0.heap.size U0 U1 := by rw [← hU1]; exact (Below.refl _ U0).alloc (Nat.le_refl _) _
  have B1_1 : Bn bn 9 [.string s] U1 := by rw [← hU1, ← hbn]; exact heap_alloc_new U0 _
  have bU1 : Below w.heap.size w U1 := bU0.trans (eU1.mono bU0.size)
  have B0_1 := B0_0.same (eU1.block bd B0_0.lt)
  obtain ⟨bt, hbt⟩ : ∃ b, U1.heap.size = b := ⟨_, rfl⟩
  obtain ⟨U2, hU2⟩ : ∃ V, U1.alloc (.cells #[.string t] 9) = V := ⟨_, rfl⟩
  have eU2 : Below U1.heap.size U1 U2 := by rw [← hU2]; exact (Below.refl _ U1).alloc (Nat.le_refl _) _
  have B2_2 : Bn bt 9 [.string t] U2 := by rw [← hU2, ← hbt]; exact heap_alloc_new U1 _
  have bU2 : Below w.heap.size w U2 := bU1.trans (eU2.mono bU1.size)
  have B0_2 := B0_1.same (eU2.block bd B0_1.lt)
  have B1_2 := B1_1.same (eU2.block bn B1_1.lt)
  have x0 := (B0_2.cell 0).trans rfl
  have x1 := (B1_2.cell 0).trans rfl
  have x2 := (B2_2.cell 0).trans rfl
  have H1 := right_any s U2
  rw [decide_eq_false hs] at H1
  have H1 := Lib.hid H1
  have HB := Lib.hid bU2
  go_enter Try.func23, Try.ntmps23
  go_wp2_with fail
  refine H1.out.mono ?_
  rintro e w2 ⟨rfl, hw2⟩
  obtain rfl := hw2.symm
  go_wp2_with fail
  go_ret
  exact ⟨rfl, HB.out⟩
set_option maxRecDepth 100000 in
theorem rename_name2 (_h : DK F own N w db room es r) (s t : Nm) (hs : 1 ≤ s.size ∧ s.size ≤ 16) (ht : ¬ (1 ≤ t.size ∧ t.size ≤ 16)) :
    Calls Try.prog 23 #[hd db, .string s, .string t] w (fun e w' => e = .returned (.int .i64 70) ∧ Below w.heap.size w w') := by
  obtain ⟨bd, hbd⟩ : ∃ b, w.heap.size = b := ⟨_, rfl⟩
  obtain ⟨U0, hU0⟩ : ∃ V, w.alloc (.cells #[hd db] 24) = V := ⟨_, rfl⟩
  have eU0 : Below w.heap.size w U0 := by rw [← hU0]; exact (Below.refl _ w).alloc (Nat.le_refl _) _
  have B0_0 : Bn bd 24 [hd db] U0 := by rw [← hU0, ← hbd]; exact heap_alloc_new w _
  have bU0 : Below w.heap.size w U0 := eU0
  obtain ⟨bn, hbn⟩ : ∃ b, U0.heap.size = b := ⟨_, rfl⟩
  obtain ⟨U1, hU1⟩ : ∃ V, U0.alloc (.cells #[.string s] 9) = V := ⟨_, rfl⟩
  have eU1 : Below U0.heap.size U0 U1 := by rw [← hU1]; exact (Below.refl _ U0).alloc (Nat.le_refl _) _
  have B1_1 : Bn bn 9 [.string s] U1 := by rw [← hU1, ← hbn]; exact heap_alloc_new U0 _
  have bU1 : Below w.heap.size w U1 := bU0.trans (eU1.mono bU0.size)
  have B0_1 := B0_0.same (eU1.block bd B0_0.lt)
  obtain ⟨bt, hbt⟩ : ∃ b, U1.heap.size = b := ⟨_, rfl⟩
  obtain ⟨U2, hU2⟩ : ∃ V, U1.alloc (.cells #[.string t] 9) = V := ⟨_, rfl⟩
  have eU2 : Below U1.heap.size U1 U2 := by rw [← hU2]; exact (Below.refl _ U1).alloc (Nat.le_refl _) _
  have B2_2 : Bn bt 9 [.string t] U2 := by rw [← hU2, ← hbt]; exact heap_alloc_new U1 _
  have bU2 : Below w.heap.size w U2 := bU1.trans (eU2.mono bU1.size)
  have B0_2 := B0_1.same (eU2.block bd B0_1.lt)
  have B1_2 := B1_1.same (eU2.block bn B1_1.lt)
  have x0 := (B0_2.cell 0).trans rfl
  have x1 := (B1_2.cell 0).trans rfl
  have x2 := (B2_2.cell 0).trans rfl
  have H1 := right_any s U2
  rw [decide_eq_true hs] at H1
  have H1 := Lib.hid H1
  have H2 := right_any t U2
  rw [decide_eq_false ht] at H2
  have H2 := Lib.hid H2
  have HB := Lib.hid bU2
  go_enter Try.func23, Try.ntmps23
  go_wp2_with fail
  refine H1.out.mono ?_
  rintro e w2 ⟨rfl, hw2⟩
  obtain rfl := hw2.symm
  go_wp2_with fail
  refine H2.out.mono ?_
  rintro e w3 ⟨rfl, hw3⟩
  obtain rfl := hw3.symm
  go_wp2_with fail
  go_ret
  exact ⟨rfl, HB.out⟩
set_option maxRecDepth 100000 in
set_option maxHeartbeats 1000000 in
theorem rename_none (h : DK F own N w db room es r) (s t : Nm) (hs : 1 ≤ s.size ∧ s.size ≤ 16) (ht : 1 ≤ t.size ∧ t.size ≤ 16) (hy : find es s = none) :
    Calls Try.prog 23 #[hd db, .string s, .string t] w (fun e w' => e = .returned (.int .i64 71) ∧ Below w.heap.size w w') := by
  obtain ⟨mb, A, n, c, hp⟩ := h.parts
  obtain ⟨bd, hbd⟩ : ∃ b, w.heap.size = b := ⟨_, rfl⟩
  obtain ⟨U0, hU0⟩ : ∃ V, w.alloc (.cells #[hd db] 24) = V := ⟨_, rfl⟩
  have eU0 : Below w.heap.size w U0 := by rw [← hU0]; exact (Below.refl _ w).alloc (Nat.le_refl _) _
  have B0_0 : Bn bd 24 [hd db] U0 := by rw [← hU0, ← hbd]; exact heap_alloc_new w _
  have bU0 : Below w.heap.size w U0 := eU0
  obtain ⟨bn, hbn⟩ : ∃ b, U0.heap.size = b := ⟨_, rfl⟩
  obtain ⟨U1, hU1⟩ : ∃ V, U0.alloc (.cells #[.string s] 9) = V := ⟨_, rfl⟩
  have eU1 : Below U0.heap.size U0 U1 := by rw [← hU1]; exact (Below.refl _ U0).alloc (Nat.le_refl _) _
  have B1_1 : Bn bn 9 [.string s] U1 := by rw [← hU1, ← hbn]; exact heap_alloc_new U0 _
  have bU1 : Below w.heap.size w U1 := bU0.trans (eU1.mono bU0.size)
  have B0_1 := B0_0.same (eU1.block bd B0_0.lt)
  obtain ⟨bt, hbt⟩ : ∃ b, U1.heap.size = b := ⟨_, rfl⟩
  obtain ⟨U2, hU2⟩ : ∃ V, U1.alloc (.cells #[.string t] 9) = V := ⟨_, rfl⟩
  have eU2 : Below U1.heap.size U1 U2 := by rw [← hU2]; exact (Below.refl _ U1).alloc (Nat.le_refl _) _
  have B2_2 : Bn bt 9 [.string t] U2 := by rw [← hU2, ← hbt]; exact heap_alloc_new U1 _
  have bU2 : Below w.heap.size w U2 := bU1.trans (eU2.mono bU1.size)
  have B0_2 := B0_1.same (eU2.block bd B0_1.lt)
  have B1_2 := B1_1.same (eU2.block bn B1_1.lt)
  have x0 := (B0_2.cell 0).trans rfl
  have x1 := (B1_2.cell 0).trans rfl
  have x2 := (B2_2.cell 0).trans rfl
  have hC := hp.1.below bU2
  have k2 := (hC.1.cell 2).trans rfl
  have hall : ∀ V, Below U2.heap.size U2 V → V.cell? ⟨bd, 0, none⟩ = some (hd db) ∧ V.cell? ⟨bn, 0, none⟩ = some (.string s) ∧ V.cell? ⟨db, 2, none⟩ = some (.map (some mb)) ∧ (Instr.lookup 57 (.map (some mb)) (.string s) true).run Try.prog V = .ok (.tuple #[.slice none 0 0, .bool false]) V := fun V hV =>
    ⟨(hV.cell B0_2.lt).trans x0, (hV.cell B1_2.lt).trans x1, (hV.cell hC.1.lt).trans k2, by
      have q := MI.look_ok (w := V) (hC.below hV).2 s (ok_of hs.2)
      rw [find_map, hy] at q
      exact q⟩
  obtain ⟨xa0, xb0, xc0, xd0⟩ := hall U2.drew (show Below U2.heap.size U2 U2.drew from (Below.refl _ U2).drew)
  obtain ⟨xa1, xb1, xc1, xd1⟩ := hall (U2.alloc (.cells #[.slice none 0 0] 29)).drew (show Below U2.heap.size U2 (U2.alloc (.cells #[.slice none 0 0] 29)).drew from ((Below.refl _ U2).alloc (Nat.le_refl _) _).drew)
  have H1 := right_any s U2
  rw [decide_eq_true hs] at H1
  have H1 := Lib.hid H1
  have H2 := right_any t U2
  rw [decide_eq_true ht] at H2
  have H2 := Lib.hid H2
  have HE : Hid (Below w.heap.size w (U2.alloc (.cells #[.slice none 0 0] 29)).drew) := Lib.hid (bU2.alloc bU2.size _).drew
  clear hp hC hall hy
  go_enter Try.func23, Try.ntmps23
  go_wp2_with fail
  refine H1.out.mono ?_
  rintro e w2 ⟨rfl, hw2⟩
  obtain rfl := hw2.symm
  go_wp2_with fail
  refine H2.out.mono ?_
  rintro e w3 ⟨rfl, hw3⟩
  obtain rfl := hw3.symm
  go_wp2_with fail
  go_region
  all_goals
    go_wp2_with fail
    go_ret
    exact ⟨rfl, HE.out⟩
end
end Disk
end Go.Proofs.Ytdcppjpjlhbanaa
