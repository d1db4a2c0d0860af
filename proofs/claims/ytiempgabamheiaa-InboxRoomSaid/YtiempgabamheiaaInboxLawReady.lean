/-
  The law's own word for a far write that may be done. Written by gen18/lready.py.
-/
import Derived.Test.YtiempgabamheiaaInboxSit
import Derived.Deep.RegionHeld3
import Derived.Deep.DrawnRows
namespace Go.Proofs.Ytiempgabamheiaa
namespace Inbox
open Go.RowKit Vers Span Blk
attribute [local go_sem ↓] Go.wp_at_zero Go.wp_at_succ
theorem next_is {v : List Int} (hrv : Vect.RightV v) (hlt : ∀ k, 0 ≤ v.getD k 0 ∧ v.getD k 0 < 4611686018427387904) {s n : Int} (h1 : 1 ≤ s) : Vect.IsNext v s n ↔ s ≤ v.length ∧ n = v.getD (s - 1).toNat 0 + 1 := by
  unfold Vect.IsNext Vect.nextV
  have := hlt (s - 1).toNat
  by_cases h : s ≤ v.length
  · rw [if_pos ⟨hrv, h1, h⟩, if_neg (by omega)]
    simp only [Prod.mk.injEq]
    exact ⟨fun hh => ⟨h, hh.2.1.symm⟩, fun hh => ⟨trivial, hh.2.symm, trivial⟩⟩
  · rw [if_neg fun hh => h hh.2.2]
    simp only [Prod.mk.injEq]
    exact ⟨fun hh => absurd hh.2.2 (by decide), fun hh => absurd hh.1 h⟩
set_option maxRecDepth 100000 in
set_option maxHeartbeats 4000000 in
theorem lready_any (fr sq : Int) (key : ByteArray) (Av : Option Addr) (cv m : Nat) (l : List Vr) (hm : l.length = m) (h1 : 1 ≤ m) (hok : okV (l.getD 0 v0)) (Ar : Option Addr) (kr cr : Nat) (A : Option Addr) (c n : Nat) (v : List Int) (hn : v.length = n) (hbig : n ≤ 140737488355328) (hrv : Vect.RightV v) (hlt : ∀ k, 0 ≤ v.getD k 0 ∧ v.getD k 0 < 4611686018427387904) (w : World) (hv : Vs w 0 w.heap.size Av l) (hr : Ns .i64 w w.heap.size A v) :
    Calls Try.prog 28 #[.agg #[.int .i64 fr, .int .i64 sq, .string key, .slice Av m cv, .slice Ar kr cr], .slice A n c] w (fun e w' => e = .returned (.bool (decide (mayV v (l.getD 0 v0)))) ∧ Below w.heap.size w w') := by
  obtain ⟨b, off, Ap, cp, rfl, _, hbB, x0, x1, x2, x3, x4, hpa⟩ := hv.at hm (Below.refl _ w) h1 rfl
  obtain ⟨y, hy⟩ : ∃ y, l.getD 0 v0 = y := ⟨_, rfl⟩
  rw [hy] at hok x0 x1 x2 x3 x4 hpa ⊢
  obtain ⟨s, vn, vp, vg, vx⟩ := y
  simp only at x0 x1 x2 x3 x4
  rw [Nat.zero_mul, Nat.add_zero] at x0 x1 x2 x3 x4
  obtain ⟨kp, hkp⟩ : ∃ k, vp.length = k := ⟨_, rfl⟩
  rw [hkp] at x2
  obtain ⟨R, hR⟩ : ∃ R, decide (mayV v ⟨s, vn, vp, vg, vx⟩) = R := ⟨_, rfl⟩
  rw [hR]
  have hs : 1 ≤ s ∧ s ≤ 16 ∧ 1 ≤ vn := by have := hok.1; unfold okD at this; simp only at this; omega
  have hho := fun V (hV : Below w.heap.size w V) => Vect.ref_holds_any A Ap c cp n kp v vp hn hkp (fun x hx => by have := hok.2.1.2.1 x hx; unfold okSp at this; omega) V ((hr.below hV).more hV.size) ((hpa.1.below hV).more hV.size) hbig (by have := hpa.2.2.1; simp only at this; omega)
  have hnx := next_is hrv hlt (s := s) (n := vn) hs.1
  obtain ⟨U, hU⟩ : ∃ U, w.alloc (.cells #[.int .i64 fr, .int .i64 sq, .string key, .slice (some ⟨b, off, none⟩) m cv, .slice Ar kr cr] 35) = U := ⟨_, rfl⟩
  have bU : Below w.heap.size w U := by rw [← hU]; exact (Below.refl _ w).alloc (Nat.le_refl _) _
  have sU : U.heap.size = w.heap.size + 1 := by rw [← hU]; simp
  have BU : Bn w.heap.size 35 [.int .i64 fr, .int .i64 sq, .string key, .slice (some ⟨b, off, none⟩) m cv, .slice Ar kr cr] U := by rw [← hU]; exact heap_alloc_new w _
  have u3 := (BU.cell 3).trans rfl
  have z0 := (bU.cell (p := ⟨b, off, none⟩) hbB).trans x0
  have z1 := (bU.cell (p := ⟨b, off + 1, none⟩) hbB).trans x1
  have z2 := (bU.cell (p := ⟨b, off + 2, none⟩) hbB).trans x2
  have z3 := (bU.cell (p := ⟨b, off + 3, none⟩) hbB).trans x3
  have z4 := (bU.cell (p := ⟨b, off + 4, none⟩) hbB).trans x4
  obtain ⟨Y, hY⟩ : ∃ Y, U.alloc (.cells #[.int .i64 s, .int .i64 vn, .slice Ap kp cp, .bool vg, .string vx] 59) = Y := ⟨_, rfl⟩
  have bUY : Below U.heap.size U Y := by rw [← hY]; exact (Below.refl _ U).alloc (Nat.le_refl _) _
  have BY : Bn U.heap.size 59 [.int .i64 s, .int .i64 vn, .slice Ap kp cp, .bool vg, .string vx] Y := by rw [← hY]; exact heap_alloc_new U _
  have bY : Below w.heap.size w Y := bU.trans (bUY.mono bU.size)
  obtain ⟨yb, hyb⟩ : ∃ k, U.heap.size = k := ⟨_, rfl⟩
  rw [hyb] at BY
  have hryY := (hr.below bY)
  have HB := Lib.hid (And.intro bY BY)
  have HO := Lib.hid hho
  have HYB := Lib.hid (And.intro hY hyb)
  have HR := Lib.hid (And.intro hR (And.intro hnx hn))
  have h0m : (0 : Int) < (m : Int) := by omega
  have h0k : 0 < m := h1
  have HM := Lib.hid (And.intro hlt hs)
  have HRN := Lib.hid hryY
  have HC : Hid (∀ W, Below Y.heap.size Y W → Below Y.heap.size Y W ∧ W.cell? ⟨yb, 0, none⟩ = some (.int .i64 s) ∧ W.cell? ⟨yb, 1, none⟩ = some (.int .i64 vn) ∧ W.cell? ⟨yb, 2, none⟩ = some (.slice Ap kp cp)) := Lib.hid fun W hW => by
    have g1 := BY.same (hW.block _ BY.lt)
    exact ⟨hW, (g1.cell 0).trans rfl, (g1.cell 1).trans rfl, (g1.cell 2).trans rfl⟩
  clear hm hv hr hok hbB x0 x1 x2 x3 x4 hpa hho hR hnx hn bU BU bUY BY bY hyb hY hryY hlt hs hrv hkp hy sU
  go_enter Try.func28, Try.ntmps28
  go_upto_region 2 with fail
  rw [HYB.out.1, HYB.out.2]
  by_cases hsn : s ≤ (n : Int)
  · obtain ⟨k, rfl⟩ : ∃ k : Nat, s = (k : Int) + 1 := ⟨(s - 1).toNat, by have := HM.out.2; omega⟩
    have hk : k < n := by omega
    obtain ⟨x, hx⟩ : ∃ x, v.getD k 0 = x := ⟨_, rfl⟩
    obtain ⟨ab, ao, rfl, hab, d0⟩ := Vect.ns_cell HRN.out HR.out.2.2 (Below.refl _ _) hk hx
    have hxx : 0 ≤ x ∧ x < 4611686018427387904 := by rw [← hx]; exact HM.out.1 k
    have HD := Lib.hid (And.intro d0 (Nat.lt_of_lt_of_le hab HB.out.1.size))
    have HK : Hid (Vect.IsNext v ((k : Int) + 1) vn ↔ vn = x + 1) := Lib.hid (by
      rw [HR.out.2.1, HR.out.2.2, show ((k : Int) + 1 - 1).toNat = k by omega, hx]
      exact ⟨fun h => h.2, fun h => ⟨by omega, h⟩⟩)
    have HC2 : Hid (∀ W, Below Y.heap.size Y W → Below Y.heap.size Y W ∧ W.cell? ⟨yb, 0, none⟩ = some (.int .i64 ((k : Int) + 1)) ∧ W.cell? ⟨yb, 1, none⟩ = some (.int .i64 vn) ∧ W.cell? ⟨yb, 2, none⟩ = some (.slice Ap kp cp) ∧ W.cell? ⟨ab, ao + k, none⟩ = some (.int .i64 x)) := Lib.hid fun W hW => by
      obtain ⟨g1, g2, g3, g4⟩ := HC.out W hW
      exact ⟨g1, g2, g3, g4, (hW.cell (p := ⟨ab, ao + k, none⟩) HD.out.2).trans HD.out.1⟩
    have e2 : IntKind.i64.wrap (k : Int) = (k : Int) := IntWalk.i64_in _ (by omega)
    have e3 : IntKind.i64.wrap (x + 1) = x + 1 := IntWalk.i64_in _ (by omega)
    have e4 : (0 : Int) ≤ (k : Int) := by omega
    have e5 : (k : Int) < (n : Int) := by omega
    clear hx d0 hxx HC HM hab
    by_cases he : vn = x + 1
    · subst he
      obtain ⟨q, hq⟩ : ∃ q, decide (Vect.HoldsV v vp) = q := ⟨_, rfl⟩
      have HQ := Lib.hid (show R = q by
        rw [← HR.out.1, ← hq]
        exact decide_eq_decide.2 ⟨fun h => h.2, fun h => ⟨HK.out.2 rfl, h⟩⟩)
      have HH : Hid (∀ W, Below Y.heap.size Y W → Calls Try.prog 22 #[.slice (some ⟨ab, ao, none⟩) n c, .slice Ap kp cp] W (fun e w' => e = .returned (.bool q) ∧ Below W.heap.size W w')) := Lib.hid fun W hW => by
        rw [← hq]
        exact HO.out W (HB.out.1.trans (hW.mono HB.out.1.size))
      clear hq HO HK
      refine wp_region_held_drew (S := (fun V => Below Y.heap.size Y V ∧ V.cell? ⟨yb, 0, none⟩ = some (.int .i64 ((k : Int) + 1)) ∧ V.cell? ⟨yb, 1, none⟩ = some (.int .i64 (x + 1)) ∧ V.cell? ⟨yb, 2, none⟩ = some (.slice Ap kp cp) ∧ V.cell? ⟨ab, ao + k, none⟩ = some (.int .i64 x))) (by kernel_rfl) (HC2.out _ (show Below Y.heap.size Y Y.drew from (Below.refl _ _).drew)) (fun hHeld => ?_)
      refine wpAnyH_take (i := 0) (oi := { dst := some 11, op := Op.fieldAddr 59 (Operand.tmp 5) 0, type := 0, pos := "law.go:236", after := #[], guard := none }) (v := ?va_1) rfl (by kernel_rfl) (by kernel_rfl) (by kernel_rfl) (fun _ _ _ h => h) (Or.inl ⟨by rfl, ?hya_1⟩) (by assumption) ?resta_1
      case hya_1 =>
        intro w hSw
        (try dsimp only at hSw)
        go_simp
        (try with_reducible rfl)
      (try simp only [Act.put, List.setIfInBounds_toArray, List.set_cons_zero, List.set_cons_succ])
      refine wpAnyH_take (i := 1) (oi := { dst := some 12, op := Op.fieldAddr 56 (Operand.tmp 11) 0, type := 0, pos := "law.go:236", after := #[{ on := 0, ground := Ground.data }], guard := none }) (v := ?va_2) rfl (by kernel_rfl) (by kernel_rfl) (by kernel_rfl) (fun _ _ _ h => h) (Or.inl ⟨by rfl, ?hya_2⟩) (by assumption) ?resta_2
      case hya_2 =>
        intro w hSw
        (try dsimp only at hSw)
        go_simp
        (try with_reducible rfl)
      (try simp only [Act.put, List.setIfInBounds_toArray, List.set_cons_zero, List.set_cons_succ])
      refine wpAnyH_take (i := 2) (oi := { dst := some 13, op := Op.load 3 (Operand.tmp 12), type := 3, pos := "law.go:236", after := #[{ on := 1, ground := Ground.data }], guard := none }) (v := ?va_3) rfl (by kernel_rfl) (by kernel_rfl) (by kernel_rfl) (fun _ _ _ h => h) (Or.inl ⟨by rfl, ?hya_3⟩) (by assumption) ?resta_3
      case hya_3 =>
        intro w hSw
        (try dsimp only at hSw)
        go_simp
        (try with_reducible rfl)
      (try simp only [Act.put, List.setIfInBounds_toArray, List.set_cons_zero, List.set_cons_succ])
      refine wpAnyH_take (i := 3) (oi := { dst := some 14, op := Op.move (Operand.tmp 1), type := 36, pos := "law.go:236", after := #[], guard := none }) (v := ?va_4) rfl (by kernel_rfl) (by kernel_rfl) (by kernel_rfl) (fun _ _ _ h => h) (Or.inl ⟨by rfl, ?hya_4⟩) (by assumption) ?resta_4
      case hya_4 =>
        intro w hSw
        (try dsimp only at hSw)
        go_simp
        (try with_reducible rfl)
      (try simp only [Act.put, List.setIfInBounds_toArray, List.set_cons_zero, List.set_cons_succ])
      refine wpAnyH_take (i := 4) (oi := { dst := some 15, op := Op.call { callee := Callee.builtin Builtin.len, args := #[Operand.tmp 14], argTypes := #[36] }, type := 3, pos := "law.go:236", after := #[{ on := 3, ground := Ground.data }], guard := none }) (v := ?va_5) rfl (by kernel_rfl) (by kernel_rfl) (by kernel_rfl) (fun _ _ _ h => h) (Or.inl ⟨by rfl, ?hya_5⟩) (by assumption) ?resta_5
      case hya_5 =>
        intro w hSw
        (try dsimp only at hSw)
        go_simp
        (try with_reducible rfl)
      (try simp only [Act.put, List.setIfInBounds_toArray, List.set_cons_zero, List.set_cons_succ])
      refine wpAnyH_take (i := 5) (oi := { dst := some 16, op := Op.binOp BinOp.leq 3 (Operand.tmp 13) (Operand.tmp 15) 3, type := 4, pos := "law.go:236", after := #[{ on := 2, ground := Ground.data }, { on := 4, ground := Ground.data }], guard := none }) (v := ?va_6) rfl (by kernel_rfl) (by kernel_rfl) (by kernel_rfl) (fun _ _ _ h => h) (Or.inl ⟨by rfl, ?hya_6⟩) (by assumption) ?resta_6
      case hya_6 =>
        intro w hSw
        (try dsimp only at hSw)
        go_simp
        (try with_reducible rfl)
      (try simp only [Act.put, List.setIfInBounds_toArray, List.set_cons_zero, List.set_cons_succ])
      refine wpAnyH_take (i := 6) (oi := { dst := some 17, op := Op.move (Operand.tmp 16), type := 4, pos := "law.go:236", after := #[{ on := 5, ground := Ground.data }], guard := none }) (v := ?va_7) rfl (by kernel_rfl) (by kernel_rfl) (by kernel_rfl) (fun _ _ _ h => h) (Or.inl ⟨by rfl, ?hya_7⟩) (by assumption) ?resta_7
      case hya_7 =>
        intro w hSw
        (try dsimp only at hSw)
        go_simp
        (try with_reducible rfl)
      (try simp only [Act.put, List.setIfInBounds_toArray, List.set_cons_zero, List.set_cons_succ])
      refine wpAnyH_take (i := 7) (oi := { dst := some 18, op := Op.fieldAddr 59 (Operand.tmp 5) 0, type := 0, pos := "law.go:236", after := #[{ on := 6, ground := Ground.guard }], guard := some (6, true) }) (v := ?va_8) rfl (by kernel_rfl) (by kernel_rfl) (by kernel_rfl) (fun _ _ _ h => h) (Or.inl ⟨by rfl, ?hya_8⟩) (by assumption) ?resta_8
      case hya_8 =>
        intro w hSw
        (try dsimp only at hSw)
        go_simp
        (try with_reducible rfl)
      (try simp only [Act.put, List.setIfInBounds_toArray, List.set_cons_zero, List.set_cons_succ])
      refine wpAnyH_take (i := 8) (oi := { dst := some 19, op := Op.fieldAddr 56 (Operand.tmp 18) 1, type := 0, pos := "law.go:236", after := #[{ on := 7, ground := Ground.data }, { on := 6, ground := Ground.guard }], guard := some (6, true) }) (v := ?va_9) rfl (by kernel_rfl) (by kernel_rfl) (by kernel_rfl) (fun _ _ _ h => h) (Or.inl ⟨by rfl, ?hya_9⟩) (by assumption) ?resta_9
      case hya_9 =>
        intro w hSw
        (try dsimp only at hSw)
        go_simp
        (try with_reducible rfl)
      (try simp only [Act.put, List.setIfInBounds_toArray, List.set_cons_zero, List.set_cons_succ])
      refine wpAnyH_take (i := 9) (oi := { dst := some 20, op := Op.load 2 (Operand.tmp 19), type := 2, pos := "law.go:236", after := #[{ on := 8, ground := Ground.data }, { on := 6, ground := Ground.guard }], guard := some (6, true) }) (v := ?va_10) rfl (by kernel_rfl) (by kernel_rfl) (by kernel_rfl) (fun _ _ _ h => h) (Or.inl ⟨by rfl, ?hya_10⟩) (by assumption) ?resta_10
      case hya_10 =>
        intro w hSw
        (try dsimp only at hSw)
        go_simp
        (try with_reducible rfl)
      (try simp only [Act.put, List.setIfInBounds_toArray, List.set_cons_zero, List.set_cons_succ])
      refine wpAnyH_take (i := 10) (oi := { dst := some 21, op := Op.move (Operand.tmp 1), type := 36, pos := "law.go:236", after := #[{ on := 6, ground := Ground.guard }], guard := some (6, true) }) (v := ?va_11) rfl (by kernel_rfl) (by kernel_rfl) (by kernel_rfl) (fun _ _ _ h => h) (Or.inl ⟨by rfl, ?hya_11⟩) (by assumption) ?resta_11
      case hya_11 =>
        intro w hSw
        (try dsimp only at hSw)
        go_simp
        (try with_reducible rfl)
      (try simp only [Act.put, List.setIfInBounds_toArray, List.set_cons_zero, List.set_cons_succ])
      refine wpAnyH_take (i := 11) (oi := { dst := some 22, op := Op.fieldAddr 59 (Operand.tmp 5) 0, type := 0, pos := "law.go:236", after := #[{ on := 6, ground := Ground.guard }], guard := some (6, true) }) (v := ?va_12) rfl (by kernel_rfl) (by kernel_rfl) (by kernel_rfl) (fun _ _ _ h => h) (Or.inl ⟨by rfl, ?hya_12⟩) (by assumption) ?resta_12
      case hya_12 =>
        intro w hSw
        (try dsimp only at hSw)
        go_simp
        (try with_reducible rfl)
      (try simp only [Act.put, List.setIfInBounds_toArray, List.set_cons_zero, List.set_cons_succ])
      refine wpAnyH_take (i := 12) (oi := { dst := some 23, op := Op.fieldAddr 56 (Operand.tmp 22) 0, type := 0, pos := "law.go:236", after := #[{ on := 11, ground := Ground.data }, { on := 6, ground := Ground.guard }], guard := some (6, true) }) (v := ?va_13) rfl (by kernel_rfl) (by kernel_rfl) (by kernel_rfl) (fun _ _ _ h => h) (Or.inl ⟨by rfl, ?hya_13⟩) (by assumption) ?resta_13
      case hya_13 =>
        intro w hSw
        (try dsimp only at hSw)
        go_simp
        (try with_reducible rfl)
      (try simp only [Act.put, List.setIfInBounds_toArray, List.set_cons_zero, List.set_cons_succ])
      refine wpAnyH_take (i := 13) (oi := { dst := some 24, op := Op.load 3 (Operand.tmp 23), type := 3, pos := "law.go:236", after := #[{ on := 12, ground := Ground.data }, { on := 6, ground := Ground.guard }], guard := some (6, true) }) (v := ?va_14) rfl (by kernel_rfl) (by kernel_rfl) (by kernel_rfl) (fun _ _ _ h => h) (Or.inl ⟨by rfl, ?hya_14⟩) (by assumption) ?resta_14
      case hya_14 =>
        intro w hSw
        (try dsimp only at hSw)
        go_simp
        (try with_reducible rfl)
      (try simp only [Act.put, List.setIfInBounds_toArray, List.set_cons_zero, List.set_cons_succ])
      refine wpAnyH_take (i := 14) (oi := { dst := some 25, op := Op.binOp BinOp.sub 3 (Operand.tmp 24) (Operand.const (Value.int IntKind.i64 1)) 3, type := 3, pos := "law.go:236", after := #[{ on := 13, ground := Ground.data }, { on := 6, ground := Ground.guard }], guard := some (6, true) }) (v := ?va_15) rfl (by kernel_rfl) (by kernel_rfl) (by kernel_rfl) (fun _ _ _ h => h) (Or.inl ⟨by rfl, ?hya_15⟩) (by assumption) ?resta_15
      case hya_15 =>
        intro w hSw
        (try dsimp only at hSw)
        go_simp
        (try with_reducible rfl)
      (try simp only [Act.put, List.setIfInBounds_toArray, List.set_cons_zero, List.set_cons_succ])
      refine wpAnyH_take (i := 15) (oi := { dst := some 26, op := Op.indexAddr 36 (Operand.tmp 21) (Operand.tmp 25), type := 0, pos := "law.go:236", after := #[{ on := 10, ground := Ground.data }, { on := 14, ground := Ground.data }, { on := 6, ground := Ground.guard }], guard := some (6, true) }) (v := ?va_16) rfl (by kernel_rfl) (by kernel_rfl) (by kernel_rfl) (fun _ _ _ h => h) (Or.inl ⟨by rfl, ?hya_16⟩) (by assumption) ?resta_16
      case hya_16 =>
        intro w hSw
        (try dsimp only at hSw)
        go_simp
        (try with_reducible rfl)
      (try simp only [Act.put, List.setIfInBounds_toArray, List.set_cons_zero, List.set_cons_succ])
      refine wpAnyH_take (i := 16) (oi := { dst := some 27, op := Op.load 2 (Operand.tmp 26), type := 2, pos := "law.go:236", after := #[{ on := 15, ground := Ground.data }, { on := 6, ground := Ground.guard }], guard := some (6, true) }) (v := ?va_17) rfl (by kernel_rfl) (by kernel_rfl) (by kernel_rfl) (fun _ _ _ h => h) (Or.inl ⟨by rfl, ?hya_17⟩) (by assumption) ?resta_17
      case hya_17 =>
        intro w hSw
        (try dsimp only at hSw)
        go_simp
        (try with_reducible rfl)
      (try simp only [Act.put, List.setIfInBounds_toArray, List.set_cons_zero, List.set_cons_succ])
      refine wpAnyH_take (i := 17) (oi := { dst := some 28, op := Op.binOp BinOp.add 2 (Operand.tmp 27) (Operand.const (Value.int IntKind.i64 1)) 2, type := 2, pos := "law.go:236", after := #[{ on := 16, ground := Ground.data }, { on := 6, ground := Ground.guard }], guard := some (6, true) }) (v := ?va_18) rfl (by kernel_rfl) (by kernel_rfl) (by kernel_rfl) (fun _ _ _ h => h) (Or.inl ⟨by rfl, ?hya_18⟩) (by assumption) ?resta_18
      case hya_18 =>
        intro w hSw
        (try dsimp only at hSw)
        go_simp
        (try with_reducible rfl)
      (try simp only [Act.put, List.setIfInBounds_toArray, List.set_cons_zero, List.set_cons_succ])
      refine wpAnyH_take (i := 18) (oi := { dst := some 29, op := Op.binOp BinOp.eql 2 (Operand.tmp 20) (Operand.tmp 28) 2, type := 4, pos := "law.go:236", after := #[{ on := 9, ground := Ground.data }, { on := 17, ground := Ground.data }, { on := 6, ground := Ground.guard }], guard := some (6, true) }) (v := ?va_19) rfl (by kernel_rfl) (by kernel_rfl) (by kernel_rfl) (fun _ _ _ h => h) (Or.inl ⟨by rfl, ?hya_19⟩) (by assumption) ?resta_19
      case hya_19 =>
        intro w hSw
        (try dsimp only at hSw)
        go_simp
        (try with_reducible rfl)
      (try simp only [Act.put, List.setIfInBounds_toArray, List.set_cons_zero, List.set_cons_succ])
      refine wpAnyH_take (i := 19) (oi := { dst := some 30, op := Op.pick (Operand.tmp 17) (Operand.tmp 29) (Operand.const (Value.bool false)), type := 4, pos := "law.go:236", after := #[{ on := 6, ground := Ground.data }, { on := 18, ground := Ground.data }], guard := none }) (v := ?va_20) rfl (by kernel_rfl) (by kernel_rfl) (by kernel_rfl) (fun _ _ _ h => h) (Or.inl ⟨by rfl, ?hya_20⟩) (by assumption) ?resta_20
      case hya_20 =>
        intro w hSw
        (try dsimp only at hSw)
        go_simp
        (try with_reducible rfl)
      (try simp only [Act.put, List.setIfInBounds_toArray, List.set_cons_zero, List.set_cons_succ])
      refine wpAnyH_take (i := 20) (oi := { dst := some 31, op := Op.move (Operand.tmp 30), type := 4, pos := "law.go:236", after := #[{ on := 19, ground := Ground.data }, { on := 6, ground := Ground.chain }], guard := none }) (v := ?va_21) rfl (by kernel_rfl) (by kernel_rfl) (by kernel_rfl) (fun _ _ _ h => h) (Or.inl ⟨by rfl, ?hya_21⟩) (by assumption) ?resta_21
      case hya_21 =>
        intro w hSw
        (try dsimp only at hSw)
        go_simp
        (try with_reducible rfl)
      (try simp only [Act.put, List.setIfInBounds_toArray, List.set_cons_zero, List.set_cons_succ])
      refine wpAnyH_take (i := 21) (oi := { dst := some 32, op := Op.move (Operand.tmp 1), type := 36, pos := "law.go:236", after := #[{ on := 20, ground := Ground.guard }], guard := some (20, true) }) (v := ?va_22) rfl (by kernel_rfl) (by kernel_rfl) (by kernel_rfl) (fun _ _ _ h => h) (Or.inl ⟨by rfl, ?hya_22⟩) (by assumption) ?resta_22
      case hya_22 =>
        intro w hSw
        (try dsimp only at hSw)
        go_simp
        (try with_reducible rfl)
      (try simp only [Act.put, List.setIfInBounds_toArray, List.set_cons_zero, List.set_cons_succ])
      refine wpAnyH_take (i := 22) (oi := { dst := some 33, op := Op.fieldAddr 59 (Operand.tmp 5) 1, type := 0, pos := "law.go:236", after := #[{ on := 20, ground := Ground.guard }], guard := some (20, true) }) (v := ?va_23) rfl (by kernel_rfl) (by kernel_rfl) (by kernel_rfl) (fun _ _ _ h => h) (Or.inl ⟨by rfl, ?hya_23⟩) (by assumption) ?resta_23
      case hya_23 =>
        intro w hSw
        (try dsimp only at hSw)
        go_simp
        (try with_reducible rfl)
      (try simp only [Act.put, List.setIfInBounds_toArray, List.set_cons_zero, List.set_cons_succ])
      refine wpAnyH_take (i := 23) (oi := { dst := some 34, op := Op.load 57 (Operand.tmp 33), type := 57, pos := "law.go:236", after := #[{ on := 22, ground := Ground.data }, { on := 20, ground := Ground.guard }], guard := some (20, true) }) (v := ?va_24) rfl (by kernel_rfl) (by kernel_rfl) (by kernel_rfl) (fun _ _ _ h => h) (Or.inl ⟨by rfl, ?hya_24⟩) (by assumption) ?resta_24
      case hya_24 =>
        intro w hSw
        (try dsimp only at hSw)
        go_simp
        (try with_reducible rfl)
      (try simp only [Act.put, List.setIfInBounds_toArray, List.set_cons_zero, List.set_cons_succ])
      refine wpAnyH_ready (rs := [24]) (by kernel_rfl) (by simp) ?_
      refine AllReadyH.cons (o := { dst := some 35, op := Op.call { callee := Callee.value (Operand.func 22), args := #[Operand.tmp 32, Operand.tmp 34], argTypes := #[36, 57] }, type := 4, pos := "law.go:236", after := #[{ on := 21, ground := Ground.data }, { on := 23, ground := Ground.data }, { on := 20, ground := Ground.chain }, { on := 20, ground := Ground.guard }], guard := some (20, true) }) rfl (fun K hK => ?_) AllReadyH.nil
      go_simp
      (go_at_call 22; refine (HH.out _ hHeld.1).mono ?_; rintro e7 w7 ⟨rfl, b7⟩; have hb7 : Below Y.heap.size Y w7 := hHeld.1.trans (b7.mono hHeld.1.size))
      go_wp2_with fail
      refine hK.out _ _ (HC2.out _ hb7) (fun hHeld => ?_)
      clear hK K
      (try simp only [Act.put, List.setIfInBounds_toArray, List.set_cons_zero, List.set_cons_succ])
      refine wpAnyH_take (i := 25) (oi := { dst := some 36, op := Op.pick (Operand.tmp 31) (Operand.tmp 35) (Operand.const (Value.bool false)), type := 4, pos := "law.go:236", after := #[{ on := 20, ground := Ground.data }, { on := 24, ground := Ground.data }], guard := none }) (v := ?va_25) rfl (by kernel_rfl) (by kernel_rfl) (by kernel_rfl) (fun _ _ _ h => h) (Or.inl ⟨by rfl, ?hya_25⟩) (by assumption) ?resta_25
      case hya_25 =>
        intro w hSw
        (try dsimp only at hSw)
        go_simp
        (try with_reducible rfl)
      (try simp only [Act.put, List.setIfInBounds_toArray, List.set_cons_zero, List.set_cons_succ])
      refine wpAnyH_take (i := 26) (oi := { dst := some 4, op := Op.assign (Operand.tmp 36), type := 4, pos := "law.go:236", after := #[{ on := 25, ground := Ground.data }, { on := 24, ground := Ground.chain }, { on := 0, ground := Ground.phase }, { on := 1, ground := Ground.phase }, { on := 2, ground := Ground.phase }, { on := 3, ground := Ground.phase }, { on := 4, ground := Ground.phase }, { on := 5, ground := Ground.phase }, { on := 6, ground := Ground.phase }, { on := 7, ground := Ground.phase }, { on := 8, ground := Ground.phase }, { on := 9, ground := Ground.phase }, { on := 10, ground := Ground.phase }, { on := 11, ground := Ground.phase }, { on := 12, ground := Ground.phase }, { on := 13, ground := Ground.phase }, { on := 14, ground := Ground.phase }, { on := 15, ground := Ground.phase }, { on := 16, ground := Ground.phase }, { on := 17, ground := Ground.phase }, { on := 18, ground := Ground.phase }, { on := 19, ground := Ground.phase }, { on := 20, ground := Ground.phase }, { on := 21, ground := Ground.phase }, { on := 22, ground := Ground.phase }, { on := 23, ground := Ground.phase }, { on := 24, ground := Ground.phase }, { on := 25, ground := Ground.phase }], guard := none }) (v := ?va_26) rfl (by kernel_rfl) (by kernel_rfl) (by kernel_rfl) (fun _ _ _ h => h) (Or.inl ⟨by rfl, ?hya_26⟩) (by assumption) ?resta_26
      case hya_26 =>
        intro w hSw
        (try dsimp only at hSw)
        go_simp
        (try with_reducible rfl)
      (try simp only [Act.put, List.setIfInBounds_toArray, List.set_cons_zero, List.set_cons_succ])
      refine wpAnyH_done (by kernel_rfl) ?_ _
      go_wp2_with fail
      go_ret
      exact ⟨by rw [HQ.out]; cases q <;> rfl, HB.out.1.trans (hb7.mono HB.out.1.size)⟩
    · have HQ := Lib.hid (show R = false by
        rw [← HR.out.1]
        exact decide_eq_false fun h => he (HK.out.1 h.1))
      have hne : (vn == x + 1) = false := by simp [he]
      clear he HO HK
      refine wp_region_held_drew (S := (fun V => Below Y.heap.size Y V ∧ V.cell? ⟨yb, 0, none⟩ = some (.int .i64 ((k : Int) + 1)) ∧ V.cell? ⟨yb, 1, none⟩ = some (.int .i64 vn) ∧ V.cell? ⟨yb, 2, none⟩ = some (.slice Ap kp cp) ∧ V.cell? ⟨ab, ao + k, none⟩ = some (.int .i64 x))) (by kernel_rfl) (HC2.out _ (show Below Y.heap.size Y Y.drew from (Below.refl _ _).drew)) (fun hHeld => ?_)
      refine wpAnyH_take (i := 0) (oi := { dst := some 11, op := Op.fieldAddr 59 (Operand.tmp 5) 0, type := 0, pos := "law.go:236", after := #[], guard := none }) (v := ?vb_1) rfl (by kernel_rfl) (by kernel_rfl) (by kernel_rfl) (fun _ _ _ h => h) (Or.inl ⟨by rfl, ?hyb_1⟩) (by assumption) ?restb_1
      case hyb_1 =>
        intro w hSw
        (try dsimp only at hSw)
        go_simp
        (try with_reducible rfl)
      (try simp only [Act.put, List.setIfInBounds_toArray, List.set_cons_zero, List.set_cons_succ])
      refine wpAnyH_take (i := 1) (oi := { dst := some 12, op := Op.fieldAddr 56 (Operand.tmp 11) 0, type := 0, pos := "law.go:236", after := #[{ on := 0, ground := Ground.data }], guard := none }) (v := ?vb_2) rfl (by kernel_rfl) (by kernel_rfl) (by kernel_rfl) (fun _ _ _ h => h) (Or.inl ⟨by rfl, ?hyb_2⟩) (by assumption) ?restb_2
      case hyb_2 =>
        intro w hSw
        (try dsimp only at hSw)
        go_simp
        (try with_reducible rfl)
      (try simp only [Act.put, List.setIfInBounds_toArray, List.set_cons_zero, List.set_cons_succ])
      refine wpAnyH_take (i := 2) (oi := { dst := some 13, op := Op.load 3 (Operand.tmp 12), type := 3, pos := "law.go:236", after := #[{ on := 1, ground := Ground.data }], guard := none }) (v := ?vb_3) rfl (by kernel_rfl) (by kernel_rfl) (by kernel_rfl) (fun _ _ _ h => h) (Or.inl ⟨by rfl, ?hyb_3⟩) (by assumption) ?restb_3
      case hyb_3 =>
        intro w hSw
        (try dsimp only at hSw)
        go_simp
        (try with_reducible rfl)
      (try simp only [Act.put, List.setIfInBounds_toArray, List.set_cons_zero, List.set_cons_succ])
      refine wpAnyH_take (i := 3) (oi := { dst := some 14, op := Op.move (Operand.tmp 1), type := 36, pos := "law.go:236", after := #[], guard := none }) (v := ?vb_4) rfl (by kernel_rfl) (by kernel_rfl) (by kernel_rfl) (fun _ _ _ h => h) (Or.inl ⟨by rfl, ?hyb_4⟩) (by assumption) ?restb_4
      case hyb_4 =>
        intro w hSw
        (try dsimp only at hSw)
        go_simp
        (try with_reducible rfl)
      (try simp only [Act.put, List.setIfInBounds_toArray, List.set_cons_zero, List.set_cons_succ])
      refine wpAnyH_take (i := 4) (oi := { dst := some 15, op := Op.call { callee := Callee.builtin Builtin.len, args := #[Operand.tmp 14], argTypes := #[36] }, type := 3, pos := "law.go:236", after := #[{ on := 3, ground := Ground.data }], guard := none }) (v := ?vb_5) rfl (by kernel_rfl) (by kernel_rfl) (by kernel_rfl) (fun _ _ _ h => h) (Or.inl ⟨by rfl, ?hyb_5⟩) (by assumption) ?restb_5
      case hyb_5 =>
        intro w hSw
        (try dsimp only at hSw)
        go_simp
        (try with_reducible rfl)
      (try simp only [Act.put, List.setIfInBounds_toArray, List.set_cons_zero, List.set_cons_succ])
      refine wpAnyH_take (i := 5) (oi := { dst := some 16, op := Op.binOp BinOp.leq 3 (Operand.tmp 13) (Operand.tmp 15) 3, type := 4, pos := "law.go:236", after := #[{ on := 2, ground := Ground.data }, { on := 4, ground := Ground.data }], guard := none }) (v := ?vb_6) rfl (by kernel_rfl) (by kernel_rfl) (by kernel_rfl) (fun _ _ _ h => h) (Or.inl ⟨by rfl, ?hyb_6⟩) (by assumption) ?restb_6
      case hyb_6 =>
        intro w hSw
        (try dsimp only at hSw)
        go_simp
        (try with_reducible rfl)
      (try simp only [Act.put, List.setIfInBounds_toArray, List.set_cons_zero, List.set_cons_succ])
      refine wpAnyH_take (i := 6) (oi := { dst := some 17, op := Op.move (Operand.tmp 16), type := 4, pos := "law.go:236", after := #[{ on := 5, ground := Ground.data }], guard := none }) (v := ?vb_7) rfl (by kernel_rfl) (by kernel_rfl) (by kernel_rfl) (fun _ _ _ h => h) (Or.inl ⟨by rfl, ?hyb_7⟩) (by assumption) ?restb_7
      case hyb_7 =>
        intro w hSw
        (try dsimp only at hSw)
        go_simp
        (try with_reducible rfl)
      (try simp only [Act.put, List.setIfInBounds_toArray, List.set_cons_zero, List.set_cons_succ])
      refine wpAnyH_take (i := 7) (oi := { dst := some 18, op := Op.fieldAddr 59 (Operand.tmp 5) 0, type := 0, pos := "law.go:236", after := #[{ on := 6, ground := Ground.guard }], guard := some (6, true) }) (v := ?vb_8) rfl (by kernel_rfl) (by kernel_rfl) (by kernel_rfl) (fun _ _ _ h => h) (Or.inl ⟨by rfl, ?hyb_8⟩) (by assumption) ?restb_8
      case hyb_8 =>
        intro w hSw
        (try dsimp only at hSw)
        go_simp
        (try with_reducible rfl)
      (try simp only [Act.put, List.setIfInBounds_toArray, List.set_cons_zero, List.set_cons_succ])
      refine wpAnyH_take (i := 8) (oi := { dst := some 19, op := Op.fieldAddr 56 (Operand.tmp 18) 1, type := 0, pos := "law.go:236", after := #[{ on := 7, ground := Ground.data }, { on := 6, ground := Ground.guard }], guard := some (6, true) }) (v := ?vb_9) rfl (by kernel_rfl) (by kernel_rfl) (by kernel_rfl) (fun _ _ _ h => h) (Or.inl ⟨by rfl, ?hyb_9⟩) (by assumption) ?restb_9
      case hyb_9 =>
        intro w hSw
        (try dsimp only at hSw)
        go_simp
        (try with_reducible rfl)
      (try simp only [Act.put, List.setIfInBounds_toArray, List.set_cons_zero, List.set_cons_succ])
      refine wpAnyH_take (i := 9) (oi := { dst := some 20, op := Op.load 2 (Operand.tmp 19), type := 2, pos := "law.go:236", after := #[{ on := 8, ground := Ground.data }, { on := 6, ground := Ground.guard }], guard := some (6, true) }) (v := ?vb_10) rfl (by kernel_rfl) (by kernel_rfl) (by kernel_rfl) (fun _ _ _ h => h) (Or.inl ⟨by rfl, ?hyb_10⟩) (by assumption) ?restb_10
      case hyb_10 =>
        intro w hSw
        (try dsimp only at hSw)
        go_simp
        (try with_reducible rfl)
      (try simp only [Act.put, List.setIfInBounds_toArray, List.set_cons_zero, List.set_cons_succ])
      refine wpAnyH_take (i := 10) (oi := { dst := some 21, op := Op.move (Operand.tmp 1), type := 36, pos := "law.go:236", after := #[{ on := 6, ground := Ground.guard }], guard := some (6, true) }) (v := ?vb_11) rfl (by kernel_rfl) (by kernel_rfl) (by kernel_rfl) (fun _ _ _ h => h) (Or.inl ⟨by rfl, ?hyb_11⟩) (by assumption) ?restb_11
      case hyb_11 =>
        intro w hSw
        (try dsimp only at hSw)
        go_simp
        (try with_reducible rfl)
      (try simp only [Act.put, List.setIfInBounds_toArray, List.set_cons_zero, List.set_cons_succ])
      refine wpAnyH_take (i := 11) (oi := { dst := some 22, op := Op.fieldAddr 59 (Operand.tmp 5) 0, type := 0, pos := "law.go:236", after := #[{ on := 6, ground := Ground.guard }], guard := some (6, true) }) (v := ?vb_12) rfl (by kernel_rfl) (by kernel_rfl) (by kernel_rfl) (fun _ _ _ h => h) (Or.inl ⟨by rfl, ?hyb_12⟩) (by assumption) ?restb_12
      case hyb_12 =>
        intro w hSw
        (try dsimp only at hSw)
        go_simp
        (try with_reducible rfl)
      (try simp only [Act.put, List.setIfInBounds_toArray, List.set_cons_zero, List.set_cons_succ])
      refine wpAnyH_take (i := 12) (oi := { dst := some 23, op := Op.fieldAddr 56 (Operand.tmp 22) 0, type := 0, pos := "law.go:236", after := #[{ on := 11, ground := Ground.data }, { on := 6, ground := Ground.guard }], guard := some (6, true) }) (v := ?vb_13) rfl (by kernel_rfl) (by kernel_rfl) (by kernel_rfl) (fun _ _ _ h => h) (Or.inl ⟨by rfl, ?hyb_13⟩) (by assumption) ?restb_13
      case hyb_13 =>
        intro w hSw
        (try dsimp only at hSw)
        go_simp
        (try with_reducible rfl)
      (try simp only [Act.put, List.setIfInBounds_toArray, List.set_cons_zero, List.set_cons_succ])
      refine wpAnyH_take (i := 13) (oi := { dst := some 24, op := Op.load 3 (Operand.tmp 23), type := 3, pos := "law.go:236", after := #[{ on := 12, ground := Ground.data }, { on := 6, ground := Ground.guard }], guard := some (6, true) }) (v := ?vb_14) rfl (by kernel_rfl) (by kernel_rfl) (by kernel_rfl) (fun _ _ _ h => h) (Or.inl ⟨by rfl, ?hyb_14⟩) (by assumption) ?restb_14
      case hyb_14 =>
        intro w hSw
        (try dsimp only at hSw)
        go_simp
        (try with_reducible rfl)
      (try simp only [Act.put, List.setIfInBounds_toArray, List.set_cons_zero, List.set_cons_succ])
      refine wpAnyH_take (i := 14) (oi := { dst := some 25, op := Op.binOp BinOp.sub 3 (Operand.tmp 24) (Operand.const (Value.int IntKind.i64 1)) 3, type := 3, pos := "law.go:236", after := #[{ on := 13, ground := Ground.data }, { on := 6, ground := Ground.guard }], guard := some (6, true) }) (v := ?vb_15) rfl (by kernel_rfl) (by kernel_rfl) (by kernel_rfl) (fun _ _ _ h => h) (Or.inl ⟨by rfl, ?hyb_15⟩) (by assumption) ?restb_15
      case hyb_15 =>
        intro w hSw
        (try dsimp only at hSw)
        go_simp
        (try with_reducible rfl)
      (try simp only [Act.put, List.setIfInBounds_toArray, List.set_cons_zero, List.set_cons_succ])
      refine wpAnyH_take (i := 15) (oi := { dst := some 26, op := Op.indexAddr 36 (Operand.tmp 21) (Operand.tmp 25), type := 0, pos := "law.go:236", after := #[{ on := 10, ground := Ground.data }, { on := 14, ground := Ground.data }, { on := 6, ground := Ground.guard }], guard := some (6, true) }) (v := ?vb_16) rfl (by kernel_rfl) (by kernel_rfl) (by kernel_rfl) (fun _ _ _ h => h) (Or.inl ⟨by rfl, ?hyb_16⟩) (by assumption) ?restb_16
      case hyb_16 =>
        intro w hSw
        (try dsimp only at hSw)
        go_simp
        (try with_reducible rfl)
      (try simp only [Act.put, List.setIfInBounds_toArray, List.set_cons_zero, List.set_cons_succ])
      refine wpAnyH_take (i := 16) (oi := { dst := some 27, op := Op.load 2 (Operand.tmp 26), type := 2, pos := "law.go:236", after := #[{ on := 15, ground := Ground.data }, { on := 6, ground := Ground.guard }], guard := some (6, true) }) (v := ?vb_17) rfl (by kernel_rfl) (by kernel_rfl) (by kernel_rfl) (fun _ _ _ h => h) (Or.inl ⟨by rfl, ?hyb_17⟩) (by assumption) ?restb_17
      case hyb_17 =>
        intro w hSw
        (try dsimp only at hSw)
        go_simp
        (try with_reducible rfl)
      (try simp only [Act.put, List.setIfInBounds_toArray, List.set_cons_zero, List.set_cons_succ])
      refine wpAnyH_take (i := 17) (oi := { dst := some 28, op := Op.binOp BinOp.add 2 (Operand.tmp 27) (Operand.const (Value.int IntKind.i64 1)) 2, type := 2, pos := "law.go:236", after := #[{ on := 16, ground := Ground.data }, { on := 6, ground := Ground.guard }], guard := some (6, true) }) (v := ?vb_18) rfl (by kernel_rfl) (by kernel_rfl) (by kernel_rfl) (fun _ _ _ h => h) (Or.inl ⟨by rfl, ?hyb_18⟩) (by assumption) ?restb_18
      case hyb_18 =>
        intro w hSw
        (try dsimp only at hSw)
        go_simp
        (try with_reducible rfl)
      (try simp only [Act.put, List.setIfInBounds_toArray, List.set_cons_zero, List.set_cons_succ])
      refine wpAnyH_take (i := 18) (oi := { dst := some 29, op := Op.binOp BinOp.eql 2 (Operand.tmp 20) (Operand.tmp 28) 2, type := 4, pos := "law.go:236", after := #[{ on := 9, ground := Ground.data }, { on := 17, ground := Ground.data }, { on := 6, ground := Ground.guard }], guard := some (6, true) }) (v := ?vb_19) rfl (by kernel_rfl) (by kernel_rfl) (by kernel_rfl) (fun _ _ _ h => h) (Or.inl ⟨by rfl, ?hyb_19⟩) (by assumption) ?restb_19
      case hyb_19 =>
        intro w hSw
        (try dsimp only at hSw)
        go_simp
        (try with_reducible rfl)
      (try simp only [Act.put, List.setIfInBounds_toArray, List.set_cons_zero, List.set_cons_succ])
      refine wpAnyH_take (i := 19) (oi := { dst := some 30, op := Op.pick (Operand.tmp 17) (Operand.tmp 29) (Operand.const (Value.bool false)), type := 4, pos := "law.go:236", after := #[{ on := 6, ground := Ground.data }, { on := 18, ground := Ground.data }], guard := none }) (v := ?vb_20) rfl (by kernel_rfl) (by kernel_rfl) (by kernel_rfl) (fun _ _ _ h => h) (Or.inl ⟨by rfl, ?hyb_20⟩) (by assumption) ?restb_20
      case hyb_20 =>
        intro w hSw
        (try dsimp only at hSw)
        go_simp
        (try with_reducible rfl)
      (try simp only [Act.put, List.setIfInBounds_toArray, List.set_cons_zero, List.set_cons_succ])
      refine wpAnyH_take (i := 20) (oi := { dst := some 31, op := Op.move (Operand.tmp 30), type := 4, pos := "law.go:236", after := #[{ on := 19, ground := Ground.data }, { on := 6, ground := Ground.chain }], guard := none }) (v := ?vb_21) rfl (by kernel_rfl) (by kernel_rfl) (by kernel_rfl) (fun _ _ _ h => h) (Or.inl ⟨by rfl, ?hyb_21⟩) (by assumption) ?restb_21
      case hyb_21 =>
        intro w hSw
        (try dsimp only at hSw)
        go_simp
        (try with_reducible rfl)
      (try simp only [Act.put, List.setIfInBounds_toArray, List.set_cons_zero, List.set_cons_succ])
      refine wpAnyH_take (i := 21) (oi := { dst := some 32, op := Op.move (Operand.tmp 1), type := 36, pos := "law.go:236", after := #[{ on := 20, ground := Ground.guard }], guard := some (20, true) }) (v := undef) rfl (by kernel_rfl) (by kernel_rfl) (by kernel_rfl) (fun _ _ _ h => h) (Or.inr ⟨by rfl, rfl⟩) (by assumption) ?_
      (try simp only [Act.put, List.setIfInBounds_toArray, List.set_cons_zero, List.set_cons_succ])
      refine wpAnyH_take (i := 22) (oi := { dst := some 33, op := Op.fieldAddr 59 (Operand.tmp 5) 1, type := 0, pos := "law.go:236", after := #[{ on := 20, ground := Ground.guard }], guard := some (20, true) }) (v := undef) rfl (by kernel_rfl) (by kernel_rfl) (by kernel_rfl) (fun _ _ _ h => h) (Or.inr ⟨by rfl, rfl⟩) (by assumption) ?_
      (try simp only [Act.put, List.setIfInBounds_toArray, List.set_cons_zero, List.set_cons_succ])
      refine wpAnyH_take (i := 23) (oi := { dst := some 34, op := Op.load 57 (Operand.tmp 33), type := 57, pos := "law.go:236", after := #[{ on := 22, ground := Ground.data }, { on := 20, ground := Ground.guard }], guard := some (20, true) }) (v := undef) rfl (by kernel_rfl) (by kernel_rfl) (by kernel_rfl) (fun _ _ _ h => h) (Or.inr ⟨by rfl, rfl⟩) (by assumption) ?_
      (try simp only [Act.put, List.setIfInBounds_toArray, List.set_cons_zero, List.set_cons_succ])
      refine wpAnyH_take (i := 24) (oi := { dst := some 35, op := Op.call { callee := Callee.value (Operand.func 22), args := #[Operand.tmp 32, Operand.tmp 34], argTypes := #[36, 57] }, type := 4, pos := "law.go:236", after := #[{ on := 21, ground := Ground.data }, { on := 23, ground := Ground.data }, { on := 20, ground := Ground.chain }, { on := 20, ground := Ground.guard }], guard := some (20, true) }) (v := undef) rfl (by kernel_rfl) (by kernel_rfl) (by kernel_rfl) (fun _ _ _ h => h) (Or.inr ⟨by rfl, rfl⟩) (by assumption) ?_
      (try simp only [Act.put, List.setIfInBounds_toArray, List.set_cons_zero, List.set_cons_succ])
      refine wpAnyH_take (i := 25) (oi := { dst := some 36, op := Op.pick (Operand.tmp 31) (Operand.tmp 35) (Operand.const (Value.bool false)), type := 4, pos := "law.go:236", after := #[{ on := 20, ground := Ground.data }, { on := 24, ground := Ground.data }], guard := none }) (v := ?vb_26) rfl (by kernel_rfl) (by kernel_rfl) (by kernel_rfl) (fun _ _ _ h => h) (Or.inl ⟨by rfl, ?hyb_26⟩) (by assumption) ?restb_26
      case hyb_26 =>
        intro w hSw
        (try dsimp only at hSw)
        go_simp
        (try with_reducible rfl)
      (try simp only [Act.put, List.setIfInBounds_toArray, List.set_cons_zero, List.set_cons_succ])
      refine wpAnyH_take (i := 26) (oi := { dst := some 4, op := Op.assign (Operand.tmp 36), type := 4, pos := "law.go:236", after := #[{ on := 25, ground := Ground.data }, { on := 24, ground := Ground.chain }, { on := 0, ground := Ground.phase }, { on := 1, ground := Ground.phase }, { on := 2, ground := Ground.phase }, { on := 3, ground := Ground.phase }, { on := 4, ground := Ground.phase }, { on := 5, ground := Ground.phase }, { on := 6, ground := Ground.phase }, { on := 7, ground := Ground.phase }, { on := 8, ground := Ground.phase }, { on := 9, ground := Ground.phase }, { on := 10, ground := Ground.phase }, { on := 11, ground := Ground.phase }, { on := 12, ground := Ground.phase }, { on := 13, ground := Ground.phase }, { on := 14, ground := Ground.phase }, { on := 15, ground := Ground.phase }, { on := 16, ground := Ground.phase }, { on := 17, ground := Ground.phase }, { on := 18, ground := Ground.phase }, { on := 19, ground := Ground.phase }, { on := 20, ground := Ground.phase }, { on := 21, ground := Ground.phase }, { on := 22, ground := Ground.phase }, { on := 23, ground := Ground.phase }, { on := 24, ground := Ground.phase }, { on := 25, ground := Ground.phase }], guard := none }) (v := ?vb_27) rfl (by kernel_rfl) (by kernel_rfl) (by kernel_rfl) (fun _ _ _ h => h) (Or.inl ⟨by rfl, ?hyb_27⟩) (by assumption) ?restb_27
      case hyb_27 =>
        intro w hSw
        (try dsimp only at hSw)
        go_simp
        (try with_reducible rfl)
      (try simp only [Act.put, List.setIfInBounds_toArray, List.set_cons_zero, List.set_cons_succ])
      refine wpAnyH_done (by kernel_rfl) ?_ _
      go_wp2_with fail
      go_ret
      exact ⟨by rw [HQ.out]; rfl, HB.out.1.trans (show Below w.heap.size Y Y.drew from (Below.refl _ _).drew)⟩
  · have HQ := Lib.hid (show R = false by
      rw [← HR.out.1]
      exact decide_eq_false fun h => hsn (by have := (HR.out.2.1.1 h.1).1; rw [HR.out.2.2] at this; exact this))
    clear HO HM
    refine wp_region_held_drew (S := (fun V => Below Y.heap.size Y V ∧ V.cell? ⟨yb, 0, none⟩ = some (.int .i64 s) ∧ V.cell? ⟨yb, 1, none⟩ = some (.int .i64 vn) ∧ V.cell? ⟨yb, 2, none⟩ = some (.slice Ap kp cp))) (by kernel_rfl) (HC.out _ (show Below Y.heap.size Y Y.drew from (Below.refl _ _).drew)) (fun hHeld => ?_)
    refine wpAnyH_take (i := 0) (oi := { dst := some 11, op := Op.fieldAddr 59 (Operand.tmp 5) 0, type := 0, pos := "law.go:236", after := #[], guard := none }) (v := ?vc_1) rfl (by kernel_rfl) (by kernel_rfl) (by kernel_rfl) (fun _ _ _ h => h) (Or.inl ⟨by rfl, ?hyc_1⟩) (by assumption) ?restc_1
    case hyc_1 =>
      intro w hSw
      (try dsimp only at hSw)
      go_simp
      (try with_reducible rfl)
    (try simp only [Act.put, List.setIfInBounds_toArray, List.set_cons_zero, List.set_cons_succ])
    refine wpAnyH_take (i := 1) (oi := { dst := some 12, op := Op.fieldAddr 56 (Operand.tmp 11) 0, type := 0, pos := "law.go:236", after := #[{ on := 0, ground := Ground.data }], guard := none }) (v := ?vc_2) rfl (by kernel_rfl) (by kernel_rfl) (by kernel_rfl) (fun _ _ _ h => h) (Or.inl ⟨by rfl, ?hyc_2⟩) (by assumption) ?restc_2
    case hyc_2 =>
      intro w hSw
      (try dsimp only at hSw)
      go_simp
      (try with_reducible rfl)
    (try simp only [Act.put, List.setIfInBounds_toArray, List.set_cons_zero, List.set_cons_succ])
    refine wpAnyH_take (i := 2) (oi := { dst := some 13, op := Op.load 3 (Operand.tmp 12), type := 3, pos := "law.go:236", after := #[{ on := 1, ground := Ground.data }], guard := none }) (v := ?vc_3) rfl (by kernel_rfl) (by kernel_rfl) (by kernel_rfl) (fun _ _ _ h => h) (Or.inl ⟨by rfl, ?hyc_3⟩) (by assumption) ?restc_3
    case hyc_3 =>
      intro w hSw
      (try dsimp only at hSw)
      go_simp
      (try with_reducible rfl)
    (try simp only [Act.put, List.setIfInBounds_toArray, List.set_cons_zero, List.set_cons_succ])
    refine wpAnyH_take (i := 3) (oi := { dst := some 14, op := Op.move (Operand.tmp 1), type := 36, pos := "law.go:236", after := #[], guard := none }) (v := ?vc_4) rfl (by kernel_rfl) (by kernel_rfl) (by kernel_rfl) (fun _ _ _ h => h) (Or.inl ⟨by rfl, ?hyc_4⟩) (by assumption) ?restc_4
    case hyc_4 =>
      intro w hSw
      (try dsimp only at hSw)
      go_simp
      (try with_reducible rfl)
    (try simp only [Act.put, List.setIfInBounds_toArray, List.set_cons_zero, List.set_cons_succ])
    refine wpAnyH_take (i := 4) (oi := { dst := some 15, op := Op.call { callee := Callee.builtin Builtin.len, args := #[Operand.tmp 14], argTypes := #[36] }, type := 3, pos := "law.go:236", after := #[{ on := 3, ground := Ground.data }], guard := none }) (v := ?vc_5) rfl (by kernel_rfl) (by kernel_rfl) (by kernel_rfl) (fun _ _ _ h => h) (Or.inl ⟨by rfl, ?hyc_5⟩) (by assumption) ?restc_5
    case hyc_5 =>
      intro w hSw
      (try dsimp only at hSw)
      go_simp
      (try with_reducible rfl)
    (try simp only [Act.put, List.setIfInBounds_toArray, List.set_cons_zero, List.set_cons_succ])
    refine wpAnyH_take (i := 5) (oi := { dst := some 16, op := Op.binOp BinOp.leq 3 (Operand.tmp 13) (Operand.tmp 15) 3, type := 4, pos := "law.go:236", after := #[{ on := 2, ground := Ground.data }, { on := 4, ground := Ground.data }], guard := none }) (v := ?vc_6) rfl (by kernel_rfl) (by kernel_rfl) (by kernel_rfl) (fun _ _ _ h => h) (Or.inl ⟨by rfl, ?hyc_6⟩) (by assumption) ?restc_6
    case hyc_6 =>
      intro w hSw
      (try dsimp only at hSw)
      go_simp
      (try with_reducible rfl)
    (try simp only [Act.put, List.setIfInBounds_toArray, List.set_cons_zero, List.set_cons_succ])
    refine wpAnyH_take (i := 6) (oi := { dst := some 17, op := Op.move (Operand.tmp 16), type := 4, pos := "law.go:236", after := #[{ on := 5, ground := Ground.data }], guard := none }) (v := ?vc_7) rfl (by kernel_rfl) (by kernel_rfl) (by kernel_rfl) (fun _ _ _ h => h) (Or.inl ⟨by rfl, ?hyc_7⟩) (by assumption) ?restc_7
    case hyc_7 =>
      intro w hSw
      (try dsimp only at hSw)
      go_simp
      (try with_reducible rfl)
    (try simp only [Act.put, List.setIfInBounds_toArray, List.set_cons_zero, List.set_cons_succ])
    refine wpAnyH_take (i := 7) (oi := { dst := some 18, op := Op.fieldAddr 59 (Operand.tmp 5) 0, type := 0, pos := "law.go:236", after := #[{ on := 6, ground := Ground.guard }], guard := some (6, true) }) (v := undef) rfl (by kernel_rfl) (by kernel_rfl) (by kernel_rfl) (fun _ _ _ h => h) (Or.inr ⟨by rfl, rfl⟩) (by assumption) ?_
    (try simp only [Act.put, List.setIfInBounds_toArray, List.set_cons_zero, List.set_cons_succ])
    refine wpAnyH_take (i := 8) (oi := { dst := some 19, op := Op.fieldAddr 56 (Operand.tmp 18) 1, type := 0, pos := "law.go:236", after := #[{ on := 7, ground := Ground.data }, { on := 6, ground := Ground.guard }], guard := some (6, true) }) (v := undef) rfl (by kernel_rfl) (by kernel_rfl) (by kernel_rfl) (fun _ _ _ h => h) (Or.inr ⟨by rfl, rfl⟩) (by assumption) ?_
    (try simp only [Act.put, List.setIfInBounds_toArray, List.set_cons_zero, List.set_cons_succ])
    refine wpAnyH_take (i := 9) (oi := { dst := some 20, op := Op.load 2 (Operand.tmp 19), type := 2, pos := "law.go:236", after := #[{ on := 8, ground := Ground.data }, { on := 6, ground := Ground.guard }], guard := some (6, true) }) (v := undef) rfl (by kernel_rfl) (by kernel_rfl) (by kernel_rfl) (fun _ _ _ h => h) (Or.inr ⟨by rfl, rfl⟩) (by assumption) ?_
    (try simp only [Act.put, List.setIfInBounds_toArray, List.set_cons_zero, List.set_cons_succ])
    refine wpAnyH_take (i := 10) (oi := { dst := some 21, op := Op.move (Operand.tmp 1), type := 36, pos := "law.go:236", after := #[{ on := 6, ground := Ground.guard }], guard := some (6, true) }) (v := undef) rfl (by kernel_rfl) (by kernel_rfl) (by kernel_rfl) (fun _ _ _ h => h) (Or.inr ⟨by rfl, rfl⟩) (by assumption) ?_
    (try simp only [Act.put, List.setIfInBounds_toArray, List.set_cons_zero, List.set_cons_succ])
    refine wpAnyH_take (i := 11) (oi := { dst := some 22, op := Op.fieldAddr 59 (Operand.tmp 5) 0, type := 0, pos := "law.go:236", after := #[{ on := 6, ground := Ground.guard }], guard := some (6, true) }) (v := undef) rfl (by kernel_rfl) (by kernel_rfl) (by kernel_rfl) (fun _ _ _ h => h) (Or.inr ⟨by rfl, rfl⟩) (by assumption) ?_
    (try simp only [Act.put, List.setIfInBounds_toArray, List.set_cons_zero, List.set_cons_succ])
    refine wpAnyH_take (i := 12) (oi := { dst := some 23, op := Op.fieldAddr 56 (Operand.tmp 22) 0, type := 0, pos := "law.go:236", after := #[{ on := 11, ground := Ground.data }, { on := 6, ground := Ground.guard }], guard := some (6, true) }) (v := undef) rfl (by kernel_rfl) (by kernel_rfl) (by kernel_rfl) (fun _ _ _ h => h) (Or.inr ⟨by rfl, rfl⟩) (by assumption) ?_
    (try simp only [Act.put, List.setIfInBounds_toArray, List.set_cons_zero, List.set_cons_succ])
    refine wpAnyH_take (i := 13) (oi := { dst := some 24, op := Op.load 3 (Operand.tmp 23), type := 3, pos := "law.go:236", after := #[{ on := 12, ground := Ground.data }, { on := 6, ground := Ground.guard }], guard := some (6, true) }) (v := undef) rfl (by kernel_rfl) (by kernel_rfl) (by kernel_rfl) (fun _ _ _ h => h) (Or.inr ⟨by rfl, rfl⟩) (by assumption) ?_
    (try simp only [Act.put, List.setIfInBounds_toArray, List.set_cons_zero, List.set_cons_succ])
    refine wpAnyH_take (i := 14) (oi := { dst := some 25, op := Op.binOp BinOp.sub 3 (Operand.tmp 24) (Operand.const (Value.int IntKind.i64 1)) 3, type := 3, pos := "law.go:236", after := #[{ on := 13, ground := Ground.data }, { on := 6, ground := Ground.guard }], guard := some (6, true) }) (v := undef) rfl (by kernel_rfl) (by kernel_rfl) (by kernel_rfl) (fun _ _ _ h => h) (Or.inr ⟨by rfl, rfl⟩) (by assumption) ?_
    (try simp only [Act.put, List.setIfInBounds_toArray, List.set_cons_zero, List.set_cons_succ])
    refine wpAnyH_take (i := 15) (oi := { dst := some 26, op := Op.indexAddr 36 (Operand.tmp 21) (Operand.tmp 25), type := 0, pos := "law.go:236", after := #[{ on := 10, ground := Ground.data }, { on := 14, ground := Ground.data }, { on := 6, ground := Ground.guard }], guard := some (6, true) }) (v := undef) rfl (by kernel_rfl) (by kernel_rfl) (by kernel_rfl) (fun _ _ _ h => h) (Or.inr ⟨by rfl, rfl⟩) (by assumption) ?_
    (try simp only [Act.put, List.setIfInBounds_toArray, List.set_cons_zero, List.set_cons_succ])
    refine wpAnyH_take (i := 16) (oi := { dst := some 27, op := Op.load 2 (Operand.tmp 26), type := 2, pos := "law.go:236", after := #[{ on := 15, ground := Ground.data }, { on := 6, ground := Ground.guard }], guard := some (6, true) }) (v := undef) rfl (by kernel_rfl) (by kernel_rfl) (by kernel_rfl) (fun _ _ _ h => h) (Or.inr ⟨by rfl, rfl⟩) (by assumption) ?_
    (try simp only [Act.put, List.setIfInBounds_toArray, List.set_cons_zero, List.set_cons_succ])
    refine wpAnyH_take (i := 17) (oi := { dst := some 28, op := Op.binOp BinOp.add 2 (Operand.tmp 27) (Operand.const (Value.int IntKind.i64 1)) 2, type := 2, pos := "law.go:236", after := #[{ on := 16, ground := Ground.data }, { on := 6, ground := Ground.guard }], guard := some (6, true) }) (v := undef) rfl (by kernel_rfl) (by kernel_rfl) (by kernel_rfl) (fun _ _ _ h => h) (Or.inr ⟨by rfl, rfl⟩) (by assumption) ?_
    (try simp only [Act.put, List.setIfInBounds_toArray, List.set_cons_zero, List.set_cons_succ])
    refine wpAnyH_take (i := 18) (oi := { dst := some 29, op := Op.binOp BinOp.eql 2 (Operand.tmp 20) (Operand.tmp 28) 2, type := 4, pos := "law.go:236", after := #[{ on := 9, ground := Ground.data }, { on := 17, ground := Ground.data }, { on := 6, ground := Ground.guard }], guard := some (6, true) }) (v := undef) rfl (by kernel_rfl) (by kernel_rfl) (by kernel_rfl) (fun _ _ _ h => h) (Or.inr ⟨by rfl, rfl⟩) (by assumption) ?_
    (try simp only [Act.put, List.setIfInBounds_toArray, List.set_cons_zero, List.set_cons_succ])
    refine wpAnyH_take (i := 19) (oi := { dst := some 30, op := Op.pick (Operand.tmp 17) (Operand.tmp 29) (Operand.const (Value.bool false)), type := 4, pos := "law.go:236", after := #[{ on := 6, ground := Ground.data }, { on := 18, ground := Ground.data }], guard := none }) (v := ?vc_20) rfl (by kernel_rfl) (by kernel_rfl) (by kernel_rfl) (fun _ _ _ h => h) (Or.inl ⟨by rfl, ?hyc_20⟩) (by assumption) ?restc_20
    case hyc_20 =>
      intro w hSw
      (try dsimp only at hSw)
      go_simp
      (try with_reducible rfl)
    (try simp only [Act.put, List.setIfInBounds_toArray, List.set_cons_zero, List.set_cons_succ])
    refine wpAnyH_take (i := 20) (oi := { dst := some 31, op := Op.move (Operand.tmp 30), type := 4, pos := "law.go:236", after := #[{ on := 19, ground := Ground.data }, { on := 6, ground := Ground.chain }], guard := none }) (v := ?vc_21) rfl (by kernel_rfl) (by kernel_rfl) (by kernel_rfl) (fun _ _ _ h => h) (Or.inl ⟨by rfl, ?hyc_21⟩) (by assumption) ?restc_21
    case hyc_21 =>
      intro w hSw
      (try dsimp only at hSw)
      go_simp
      (try with_reducible rfl)
    (try simp only [Act.put, List.setIfInBounds_toArray, List.set_cons_zero, List.set_cons_succ])
    refine wpAnyH_take (i := 21) (oi := { dst := some 32, op := Op.move (Operand.tmp 1), type := 36, pos := "law.go:236", after := #[{ on := 20, ground := Ground.guard }], guard := some (20, true) }) (v := undef) rfl (by kernel_rfl) (by kernel_rfl) (by kernel_rfl) (fun _ _ _ h => h) (Or.inr ⟨by rfl, rfl⟩) (by assumption) ?_
    (try simp only [Act.put, List.setIfInBounds_toArray, List.set_cons_zero, List.set_cons_succ])
    refine wpAnyH_take (i := 22) (oi := { dst := some 33, op := Op.fieldAddr 59 (Operand.tmp 5) 1, type := 0, pos := "law.go:236", after := #[{ on := 20, ground := Ground.guard }], guard := some (20, true) }) (v := undef) rfl (by kernel_rfl) (by kernel_rfl) (by kernel_rfl) (fun _ _ _ h => h) (Or.inr ⟨by rfl, rfl⟩) (by assumption) ?_
    (try simp only [Act.put, List.setIfInBounds_toArray, List.set_cons_zero, List.set_cons_succ])
    refine wpAnyH_take (i := 23) (oi := { dst := some 34, op := Op.load 57 (Operand.tmp 33), type := 57, pos := "law.go:236", after := #[{ on := 22, ground := Ground.data }, { on := 20, ground := Ground.guard }], guard := some (20, true) }) (v := undef) rfl (by kernel_rfl) (by kernel_rfl) (by kernel_rfl) (fun _ _ _ h => h) (Or.inr ⟨by rfl, rfl⟩) (by assumption) ?_
    (try simp only [Act.put, List.setIfInBounds_toArray, List.set_cons_zero, List.set_cons_succ])
    refine wpAnyH_take (i := 24) (oi := { dst := some 35, op := Op.call { callee := Callee.value (Operand.func 22), args := #[Operand.tmp 32, Operand.tmp 34], argTypes := #[36, 57] }, type := 4, pos := "law.go:236", after := #[{ on := 21, ground := Ground.data }, { on := 23, ground := Ground.data }, { on := 20, ground := Ground.chain }, { on := 20, ground := Ground.guard }], guard := some (20, true) }) (v := undef) rfl (by kernel_rfl) (by kernel_rfl) (by kernel_rfl) (fun _ _ _ h => h) (Or.inr ⟨by rfl, rfl⟩) (by assumption) ?_
    (try simp only [Act.put, List.setIfInBounds_toArray, List.set_cons_zero, List.set_cons_succ])
    refine wpAnyH_take (i := 25) (oi := { dst := some 36, op := Op.pick (Operand.tmp 31) (Operand.tmp 35) (Operand.const (Value.bool false)), type := 4, pos := "law.go:236", after := #[{ on := 20, ground := Ground.data }, { on := 24, ground := Ground.data }], guard := none }) (v := ?vc_26) rfl (by kernel_rfl) (by kernel_rfl) (by kernel_rfl) (fun _ _ _ h => h) (Or.inl ⟨by rfl, ?hyc_26⟩) (by assumption) ?restc_26
    case hyc_26 =>
      intro w hSw
      (try dsimp only at hSw)
      go_simp
      (try with_reducible rfl)
    (try simp only [Act.put, List.setIfInBounds_toArray, List.set_cons_zero, List.set_cons_succ])
    refine wpAnyH_take (i := 26) (oi := { dst := some 4, op := Op.assign (Operand.tmp 36), type := 4, pos := "law.go:236", after := #[{ on := 25, ground := Ground.data }, { on := 24, ground := Ground.chain }, { on := 0, ground := Ground.phase }, { on := 1, ground := Ground.phase }, { on := 2, ground := Ground.phase }, { on := 3, ground := Ground.phase }, { on := 4, ground := Ground.phase }, { on := 5, ground := Ground.phase }, { on := 6, ground := Ground.phase }, { on := 7, ground := Ground.phase }, { on := 8, ground := Ground.phase }, { on := 9, ground := Ground.phase }, { on := 10, ground := Ground.phase }, { on := 11, ground := Ground.phase }, { on := 12, ground := Ground.phase }, { on := 13, ground := Ground.phase }, { on := 14, ground := Ground.phase }, { on := 15, ground := Ground.phase }, { on := 16, ground := Ground.phase }, { on := 17, ground := Ground.phase }, { on := 18, ground := Ground.phase }, { on := 19, ground := Ground.phase }, { on := 20, ground := Ground.phase }, { on := 21, ground := Ground.phase }, { on := 22, ground := Ground.phase }, { on := 23, ground := Ground.phase }, { on := 24, ground := Ground.phase }, { on := 25, ground := Ground.phase }], guard := none }) (v := ?vc_27) rfl (by kernel_rfl) (by kernel_rfl) (by kernel_rfl) (fun _ _ _ h => h) (Or.inl ⟨by rfl, ?hyc_27⟩) (by assumption) ?restc_27
    case hyc_27 =>
      intro w hSw
      (try dsimp only at hSw)
      go_simp
      (try with_reducible rfl)
    (try simp only [Act.put, List.setIfInBounds_toArray, List.set_cons_zero, List.set_cons_succ])
    refine wpAnyH_done (by kernel_rfl) ?_ _
    go_wp2_with fail
    go_ret
    exact ⟨by rw [HQ.out]; rfl, HB.out.1.trans (show Below w.heap.size Y Y.drew from (Below.refl _ _).drew)⟩
end Inbox
end Go.Proofs.Ytiempgabamheiaa
