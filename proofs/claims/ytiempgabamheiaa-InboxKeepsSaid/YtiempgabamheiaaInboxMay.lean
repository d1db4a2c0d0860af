/-
  Whether a far write may be done behind a vector, the program's answer and the document's. Written by gen18/may.py.
-/
import Derived.Test.YtiempgabamheiaaInboxDot
import Derived.Deep.RegionHeld3
import Derived.Deep.DrawnRows
namespace Go.Proofs.Ytiempgabamheiaa
namespace Inbox
open Go.RowKit Vers Span Blk
attribute [local go_sem ↓] Go.wp_at_zero Go.wp_at_succ

def mayV (v : List Int) (y : Vr) : Prop := Vect.IsNext v y.s y.n ∧ Vect.HoldsV v y.past
instance (v : List Int) (y : Vr) : Decidable (mayV v y) := by unfold mayV Vect.IsNext; infer_instance
theorem may_not {v : List Int} {s vn d1 d2 E : Int} {vp : List Sp} {vg : Bool} {vx : ByteArray} (hQ : Vect.nextV v s = (d1, d2, E)) (h : ¬ (E = 0 ∧ d2 = vn)) : decide (mayV v ⟨s, vn, vp, vg, vx⟩) = false := decide_eq_false fun ⟨h1, _⟩ => h (by
  have h1 : Vect.nextV v s = (s, vn, 0) := h1
  rw [hQ] at h1
  simp only [Prod.mk.injEq] at h1
  exact ⟨h1.2.2, h1.2.1⟩)
theorem may_yes {v : List Int} {s vn : Int} {vp : List Sp} {vg : Bool} {vx : ByteArray} {q : Bool} (hQ : Vect.nextV v s = (s, vn, 0)) (hq : decide (Vect.HoldsV v vp) = q) : decide (mayV v ⟨s, vn, vp, vg, vx⟩) = q := by
  rw [← hq]
  exact decide_eq_decide.2 ⟨fun h => h.2, fun h => ⟨hQ, h⟩⟩

set_option maxRecDepth 100000 in
set_option maxHeartbeats 4000000 in
theorem may_any (fr sq : Int) (key : ByteArray) (Av : Option Addr) (cv m : Nat) (l : List Vr) (hm : l.length = m) (h1 : 1 ≤ m) (hok : okV (l.getD 0 v0)) (Ar : Option Addr) (kr cr : Nat) (A : Option Addr) (c n : Nat) (v : List Int) (hn : v.length = n) (hbig : n ≤ 140737488355328) (w : World) (hv : Vs w 0 w.heap.size Av l) (hr : Ns .i64 w w.heap.size A v) :
    Calls Try.prog 34 #[.agg #[.int .i64 fr, .int .i64 sq, .string key, .slice Av m cv, .slice Ar kr cr], .slice A n c] w (fun e w' => e = .returned (.bool (decide (mayV v (l.getD 0 v0)))) ∧ Below w.heap.size w w') := by
  obtain ⟨b, off, Ap, cp, rfl, _, hbB, _, _, x2, _, _, hpa⟩ := hv.at hm (Below.refl _ w) h1 rfl
  have hgs : ∀ V, Below w.heap.size w V → Calls Try.prog 33 #[.agg #[.int .i64 fr, .int .i64 sq, .string key, .slice (some ⟨b, off, none⟩) m cv, .slice Ar kr cr]] V (fun e w' => e = .returned (.agg #[.int .i64 (l.getD 0 v0).s, .int .i64 (l.getD 0 v0).n]) ∧ Below V.heap.size V w') := fun V hV => dot_any fr sq key _ cv m l hm h1 Ar kr cr V ((hv.below hV).more hV.size)
  obtain ⟨y, hy⟩ : ∃ y, l.getD 0 v0 = y := ⟨_, rfl⟩
  rw [hy] at hok x2 hpa hgs ⊢
  obtain ⟨s, vn, vp, vg, vx⟩ := y
  simp only at x2 hgs
  rw [Nat.zero_mul, Nat.add_zero] at x2
  obtain ⟨kp, hkp⟩ : ∃ k, vp.length = k := ⟨_, rfl⟩
  rw [hkp] at x2
  have hs : -9223372036854775808 ≤ s ∧ s ≤ 9223372036854775807 := by have := hok.1; unfold okD at this; simp only at this; omega
  have hnx := fun V (hV : Below w.heap.size w V) => Vect.next_any A c n v hn s hs V ((hr.below hV).more hV.size) hbig
  have hho := fun V (hV : Below w.heap.size w V) => Vect.holds_any A Ap c cp n kp v vp hn hkp V ((hr.below hV).more hV.size) ((hpa.1.below hV).more hV.size) hbig (by have := hpa.2.2.1; simp only at this; omega)
  obtain ⟨⟨d1, d2, E⟩, hQ⟩ : ∃ Q, Vect.nextV v s = Q := ⟨_, rfl⟩
  rw [hQ] at hnx
  unfold Vect.NextPost at hnx
  simp only at hnx
  obtain ⟨q, hq⟩ : ∃ q, decide (Vect.HoldsV v vp) = q := ⟨_, rfl⟩
  rw [hq] at hho
  obtain ⟨R, hR⟩ : ∃ R, decide (mayV v ⟨s, vn, vp, vg, vx⟩) = R := ⟨_, rfl⟩
  rw [hR]
  obtain ⟨U, hU⟩ : ∃ U, w.alloc (.cells #[.int .i64 fr, .int .i64 sq, .string key, .slice (some ⟨b, off, none⟩) m cv, .slice Ar kr cr] 35) = U := ⟨_, rfl⟩
  have bU : Below w.heap.size w U := by rw [← hU]; exact (Below.refl _ w).alloc (Nat.le_refl _) _
  have BU : Bn w.heap.size 35 [.int .i64 fr, .int .i64 sq, .string key, .slice (some ⟨b, off, none⟩) m cv, .slice Ar kr cr] U := by rw [← hU]; exact heap_alloc_new w _
  obtain ⟨fb, hfb⟩ : ∃ k, w.heap.size = k := ⟨_, rfl⟩
  have HB := Lib.hid (And.intro bU (And.intro BU (And.intro x2 hbB)))
  have HG := Lib.hid hgs
  have HN := Lib.hid hnx
  have HO := Lib.hid hho
  have HQ := Lib.hid (And.intro hQ (And.intro hq hR))
  have HFB := Lib.hid hfb
  have u0 := BU.cell 0
  have u1 := BU.cell 1
  have u2 := BU.cell 2
  have u3 := BU.cell 3
  have u4 := BU.cell 4
  simp only [List.getElem?_cons_zero, List.getElem?_cons_succ] at u0 u1 u2 u3 u4
  clear hm hv hr hok hbB x2 hpa hgs hnx hho hQ hq hR bU BU hkp hs hy hn hfb
  have h0m : 0 < m := h1
  have hfd : ∀ V : World, (Instr.field 56 (.agg #[.int .i64 s, .int .i64 vn]) 0).run Try.prog V = .ok (.int .i64 s) V := fun _ => by kernel_rfl
  go_enter Try.func34, Try.ntmps34
  go_wp2_with fail
  refine (HG.out U HB.out.1).mono ?_
  rintro e w2 ⟨rfl, b2⟩
  have bw2 : Below w.heap.size w w2 := HB.out.1.trans (b2.mono HB.out.1.size)
  have HB2 := Lib.hid (And.intro b2 bw2)
  clear b2 bw2
  go_wp2_with fail
  refine (HN.out w2 HB2.out.2).mono ?_
  rintro e w3 ⟨rfl, b3⟩
  obtain ⟨W4, hW4⟩ : ∃ W, w3.alloc (.cells #[.int .i64 d1, .int .i64 d2] 56) = W := ⟨_, rfl⟩
  have b4 : Below w3.heap.size w3 W4 := by rw [← hW4]; exact (Below.refl _ w3).alloc (Nat.le_refl _) _
  have B4 : Bn w3.heap.size 56 [.int .i64 d1, .int .i64 d2] W4 := by rw [← hW4]; exact heap_alloc_new w3 _
  have bw4 : Below w.heap.size w W4 := HB2.out.2.trans ((b3.mono HB2.out.2.size).trans (b4.mono (Nat.le_trans HB2.out.2.size b3.size)))
  have BF : Bn w.heap.size 35 [.int .i64 fr, .int .i64 sq, .string key, .slice (some ⟨b, off, none⟩) m cv, .slice Ar kr cr] W4 := by
    have h := HB.out.2.1
    have hl := h.lt
    exact ((h.same (HB2.out.1.block _ hl)).same (b3.block _ (Nat.lt_of_lt_of_le hl HB2.out.1.size))).same (b4.block _ (Nat.lt_of_lt_of_le hl (Nat.le_trans HB2.out.1.size b3.size)))
  obtain ⟨db, hdb⟩ : ∃ k, w3.heap.size = k := ⟨_, rfl⟩
  rw [HFB.out] at BF
  rw [hdb] at B4
  have HS2 : Hid (∀ V, Below W4.heap.size W4 V → Below W4.heap.size W4 V ∧ V.cell? ⟨fb, 0, none⟩ = some (.int .i64 fr) ∧ V.cell? ⟨fb, 1, none⟩ = some (.int .i64 sq) ∧ V.cell? ⟨fb, 2, none⟩ = some (.string key) ∧ V.cell? ⟨fb, 3, none⟩ = some (.slice (some ⟨b, off, none⟩) m cv) ∧ V.cell? ⟨fb, 4, none⟩ = some (.slice Ar kr cr) ∧ V.cell? ⟨db, 0, none⟩ = some (.int .i64 d1) ∧ V.cell? ⟨db, 1, none⟩ = some (.int .i64 d2) ∧ V.cell? ⟨b, off + 2, none⟩ = some (.slice Ap kp cp)) := Lib.hid fun V hV => by
    have g1 := BF.same (hV.block _ BF.lt)
    have g2 := B4.same (hV.block _ B4.lt)
    have g3 := (bw4.trans (hV.mono bw4.size)).cell (p := ⟨b, off + 2, none⟩) HB.out.2.2.2
    exact ⟨hV, (g1.cell 0).trans rfl, (g1.cell 1).trans rfl, (g1.cell 2).trans rfl, (g1.cell 3).trans rfl, (g1.cell 4).trans rfl, (g2.cell 0).trans rfl, (g2.cell 1).trans rfl, g3.trans HB.out.2.2.1⟩
  have HD : Hid (∀ V, Below W4.heap.size W4 V → Calls Try.prog 33 #[.agg #[.int .i64 fr, .int .i64 sq, .string key, .slice (some ⟨b, off, none⟩) m cv, .slice Ar kr cr]] V (fun e w' => e = .returned (.agg #[.int .i64 s, .int .i64 vn]) ∧ Below V.heap.size V w')) := Lib.hid fun V hV => HG.out V (bw4.trans (hV.mono bw4.size))
  have HH : Hid (∀ V, Below W4.heap.size W4 V → Calls Try.prog 48 #[.slice A n c, .slice Ap kp cp] V (fun e w' => e = .returned (.bool q) ∧ Below V.heap.size V w')) := Lib.hid fun V hV => HO.out V (bw4.trans (hV.mono bw4.size))
  have HW := Lib.hid bw4
  have HW4 := Lib.hid hW4
  have HDB := Lib.hid hdb
  clear b3 b4 B4 bw4 BF hW4 hdb
  by_cases hE : E = 0
  · subst hE
    have hd1 := Vect.next_fst HQ.out.1 rfl
    subst hd1
    by_cases hd : d2 = vn
    · subst hd
      have HR := Lib.hid (HQ.out.2.2.symm.trans (may_yes HQ.out.1 HQ.out.2.1))
      go_wp2_with fail
      rw [HFB.out, HW4.out, HDB.out]
      refine wp_region_held_drew (S := (fun V => Below W4.heap.size W4 V ∧ V.cell? ⟨fb, 0, none⟩ = some (.int .i64 fr) ∧ V.cell? ⟨fb, 1, none⟩ = some (.int .i64 sq) ∧ V.cell? ⟨fb, 2, none⟩ = some (.string key) ∧ V.cell? ⟨fb, 3, none⟩ = some (.slice (some ⟨b, off, none⟩) m cv) ∧ V.cell? ⟨fb, 4, none⟩ = some (.slice Ar kr cr) ∧ V.cell? ⟨db, 0, none⟩ = some (.int .i64 d1) ∧ V.cell? ⟨db, 1, none⟩ = some (.int .i64 d2) ∧ V.cell? ⟨b, off + 2, none⟩ = some (.slice Ap kp cp))) (by kernel_rfl) (HS2.out _ (Below.refl _ W4).drew) (fun hHeld => ?_)
      refine wpAnyH_take (i := 0) (oi := { dst := some 15, op := Op.move (Operand.tmp 6), type := 91, pos := "inbox.go:60", after := #[], guard := none }) (v := ?va_1) rfl (by kernel_rfl) (by kernel_rfl) (by kernel_rfl) (fun _ _ _ h => h) (Or.inl ⟨by rfl, ?hya_1⟩) (by assumption) ?resta_1
      case hya_1 =>
        intro w hSw
        (try dsimp only at hSw)
        go_simp
        (try with_reducible rfl)
      (try simp only [Act.put, List.setIfInBounds_toArray, List.set_cons_zero, List.set_cons_succ])
      refine wpAnyH_take (i := 1) (oi := { dst := some 16, op := Op.binOp BinOp.eql 91 (Operand.tmp 15) (Operand.const (Value.int IntKind.i64 0)) 91, type := 4, pos := "inbox.go:60", after := #[{ on := 0, ground := Ground.data }], guard := none }) (v := ?va_2) rfl (by kernel_rfl) (by kernel_rfl) (by kernel_rfl) (fun _ _ _ h => h) (Or.inl ⟨by rfl, ?hya_2⟩) (by assumption) ?resta_2
      case hya_2 =>
        intro w hSw
        (try dsimp only at hSw)
        go_simp
        (try with_reducible rfl)
      (try simp only [Act.put, List.setIfInBounds_toArray, List.set_cons_zero, List.set_cons_succ])
      refine wpAnyH_take (i := 2) (oi := { dst := some 17, op := Op.move (Operand.tmp 16), type := 4, pos := "inbox.go:60", after := #[{ on := 1, ground := Ground.data }], guard := none }) (v := ?va_3) rfl (by kernel_rfl) (by kernel_rfl) (by kernel_rfl) (fun _ _ _ h => h) (Or.inl ⟨by rfl, ?hya_3⟩) (by assumption) ?resta_3
      case hya_3 =>
        intro w hSw
        (try dsimp only at hSw)
        go_simp
        (try with_reducible rfl)
      (try simp only [Act.put, List.setIfInBounds_toArray, List.set_cons_zero, List.set_cons_succ])
      refine wpAnyH_take (i := 3) (oi := { dst := some 18, op := Op.load 56 (Operand.tmp 5), type := 56, pos := "inbox.go:60", after := #[{ on := 2, ground := Ground.guard }], guard := some (2, true) }) (v := ?va_4) rfl (by kernel_rfl) (by kernel_rfl) (by kernel_rfl) (fun _ _ _ h => h) (Or.inl ⟨by rfl, ?hya_4⟩) (by assumption) ?resta_4
      case hya_4 =>
        intro w hSw
        (try dsimp only at hSw)
        go_simp
        (try with_reducible rfl)
      (try simp only [Act.put, List.setIfInBounds_toArray, List.set_cons_zero, List.set_cons_succ])
      refine wpAnyH_take (i := 4) (oi := { dst := some 19, op := Op.load 35 (Operand.tmp 2), type := 35, pos := "inbox.go:60", after := #[{ on := 2, ground := Ground.guard }], guard := some (2, true) }) (v := ?va_5) rfl (by kernel_rfl) (by kernel_rfl) (by kernel_rfl) (fun _ _ _ h => h) (Or.inl ⟨by rfl, ?hya_5⟩) (by assumption) ?resta_5
      case hya_5 =>
        intro w hSw
        (try dsimp only at hSw)
        go_simp
        (try with_reducible rfl)
      (try simp only [Act.put, List.setIfInBounds_toArray, List.set_cons_zero, List.set_cons_succ])
      refine wpAnyH_ready (rs := [5]) (by kernel_rfl) (by simp) ?_
      refine AllReadyH.cons (o := { dst := some 20, op := Op.call { callee := Callee.value (Operand.func 33), args := #[Operand.tmp 19], argTypes := #[35] }, type := 56, pos := "inbox.go:60", after := #[{ on := 4, ground := Ground.data }, { on := 2, ground := Ground.chain }, { on := 2, ground := Ground.guard }], guard := some (2, true) }) rfl (fun K hK => ?_) AllReadyH.nil
      go_simp
      (go_at_call 33; refine (HD.out _ hHeld.1).mono ?_; rintro e6 w6 ⟨rfl, b6⟩; have hb6 : Below W4.heap.size W4 w6 := hHeld.1.trans (b6.mono hHeld.1.size))
      go_wp2_with fail
      refine hK.out _ _ (HS2.out _ hb6) (fun hHeld => ?_)
      clear hK K
      (try simp only [Act.put, List.setIfInBounds_toArray, List.set_cons_zero, List.set_cons_succ])
      refine wpAnyH_take (i := 6) (oi := { dst := some 21, op := Op.binOp BinOp.eql 56 (Operand.tmp 18) (Operand.tmp 20) 56, type := 4, pos := "inbox.go:60", after := #[{ on := 3, ground := Ground.data }, { on := 5, ground := Ground.data }, { on := 2, ground := Ground.guard }], guard := some (2, true) }) (v := ?va_6) rfl (by kernel_rfl) (by kernel_rfl) (by kernel_rfl) (fun _ _ _ h => h) (Or.inl ⟨by rfl, ?hya_6⟩) (by assumption) ?resta_6
      case hya_6 =>
        intro w hSw
        (try dsimp only at hSw)
        go_simp
        (try with_reducible rfl)
      (try simp only [Act.put, List.setIfInBounds_toArray, List.set_cons_zero, List.set_cons_succ])
      refine wpAnyH_take (i := 7) (oi := { dst := some 22, op := Op.pick (Operand.tmp 17) (Operand.tmp 21) (Operand.const (Value.bool false)), type := 4, pos := "inbox.go:60", after := #[{ on := 2, ground := Ground.data }, { on := 6, ground := Ground.data }], guard := none }) (v := ?va_7) rfl (by kernel_rfl) (by kernel_rfl) (by kernel_rfl) (fun _ _ _ h => h) (Or.inl ⟨by rfl, ?hya_7⟩) (by assumption) ?resta_7
      case hya_7 =>
        intro w hSw
        (try dsimp only at hSw)
        go_simp
        (try with_reducible rfl)
      (try simp only [Act.put, List.setIfInBounds_toArray, List.set_cons_zero, List.set_cons_succ])
      refine wpAnyH_take (i := 8) (oi := { dst := some 23, op := Op.move (Operand.tmp 22), type := 4, pos := "inbox.go:60", after := #[{ on := 7, ground := Ground.data }, { on := 5, ground := Ground.chain }], guard := none }) (v := ?va_8) rfl (by kernel_rfl) (by kernel_rfl) (by kernel_rfl) (fun _ _ _ h => h) (Or.inl ⟨by rfl, ?hya_8⟩) (by assumption) ?resta_8
      case hya_8 =>
        intro w hSw
        (try dsimp only at hSw)
        go_simp
        (try with_reducible rfl)
      (try simp only [Act.put, List.setIfInBounds_toArray, List.set_cons_zero, List.set_cons_succ])
      refine wpAnyH_take (i := 9) (oi := { dst := some 24, op := Op.move (Operand.tmp 1), type := 36, pos := "inbox.go:60", after := #[{ on := 8, ground := Ground.guard }], guard := some (8, true) }) (v := ?va_9) rfl (by kernel_rfl) (by kernel_rfl) (by kernel_rfl) (fun _ _ _ h => h) (Or.inl ⟨by rfl, ?hya_9⟩) (by assumption) ?resta_9
      case hya_9 =>
        intro w hSw
        (try dsimp only at hSw)
        go_simp
        (try with_reducible rfl)
      (try simp only [Act.put, List.setIfInBounds_toArray, List.set_cons_zero, List.set_cons_succ])
      refine wpAnyH_take (i := 10) (oi := { dst := some 25, op := Op.fieldAddr 35 (Operand.tmp 2) 2, type := 0, pos := "inbox.go:60", after := #[{ on := 8, ground := Ground.guard }], guard := some (8, true) }) (v := ?va_10) rfl (by kernel_rfl) (by kernel_rfl) (by kernel_rfl) (fun _ _ _ h => h) (Or.inl ⟨by rfl, ?hya_10⟩) (by assumption) ?resta_10
      case hya_10 =>
        intro w hSw
        (try dsimp only at hSw)
        go_simp
        (try with_reducible rfl)
      (try simp only [Act.put, List.setIfInBounds_toArray, List.set_cons_zero, List.set_cons_succ])
      refine wpAnyH_take (i := 11) (oi := { dst := some 26, op := Op.fieldAddr 32 (Operand.tmp 25) 1, type := 0, pos := "inbox.go:60", after := #[{ on := 10, ground := Ground.data }, { on := 8, ground := Ground.guard }], guard := some (8, true) }) (v := ?va_11) rfl (by kernel_rfl) (by kernel_rfl) (by kernel_rfl) (fun _ _ _ h => h) (Or.inl ⟨by rfl, ?hya_11⟩) (by assumption) ?resta_11
      case hya_11 =>
        intro w hSw
        (try dsimp only at hSw)
        go_simp
        (try with_reducible rfl)
      (try simp only [Act.put, List.setIfInBounds_toArray, List.set_cons_zero, List.set_cons_succ])
      refine wpAnyH_take (i := 12) (oi := { dst := some 27, op := Op.load 30 (Operand.tmp 26), type := 30, pos := "inbox.go:60", after := #[{ on := 11, ground := Ground.data }, { on := 8, ground := Ground.guard }], guard := some (8, true) }) (v := ?va_12) rfl (by kernel_rfl) (by kernel_rfl) (by kernel_rfl) (fun _ _ _ h => h) (Or.inl ⟨by rfl, ?hya_12⟩) (by assumption) ?resta_12
      case hya_12 =>
        intro w hSw
        (try dsimp only at hSw)
        go_simp
        (try with_reducible rfl)
      (try simp only [Act.put, List.setIfInBounds_toArray, List.set_cons_zero, List.set_cons_succ])
      refine wpAnyH_take (i := 13) (oi := { dst := some 28, op := Op.indexAddr 30 (Operand.tmp 27) (Operand.const (Value.int IntKind.i64 0)), type := 0, pos := "inbox.go:60", after := #[{ on := 12, ground := Ground.data }, { on := 8, ground := Ground.guard }], guard := some (8, true) }) (v := ?va_13) rfl (by kernel_rfl) (by kernel_rfl) (by kernel_rfl) (fun _ _ _ h => h) (Or.inl ⟨by rfl, ?hya_13⟩) (by assumption) ?resta_13
      case hya_13 =>
        intro w hSw
        (try dsimp only at hSw)
        go_simp
        (try with_reducible rfl)
      (try simp only [Act.put, List.setIfInBounds_toArray, List.set_cons_zero, List.set_cons_succ])
      refine wpAnyH_take (i := 14) (oi := { dst := some 29, op := Op.fieldAddr 59 (Operand.tmp 28) 1, type := 0, pos := "inbox.go:60", after := #[{ on := 13, ground := Ground.data }, { on := 8, ground := Ground.guard }], guard := some (8, true) }) (v := ?va_14) rfl (by kernel_rfl) (by kernel_rfl) (by kernel_rfl) (fun _ _ _ h => h) (Or.inl ⟨by rfl, ?hya_14⟩) (by assumption) ?resta_14
      case hya_14 =>
        intro w hSw
        (try dsimp only at hSw)
        go_simp
        (try with_reducible rfl)
      (try simp only [Act.put, List.setIfInBounds_toArray, List.set_cons_zero, List.set_cons_succ])
      refine wpAnyH_take (i := 15) (oi := { dst := some 30, op := Op.load 57 (Operand.tmp 29), type := 57, pos := "inbox.go:60", after := #[{ on := 14, ground := Ground.data }, { on := 8, ground := Ground.guard }], guard := some (8, true) }) (v := ?va_15) rfl (by kernel_rfl) (by kernel_rfl) (by kernel_rfl) (fun _ _ _ h => h) (Or.inl ⟨by rfl, ?hya_15⟩) (by assumption) ?resta_15
      case hya_15 =>
        intro w hSw
        (try dsimp only at hSw)
        go_simp
        (try with_reducible rfl)
      (try simp only [Act.put, List.setIfInBounds_toArray, List.set_cons_zero, List.set_cons_succ])
      refine wpAnyH_ready (rs := [16]) (by kernel_rfl) (by simp) ?_
      refine AllReadyH.cons (o := { dst := some 31, op := Op.call { callee := Callee.value (Operand.func 48), args := #[Operand.tmp 24, Operand.tmp 30], argTypes := #[36, 57] }, type := 4, pos := "inbox.go:60", after := #[{ on := 9, ground := Ground.data }, { on := 15, ground := Ground.data }, { on := 8, ground := Ground.chain }, { on := 8, ground := Ground.guard }], guard := some (8, true) }) rfl (fun K hK => ?_) AllReadyH.nil
      go_simp
      (go_at_call 48; refine (HH.out _ hHeld.1).mono ?_; rintro e7 w7 ⟨rfl, b7⟩; have hb7 : Below W4.heap.size W4 w7 := hHeld.1.trans (b7.mono hHeld.1.size))
      go_wp2_with fail
      refine hK.out _ _ (HS2.out _ hb7) (fun hHeld => ?_)
      clear hK K
      (try simp only [Act.put, List.setIfInBounds_toArray, List.set_cons_zero, List.set_cons_succ])
      refine wpAnyH_take (i := 17) (oi := { dst := some 32, op := Op.pick (Operand.tmp 23) (Operand.tmp 31) (Operand.const (Value.bool false)), type := 4, pos := "inbox.go:60", after := #[{ on := 8, ground := Ground.data }, { on := 16, ground := Ground.data }], guard := none }) (v := ?va_16) rfl (by kernel_rfl) (by kernel_rfl) (by kernel_rfl) (fun _ _ _ h => h) (Or.inl ⟨by rfl, ?hya_16⟩) (by assumption) ?resta_16
      case hya_16 =>
        intro w hSw
        (try dsimp only at hSw)
        go_simp
        (try with_reducible rfl)
      (try simp only [Act.put, List.setIfInBounds_toArray, List.set_cons_zero, List.set_cons_succ])
      refine wpAnyH_take (i := 18) (oi := { dst := some 4, op := Op.assign (Operand.tmp 32), type := 4, pos := "inbox.go:60", after := #[{ on := 17, ground := Ground.data }, { on := 16, ground := Ground.chain }, { on := 0, ground := Ground.phase }, { on := 1, ground := Ground.phase }, { on := 2, ground := Ground.phase }, { on := 3, ground := Ground.phase }, { on := 4, ground := Ground.phase }, { on := 5, ground := Ground.phase }, { on := 6, ground := Ground.phase }, { on := 7, ground := Ground.phase }, { on := 8, ground := Ground.phase }, { on := 9, ground := Ground.phase }, { on := 10, ground := Ground.phase }, { on := 11, ground := Ground.phase }, { on := 12, ground := Ground.phase }, { on := 13, ground := Ground.phase }, { on := 14, ground := Ground.phase }, { on := 15, ground := Ground.phase }, { on := 16, ground := Ground.phase }, { on := 17, ground := Ground.phase }], guard := none }) (v := ?va_17) rfl (by kernel_rfl) (by kernel_rfl) (by kernel_rfl) (fun _ _ _ h => h) (Or.inl ⟨by rfl, ?hya_17⟩) (by assumption) ?resta_17
      case hya_17 =>
        intro w hSw
        (try dsimp only at hSw)
        go_simp
        (try with_reducible rfl)
      (try simp only [Act.put, List.setIfInBounds_toArray, List.set_cons_zero, List.set_cons_succ])
      refine wpAnyH_done (by kernel_rfl) ?_ _
      go_wp2_with fail
      go_ret
      exact ⟨by rw [HR.out]; cases q <;> rfl, HW.out.trans (hb7.mono HW.out.size)⟩
    · have HR := Lib.hid (HQ.out.2.2.symm.trans (may_not HQ.out.1 fun h => hd h.2))
      have hne : (d2 == vn) = false := by simp [hd]
      clear hd
      go_wp2_with fail
      rw [HFB.out, HW4.out, HDB.out]
      refine wp_region_held_drew (S := (fun V => Below W4.heap.size W4 V ∧ V.cell? ⟨fb, 0, none⟩ = some (.int .i64 fr) ∧ V.cell? ⟨fb, 1, none⟩ = some (.int .i64 sq) ∧ V.cell? ⟨fb, 2, none⟩ = some (.string key) ∧ V.cell? ⟨fb, 3, none⟩ = some (.slice (some ⟨b, off, none⟩) m cv) ∧ V.cell? ⟨fb, 4, none⟩ = some (.slice Ar kr cr) ∧ V.cell? ⟨db, 0, none⟩ = some (.int .i64 d1) ∧ V.cell? ⟨db, 1, none⟩ = some (.int .i64 d2) ∧ V.cell? ⟨b, off + 2, none⟩ = some (.slice Ap kp cp))) (by kernel_rfl) (HS2.out _ (Below.refl _ W4).drew) (fun hHeld => ?_)
      refine wpAnyH_take (i := 0) (oi := { dst := some 15, op := Op.move (Operand.tmp 6), type := 91, pos := "inbox.go:60", after := #[], guard := none }) (v := ?vb_1) rfl (by kernel_rfl) (by kernel_rfl) (by kernel_rfl) (fun _ _ _ h => h) (Or.inl ⟨by rfl, ?hyb_1⟩) (by assumption) ?restb_1
      case hyb_1 =>
        intro w hSw
        (try dsimp only at hSw)
        go_simp
        (try with_reducible rfl)
      (try simp only [Act.put, List.setIfInBounds_toArray, List.set_cons_zero, List.set_cons_succ])
      refine wpAnyH_take (i := 1) (oi := { dst := some 16, op := Op.binOp BinOp.eql 91 (Operand.tmp 15) (Operand.const (Value.int IntKind.i64 0)) 91, type := 4, pos := "inbox.go:60", after := #[{ on := 0, ground := Ground.data }], guard := none }) (v := ?vb_2) rfl (by kernel_rfl) (by kernel_rfl) (by kernel_rfl) (fun _ _ _ h => h) (Or.inl ⟨by rfl, ?hyb_2⟩) (by assumption) ?restb_2
      case hyb_2 =>
        intro w hSw
        (try dsimp only at hSw)
        go_simp
        (try with_reducible rfl)
      (try simp only [Act.put, List.setIfInBounds_toArray, List.set_cons_zero, List.set_cons_succ])
      refine wpAnyH_take (i := 2) (oi := { dst := some 17, op := Op.move (Operand.tmp 16), type := 4, pos := "inbox.go:60", after := #[{ on := 1, ground := Ground.data }], guard := none }) (v := ?vb_3) rfl (by kernel_rfl) (by kernel_rfl) (by kernel_rfl) (fun _ _ _ h => h) (Or.inl ⟨by rfl, ?hyb_3⟩) (by assumption) ?restb_3
      case hyb_3 =>
        intro w hSw
        (try dsimp only at hSw)
        go_simp
        (try with_reducible rfl)
      (try simp only [Act.put, List.setIfInBounds_toArray, List.set_cons_zero, List.set_cons_succ])
      refine wpAnyH_take (i := 3) (oi := { dst := some 18, op := Op.load 56 (Operand.tmp 5), type := 56, pos := "inbox.go:60", after := #[{ on := 2, ground := Ground.guard }], guard := some (2, true) }) (v := ?vb_4) rfl (by kernel_rfl) (by kernel_rfl) (by kernel_rfl) (fun _ _ _ h => h) (Or.inl ⟨by rfl, ?hyb_4⟩) (by assumption) ?restb_4
      case hyb_4 =>
        intro w hSw
        (try dsimp only at hSw)
        go_simp
        (try with_reducible rfl)
      (try simp only [Act.put, List.setIfInBounds_toArray, List.set_cons_zero, List.set_cons_succ])
      refine wpAnyH_take (i := 4) (oi := { dst := some 19, op := Op.load 35 (Operand.tmp 2), type := 35, pos := "inbox.go:60", after := #[{ on := 2, ground := Ground.guard }], guard := some (2, true) }) (v := ?vb_5) rfl (by kernel_rfl) (by kernel_rfl) (by kernel_rfl) (fun _ _ _ h => h) (Or.inl ⟨by rfl, ?hyb_5⟩) (by assumption) ?restb_5
      case hyb_5 =>
        intro w hSw
        (try dsimp only at hSw)
        go_simp
        (try with_reducible rfl)
      (try simp only [Act.put, List.setIfInBounds_toArray, List.set_cons_zero, List.set_cons_succ])
      refine wpAnyH_ready (rs := [5]) (by kernel_rfl) (by simp) ?_
      refine AllReadyH.cons (o := { dst := some 20, op := Op.call { callee := Callee.value (Operand.func 33), args := #[Operand.tmp 19], argTypes := #[35] }, type := 56, pos := "inbox.go:60", after := #[{ on := 4, ground := Ground.data }, { on := 2, ground := Ground.chain }, { on := 2, ground := Ground.guard }], guard := some (2, true) }) rfl (fun K hK => ?_) AllReadyH.nil
      go_simp
      (go_at_call 33; refine (HD.out _ hHeld.1).mono ?_; rintro e6 w6 ⟨rfl, b6⟩; have hb6 : Below W4.heap.size W4 w6 := hHeld.1.trans (b6.mono hHeld.1.size))
      go_wp2_with fail
      refine hK.out _ _ (HS2.out _ hb6) (fun hHeld => ?_)
      clear hK K
      (try simp only [Act.put, List.setIfInBounds_toArray, List.set_cons_zero, List.set_cons_succ])
      refine wpAnyH_take (i := 6) (oi := { dst := some 21, op := Op.binOp BinOp.eql 56 (Operand.tmp 18) (Operand.tmp 20) 56, type := 4, pos := "inbox.go:60", after := #[{ on := 3, ground := Ground.data }, { on := 5, ground := Ground.data }, { on := 2, ground := Ground.guard }], guard := some (2, true) }) (v := ?vb_6) rfl (by kernel_rfl) (by kernel_rfl) (by kernel_rfl) (fun _ _ _ h => h) (Or.inl ⟨by rfl, ?hyb_6⟩) (by assumption) ?restb_6
      case hyb_6 =>
        intro w hSw
        (try dsimp only at hSw)
        go_simp
        (try with_reducible rfl)
      (try simp only [Act.put, List.setIfInBounds_toArray, List.set_cons_zero, List.set_cons_succ])
      refine wpAnyH_take (i := 7) (oi := { dst := some 22, op := Op.pick (Operand.tmp 17) (Operand.tmp 21) (Operand.const (Value.bool false)), type := 4, pos := "inbox.go:60", after := #[{ on := 2, ground := Ground.data }, { on := 6, ground := Ground.data }], guard := none }) (v := ?vb_7) rfl (by kernel_rfl) (by kernel_rfl) (by kernel_rfl) (fun _ _ _ h => h) (Or.inl ⟨by rfl, ?hyb_7⟩) (by assumption) ?restb_7
      case hyb_7 =>
        intro w hSw
        (try dsimp only at hSw)
        go_simp
        (try with_reducible rfl)
      (try simp only [Act.put, List.setIfInBounds_toArray, List.set_cons_zero, List.set_cons_succ])
      refine wpAnyH_take (i := 8) (oi := { dst := some 23, op := Op.move (Operand.tmp 22), type := 4, pos := "inbox.go:60", after := #[{ on := 7, ground := Ground.data }, { on := 5, ground := Ground.chain }], guard := none }) (v := ?vb_8) rfl (by kernel_rfl) (by kernel_rfl) (by kernel_rfl) (fun _ _ _ h => h) (Or.inl ⟨by rfl, ?hyb_8⟩) (by assumption) ?restb_8
      case hyb_8 =>
        intro w hSw
        (try dsimp only at hSw)
        go_simp
        (try with_reducible rfl)
      (try simp only [Act.put, List.setIfInBounds_toArray, List.set_cons_zero, List.set_cons_succ])
      refine wpAnyH_take (i := 9) (oi := { dst := some 24, op := Op.move (Operand.tmp 1), type := 36, pos := "inbox.go:60", after := #[{ on := 8, ground := Ground.guard }], guard := some (8, true) }) (v := undef) rfl (by kernel_rfl) (by kernel_rfl) (by kernel_rfl) (fun _ _ _ h => h) (Or.inr ⟨by rfl, rfl⟩) (by assumption) ?_
      (try simp only [Act.put, List.setIfInBounds_toArray, List.set_cons_zero, List.set_cons_succ])
      refine wpAnyH_take (i := 10) (oi := { dst := some 25, op := Op.fieldAddr 35 (Operand.tmp 2) 2, type := 0, pos := "inbox.go:60", after := #[{ on := 8, ground := Ground.guard }], guard := some (8, true) }) (v := undef) rfl (by kernel_rfl) (by kernel_rfl) (by kernel_rfl) (fun _ _ _ h => h) (Or.inr ⟨by rfl, rfl⟩) (by assumption) ?_
      (try simp only [Act.put, List.setIfInBounds_toArray, List.set_cons_zero, List.set_cons_succ])
      refine wpAnyH_take (i := 11) (oi := { dst := some 26, op := Op.fieldAddr 32 (Operand.tmp 25) 1, type := 0, pos := "inbox.go:60", after := #[{ on := 10, ground := Ground.data }, { on := 8, ground := Ground.guard }], guard := some (8, true) }) (v := undef) rfl (by kernel_rfl) (by kernel_rfl) (by kernel_rfl) (fun _ _ _ h => h) (Or.inr ⟨by rfl, rfl⟩) (by assumption) ?_
      (try simp only [Act.put, List.setIfInBounds_toArray, List.set_cons_zero, List.set_cons_succ])
      refine wpAnyH_take (i := 12) (oi := { dst := some 27, op := Op.load 30 (Operand.tmp 26), type := 30, pos := "inbox.go:60", after := #[{ on := 11, ground := Ground.data }, { on := 8, ground := Ground.guard }], guard := some (8, true) }) (v := undef) rfl (by kernel_rfl) (by kernel_rfl) (by kernel_rfl) (fun _ _ _ h => h) (Or.inr ⟨by rfl, rfl⟩) (by assumption) ?_
      (try simp only [Act.put, List.setIfInBounds_toArray, List.set_cons_zero, List.set_cons_succ])
      refine wpAnyH_take (i := 13) (oi := { dst := some 28, op := Op.indexAddr 30 (Operand.tmp 27) (Operand.const (Value.int IntKind.i64 0)), type := 0, pos := "inbox.go:60", after := #[{ on := 12, ground := Ground.data }, { on := 8, ground := Ground.guard }], guard := some (8, true) }) (v := undef) rfl (by kernel_rfl) (by kernel_rfl) (by kernel_rfl) (fun _ _ _ h => h) (Or.inr ⟨by rfl, rfl⟩) (by assumption) ?_
      (try simp only [Act.put, List.setIfInBounds_toArray, List.set_cons_zero, List.set_cons_succ])
      refine wpAnyH_take (i := 14) (oi := { dst := some 29, op := Op.fieldAddr 59 (Operand.tmp 28) 1, type := 0, pos := "inbox.go:60", after := #[{ on := 13, ground := Ground.data }, { on := 8, ground := Ground.guard }], guard := some (8, true) }) (v := undef) rfl (by kernel_rfl) (by kernel_rfl) (by kernel_rfl) (fun _ _ _ h => h) (Or.inr ⟨by rfl, rfl⟩) (by assumption) ?_
      (try simp only [Act.put, List.setIfInBounds_toArray, List.set_cons_zero, List.set_cons_succ])
      refine wpAnyH_take (i := 15) (oi := { dst := some 30, op := Op.load 57 (Operand.tmp 29), type := 57, pos := "inbox.go:60", after := #[{ on := 14, ground := Ground.data }, { on := 8, ground := Ground.guard }], guard := some (8, true) }) (v := undef) rfl (by kernel_rfl) (by kernel_rfl) (by kernel_rfl) (fun _ _ _ h => h) (Or.inr ⟨by rfl, rfl⟩) (by assumption) ?_
      (try simp only [Act.put, List.setIfInBounds_toArray, List.set_cons_zero, List.set_cons_succ])
      refine wpAnyH_take (i := 16) (oi := { dst := some 31, op := Op.call { callee := Callee.value (Operand.func 48), args := #[Operand.tmp 24, Operand.tmp 30], argTypes := #[36, 57] }, type := 4, pos := "inbox.go:60", after := #[{ on := 9, ground := Ground.data }, { on := 15, ground := Ground.data }, { on := 8, ground := Ground.chain }, { on := 8, ground := Ground.guard }], guard := some (8, true) }) (v := undef) rfl (by kernel_rfl) (by kernel_rfl) (by kernel_rfl) (fun _ _ _ h => h) (Or.inr ⟨by rfl, rfl⟩) (by assumption) ?_
      (try simp only [Act.put, List.setIfInBounds_toArray, List.set_cons_zero, List.set_cons_succ])
      refine wpAnyH_take (i := 17) (oi := { dst := some 32, op := Op.pick (Operand.tmp 23) (Operand.tmp 31) (Operand.const (Value.bool false)), type := 4, pos := "inbox.go:60", after := #[{ on := 8, ground := Ground.data }, { on := 16, ground := Ground.data }], guard := none }) (v := ?vb_17) rfl (by kernel_rfl) (by kernel_rfl) (by kernel_rfl) (fun _ _ _ h => h) (Or.inl ⟨by rfl, ?hyb_17⟩) (by assumption) ?restb_17
      case hyb_17 =>
        intro w hSw
        (try dsimp only at hSw)
        go_simp
        (try with_reducible rfl)
      (try simp only [Act.put, List.setIfInBounds_toArray, List.set_cons_zero, List.set_cons_succ])
      refine wpAnyH_take (i := 18) (oi := { dst := some 4, op := Op.assign (Operand.tmp 32), type := 4, pos := "inbox.go:60", after := #[{ on := 17, ground := Ground.data }, { on := 16, ground := Ground.chain }, { on := 0, ground := Ground.phase }, { on := 1, ground := Ground.phase }, { on := 2, ground := Ground.phase }, { on := 3, ground := Ground.phase }, { on := 4, ground := Ground.phase }, { on := 5, ground := Ground.phase }, { on := 6, ground := Ground.phase }, { on := 7, ground := Ground.phase }, { on := 8, ground := Ground.phase }, { on := 9, ground := Ground.phase }, { on := 10, ground := Ground.phase }, { on := 11, ground := Ground.phase }, { on := 12, ground := Ground.phase }, { on := 13, ground := Ground.phase }, { on := 14, ground := Ground.phase }, { on := 15, ground := Ground.phase }, { on := 16, ground := Ground.phase }, { on := 17, ground := Ground.phase }], guard := none }) (v := ?vb_18) rfl (by kernel_rfl) (by kernel_rfl) (by kernel_rfl) (fun _ _ _ h => h) (Or.inl ⟨by rfl, ?hyb_18⟩) (by assumption) ?restb_18
      case hyb_18 =>
        intro w hSw
        (try dsimp only at hSw)
        go_simp
        (try with_reducible rfl)
      (try simp only [Act.put, List.setIfInBounds_toArray, List.set_cons_zero, List.set_cons_succ])
      refine wpAnyH_done (by kernel_rfl) ?_ _
      go_wp2_with fail
      go_ret
      exact ⟨by rw [HR.out]; rfl, HW.out.trans (hb6.mono HW.out.size)⟩
  · have HR := Lib.hid (HQ.out.2.2.symm.trans (may_not HQ.out.1 fun h => hE h.1))
    have hne : (E == 0) = false := by simp [hE]
    clear hE
    go_wp2_with fail
    rw [HFB.out, HW4.out, HDB.out]
    refine wp_region_held_drew (S := (fun V => Below W4.heap.size W4 V ∧ V.cell? ⟨fb, 0, none⟩ = some (.int .i64 fr) ∧ V.cell? ⟨fb, 1, none⟩ = some (.int .i64 sq) ∧ V.cell? ⟨fb, 2, none⟩ = some (.string key) ∧ V.cell? ⟨fb, 3, none⟩ = some (.slice (some ⟨b, off, none⟩) m cv) ∧ V.cell? ⟨fb, 4, none⟩ = some (.slice Ar kr cr) ∧ V.cell? ⟨db, 0, none⟩ = some (.int .i64 d1) ∧ V.cell? ⟨db, 1, none⟩ = some (.int .i64 d2) ∧ V.cell? ⟨b, off + 2, none⟩ = some (.slice Ap kp cp))) (by kernel_rfl) (HS2.out _ (Below.refl _ W4).drew) (fun hHeld => ?_)
    refine wpAnyH_take (i := 0) (oi := { dst := some 15, op := Op.move (Operand.tmp 6), type := 91, pos := "inbox.go:60", after := #[], guard := none }) (v := ?vc_1) rfl (by kernel_rfl) (by kernel_rfl) (by kernel_rfl) (fun _ _ _ h => h) (Or.inl ⟨by rfl, ?hyc_1⟩) (by assumption) ?restc_1
    case hyc_1 =>
      intro w hSw
      (try dsimp only at hSw)
      go_simp
      (try with_reducible rfl)
    (try simp only [Act.put, List.setIfInBounds_toArray, List.set_cons_zero, List.set_cons_succ])
    refine wpAnyH_take (i := 1) (oi := { dst := some 16, op := Op.binOp BinOp.eql 91 (Operand.tmp 15) (Operand.const (Value.int IntKind.i64 0)) 91, type := 4, pos := "inbox.go:60", after := #[{ on := 0, ground := Ground.data }], guard := none }) (v := ?vc_2) rfl (by kernel_rfl) (by kernel_rfl) (by kernel_rfl) (fun _ _ _ h => h) (Or.inl ⟨by rfl, ?hyc_2⟩) (by assumption) ?restc_2
    case hyc_2 =>
      intro w hSw
      (try dsimp only at hSw)
      go_simp
      (try with_reducible rfl)
    (try simp only [Act.put, List.setIfInBounds_toArray, List.set_cons_zero, List.set_cons_succ])
    refine wpAnyH_take (i := 2) (oi := { dst := some 17, op := Op.move (Operand.tmp 16), type := 4, pos := "inbox.go:60", after := #[{ on := 1, ground := Ground.data }], guard := none }) (v := ?vc_3) rfl (by kernel_rfl) (by kernel_rfl) (by kernel_rfl) (fun _ _ _ h => h) (Or.inl ⟨by rfl, ?hyc_3⟩) (by assumption) ?restc_3
    case hyc_3 =>
      intro w hSw
      (try dsimp only at hSw)
      go_simp
      (try with_reducible rfl)
    (try simp only [Act.put, List.setIfInBounds_toArray, List.set_cons_zero, List.set_cons_succ])
    refine wpAnyH_take (i := 3) (oi := { dst := some 18, op := Op.load 56 (Operand.tmp 5), type := 56, pos := "inbox.go:60", after := #[{ on := 2, ground := Ground.guard }], guard := some (2, true) }) (v := undef) rfl (by kernel_rfl) (by kernel_rfl) (by kernel_rfl) (fun _ _ _ h => h) (Or.inr ⟨by rfl, rfl⟩) (by assumption) ?_
    (try simp only [Act.put, List.setIfInBounds_toArray, List.set_cons_zero, List.set_cons_succ])
    refine wpAnyH_take (i := 4) (oi := { dst := some 19, op := Op.load 35 (Operand.tmp 2), type := 35, pos := "inbox.go:60", after := #[{ on := 2, ground := Ground.guard }], guard := some (2, true) }) (v := undef) rfl (by kernel_rfl) (by kernel_rfl) (by kernel_rfl) (fun _ _ _ h => h) (Or.inr ⟨by rfl, rfl⟩) (by assumption) ?_
    (try simp only [Act.put, List.setIfInBounds_toArray, List.set_cons_zero, List.set_cons_succ])
    refine wpAnyH_take (i := 5) (oi := { dst := some 20, op := Op.call { callee := Callee.value (Operand.func 33), args := #[Operand.tmp 19], argTypes := #[35] }, type := 56, pos := "inbox.go:60", after := #[{ on := 4, ground := Ground.data }, { on := 2, ground := Ground.chain }, { on := 2, ground := Ground.guard }], guard := some (2, true) }) (v := undef) rfl (by kernel_rfl) (by kernel_rfl) (by kernel_rfl) (fun _ _ _ h => h) (Or.inr ⟨by rfl, rfl⟩) (by assumption) ?_
    (try simp only [Act.put, List.setIfInBounds_toArray, List.set_cons_zero, List.set_cons_succ])
    refine wpAnyH_take (i := 6) (oi := { dst := some 21, op := Op.binOp BinOp.eql 56 (Operand.tmp 18) (Operand.tmp 20) 56, type := 4, pos := "inbox.go:60", after := #[{ on := 3, ground := Ground.data }, { on := 5, ground := Ground.data }, { on := 2, ground := Ground.guard }], guard := some (2, true) }) (v := undef) rfl (by kernel_rfl) (by kernel_rfl) (by kernel_rfl) (fun _ _ _ h => h) (Or.inr ⟨by rfl, rfl⟩) (by assumption) ?_
    (try simp only [Act.put, List.setIfInBounds_toArray, List.set_cons_zero, List.set_cons_succ])
    refine wpAnyH_take (i := 7) (oi := { dst := some 22, op := Op.pick (Operand.tmp 17) (Operand.tmp 21) (Operand.const (Value.bool false)), type := 4, pos := "inbox.go:60", after := #[{ on := 2, ground := Ground.data }, { on := 6, ground := Ground.data }], guard := none }) (v := ?vc_8) rfl (by kernel_rfl) (by kernel_rfl) (by kernel_rfl) (fun _ _ _ h => h) (Or.inl ⟨by rfl, ?hyc_8⟩) (by assumption) ?restc_8
    case hyc_8 =>
      intro w hSw
      (try dsimp only at hSw)
      go_simp
      (try with_reducible rfl)
    (try simp only [Act.put, List.setIfInBounds_toArray, List.set_cons_zero, List.set_cons_succ])
    refine wpAnyH_take (i := 8) (oi := { dst := some 23, op := Op.move (Operand.tmp 22), type := 4, pos := "inbox.go:60", after := #[{ on := 7, ground := Ground.data }, { on := 5, ground := Ground.chain }], guard := none }) (v := ?vc_9) rfl (by kernel_rfl) (by kernel_rfl) (by kernel_rfl) (fun _ _ _ h => h) (Or.inl ⟨by rfl, ?hyc_9⟩) (by assumption) ?restc_9
    case hyc_9 =>
      intro w hSw
      (try dsimp only at hSw)
      go_simp
      (try with_reducible rfl)
    (try simp only [Act.put, List.setIfInBounds_toArray, List.set_cons_zero, List.set_cons_succ])
    refine wpAnyH_take (i := 9) (oi := { dst := some 24, op := Op.move (Operand.tmp 1), type := 36, pos := "inbox.go:60", after := #[{ on := 8, ground := Ground.guard }], guard := some (8, true) }) (v := undef) rfl (by kernel_rfl) (by kernel_rfl) (by kernel_rfl) (fun _ _ _ h => h) (Or.inr ⟨by rfl, rfl⟩) (by assumption) ?_
    (try simp only [Act.put, List.setIfInBounds_toArray, List.set_cons_zero, List.set_cons_succ])
    refine wpAnyH_take (i := 10) (oi := { dst := some 25, op := Op.fieldAddr 35 (Operand.tmp 2) 2, type := 0, pos := "inbox.go:60", after := #[{ on := 8, ground := Ground.guard }], guard := some (8, true) }) (v := undef) rfl (by kernel_rfl) (by kernel_rfl) (by kernel_rfl) (fun _ _ _ h => h) (Or.inr ⟨by rfl, rfl⟩) (by assumption) ?_
    (try simp only [Act.put, List.setIfInBounds_toArray, List.set_cons_zero, List.set_cons_succ])
    refine wpAnyH_take (i := 11) (oi := { dst := some 26, op := Op.fieldAddr 32 (Operand.tmp 25) 1, type := 0, pos := "inbox.go:60", after := #[{ on := 10, ground := Ground.data }, { on := 8, ground := Ground.guard }], guard := some (8, true) }) (v := undef) rfl (by kernel_rfl) (by kernel_rfl) (by kernel_rfl) (fun _ _ _ h => h) (Or.inr ⟨by rfl, rfl⟩) (by assumption) ?_
    (try simp only [Act.put, List.setIfInBounds_toArray, List.set_cons_zero, List.set_cons_succ])
    refine wpAnyH_take (i := 12) (oi := { dst := some 27, op := Op.load 30 (Operand.tmp 26), type := 30, pos := "inbox.go:60", after := #[{ on := 11, ground := Ground.data }, { on := 8, ground := Ground.guard }], guard := some (8, true) }) (v := undef) rfl (by kernel_rfl) (by kernel_rfl) (by kernel_rfl) (fun _ _ _ h => h) (Or.inr ⟨by rfl, rfl⟩) (by assumption) ?_
    (try simp only [Act.put, List.setIfInBounds_toArray, List.set_cons_zero, List.set_cons_succ])
    refine wpAnyH_take (i := 13) (oi := { dst := some 28, op := Op.indexAddr 30 (Operand.tmp 27) (Operand.const (Value.int IntKind.i64 0)), type := 0, pos := "inbox.go:60", after := #[{ on := 12, ground := Ground.data }, { on := 8, ground := Ground.guard }], guard := some (8, true) }) (v := undef) rfl (by kernel_rfl) (by kernel_rfl) (by kernel_rfl) (fun _ _ _ h => h) (Or.inr ⟨by rfl, rfl⟩) (by assumption) ?_
    (try simp only [Act.put, List.setIfInBounds_toArray, List.set_cons_zero, List.set_cons_succ])
    refine wpAnyH_take (i := 14) (oi := { dst := some 29, op := Op.fieldAddr 59 (Operand.tmp 28) 1, type := 0, pos := "inbox.go:60", after := #[{ on := 13, ground := Ground.data }, { on := 8, ground := Ground.guard }], guard := some (8, true) }) (v := undef) rfl (by kernel_rfl) (by kernel_rfl) (by kernel_rfl) (fun _ _ _ h => h) (Or.inr ⟨by rfl, rfl⟩) (by assumption) ?_
    (try simp only [Act.put, List.setIfInBounds_toArray, List.set_cons_zero, List.set_cons_succ])
    refine wpAnyH_take (i := 15) (oi := { dst := some 30, op := Op.load 57 (Operand.tmp 29), type := 57, pos := "inbox.go:60", after := #[{ on := 14, ground := Ground.data }, { on := 8, ground := Ground.guard }], guard := some (8, true) }) (v := undef) rfl (by kernel_rfl) (by kernel_rfl) (by kernel_rfl) (fun _ _ _ h => h) (Or.inr ⟨by rfl, rfl⟩) (by assumption) ?_
    (try simp only [Act.put, List.setIfInBounds_toArray, List.set_cons_zero, List.set_cons_succ])
    refine wpAnyH_take (i := 16) (oi := { dst := some 31, op := Op.call { callee := Callee.value (Operand.func 48), args := #[Operand.tmp 24, Operand.tmp 30], argTypes := #[36, 57] }, type := 4, pos := "inbox.go:60", after := #[{ on := 9, ground := Ground.data }, { on := 15, ground := Ground.data }, { on := 8, ground := Ground.chain }, { on := 8, ground := Ground.guard }], guard := some (8, true) }) (v := undef) rfl (by kernel_rfl) (by kernel_rfl) (by kernel_rfl) (fun _ _ _ h => h) (Or.inr ⟨by rfl, rfl⟩) (by assumption) ?_
    (try simp only [Act.put, List.setIfInBounds_toArray, List.set_cons_zero, List.set_cons_succ])
    refine wpAnyH_take (i := 17) (oi := { dst := some 32, op := Op.pick (Operand.tmp 23) (Operand.tmp 31) (Operand.const (Value.bool false)), type := 4, pos := "inbox.go:60", after := #[{ on := 8, ground := Ground.data }, { on := 16, ground := Ground.data }], guard := none }) (v := ?vc_18) rfl (by kernel_rfl) (by kernel_rfl) (by kernel_rfl) (fun _ _ _ h => h) (Or.inl ⟨by rfl, ?hyc_18⟩) (by assumption) ?restc_18
    case hyc_18 =>
      intro w hSw
      (try dsimp only at hSw)
      go_simp
      (try with_reducible rfl)
    (try simp only [Act.put, List.setIfInBounds_toArray, List.set_cons_zero, List.set_cons_succ])
    refine wpAnyH_take (i := 18) (oi := { dst := some 4, op := Op.assign (Operand.tmp 32), type := 4, pos := "inbox.go:60", after := #[{ on := 17, ground := Ground.data }, { on := 16, ground := Ground.chain }, { on := 0, ground := Ground.phase }, { on := 1, ground := Ground.phase }, { on := 2, ground := Ground.phase }, { on := 3, ground := Ground.phase }, { on := 4, ground := Ground.phase }, { on := 5, ground := Ground.phase }, { on := 6, ground := Ground.phase }, { on := 7, ground := Ground.phase }, { on := 8, ground := Ground.phase }, { on := 9, ground := Ground.phase }, { on := 10, ground := Ground.phase }, { on := 11, ground := Ground.phase }, { on := 12, ground := Ground.phase }, { on := 13, ground := Ground.phase }, { on := 14, ground := Ground.phase }, { on := 15, ground := Ground.phase }, { on := 16, ground := Ground.phase }, { on := 17, ground := Ground.phase }], guard := none }) (v := ?vc_19) rfl (by kernel_rfl) (by kernel_rfl) (by kernel_rfl) (fun _ _ _ h => h) (Or.inl ⟨by rfl, ?hyc_19⟩) (by assumption) ?restc_19
    case hyc_19 =>
      intro w hSw
      (try dsimp only at hSw)
      go_simp
      (try with_reducible rfl)
    (try simp only [Act.put, List.setIfInBounds_toArray, List.set_cons_zero, List.set_cons_succ])
    refine wpAnyH_done (by kernel_rfl) ?_ _
    go_wp2_with fail
    go_ret
    exact ⟨by rw [HR.out]; rfl, HW.out.trans (Below.refl _ W4).drew⟩

set_option maxRecDepth 100000 in
set_option maxHeartbeats 4000000 in
theorem rmay_any (fr sq : Int) (key : ByteArray) (Av : Option Addr) (cv m : Nat) (l : List Vr) (hm : l.length = m) (h1 : 1 ≤ m) (hok : okV (l.getD 0 v0)) (Ar : Option Addr) (kr cr : Nat) (A : Option Addr) (c n : Nat) (v : List Int) (hn : v.length = n) (hbig : n ≤ 140737488355328) (w : World) (hv : Vs w 0 w.heap.size Av l) (hr : Ns .i64 w w.heap.size A v) :
    Calls Try.prog 38 #[.agg #[.int .i64 fr, .int .i64 sq, .string key, .slice Av m cv, .slice Ar kr cr], .slice A n c] w (fun e w' => e = .returned (.bool (decide (mayV v (l.getD 0 v0)))) ∧ Below w.heap.size w w') := by
  obtain ⟨b, off, Ap, cp, rfl, _, hbB, _, _, x2, _, _, hpa⟩ := hv.at hm (Below.refl _ w) h1 rfl
  have hgs : ∀ V, Below w.heap.size w V → Calls Try.prog 37 #[.agg #[.int .i64 fr, .int .i64 sq, .string key, .slice (some ⟨b, off, none⟩) m cv, .slice Ar kr cr]] V (fun e w' => e = .returned (.agg #[.int .i64 (l.getD 0 v0).s, .int .i64 (l.getD 0 v0).n]) ∧ Below V.heap.size V w') := fun V hV => rdot_any fr sq key _ cv m l hm h1 Ar kr cr V ((hv.below hV).more hV.size)
  obtain ⟨y, hy⟩ : ∃ y, l.getD 0 v0 = y := ⟨_, rfl⟩
  rw [hy] at hok x2 hpa hgs ⊢
  obtain ⟨s, vn, vp, vg, vx⟩ := y
  simp only at x2 hgs
  rw [Nat.zero_mul, Nat.add_zero] at x2
  obtain ⟨kp, hkp⟩ : ∃ k, vp.length = k := ⟨_, rfl⟩
  rw [hkp] at x2
  have hs : -9223372036854775808 ≤ s ∧ s ≤ 9223372036854775807 := by have := hok.1; unfold okD at this; simp only at this; omega
  have hnx := fun V (hV : Below w.heap.size w V) => Vect.ref_next_any A c n v hn s hs V ((hr.below hV).more hV.size) hbig
  have hho := fun V (hV : Below w.heap.size w V) => Vect.ref_holds_any A Ap c cp n kp v vp hn hkp (fun x hx => by have := hok.2.1.2.1 x hx; unfold okSp at this; omega) V ((hr.below hV).more hV.size) ((hpa.1.below hV).more hV.size) hbig (by have := hpa.2.2.1; simp only at this; omega)
  obtain ⟨⟨d1, d2, E⟩, hQ⟩ : ∃ Q, Vect.nextV v s = Q := ⟨_, rfl⟩
  rw [hQ] at hnx
  unfold Vect.NextPost at hnx
  simp only at hnx
  obtain ⟨q, hq⟩ : ∃ q, decide (Vect.HoldsV v vp) = q := ⟨_, rfl⟩
  rw [hq] at hho
  obtain ⟨R, hR⟩ : ∃ R, decide (mayV v ⟨s, vn, vp, vg, vx⟩) = R := ⟨_, rfl⟩
  rw [hR]
  obtain ⟨U, hU⟩ : ∃ U, w.alloc (.cells #[.int .i64 fr, .int .i64 sq, .string key, .slice (some ⟨b, off, none⟩) m cv, .slice Ar kr cr] 41) = U := ⟨_, rfl⟩
  have bU : Below w.heap.size w U := by rw [← hU]; exact (Below.refl _ w).alloc (Nat.le_refl _) _
  have BU : Bn w.heap.size 41 [.int .i64 fr, .int .i64 sq, .string key, .slice (some ⟨b, off, none⟩) m cv, .slice Ar kr cr] U := by rw [← hU]; exact heap_alloc_new w _
  obtain ⟨fb, hfb⟩ : ∃ k, w.heap.size = k := ⟨_, rfl⟩
  have HB := Lib.hid (And.intro bU (And.intro BU (And.intro x2 hbB)))
  have HG := Lib.hid hgs
  have HN := Lib.hid hnx
  have HO := Lib.hid hho
  have HQ := Lib.hid (And.intro hQ (And.intro hq hR))
  have HFB := Lib.hid hfb
  have u0 := BU.cell 0
  have u1 := BU.cell 1
  have u2 := BU.cell 2
  have u3 := BU.cell 3
  have u4 := BU.cell 4
  simp only [List.getElem?_cons_zero, List.getElem?_cons_succ] at u0 u1 u2 u3 u4
  clear hm hv hr hok hbB x2 hpa hgs hnx hho hQ hq hR bU BU hkp hs hy hn hfb
  have h0m : 0 < m := h1
  have hfd : ∀ V : World, (Instr.field 56 (.agg #[.int .i64 s, .int .i64 vn]) 0).run Try.prog V = .ok (.int .i64 s) V := fun _ => by kernel_rfl
  go_enter Try.func38, Try.ntmps38
  go_wp2_with fail
  refine (HG.out U HB.out.1).mono ?_
  rintro e w2 ⟨rfl, b2⟩
  have bw2 : Below w.heap.size w w2 := HB.out.1.trans (b2.mono HB.out.1.size)
  have HB2 := Lib.hid (And.intro b2 bw2)
  clear b2 bw2
  go_wp2_with fail
  refine (HN.out w2 HB2.out.2).mono ?_
  rintro e w3 ⟨rfl, b3⟩
  obtain ⟨W4, hW4⟩ : ∃ W, w3.alloc (.cells #[.int .i64 d1, .int .i64 d2] 56) = W := ⟨_, rfl⟩
  have b4 : Below w3.heap.size w3 W4 := by rw [← hW4]; exact (Below.refl _ w3).alloc (Nat.le_refl _) _
  have B4 : Bn w3.heap.size 56 [.int .i64 d1, .int .i64 d2] W4 := by rw [← hW4]; exact heap_alloc_new w3 _
  have bw4 : Below w.heap.size w W4 := HB2.out.2.trans ((b3.mono HB2.out.2.size).trans (b4.mono (Nat.le_trans HB2.out.2.size b3.size)))
  have BF : Bn w.heap.size 41 [.int .i64 fr, .int .i64 sq, .string key, .slice (some ⟨b, off, none⟩) m cv, .slice Ar kr cr] W4 := by
    have h := HB.out.2.1
    have hl := h.lt
    exact ((h.same (HB2.out.1.block _ hl)).same (b3.block _ (Nat.lt_of_lt_of_le hl HB2.out.1.size))).same (b4.block _ (Nat.lt_of_lt_of_le hl (Nat.le_trans HB2.out.1.size b3.size)))
  obtain ⟨db, hdb⟩ : ∃ k, w3.heap.size = k := ⟨_, rfl⟩
  rw [HFB.out] at BF
  rw [hdb] at B4
  have HS2 : Hid (∀ V, Below W4.heap.size W4 V → Below W4.heap.size W4 V ∧ V.cell? ⟨fb, 0, none⟩ = some (.int .i64 fr) ∧ V.cell? ⟨fb, 1, none⟩ = some (.int .i64 sq) ∧ V.cell? ⟨fb, 2, none⟩ = some (.string key) ∧ V.cell? ⟨fb, 3, none⟩ = some (.slice (some ⟨b, off, none⟩) m cv) ∧ V.cell? ⟨fb, 4, none⟩ = some (.slice Ar kr cr) ∧ V.cell? ⟨db, 0, none⟩ = some (.int .i64 d1) ∧ V.cell? ⟨db, 1, none⟩ = some (.int .i64 d2) ∧ V.cell? ⟨b, off + 2, none⟩ = some (.slice Ap kp cp)) := Lib.hid fun V hV => by
    have g1 := BF.same (hV.block _ BF.lt)
    have g2 := B4.same (hV.block _ B4.lt)
    have g3 := (bw4.trans (hV.mono bw4.size)).cell (p := ⟨b, off + 2, none⟩) HB.out.2.2.2
    exact ⟨hV, (g1.cell 0).trans rfl, (g1.cell 1).trans rfl, (g1.cell 2).trans rfl, (g1.cell 3).trans rfl, (g1.cell 4).trans rfl, (g2.cell 0).trans rfl, (g2.cell 1).trans rfl, g3.trans HB.out.2.2.1⟩
  have HD : Hid (∀ V, Below W4.heap.size W4 V → Calls Try.prog 37 #[.agg #[.int .i64 fr, .int .i64 sq, .string key, .slice (some ⟨b, off, none⟩) m cv, .slice Ar kr cr]] V (fun e w' => e = .returned (.agg #[.int .i64 s, .int .i64 vn]) ∧ Below V.heap.size V w')) := Lib.hid fun V hV => HG.out V (bw4.trans (hV.mono bw4.size))
  have HH : Hid (∀ V, Below W4.heap.size W4 V → Calls Try.prog 22 #[.slice A n c, .slice Ap kp cp] V (fun e w' => e = .returned (.bool q) ∧ Below V.heap.size V w')) := Lib.hid fun V hV => HO.out V (bw4.trans (hV.mono bw4.size))
  have HW := Lib.hid bw4
  have HW4 := Lib.hid hW4
  have HDB := Lib.hid hdb
  clear b3 b4 B4 bw4 BF hW4 hdb
  by_cases hE : E = 0
  · subst hE
    have hd1 := Vect.next_fst HQ.out.1 rfl
    subst hd1
    by_cases hd : d2 = vn
    · subst hd
      have HR := Lib.hid (HQ.out.2.2.symm.trans (may_yes HQ.out.1 HQ.out.2.1))
      go_wp2_with fail
      rw [HFB.out, HW4.out, HDB.out]
      refine wp_region_held_drew (S := (fun V => Below W4.heap.size W4 V ∧ V.cell? ⟨fb, 0, none⟩ = some (.int .i64 fr) ∧ V.cell? ⟨fb, 1, none⟩ = some (.int .i64 sq) ∧ V.cell? ⟨fb, 2, none⟩ = some (.string key) ∧ V.cell? ⟨fb, 3, none⟩ = some (.slice (some ⟨b, off, none⟩) m cv) ∧ V.cell? ⟨fb, 4, none⟩ = some (.slice Ar kr cr) ∧ V.cell? ⟨db, 0, none⟩ = some (.int .i64 d1) ∧ V.cell? ⟨db, 1, none⟩ = some (.int .i64 d2) ∧ V.cell? ⟨b, off + 2, none⟩ = some (.slice Ap kp cp))) (by kernel_rfl) (HS2.out _ (Below.refl _ W4).drew) (fun hHeld => ?_)
      refine wpAnyH_take (i := 0) (oi := { dst := some 15, op := Op.move (Operand.tmp 6), type := 3, pos := "ref.go:53", after := #[], guard := none }) (v := ?va_1) rfl (by kernel_rfl) (by kernel_rfl) (by kernel_rfl) (fun _ _ _ h => h) (Or.inl ⟨by rfl, ?hya_1⟩) (by assumption) ?resta_1
      case hya_1 =>
        intro w hSw
        (try dsimp only at hSw)
        go_simp
        (try with_reducible rfl)
      (try simp only [Act.put, List.setIfInBounds_toArray, List.set_cons_zero, List.set_cons_succ])
      refine wpAnyH_take (i := 1) (oi := { dst := some 16, op := Op.binOp BinOp.eql 3 (Operand.tmp 15) (Operand.const (Value.int IntKind.i64 0)) 3, type := 4, pos := "ref.go:53", after := #[{ on := 0, ground := Ground.data }], guard := none }) (v := ?va_2) rfl (by kernel_rfl) (by kernel_rfl) (by kernel_rfl) (fun _ _ _ h => h) (Or.inl ⟨by rfl, ?hya_2⟩) (by assumption) ?resta_2
      case hya_2 =>
        intro w hSw
        (try dsimp only at hSw)
        go_simp
        (try with_reducible rfl)
      (try simp only [Act.put, List.setIfInBounds_toArray, List.set_cons_zero, List.set_cons_succ])
      refine wpAnyH_take (i := 2) (oi := { dst := some 17, op := Op.move (Operand.tmp 16), type := 4, pos := "ref.go:53", after := #[{ on := 1, ground := Ground.data }], guard := none }) (v := ?va_3) rfl (by kernel_rfl) (by kernel_rfl) (by kernel_rfl) (fun _ _ _ h => h) (Or.inl ⟨by rfl, ?hya_3⟩) (by assumption) ?resta_3
      case hya_3 =>
        intro w hSw
        (try dsimp only at hSw)
        go_simp
        (try with_reducible rfl)
      (try simp only [Act.put, List.setIfInBounds_toArray, List.set_cons_zero, List.set_cons_succ])
      refine wpAnyH_take (i := 3) (oi := { dst := some 18, op := Op.load 56 (Operand.tmp 5), type := 56, pos := "ref.go:53", after := #[{ on := 2, ground := Ground.guard }], guard := some (2, true) }) (v := ?va_4) rfl (by kernel_rfl) (by kernel_rfl) (by kernel_rfl) (fun _ _ _ h => h) (Or.inl ⟨by rfl, ?hya_4⟩) (by assumption) ?resta_4
      case hya_4 =>
        intro w hSw
        (try dsimp only at hSw)
        go_simp
        (try with_reducible rfl)
      (try simp only [Act.put, List.setIfInBounds_toArray, List.set_cons_zero, List.set_cons_succ])
      refine wpAnyH_take (i := 4) (oi := { dst := some 19, op := Op.load 41 (Operand.tmp 2), type := 41, pos := "ref.go:53", after := #[{ on := 2, ground := Ground.guard }], guard := some (2, true) }) (v := ?va_5) rfl (by kernel_rfl) (by kernel_rfl) (by kernel_rfl) (fun _ _ _ h => h) (Or.inl ⟨by rfl, ?hya_5⟩) (by assumption) ?resta_5
      case hya_5 =>
        intro w hSw
        (try dsimp only at hSw)
        go_simp
        (try with_reducible rfl)
      (try simp only [Act.put, List.setIfInBounds_toArray, List.set_cons_zero, List.set_cons_succ])
      refine wpAnyH_ready (rs := [5]) (by kernel_rfl) (by simp) ?_
      refine AllReadyH.cons (o := { dst := some 20, op := Op.call { callee := Callee.value (Operand.func 37), args := #[Operand.tmp 19], argTypes := #[41] }, type := 56, pos := "ref.go:53", after := #[{ on := 4, ground := Ground.data }, { on := 2, ground := Ground.chain }, { on := 2, ground := Ground.guard }], guard := some (2, true) }) rfl (fun K hK => ?_) AllReadyH.nil
      go_simp
      (go_at_call 37; refine (HD.out _ hHeld.1).mono ?_; rintro e6 w6 ⟨rfl, b6⟩; have hb6 : Below W4.heap.size W4 w6 := hHeld.1.trans (b6.mono hHeld.1.size))
      go_wp2_with fail
      refine hK.out _ _ (HS2.out _ hb6) (fun hHeld => ?_)
      clear hK K
      (try simp only [Act.put, List.setIfInBounds_toArray, List.set_cons_zero, List.set_cons_succ])
      refine wpAnyH_take (i := 6) (oi := { dst := some 21, op := Op.binOp BinOp.eql 56 (Operand.tmp 18) (Operand.tmp 20) 56, type := 4, pos := "ref.go:53", after := #[{ on := 3, ground := Ground.data }, { on := 5, ground := Ground.data }, { on := 2, ground := Ground.guard }], guard := some (2, true) }) (v := ?va_6) rfl (by kernel_rfl) (by kernel_rfl) (by kernel_rfl) (fun _ _ _ h => h) (Or.inl ⟨by rfl, ?hya_6⟩) (by assumption) ?resta_6
      case hya_6 =>
        intro w hSw
        (try dsimp only at hSw)
        go_simp
        (try with_reducible rfl)
      (try simp only [Act.put, List.setIfInBounds_toArray, List.set_cons_zero, List.set_cons_succ])
      refine wpAnyH_take (i := 7) (oi := { dst := some 22, op := Op.pick (Operand.tmp 17) (Operand.tmp 21) (Operand.const (Value.bool false)), type := 4, pos := "ref.go:53", after := #[{ on := 2, ground := Ground.data }, { on := 6, ground := Ground.data }], guard := none }) (v := ?va_7) rfl (by kernel_rfl) (by kernel_rfl) (by kernel_rfl) (fun _ _ _ h => h) (Or.inl ⟨by rfl, ?hya_7⟩) (by assumption) ?resta_7
      case hya_7 =>
        intro w hSw
        (try dsimp only at hSw)
        go_simp
        (try with_reducible rfl)
      (try simp only [Act.put, List.setIfInBounds_toArray, List.set_cons_zero, List.set_cons_succ])
      refine wpAnyH_take (i := 8) (oi := { dst := some 23, op := Op.move (Operand.tmp 22), type := 4, pos := "ref.go:53", after := #[{ on := 7, ground := Ground.data }, { on := 5, ground := Ground.chain }], guard := none }) (v := ?va_8) rfl (by kernel_rfl) (by kernel_rfl) (by kernel_rfl) (fun _ _ _ h => h) (Or.inl ⟨by rfl, ?hya_8⟩) (by assumption) ?resta_8
      case hya_8 =>
        intro w hSw
        (try dsimp only at hSw)
        go_simp
        (try with_reducible rfl)
      (try simp only [Act.put, List.setIfInBounds_toArray, List.set_cons_zero, List.set_cons_succ])
      refine wpAnyH_take (i := 9) (oi := { dst := some 24, op := Op.move (Operand.tmp 1), type := 36, pos := "ref.go:53", after := #[{ on := 8, ground := Ground.guard }], guard := some (8, true) }) (v := ?va_9) rfl (by kernel_rfl) (by kernel_rfl) (by kernel_rfl) (fun _ _ _ h => h) (Or.inl ⟨by rfl, ?hya_9⟩) (by assumption) ?resta_9
      case hya_9 =>
        intro w hSw
        (try dsimp only at hSw)
        go_simp
        (try with_reducible rfl)
      (try simp only [Act.put, List.setIfInBounds_toArray, List.set_cons_zero, List.set_cons_succ])
      refine wpAnyH_take (i := 10) (oi := { dst := some 25, op := Op.fieldAddr 41 (Operand.tmp 2) 2, type := 0, pos := "ref.go:53", after := #[{ on := 8, ground := Ground.guard }], guard := some (8, true) }) (v := ?va_10) rfl (by kernel_rfl) (by kernel_rfl) (by kernel_rfl) (fun _ _ _ h => h) (Or.inl ⟨by rfl, ?hya_10⟩) (by assumption) ?resta_10
      case hya_10 =>
        intro w hSw
        (try dsimp only at hSw)
        go_simp
        (try with_reducible rfl)
      (try simp only [Act.put, List.setIfInBounds_toArray, List.set_cons_zero, List.set_cons_succ])
      refine wpAnyH_take (i := 11) (oi := { dst := some 26, op := Op.fieldAddr 32 (Operand.tmp 25) 1, type := 0, pos := "ref.go:53", after := #[{ on := 10, ground := Ground.data }, { on := 8, ground := Ground.guard }], guard := some (8, true) }) (v := ?va_11) rfl (by kernel_rfl) (by kernel_rfl) (by kernel_rfl) (fun _ _ _ h => h) (Or.inl ⟨by rfl, ?hya_11⟩) (by assumption) ?resta_11
      case hya_11 =>
        intro w hSw
        (try dsimp only at hSw)
        go_simp
        (try with_reducible rfl)
      (try simp only [Act.put, List.setIfInBounds_toArray, List.set_cons_zero, List.set_cons_succ])
      refine wpAnyH_take (i := 12) (oi := { dst := some 27, op := Op.load 30 (Operand.tmp 26), type := 30, pos := "ref.go:53", after := #[{ on := 11, ground := Ground.data }, { on := 8, ground := Ground.guard }], guard := some (8, true) }) (v := ?va_12) rfl (by kernel_rfl) (by kernel_rfl) (by kernel_rfl) (fun _ _ _ h => h) (Or.inl ⟨by rfl, ?hya_12⟩) (by assumption) ?resta_12
      case hya_12 =>
        intro w hSw
        (try dsimp only at hSw)
        go_simp
        (try with_reducible rfl)
      (try simp only [Act.put, List.setIfInBounds_toArray, List.set_cons_zero, List.set_cons_succ])
      refine wpAnyH_take (i := 13) (oi := { dst := some 28, op := Op.indexAddr 30 (Operand.tmp 27) (Operand.const (Value.int IntKind.i64 0)), type := 0, pos := "ref.go:53", after := #[{ on := 12, ground := Ground.data }, { on := 8, ground := Ground.guard }], guard := some (8, true) }) (v := ?va_13) rfl (by kernel_rfl) (by kernel_rfl) (by kernel_rfl) (fun _ _ _ h => h) (Or.inl ⟨by rfl, ?hya_13⟩) (by assumption) ?resta_13
      case hya_13 =>
        intro w hSw
        (try dsimp only at hSw)
        go_simp
        (try with_reducible rfl)
      (try simp only [Act.put, List.setIfInBounds_toArray, List.set_cons_zero, List.set_cons_succ])
      refine wpAnyH_take (i := 14) (oi := { dst := some 29, op := Op.fieldAddr 59 (Operand.tmp 28) 1, type := 0, pos := "ref.go:53", after := #[{ on := 13, ground := Ground.data }, { on := 8, ground := Ground.guard }], guard := some (8, true) }) (v := ?va_14) rfl (by kernel_rfl) (by kernel_rfl) (by kernel_rfl) (fun _ _ _ h => h) (Or.inl ⟨by rfl, ?hya_14⟩) (by assumption) ?resta_14
      case hya_14 =>
        intro w hSw
        (try dsimp only at hSw)
        go_simp
        (try with_reducible rfl)
      (try simp only [Act.put, List.setIfInBounds_toArray, List.set_cons_zero, List.set_cons_succ])
      refine wpAnyH_take (i := 15) (oi := { dst := some 30, op := Op.load 57 (Operand.tmp 29), type := 57, pos := "ref.go:53", after := #[{ on := 14, ground := Ground.data }, { on := 8, ground := Ground.guard }], guard := some (8, true) }) (v := ?va_15) rfl (by kernel_rfl) (by kernel_rfl) (by kernel_rfl) (fun _ _ _ h => h) (Or.inl ⟨by rfl, ?hya_15⟩) (by assumption) ?resta_15
      case hya_15 =>
        intro w hSw
        (try dsimp only at hSw)
        go_simp
        (try with_reducible rfl)
      (try simp only [Act.put, List.setIfInBounds_toArray, List.set_cons_zero, List.set_cons_succ])
      refine wpAnyH_ready (rs := [16]) (by kernel_rfl) (by simp) ?_
      refine AllReadyH.cons (o := { dst := some 31, op := Op.call { callee := Callee.value (Operand.func 22), args := #[Operand.tmp 24, Operand.tmp 30], argTypes := #[36, 57] }, type := 4, pos := "ref.go:53", after := #[{ on := 9, ground := Ground.data }, { on := 15, ground := Ground.data }, { on := 8, ground := Ground.chain }, { on := 8, ground := Ground.guard }], guard := some (8, true) }) rfl (fun K hK => ?_) AllReadyH.nil
      go_simp
      (go_at_call 22; refine (HH.out _ hHeld.1).mono ?_; rintro e7 w7 ⟨rfl, b7⟩; have hb7 : Below W4.heap.size W4 w7 := hHeld.1.trans (b7.mono hHeld.1.size))
      go_wp2_with fail
      refine hK.out _ _ (HS2.out _ hb7) (fun hHeld => ?_)
      clear hK K
      (try simp only [Act.put, List.setIfInBounds_toArray, List.set_cons_zero, List.set_cons_succ])
      refine wpAnyH_take (i := 17) (oi := { dst := some 32, op := Op.pick (Operand.tmp 23) (Operand.tmp 31) (Operand.const (Value.bool false)), type := 4, pos := "ref.go:53", after := #[{ on := 8, ground := Ground.data }, { on := 16, ground := Ground.data }], guard := none }) (v := ?va_16) rfl (by kernel_rfl) (by kernel_rfl) (by kernel_rfl) (fun _ _ _ h => h) (Or.inl ⟨by rfl, ?hya_16⟩) (by assumption) ?resta_16
      case hya_16 =>
        intro w hSw
        (try dsimp only at hSw)
        go_simp
        (try with_reducible rfl)
      (try simp only [Act.put, List.setIfInBounds_toArray, List.set_cons_zero, List.set_cons_succ])
      refine wpAnyH_take (i := 18) (oi := { dst := some 4, op := Op.assign (Operand.tmp 32), type := 4, pos := "ref.go:53", after := #[{ on := 17, ground := Ground.data }, { on := 16, ground := Ground.chain }, { on := 0, ground := Ground.phase }, { on := 1, ground := Ground.phase }, { on := 2, ground := Ground.phase }, { on := 3, ground := Ground.phase }, { on := 4, ground := Ground.phase }, { on := 5, ground := Ground.phase }, { on := 6, ground := Ground.phase }, { on := 7, ground := Ground.phase }, { on := 8, ground := Ground.phase }, { on := 9, ground := Ground.phase }, { on := 10, ground := Ground.phase }, { on := 11, ground := Ground.phase }, { on := 12, ground := Ground.phase }, { on := 13, ground := Ground.phase }, { on := 14, ground := Ground.phase }, { on := 15, ground := Ground.phase }, { on := 16, ground := Ground.phase }, { on := 17, ground := Ground.phase }], guard := none }) (v := ?va_17) rfl (by kernel_rfl) (by kernel_rfl) (by kernel_rfl) (fun _ _ _ h => h) (Or.inl ⟨by rfl, ?hya_17⟩) (by assumption) ?resta_17
      case hya_17 =>
        intro w hSw
        (try dsimp only at hSw)
        go_simp
        (try with_reducible rfl)
      (try simp only [Act.put, List.setIfInBounds_toArray, List.set_cons_zero, List.set_cons_succ])
      refine wpAnyH_done (by kernel_rfl) ?_ _
      go_wp2_with fail
      go_ret
      exact ⟨by rw [HR.out]; cases q <;> rfl, HW.out.trans (hb7.mono HW.out.size)⟩
    · have HR := Lib.hid (HQ.out.2.2.symm.trans (may_not HQ.out.1 fun h => hd h.2))
      have hne : (d2 == vn) = false := by simp [hd]
      clear hd
      go_wp2_with fail
      rw [HFB.out, HW4.out, HDB.out]
      refine wp_region_held_drew (S := (fun V => Below W4.heap.size W4 V ∧ V.cell? ⟨fb, 0, none⟩ = some (.int .i64 fr) ∧ V.cell? ⟨fb, 1, none⟩ = some (.int .i64 sq) ∧ V.cell? ⟨fb, 2, none⟩ = some (.string key) ∧ V.cell? ⟨fb, 3, none⟩ = some (.slice (some ⟨b, off, none⟩) m cv) ∧ V.cell? ⟨fb, 4, none⟩ = some (.slice Ar kr cr) ∧ V.cell? ⟨db, 0, none⟩ = some (.int .i64 d1) ∧ V.cell? ⟨db, 1, none⟩ = some (.int .i64 d2) ∧ V.cell? ⟨b, off + 2, none⟩ = some (.slice Ap kp cp))) (by kernel_rfl) (HS2.out _ (Below.refl _ W4).drew) (fun hHeld => ?_)
      refine wpAnyH_take (i := 0) (oi := { dst := some 15, op := Op.move (Operand.tmp 6), type := 3, pos := "ref.go:53", after := #[], guard := none }) (v := ?vb_1) rfl (by kernel_rfl) (by kernel_rfl) (by kernel_rfl) (fun _ _ _ h => h) (Or.inl ⟨by rfl, ?hyb_1⟩) (by assumption) ?restb_1
      case hyb_1 =>
        intro w hSw
        (try dsimp only at hSw)
        go_simp
        (try with_reducible rfl)
      (try simp only [Act.put, List.setIfInBounds_toArray, List.set_cons_zero, List.set_cons_succ])
      refine wpAnyH_take (i := 1) (oi := { dst := some 16, op := Op.binOp BinOp.eql 3 (Operand.tmp 15) (Operand.const (Value.int IntKind.i64 0)) 3, type := 4, pos := "ref.go:53", after := #[{ on := 0, ground := Ground.data }], guard := none }) (v := ?vb_2) rfl (by kernel_rfl) (by kernel_rfl) (by kernel_rfl) (fun _ _ _ h => h) (Or.inl ⟨by rfl, ?hyb_2⟩) (by assumption) ?restb_2
      case hyb_2 =>
        intro w hSw
        (try dsimp only at hSw)
        go_simp
        (try with_reducible rfl)
      (try simp only [Act.put, List.setIfInBounds_toArray, List.set_cons_zero, List.set_cons_succ])
      refine wpAnyH_take (i := 2) (oi := { dst := some 17, op := Op.move (Operand.tmp 16), type := 4, pos := "ref.go:53", after := #[{ on := 1, ground := Ground.data }], guard := none }) (v := ?vb_3) rfl (by kernel_rfl) (by kernel_rfl) (by kernel_rfl) (fun _ _ _ h => h) (Or.inl ⟨by rfl, ?hyb_3⟩) (by assumption) ?restb_3
      case hyb_3 =>
        intro w hSw
        (try dsimp only at hSw)
        go_simp
        (try with_reducible rfl)
      (try simp only [Act.put, List.setIfInBounds_toArray, List.set_cons_zero, List.set_cons_succ])
      refine wpAnyH_take (i := 3) (oi := { dst := some 18, op := Op.load 56 (Operand.tmp 5), type := 56, pos := "ref.go:53", after := #[{ on := 2, ground := Ground.guard }], guard := some (2, true) }) (v := ?vb_4) rfl (by kernel_rfl) (by kernel_rfl) (by kernel_rfl) (fun _ _ _ h => h) (Or.inl ⟨by rfl, ?hyb_4⟩) (by assumption) ?restb_4
      case hyb_4 =>
        intro w hSw
        (try dsimp only at hSw)
        go_simp
        (try with_reducible rfl)
      (try simp only [Act.put, List.setIfInBounds_toArray, List.set_cons_zero, List.set_cons_succ])
      refine wpAnyH_take (i := 4) (oi := { dst := some 19, op := Op.load 41 (Operand.tmp 2), type := 41, pos := "ref.go:53", after := #[{ on := 2, ground := Ground.guard }], guard := some (2, true) }) (v := ?vb_5) rfl (by kernel_rfl) (by kernel_rfl) (by kernel_rfl) (fun _ _ _ h => h) (Or.inl ⟨by rfl, ?hyb_5⟩) (by assumption) ?restb_5
      case hyb_5 =>
        intro w hSw
        (try dsimp only at hSw)
        go_simp
        (try with_reducible rfl)
      (try simp only [Act.put, List.setIfInBounds_toArray, List.set_cons_zero, List.set_cons_succ])
      refine wpAnyH_ready (rs := [5]) (by kernel_rfl) (by simp) ?_
      refine AllReadyH.cons (o := { dst := some 20, op := Op.call { callee := Callee.value (Operand.func 37), args := #[Operand.tmp 19], argTypes := #[41] }, type := 56, pos := "ref.go:53", after := #[{ on := 4, ground := Ground.data }, { on := 2, ground := Ground.chain }, { on := 2, ground := Ground.guard }], guard := some (2, true) }) rfl (fun K hK => ?_) AllReadyH.nil
      go_simp
      (go_at_call 37; refine (HD.out _ hHeld.1).mono ?_; rintro e6 w6 ⟨rfl, b6⟩; have hb6 : Below W4.heap.size W4 w6 := hHeld.1.trans (b6.mono hHeld.1.size))
      go_wp2_with fail
      refine hK.out _ _ (HS2.out _ hb6) (fun hHeld => ?_)
      clear hK K
      (try simp only [Act.put, List.setIfInBounds_toArray, List.set_cons_zero, List.set_cons_succ])
      refine wpAnyH_take (i := 6) (oi := { dst := some 21, op := Op.binOp BinOp.eql 56 (Operand.tmp 18) (Operand.tmp 20) 56, type := 4, pos := "ref.go:53", after := #[{ on := 3, ground := Ground.data }, { on := 5, ground := Ground.data }, { on := 2, ground := Ground.guard }], guard := some (2, true) }) (v := ?vb_6) rfl (by kernel_rfl) (by kernel_rfl) (by kernel_rfl) (fun _ _ _ h => h) (Or.inl ⟨by rfl, ?hyb_6⟩) (by assumption) ?restb_6
      case hyb_6 =>
        intro w hSw
        (try dsimp only at hSw)
        go_simp
        (try with_reducible rfl)
      (try simp only [Act.put, List.setIfInBounds_toArray, List.set_cons_zero, List.set_cons_succ])
      refine wpAnyH_take (i := 7) (oi := { dst := some 22, op := Op.pick (Operand.tmp 17) (Operand.tmp 21) (Operand.const (Value.bool false)), type := 4, pos := "ref.go:53", after := #[{ on := 2, ground := Ground.data }, { on := 6, ground := Ground.data }], guard := none }) (v := ?vb_7) rfl (by kernel_rfl) (by kernel_rfl) (by kernel_rfl) (fun _ _ _ h => h) (Or.inl ⟨by rfl, ?hyb_7⟩) (by assumption) ?restb_7
      case hyb_7 =>
        intro w hSw
        (try dsimp only at hSw)
        go_simp
        (try with_reducible rfl)
      (try simp only [Act.put, List.setIfInBounds_toArray, List.set_cons_zero, List.set_cons_succ])
      refine wpAnyH_take (i := 8) (oi := { dst := some 23, op := Op.move (Operand.tmp 22), type := 4, pos := "ref.go:53", after := #[{ on := 7, ground := Ground.data }, { on := 5, ground := Ground.chain }], guard := none }) (v := ?vb_8) rfl (by kernel_rfl) (by kernel_rfl) (by kernel_rfl) (fun _ _ _ h => h) (Or.inl ⟨by rfl, ?hyb_8⟩) (by assumption) ?restb_8
      case hyb_8 =>
        intro w hSw
        (try dsimp only at hSw)
        go_simp
        (try with_reducible rfl)
      (try simp only [Act.put, List.setIfInBounds_toArray, List.set_cons_zero, List.set_cons_succ])
      refine wpAnyH_take (i := 9) (oi := { dst := some 24, op := Op.move (Operand.tmp 1), type := 36, pos := "ref.go:53", after := #[{ on := 8, ground := Ground.guard }], guard := some (8, true) }) (v := undef) rfl (by kernel_rfl) (by kernel_rfl) (by kernel_rfl) (fun _ _ _ h => h) (Or.inr ⟨by rfl, rfl⟩) (by assumption) ?_
      (try simp only [Act.put, List.setIfInBounds_toArray, List.set_cons_zero, List.set_cons_succ])
      refine wpAnyH_take (i := 10) (oi := { dst := some 25, op := Op.fieldAddr 41 (Operand.tmp 2) 2, type := 0, pos := "ref.go:53", after := #[{ on := 8, ground := Ground.guard }], guard := some (8, true) }) (v := undef) rfl (by kernel_rfl) (by kernel_rfl) (by kernel_rfl) (fun _ _ _ h => h) (Or.inr ⟨by rfl, rfl⟩) (by assumption) ?_
      (try simp only [Act.put, List.setIfInBounds_toArray, List.set_cons_zero, List.set_cons_succ])
      refine wpAnyH_take (i := 11) (oi := { dst := some 26, op := Op.fieldAddr 32 (Operand.tmp 25) 1, type := 0, pos := "ref.go:53", after := #[{ on := 10, ground := Ground.data }, { on := 8, ground := Ground.guard }], guard := some (8, true) }) (v := undef) rfl (by kernel_rfl) (by kernel_rfl) (by kernel_rfl) (fun _ _ _ h => h) (Or.inr ⟨by rfl, rfl⟩) (by assumption) ?_
      (try simp only [Act.put, List.setIfInBounds_toArray, List.set_cons_zero, List.set_cons_succ])
      refine wpAnyH_take (i := 12) (oi := { dst := some 27, op := Op.load 30 (Operand.tmp 26), type := 30, pos := "ref.go:53", after := #[{ on := 11, ground := Ground.data }, { on := 8, ground := Ground.guard }], guard := some (8, true) }) (v := undef) rfl (by kernel_rfl) (by kernel_rfl) (by kernel_rfl) (fun _ _ _ h => h) (Or.inr ⟨by rfl, rfl⟩) (by assumption) ?_
      (try simp only [Act.put, List.setIfInBounds_toArray, List.set_cons_zero, List.set_cons_succ])
      refine wpAnyH_take (i := 13) (oi := { dst := some 28, op := Op.indexAddr 30 (Operand.tmp 27) (Operand.const (Value.int IntKind.i64 0)), type := 0, pos := "ref.go:53", after := #[{ on := 12, ground := Ground.data }, { on := 8, ground := Ground.guard }], guard := some (8, true) }) (v := undef) rfl (by kernel_rfl) (by kernel_rfl) (by kernel_rfl) (fun _ _ _ h => h) (Or.inr ⟨by rfl, rfl⟩) (by assumption) ?_
      (try simp only [Act.put, List.setIfInBounds_toArray, List.set_cons_zero, List.set_cons_succ])
      refine wpAnyH_take (i := 14) (oi := { dst := some 29, op := Op.fieldAddr 59 (Operand.tmp 28) 1, type := 0, pos := "ref.go:53", after := #[{ on := 13, ground := Ground.data }, { on := 8, ground := Ground.guard }], guard := some (8, true) }) (v := undef) rfl (by kernel_rfl) (by kernel_rfl) (by kernel_rfl) (fun _ _ _ h => h) (Or.inr ⟨by rfl, rfl⟩) (by assumption) ?_
      (try simp only [Act.put, List.setIfInBounds_toArray, List.set_cons_zero, List.set_cons_succ])
      refine wpAnyH_take (i := 15) (oi := { dst := some 30, op := Op.load 57 (Operand.tmp 29), type := 57, pos := "ref.go:53", after := #[{ on := 14, ground := Ground.data }, { on := 8, ground := Ground.guard }], guard := some (8, true) }) (v := undef) rfl (by kernel_rfl) (by kernel_rfl) (by kernel_rfl) (fun _ _ _ h => h) (Or.inr ⟨by rfl, rfl⟩) (by assumption) ?_
      (try simp only [Act.put, List.setIfInBounds_toArray, List.set_cons_zero, List.set_cons_succ])
      refine wpAnyH_take (i := 16) (oi := { dst := some 31, op := Op.call { callee := Callee.value (Operand.func 22), args := #[Operand.tmp 24, Operand.tmp 30], argTypes := #[36, 57] }, type := 4, pos := "ref.go:53", after := #[{ on := 9, ground := Ground.data }, { on := 15, ground := Ground.data }, { on := 8, ground := Ground.chain }, { on := 8, ground := Ground.guard }], guard := some (8, true) }) (v := undef) rfl (by kernel_rfl) (by kernel_rfl) (by kernel_rfl) (fun _ _ _ h => h) (Or.inr ⟨by rfl, rfl⟩) (by assumption) ?_
      (try simp only [Act.put, List.setIfInBounds_toArray, List.set_cons_zero, List.set_cons_succ])
      refine wpAnyH_take (i := 17) (oi := { dst := some 32, op := Op.pick (Operand.tmp 23) (Operand.tmp 31) (Operand.const (Value.bool false)), type := 4, pos := "ref.go:53", after := #[{ on := 8, ground := Ground.data }, { on := 16, ground := Ground.data }], guard := none }) (v := ?vb_17) rfl (by kernel_rfl) (by kernel_rfl) (by kernel_rfl) (fun _ _ _ h => h) (Or.inl ⟨by rfl, ?hyb_17⟩) (by assumption) ?restb_17
      case hyb_17 =>
        intro w hSw
        (try dsimp only at hSw)
        go_simp
        (try with_reducible rfl)
      (try simp only [Act.put, List.setIfInBounds_toArray, List.set_cons_zero, List.set_cons_succ])
      refine wpAnyH_take (i := 18) (oi := { dst := some 4, op := Op.assign (Operand.tmp 32), type := 4, pos := "ref.go:53", after := #[{ on := 17, ground := Ground.data }, { on := 16, ground := Ground.chain }, { on := 0, ground := Ground.phase }, { on := 1, ground := Ground.phase }, { on := 2, ground := Ground.phase }, { on := 3, ground := Ground.phase }, { on := 4, ground := Ground.phase }, { on := 5, ground := Ground.phase }, { on := 6, ground := Ground.phase }, { on := 7, ground := Ground.phase }, { on := 8, ground := Ground.phase }, { on := 9, ground := Ground.phase }, { on := 10, ground := Ground.phase }, { on := 11, ground := Ground.phase }, { on := 12, ground := Ground.phase }, { on := 13, ground := Ground.phase }, { on := 14, ground := Ground.phase }, { on := 15, ground := Ground.phase }, { on := 16, ground := Ground.phase }, { on := 17, ground := Ground.phase }], guard := none }) (v := ?vb_18) rfl (by kernel_rfl) (by kernel_rfl) (by kernel_rfl) (fun _ _ _ h => h) (Or.inl ⟨by rfl, ?hyb_18⟩) (by assumption) ?restb_18
      case hyb_18 =>
        intro w hSw
        (try dsimp only at hSw)
        go_simp
        (try with_reducible rfl)
      (try simp only [Act.put, List.setIfInBounds_toArray, List.set_cons_zero, List.set_cons_succ])
      refine wpAnyH_done (by kernel_rfl) ?_ _
      go_wp2_with fail
      go_ret
      exact ⟨by rw [HR.out]; rfl, HW.out.trans (hb6.mono HW.out.size)⟩
  · have HR := Lib.hid (HQ.out.2.2.symm.trans (may_not HQ.out.1 fun h => hE h.1))
    have hne : (E == 0) = false := by simp [hE]
    clear hE
    go_wp2_with fail
    rw [HFB.out, HW4.out, HDB.out]
    refine wp_region_held_drew (S := (fun V => Below W4.heap.size W4 V ∧ V.cell? ⟨fb, 0, none⟩ = some (.int .i64 fr) ∧ V.cell? ⟨fb, 1, none⟩ = some (.int .i64 sq) ∧ V.cell? ⟨fb, 2, none⟩ = some (.string key) ∧ V.cell? ⟨fb, 3, none⟩ = some (.slice (some ⟨b, off, none⟩) m cv) ∧ V.cell? ⟨fb, 4, none⟩ = some (.slice Ar kr cr) ∧ V.cell? ⟨db, 0, none⟩ = some (.int .i64 d1) ∧ V.cell? ⟨db, 1, none⟩ = some (.int .i64 d2) ∧ V.cell? ⟨b, off + 2, none⟩ = some (.slice Ap kp cp))) (by kernel_rfl) (HS2.out _ (Below.refl _ W4).drew) (fun hHeld => ?_)
    refine wpAnyH_take (i := 0) (oi := { dst := some 15, op := Op.move (Operand.tmp 6), type := 3, pos := "ref.go:53", after := #[], guard := none }) (v := ?vc_1) rfl (by kernel_rfl) (by kernel_rfl) (by kernel_rfl) (fun _ _ _ h => h) (Or.inl ⟨by rfl, ?hyc_1⟩) (by assumption) ?restc_1
    case hyc_1 =>
      intro w hSw
      (try dsimp only at hSw)
      go_simp
      (try with_reducible rfl)
    (try simp only [Act.put, List.setIfInBounds_toArray, List.set_cons_zero, List.set_cons_succ])
    refine wpAnyH_take (i := 1) (oi := { dst := some 16, op := Op.binOp BinOp.eql 3 (Operand.tmp 15) (Operand.const (Value.int IntKind.i64 0)) 3, type := 4, pos := "ref.go:53", after := #[{ on := 0, ground := Ground.data }], guard := none }) (v := ?vc_2) rfl (by kernel_rfl) (by kernel_rfl) (by kernel_rfl) (fun _ _ _ h => h) (Or.inl ⟨by rfl, ?hyc_2⟩) (by assumption) ?restc_2
    case hyc_2 =>
      intro w hSw
      (try dsimp only at hSw)
      go_simp
      (try with_reducible rfl)
    (try simp only [Act.put, List.setIfInBounds_toArray, List.set_cons_zero, List.set_cons_succ])
    refine wpAnyH_take (i := 2) (oi := { dst := some 17, op := Op.move (Operand.tmp 16), type := 4, pos := "ref.go:53", after := #[{ on := 1, ground := Ground.data }], guard := none }) (v := ?vc_3) rfl (by kernel_rfl) (by kernel_rfl) (by kernel_rfl) (fun _ _ _ h => h) (Or.inl ⟨by rfl, ?hyc_3⟩) (by assumption) ?restc_3
    case hyc_3 =>
      intro w hSw
      (try dsimp only at hSw)
      go_simp
      (try with_reducible rfl)
    (try simp only [Act.put, List.setIfInBounds_toArray, List.set_cons_zero, List.set_cons_succ])
    refine wpAnyH_take (i := 3) (oi := { dst := some 18, op := Op.load 56 (Operand.tmp 5), type := 56, pos := "ref.go:53", after := #[{ on := 2, ground := Ground.guard }], guard := some (2, true) }) (v := undef) rfl (by kernel_rfl) (by kernel_rfl) (by kernel_rfl) (fun _ _ _ h => h) (Or.inr ⟨by rfl, rfl⟩) (by assumption) ?_
    (try simp only [Act.put, List.setIfInBounds_toArray, List.set_cons_zero, List.set_cons_succ])
    refine wpAnyH_take (i := 4) (oi := { dst := some 19, op := Op.load 41 (Operand.tmp 2), type := 41, pos := "ref.go:53", after := #[{ on := 2, ground := Ground.guard }], guard := some (2, true) }) (v := undef) rfl (by kernel_rfl) (by kernel_rfl) (by kernel_rfl) (fun _ _ _ h => h) (Or.inr ⟨by rfl, rfl⟩) (by assumption) ?_
    (try simp only [Act.put, List.setIfInBounds_toArray, List.set_cons_zero, List.set_cons_succ])
    refine wpAnyH_take (i := 5) (oi := { dst := some 20, op := Op.call { callee := Callee.value (Operand.func 37), args := #[Operand.tmp 19], argTypes := #[41] }, type := 56, pos := "ref.go:53", after := #[{ on := 4, ground := Ground.data }, { on := 2, ground := Ground.chain }, { on := 2, ground := Ground.guard }], guard := some (2, true) }) (v := undef) rfl (by kernel_rfl) (by kernel_rfl) (by kernel_rfl) (fun _ _ _ h => h) (Or.inr ⟨by rfl, rfl⟩) (by assumption) ?_
    (try simp only [Act.put, List.setIfInBounds_toArray, List.set_cons_zero, List.set_cons_succ])
    refine wpAnyH_take (i := 6) (oi := { dst := some 21, op := Op.binOp BinOp.eql 56 (Operand.tmp 18) (Operand.tmp 20) 56, type := 4, pos := "ref.go:53", after := #[{ on := 3, ground := Ground.data }, { on := 5, ground := Ground.data }, { on := 2, ground := Ground.guard }], guard := some (2, true) }) (v := undef) rfl (by kernel_rfl) (by kernel_rfl) (by kernel_rfl) (fun _ _ _ h => h) (Or.inr ⟨by rfl, rfl⟩) (by assumption) ?_
    (try simp only [Act.put, List.setIfInBounds_toArray, List.set_cons_zero, List.set_cons_succ])
    refine wpAnyH_take (i := 7) (oi := { dst := some 22, op := Op.pick (Operand.tmp 17) (Operand.tmp 21) (Operand.const (Value.bool false)), type := 4, pos := "ref.go:53", after := #[{ on := 2, ground := Ground.data }, { on := 6, ground := Ground.data }], guard := none }) (v := ?vc_8) rfl (by kernel_rfl) (by kernel_rfl) (by kernel_rfl) (fun _ _ _ h => h) (Or.inl ⟨by rfl, ?hyc_8⟩) (by assumption) ?restc_8
    case hyc_8 =>
      intro w hSw
      (try dsimp only at hSw)
      go_simp
      (try with_reducible rfl)
    (try simp only [Act.put, List.setIfInBounds_toArray, List.set_cons_zero, List.set_cons_succ])
    refine wpAnyH_take (i := 8) (oi := { dst := some 23, op := Op.move (Operand.tmp 22), type := 4, pos := "ref.go:53", after := #[{ on := 7, ground := Ground.data }, { on := 5, ground := Ground.chain }], guard := none }) (v := ?vc_9) rfl (by kernel_rfl) (by kernel_rfl) (by kernel_rfl) (fun _ _ _ h => h) (Or.inl ⟨by rfl, ?hyc_9⟩) (by assumption) ?restc_9
    case hyc_9 =>
      intro w hSw
      (try dsimp only at hSw)
      go_simp
      (try with_reducible rfl)
    (try simp only [Act.put, List.setIfInBounds_toArray, List.set_cons_zero, List.set_cons_succ])
    refine wpAnyH_take (i := 9) (oi := { dst := some 24, op := Op.move (Operand.tmp 1), type := 36, pos := "ref.go:53", after := #[{ on := 8, ground := Ground.guard }], guard := some (8, true) }) (v := undef) rfl (by kernel_rfl) (by kernel_rfl) (by kernel_rfl) (fun _ _ _ h => h) (Or.inr ⟨by rfl, rfl⟩) (by assumption) ?_
    (try simp only [Act.put, List.setIfInBounds_toArray, List.set_cons_zero, List.set_cons_succ])
    refine wpAnyH_take (i := 10) (oi := { dst := some 25, op := Op.fieldAddr 41 (Operand.tmp 2) 2, type := 0, pos := "ref.go:53", after := #[{ on := 8, ground := Ground.guard }], guard := some (8, true) }) (v := undef) rfl (by kernel_rfl) (by kernel_rfl) (by kernel_rfl) (fun _ _ _ h => h) (Or.inr ⟨by rfl, rfl⟩) (by assumption) ?_
    (try simp only [Act.put, List.setIfInBounds_toArray, List.set_cons_zero, List.set_cons_succ])
    refine wpAnyH_take (i := 11) (oi := { dst := some 26, op := Op.fieldAddr 32 (Operand.tmp 25) 1, type := 0, pos := "ref.go:53", after := #[{ on := 10, ground := Ground.data }, { on := 8, ground := Ground.guard }], guard := some (8, true) }) (v := undef) rfl (by kernel_rfl) (by kernel_rfl) (by kernel_rfl) (fun _ _ _ h => h) (Or.inr ⟨by rfl, rfl⟩) (by assumption) ?_
    (try simp only [Act.put, List.setIfInBounds_toArray, List.set_cons_zero, List.set_cons_succ])
    refine wpAnyH_take (i := 12) (oi := { dst := some 27, op := Op.load 30 (Operand.tmp 26), type := 30, pos := "ref.go:53", after := #[{ on := 11, ground := Ground.data }, { on := 8, ground := Ground.guard }], guard := some (8, true) }) (v := undef) rfl (by kernel_rfl) (by kernel_rfl) (by kernel_rfl) (fun _ _ _ h => h) (Or.inr ⟨by rfl, rfl⟩) (by assumption) ?_
    (try simp only [Act.put, List.setIfInBounds_toArray, List.set_cons_zero, List.set_cons_succ])
    refine wpAnyH_take (i := 13) (oi := { dst := some 28, op := Op.indexAddr 30 (Operand.tmp 27) (Operand.const (Value.int IntKind.i64 0)), type := 0, pos := "ref.go:53", after := #[{ on := 12, ground := Ground.data }, { on := 8, ground := Ground.guard }], guard := some (8, true) }) (v := undef) rfl (by kernel_rfl) (by kernel_rfl) (by kernel_rfl) (fun _ _ _ h => h) (Or.inr ⟨by rfl, rfl⟩) (by assumption) ?_
    (try simp only [Act.put, List.setIfInBounds_toArray, List.set_cons_zero, List.set_cons_succ])
    refine wpAnyH_take (i := 14) (oi := { dst := some 29, op := Op.fieldAddr 59 (Operand.tmp 28) 1, type := 0, pos := "ref.go:53", after := #[{ on := 13, ground := Ground.data }, { on := 8, ground := Ground.guard }], guard := some (8, true) }) (v := undef) rfl (by kernel_rfl) (by kernel_rfl) (by kernel_rfl) (fun _ _ _ h => h) (Or.inr ⟨by rfl, rfl⟩) (by assumption) ?_
    (try simp only [Act.put, List.setIfInBounds_toArray, List.set_cons_zero, List.set_cons_succ])
    refine wpAnyH_take (i := 15) (oi := { dst := some 30, op := Op.load 57 (Operand.tmp 29), type := 57, pos := "ref.go:53", after := #[{ on := 14, ground := Ground.data }, { on := 8, ground := Ground.guard }], guard := some (8, true) }) (v := undef) rfl (by kernel_rfl) (by kernel_rfl) (by kernel_rfl) (fun _ _ _ h => h) (Or.inr ⟨by rfl, rfl⟩) (by assumption) ?_
    (try simp only [Act.put, List.setIfInBounds_toArray, List.set_cons_zero, List.set_cons_succ])
    refine wpAnyH_take (i := 16) (oi := { dst := some 31, op := Op.call { callee := Callee.value (Operand.func 22), args := #[Operand.tmp 24, Operand.tmp 30], argTypes := #[36, 57] }, type := 4, pos := "ref.go:53", after := #[{ on := 9, ground := Ground.data }, { on := 15, ground := Ground.data }, { on := 8, ground := Ground.chain }, { on := 8, ground := Ground.guard }], guard := some (8, true) }) (v := undef) rfl (by kernel_rfl) (by kernel_rfl) (by kernel_rfl) (fun _ _ _ h => h) (Or.inr ⟨by rfl, rfl⟩) (by assumption) ?_
    (try simp only [Act.put, List.setIfInBounds_toArray, List.set_cons_zero, List.set_cons_succ])
    refine wpAnyH_take (i := 17) (oi := { dst := some 32, op := Op.pick (Operand.tmp 23) (Operand.tmp 31) (Operand.const (Value.bool false)), type := 4, pos := "ref.go:53", after := #[{ on := 8, ground := Ground.data }, { on := 16, ground := Ground.data }], guard := none }) (v := ?vc_18) rfl (by kernel_rfl) (by kernel_rfl) (by kernel_rfl) (fun _ _ _ h => h) (Or.inl ⟨by rfl, ?hyc_18⟩) (by assumption) ?restc_18
    case hyc_18 =>
      intro w hSw
      (try dsimp only at hSw)
      go_simp
      (try with_reducible rfl)
    (try simp only [Act.put, List.setIfInBounds_toArray, List.set_cons_zero, List.set_cons_succ])
    refine wpAnyH_take (i := 18) (oi := { dst := some 4, op := Op.assign (Operand.tmp 32), type := 4, pos := "ref.go:53", after := #[{ on := 17, ground := Ground.data }, { on := 16, ground := Ground.chain }, { on := 0, ground := Ground.phase }, { on := 1, ground := Ground.phase }, { on := 2, ground := Ground.phase }, { on := 3, ground := Ground.phase }, { on := 4, ground := Ground.phase }, { on := 5, ground := Ground.phase }, { on := 6, ground := Ground.phase }, { on := 7, ground := Ground.phase }, { on := 8, ground := Ground.phase }, { on := 9, ground := Ground.phase }, { on := 10, ground := Ground.phase }, { on := 11, ground := Ground.phase }, { on := 12, ground := Ground.phase }, { on := 13, ground := Ground.phase }, { on := 14, ground := Ground.phase }, { on := 15, ground := Ground.phase }, { on := 16, ground := Ground.phase }, { on := 17, ground := Ground.phase }], guard := none }) (v := ?vc_19) rfl (by kernel_rfl) (by kernel_rfl) (by kernel_rfl) (fun _ _ _ h => h) (Or.inl ⟨by rfl, ?hyc_19⟩) (by assumption) ?restc_19
    case hyc_19 =>
      intro w hSw
      (try dsimp only at hSw)
      go_simp
      (try with_reducible rfl)
    (try simp only [Act.put, List.setIfInBounds_toArray, List.set_cons_zero, List.set_cons_succ])
    refine wpAnyH_done (by kernel_rfl) ?_ _
    go_wp2_with fail
    go_ret
    exact ⟨by rw [HR.out]; rfl, HW.out.trans (Below.refl _ W4).drew⟩
end Inbox
end Go.Proofs.Ytiempgabamheiaa
