/-
  firthlaw05.awake tells true.
-/
import Derived.Test.YthiiganfoecmnaaVersShown
import Derived.Test.YthiiganfoecmnaaVersLacks
import Derived.Test.YthiiganfoecmnaaVersAwakePlain
namespace Go.Proofs.Ythiiganfoecmnaa
namespace Vers
open Go.RowKit Span
attribute [local go_sem ↓] Go.wp_at_zero Go.wp_at_succ

/-- What the law's own maker of versions tells. -/
theorem lawver_any (s n : Int) (A : Option Addr) (k c : Nat) (w : World) :
    Calls Try.prog 32 #[.int .i64 s, .int .i64 n, .slice A k c] w fun e w' => e = .returned (.agg #[.int .i64 s, .int .i64 n, .slice A k c, .bool false, .string ⟨#[118]⟩]) ∧ Below w.heap.size w w' := by
  go_enter Try.func32, Try.ntmps32
  go_wp2_with fail
  refine bodyPost_ret (v := .agg #[.int .i64 s, .int .i64 n, .slice A k c, .bool false, .string ⟨#[118]⟩]) ?_ rfl ⟨rfl, (Below.refl _ w).alloc (Nat.le_refl _) _⟩
  rw [results_cell1 rfl]
  go_simp

theorem awake_shown : shownF [wb, wc] = [wb, wc] := by decide

theorem ss_lit (w : World) (x : Sp) : Ss (w.alloc (.cells #[.int .i64 x.1, .int .i64 x.2.1, .int .i64 x.2.2] 46)) (w.alloc (.cells #[.int .i64 x.1, .int .i64 x.2.1, .int .i64 x.2.2] 46)).heap.size (some ⟨w.heap.size, 0, none⟩) [x] := fun _ =>
  ⟨w.heap.size, 0, rfl, by simp, fun j hj => by
    obtain rfl : j = 0 := by simp at hj; omega
    exact ⟨by simp, by simp, by simp⟩⟩
theorem add_none (b off k : Nat) : (⟨b, off, none⟩ : Addr).add k = ⟨b, off + k, none⟩ := by unfold Addr.add; split <;> simp_all
theorem vs_lit1 (w : World) (s n : Int) (p : List Sp) (g : Bool) (x : ByteArray) (A : Option Addr) (k c : Nat) (hk : p.length = k) (hp : Pa w 0 w.heap.size A c ⟨s, n, p, g, x⟩) :
    Vs (w.alloc (.cells #[.int .i64 s, .int .i64 n, .slice A k c, .bool g, .string x] 28)) 0 (w.heap.size + 1) (some ⟨w.heap.size, 0, none⟩) [⟨s, n, p, g, x⟩] := fun _ =>
  ⟨w.heap.size, 0, rfl, Nat.zero_le _, by omega, fun j hj => by
    obtain rfl : j = 0 := by simp at hj; omega
    subst hk
    exact ⟨A, c, by simp, by simp, by simp, by simp, by simp, (hp.alloc (Nat.le_refl _) _).more (by omega)⟩⟩
theorem vs_lit2 (w : World) (s n : Int) (p : List Sp) (g : Bool) (x : ByteArray) (A : Option Addr) (k c : Nat) (hk : p.length = k) (hp : Pa w 0 w.heap.size A c ⟨s, n, p, g, x⟩) (s' n' : Int) (p' : List Sp) (g' : Bool) (x' : ByteArray) (A' : Option Addr) (k' c' : Nat) (hk' : p'.length = k') (hp' : Pa w 0 w.heap.size A' c' ⟨s', n', p', g', x'⟩) :
    Vs (w.alloc (.cells #[.int .i64 s, .int .i64 n, .slice A k c, .bool g, .string x, .int .i64 s', .int .i64 n', .slice A' k' c', .bool g', .string x'] 28)) 0 (w.heap.size + 1) (some ⟨w.heap.size, 0, none⟩) [⟨s, n, p, g, x⟩, ⟨s', n', p', g', x'⟩] := fun _ =>
  ⟨w.heap.size, 0, rfl, Nat.zero_le _, by omega, fun j hj => by
    subst hk hk'
    obtain rfl | rfl : j = 0 ∨ j = 1 := by simp at hj; omega
    · exact ⟨A, c, by simp, by simp, by simp, by simp, by simp, (hp.alloc (Nat.le_refl _) _).more (by omega)⟩
    · exact ⟨A', c', by simp, by simp, by simp, by simp, by simp, (hp'.alloc (Nat.le_refl _) _).more (by omega)⟩⟩
theorem pa_nil (w : World) (B : Nat) (s n : Int) (g : Bool) (x : ByteArray) (hx : x.size ≤ 140737488355328) : Pa w 0 B none 0 ⟨s, n, [], g, x⟩ := ⟨Ss.nil _, by simp, by simp, hx, fun _ _ _ => Nat.zero_le _⟩
/-- The cells of a version's box. -/
def Bx5 (V : World) (m : Nat) (s n : Int) (A : Option Addr) (k c : Nat) : Prop := m < V.heap.size ∧ V.cell? ⟨m, 0, none⟩ = some (.int .i64 s) ∧ V.cell? ⟨m, 1, none⟩ = some (.int .i64 n) ∧ V.cell? ⟨m, 2, none⟩ = some (.slice A k c) ∧ V.cell? ⟨m, 3, none⟩ = some (.bool false) ∧ V.cell? ⟨m, 4, none⟩ = some (.string ⟨#[118]⟩)
theorem bx5_new (V : World) (s n : Int) (A : Option Addr) (k c : Nat) : Bx5 (V.alloc (.cells #[.int .i64 s, .int .i64 n, .slice A k c, .bool false, .string ⟨#[118]⟩] 28)) V.heap.size s n A k c := ⟨by simp, by simp, by simp, by simp, by simp, by simp⟩
theorem Bx5.below {V V' : World} {m : Nat} {s n : Int} {A : Option Addr} {k c : Nat} (h : Bx5 V m s n A k c) (b : Below V.heap.size V V') : Bx5 V' m s n A k c :=
  ⟨Nat.lt_of_lt_of_le h.1 b.size, five_below h.1 b h.2⟩
theorem Bx5.alloc {V : World} {m : Nat} {s n : Int} {A : Option Addr} {k c : Nat} (h : Bx5 V m s n A k c) (o : Obj) : Bx5 (V.alloc o) m s n A k c := h.below ((Below.refl _ V).alloc (Nat.le_refl _) _)

set_option maxRecDepth 100000 in
set_option maxHeartbeats 2000000 in
theorem awake_any (w : World) : Calls Try.prog 11 #[] w fun e w' => e = .returned (.bool true) ∧ Below w.heap.size w w' := by
  go_enter Try.func11, Try.ntmps11
  go_wp2_with fail
  refine (lawver_any 1 1 none 0 0 w).mono ?_
  rintro e w1 ⟨rfl, b1⟩
  go_wp2_with fail
  obtain ⟨m1, hm1⟩ : ∃ m, w1.heap.size = m := ⟨_, rfl⟩
  obtain ⟨W2, hW2⟩ : ∃ W, (w1.alloc (.cells #[.int .i64 1, .int .i64 1, .slice none 0 0, .bool false, .string ⟨#[118]⟩] 28)).alloc (.cells #[.int .i64 1, .int .i64 1, .int .i64 1] 46) = W := ⟨_, rfl⟩
  have x1 : Bx5 W2 m1 1 1 none 0 0 := by rw [← hW2, ← hm1]; exact (bx5_new w1 1 1 none 0 0).alloc _
  have p1 : Ss W2 W2.heap.size (some ⟨m1 + 1, 0, none⟩) [(1, 1, 1)] := by
    have h := ss_lit (w1.alloc (.cells #[.int .i64 1, .int .i64 1, .slice none 0 0, .bool false, .string ⟨#[118]⟩] 28)) (1, 1, 1)
    simp only at h
    rw [hW2] at h
    rw [← hm1]
    simpa using h
  have B2 : Below w.heap.size w W2 := by rw [← hW2]; exact (b1.alloc b1.size _).alloc (by have := b1.size; simp; omega) _
  rw [hW2, hm1]
  clear hW2 hm1 b1
  refine (lawver_any 1 2 (some ⟨m1 + 1, 0, none⟩) 1 1 W2).mono ?_
  rintro e w3 ⟨rfl, b3⟩
  go_wp2_with fail
  obtain ⟨m2, hm2⟩ : ∃ m, w3.heap.size = m := ⟨_, rfl⟩
  obtain ⟨W4, hW4⟩ : ∃ W, w3.alloc (.cells #[.int .i64 1, .int .i64 2, .slice (some ⟨m1 + 1, 0, none⟩) 1 1, .bool false, .string ⟨#[118]⟩] 28) = W := ⟨_, rfl⟩
  have b4 : Below w3.heap.size w3 W4 := by rw [← hW4]; exact (Below.refl _ w3).alloc (Nat.le_refl _) _
  have y4 : Bx5 W4 m2 1 2 (some ⟨m1 + 1, 0, none⟩) 1 1 := by rw [← hW4, ← hm2]; exact bx5_new _ _ _ _ _ _
  have b24 : Below W2.heap.size W2 W4 := b3.trans (b4.mono b3.size)
  rw [hW4, hm2]
  clear hW4 hm2 b3 b4
  refine (lawver_any 2 1 none 0 0 W4).mono ?_
  rintro e w5 ⟨rfl, b5⟩
  have b25 : Below W2.heap.size W2 w5 := b24.trans (b5.mono b24.size)
  have X5 := Lib.hid (x1.below b25)
  have Y5 := Lib.hid (y4.below b5)
  have P5 := Lib.hid ((p1.below b25).more b25.size)
  have B5 := Lib.hid (B2.trans (b25.mono B2.size))
  clear x1 y4 p1 B2 b24 b25 b5
  obtain ⟨lx, x0, x1, x2, x3, x4⟩ := X5.out
  obtain ⟨ly, y0, y1, y2, y3, y4⟩ := Y5.out
  go_wp2_with fail
  obtain ⟨m3, hm3⟩ : ∃ m, w5.heap.size = m := ⟨_, rfl⟩
  obtain ⟨W6, hW6⟩ : ∃ W, w5.alloc (.cells #[.int .i64 2, .int .i64 1, .slice none 0 0, .bool false, .string ⟨#[118]⟩] 28) = W := ⟨_, rfl⟩
  obtain ⟨W7, hW7⟩ : ∃ W, W6.alloc (.cells #[.int .i64 1, .int .i64 1, .slice none 0 0, .bool false, .string ⟨#[118]⟩, .int .i64 2, .int .i64 1, .slice none 0 0, .bool false, .string ⟨#[118]⟩] 28) = W := ⟨_, rfl⟩
  obtain ⟨W8, hW8⟩ : ∃ W, W7.alloc (.cells #[.int .i64 1, .int .i64 2, .slice (some ⟨m1 + 1, 0, none⟩) 1 1, .bool false, .string ⟨#[118]⟩] 28) = W := ⟨_, rfl⟩
  have s6 : W6.heap.size = m3 + 1 := by rw [← hW6, ← hm3]; simp
  have s7 : W7.heap.size = m3 + 2 := by rw [← hW7]; simp [s6]
  have s8 : W8.heap.size = m3 + 3 := by rw [← hW8]; simp [s7]
  have b6 : Below w5.heap.size w5 W6 := by rw [← hW6]; exact (Below.refl _ w5).alloc (Nat.le_refl _) _
  have b7 : Below W6.heap.size W6 W7 := by rw [← hW7]; exact (Below.refl _ W6).alloc (Nat.le_refl _) _
  have b8 : Below W7.heap.size W7 W8 := by rw [← hW8]; exact (Below.refl _ W7).alloc (Nat.le_refl _) _
  have b57 : Below w5.heap.size w5 W7 := b6.trans (b7.mono b6.size)
  have b58 : Below w5.heap.size w5 W8 := b57.trans (b8.mono b57.size)
  have Z6 : Bx5 W6 m3 2 1 none 0 0 := by rw [← hW6, ← hm3]; exact bx5_new _ _ _ _ _ _
  have Z8 := Lib.hid ((Z6.below b7).below b8)
  have X8 := Lib.hid (X5.out.below b58)
  have Y8 := Lib.hid (Y5.out.below b58)
  have P8 := Lib.hid ((P5.out.below b58).more b58.size)
  have pb : Pa W7 0 W7.heap.size (some ⟨m1 + 1, 0, none⟩) 1 wb := ⟨(P5.out.below b57).more b57.size, by decide, by decide, by decide, fun _ _ _ => Nat.zero_le _⟩
  have v7 : Vs W8 0 W8.heap.size (some ⟨m3 + 1, 0, none⟩) [wa, wc] := by
    have h := vs_lit2 W6 1 1 [] false ⟨#[118]⟩ none 0 0 rfl (pa_nil _ _ _ _ _ _ (by decide)) 2 1 [] false ⟨#[118]⟩ none 0 0 rfl (pa_nil _ _ _ _ _ _ (by decide))
    rw [hW7, s6] at h
    exact (h.below (b8.mono (by omega))).more (by omega)
  have v8 : Vs W8 0 W8.heap.size (some ⟨m3 + 1 + 1, 0, none⟩) [wb] := by
    have h := vs_lit1 W7 1 2 [(1, 1, 1)] false ⟨#[118]⟩ (some ⟨m1 + 1, 0, none⟩) 1 1 rfl pb
    rw [hW8, s7] at h
    exact h.more (by omega)
  have B8 := Lib.hid (B5.out.trans (b58.mono B5.out.size))
  rw [hW6, hW7, hW8, hm3]
  clear hW6 hW7 hW8 s6 s7 b6 b7 b8 b57 b58 Z6 pb X5 Y5 P5 B5 hm3 lx x0 x1 x2 x3 x4 ly y0 y1 y2 y3 y4
  have hm := merge_any (some ⟨m3 + 1, 0, none⟩) (some ⟨m3 + 1 + 1, 0, none⟩) 2 1 2 1 [wa, wc] [wb] rfl rfl (by omega) (by omega) W8 v7 v8 (by omega) (by omega)
  rw [awake_merge] at hm
  have hm' : Calls Try.prog 16 #[.slice (some ⟨m3 + 1, 0, none⟩) 2 2, .slice (some ⟨m3 + 1 + 1, 0, none⟩) 1 1] W8 fun e w' => ∃ A c, e = .returned (.tuple #[.slice A 2 c, .int .i64 0]) ∧ Vs w' 0 w'.heap.size A [wb, wc] ∧ Below W8.heap.size W8 w' :=
    hm.mono fun e w' ⟨A, c, h1, _, h2, h3⟩ => ⟨A, c, h1, h2.less (Nat.zero_le _), h3⟩
  have HM := Lib.hid hm'
  clear hm hm' v7 v8 s8
  refine HM.out.mono ?_
  rintro e w9 ⟨A9, c9, rfl, v9, b9⟩
  have X9 := Lib.hid (X8.out.below b9)
  have Y9 := Lib.hid (Y8.out.below b9)
  have Z9 := Lib.hid (Z8.out.below b9)
  have P9 := Lib.hid ((P8.out.below b9).more b9.size)
  have B9 := Lib.hid (B8.out.trans (b9.mono B8.out.size))
  have V9 := Lib.hid v9
  clear HM X8 Y8 Z8 P8 B8 b9 v9
  obtain ⟨ly, y0, y1, y2, y3, y4⟩ := Y9.out
  obtain ⟨lz, z0, z1, z2, z3, z4⟩ := Z9.out
  go_wp2_with fail
  clear ly y0 y1 y2 y3 y4 lz z0 z1 z2 z3 z4
  obtain ⟨mA, hmA⟩ : ∃ m, w9.heap.size = m := ⟨_, rfl⟩
  obtain ⟨WA, hWA⟩ : ∃ W, w9.alloc (.cells #[.int .i64 1, .int .i64 2, .slice (some ⟨m1 + 1, 0, none⟩) 1 1, .bool false, .string ⟨#[118]⟩, .int .i64 2, .int .i64 1, .slice none 0 0, .bool false, .string ⟨#[118]⟩] 28) = W := ⟨_, rfl⟩
  have bA : Below w9.heap.size w9 WA := by rw [← hWA]; exact (Below.refl _ w9).alloc (Nat.le_refl _) _
  have pb : Pa w9 0 w9.heap.size (some ⟨m1 + 1, 0, none⟩) 1 wb := ⟨P9.out, by decide, by decide, by decide, fun _ _ _ => Nat.zero_le _⟩
  have sA : WA.heap.size = mA + 1 := by rw [← hWA, ← hmA]; simp
  have vA : Vs WA 0 WA.heap.size (some ⟨mA, 0, none⟩) [wb, wc] := by
    have h := vs_lit2 w9 1 2 [(1, 1, 1)] false ⟨#[118]⟩ (some ⟨m1 + 1, 0, none⟩) 1 1 rfl pb 2 1 [] false ⟨#[118]⟩ none 0 0 rfl (pa_nil _ _ _ _ _ _ (by decide))
    rw [hWA, hmA] at h
    exact h.more (by omega)
  have VA := Lib.hid ((V9.out.below bA).more bA.size)
  have XA := Lib.hid (X9.out.below bA)
  have YA := Lib.hid (Y9.out.below bA)
  have PA := Lib.hid ((P9.out.below bA).more bA.size)
  have BA := Lib.hid (B9.out.trans (bA.mono B9.out.size))
  have HA := Lib.hid (ref_sameV_any A9 (some ⟨mA, 0, none⟩) c9 2 2 2 [wb, wc] [wb, wc] rfl rfl WA VA.out vA (by omega) (by omega))
  rw [show decide (([wb, wc] : List Vr) = [wb, wc]) = true from decide_eq_true rfl] at HA
  rw [hWA, hmA]
  clear hWA bA pb sA vA hmA V9 X9 Y9 P9 B9 Z9
  refine HA.out.mono ?_
  rintro e wB ⟨rfl, bB⟩
  have VB := Lib.hid ((VA.out.below bB).more bB.size)
  have XB := Lib.hid (XA.out.below bB)
  have YB := Lib.hid (YA.out.below bB)
  have PB := Lib.hid ((PA.out.below bB).more bB.size)
  have BB := Lib.hid (BA.out.trans (bB.mono BA.out.size))
  have HB := Lib.hid (rightV_any A9 c9 2 [wb, wc] rfl wB VB.out (by omega))
  rw [awake_right] at HB
  clear VA XA YA PA BA HA bB
  go_wp2_with fail
  refine HB.out.mono ?_
  rintro e wC ⟨rfl, bC⟩
  have VC := Lib.hid ((VB.out.below bC).more bC.size)
  have XC := Lib.hid (XB.out.below bC)
  have YC := Lib.hid (YB.out.below bC)
  have PC := Lib.hid ((PB.out.below bC).more bC.size)
  have BC := Lib.hid (BB.out.trans (bC.mono BB.out.size))
  clear VB XB YB PB BB HB bC
  obtain ⟨lx, x0, x1, x2, x3, x4⟩ := XC.out
  obtain ⟨ly, y0, y1, y2, y3, y4⟩ := YC.out
  go_wp2_with fail
  clear lx x0 x1 x2 x3 x4 ly y0 y1 y2 y3 y4
  obtain ⟨mC, hmC⟩ : ∃ m, wC.heap.size = m := ⟨_, rfl⟩
  obtain ⟨WD, hWD⟩ : ∃ W, wC.alloc (.cells #[.int .i64 1, .int .i64 1, .slice none 0 0, .bool false, .string ⟨#[118]⟩] 28) = W := ⟨_, rfl⟩
  obtain ⟨WE, hWE⟩ : ∃ W, WD.alloc (.cells #[.int .i64 1, .int .i64 2, .slice (some ⟨m1 + 1, 0, none⟩) 1 1, .bool false, .string ⟨#[118]⟩] 28) = W := ⟨_, rfl⟩
  have sD : WD.heap.size = mC + 1 := by rw [← hWD, ← hmC]; simp
  have sE : WE.heap.size = mC + 2 := by rw [← hWE]; simp [sD]
  have bD : Below wC.heap.size wC WD := by rw [← hWD]; exact (Below.refl _ wC).alloc (Nat.le_refl _) _
  have bE : Below WD.heap.size WD WE := by rw [← hWE]; exact (Below.refl _ WD).alloc (Nat.le_refl _) _
  have bCE : Below wC.heap.size wC WE := bD.trans (bE.mono bD.size)
  have pb : Pa WD 0 WD.heap.size (some ⟨m1 + 1, 0, none⟩) 1 wb := ⟨(PC.out.below bD).more bD.size, by decide, by decide, by decide, fun _ _ _ => Nat.zero_le _⟩
  have vD : Vs WE 0 WE.heap.size (some ⟨mC, 0, none⟩) [wa] := by
    have h := vs_lit1 wC 1 1 [] false ⟨#[118]⟩ none 0 0 rfl (pa_nil _ _ _ _ _ _ (by decide))
    rw [hWD, hmC] at h
    exact (h.below (bE.mono (by omega))).more (by omega)
  have vE : Vs WE 0 WE.heap.size (some ⟨mC + 1, 0, none⟩) [wb] := by
    have h := vs_lit1 WD 1 2 [(1, 1, 1)] false ⟨#[118]⟩ (some ⟨m1 + 1, 0, none⟩) 1 1 rfl pb
    rw [hWE, sD] at h
    exact h.more (by omega)
  have VE := Lib.hid ((VC.out.below bCE).more bCE.size)
  have BE := Lib.hid (BC.out.trans (bCE.mono BC.out.size))
  have HE := Lib.hid (lacks_any (some ⟨mC, 0, none⟩) (some ⟨mC + 1, 0, none⟩) 1 1 1 1 [wa] [wb] rfl rfl (by omega) (by omega) WE vD vE (by omega) (by omega))
  rw [awake_lacks] at HE
  rw [hWD, hWE, hmC]
  clear hWD hWE hmC sD sE bD bE bCE pb vD vE VC XC YC PC BC
  refine HE.out.mono ?_
  rintro e wF ⟨rfl, bF⟩
  have VF := Lib.hid ((VE.out.below bF).more bF.size)
  have BF := Lib.hid (BE.out.trans (bF.mono BE.out.size))
  have hs := shown_any A9 c9 2 [wb, wc] rfl 0 wF.heap.size wF (Nat.le_refl _) VF.out (by omega) (by decide)
  rw [awake_shown] at hs
  have hs' : Calls Try.prog 25 #[.slice A9 2 c9] wF fun e w' => (∃ A c, e = .returned (.slice A 2 c)) ∧ Below wF.heap.size wF w' := hs.mono fun e w' ⟨A, c, h1, _, _, h3⟩ => ⟨⟨A, c, h1⟩, h3⟩
  have HS := Lib.hid hs'
  clear hs hs' VF VE BE HE bF
  go_wp2_with fail
  refine HS.out.mono ?_
  rintro e wG ⟨⟨AG, cG, rfl⟩, bG⟩
  have BG := Lib.hid (BF.out.trans (bG.mono BF.out.size))
  clear bG BF HS
  go_wp2_with fail
  go_ret
  exact ⟨rfl, BG.out⟩
end Vers
end Go.Proofs.Ythiiganfoecmnaa
