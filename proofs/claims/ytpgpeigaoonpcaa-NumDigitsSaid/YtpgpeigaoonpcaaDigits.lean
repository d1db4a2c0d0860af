/-
  num.Digits and firthref01.Digits make the digits digL.
-/
import Derived.Test.YtpgpeigaoonpcaaReadPlain
import Derived.Test.YtpgpeigaoonpcaaFacts
namespace Go.Proofs.Ytpgpeigaoonpcaa
namespace Num
open Go.RowKit

theorem run_room {P : Program} {t e : TypeId} {i : TypeInfo} (ht : P.underlying t = some (.array 20 e)) (hi : P.info? e = some i) (hs : i.size = 1) (g k : Nat) (hk : k < 20) (j : Int) (hj : j = k) (W : World) :
    (Instr.sliceAt t (.pointer (some ⟨g, 0, none⟩)) (some (.int .i64 j)) none none).run P W = .ok (.slice (some ⟨g, k, none⟩) (20 - k) (20 - k)) W := by
  subst hj
  have ha : P.arrayLen t = 20 := by simp [Program.arrayLen, ht]
  have he : P.elem t = e := by simp [Program.elem, ht]
  have hadd : (⟨g, 0, none⟩ : Addr).add k = ⟨g, k, none⟩ := by unfold Addr.add; split <;> simp_all
  have h := run_sliceAt_array_l (P := P) W t ⟨g, 0, none⟩ (by rw [ha, he]; exact ht) .i64 (k : Int) (by omega) (by rw [ha]; omega)
  rw [h, ha, he]
  have hz : (sizeOf e).run P W = .ok 1 W := by simp [sizeOf, typeInfo, hi, hs]
  rw [hz]
  simp only [Result.andThen_ok, slicedAt, Int.toNat_natCast, Nat.mul_one, hadd]
  rw [if_neg (by omega)]

def MadeStr (zs : List Int) (w : World) (e : Ending) (w' : World) : Prop := e = .returned (.string (strOfNums zs)) ∧ Below w.heap.size w w'

def AtDig (w : World) (N : Int) (r p : Value) (wr : World) : Prop :=
  ∃ (m : Int) (a : Nat) (acc : List Int), 0 ≤ m ∧ m ≤ 10000000000000000000 ∧ r = .int .u64 m ∧ p = .int .i64 a ∧ Dig N a m acc ∧ From wr w.heap.size 64 a acc ∧ Below w.heap.size w wr ∧ w.heap.size < wr.heap.size

theorem digits_any (n : Int) (hn : -9223372036854775808 ≤ n ∧ n ≤ 9223372036854775807) (w : World) :
    Calls Try.prog 26 #[.int .i64 n] w (MadeStr (digL n) w) := by
  obtain ⟨i0, hi0, hz0, hz1, hz2⟩ := info_parts Facts.info5
  by_cases h0 : n < 0
  · have hN : digL n = 45 :: decF 19 (-n) [] := by unfold digL; rw [if_pos h0]
    rw [hN]
    clear hN
    go_enter Try.func26, Try.ntmps26
    go_wp2
    go_loopw [4, 5] (fun r p wr => AtDig w (-n) r p wr) (fun r _ _ => (intOf r).toNat)
    case atStart =>
      refine ⟨-n, 20, [], by omega, by omega, ?_, rfl, dig_start _ (by omega), ⟨_, heap_alloc_new w _, by rfl, by rfl⟩, (Below.refl _ _).alloc (Nat.le_refl _) _, by simp⟩
      rw [IntKind.wrap_u64, IntKind.wrap_u64]
      congr 1
      omega
    case round =>
      obtain ⟨m, a, acc, hm0, hm1, rfl, rfl, hd, hf, hb, hsz⟩ := hrel
      have ha2 := hd.2.2.2
      have ha20 : a ≤ 20 := by have := hd.2.2.1; omega
      obtain ⟨u, hu⟩ := hf.cell (a - 1) (by omega)
      have hfr := hf.frozen (a - 1)
      have hf1 := hf.set (by omega) ha20 (48 + m % 10)
      obtain ⟨u2, hu2⟩ := hf1.cell (a - 1 - 1) (by omega)
      have hfr2 := hf1.frozen (a - 1 - 1)
      have hf2 := hf1.set (by omega) (by omega) 45
      have Hd := Lib.hid (And.intro hd (And.intro hf1 (And.intro hb hf2)))
      have hl3 : (45 :: (48 + m % 10) :: acc).length = 20 - (a - 1 - 1) := by have := hd.2.2.1; simp; omega
      have hsl := fun W => run_room (P := Try.prog) (i := i0) Try.underlying64 hi0 hz1 w.heap.size (a - 1 - 1) (by omega) ((a : Int) - 1 - 1) (by omega) W
      have hconv := run_conv_ns (P := Try.prog) _ 23 5 9 Try.underlying23 Try.underlying5 Try.underlying9 (20 - (a - 1 - 1)) hf2.ns
      rw [hl3] at hconv
      clear hd hf hb hf1 hf2 hl3
      by_cases h10 : m < 10
      · go_wp2
        go_ret
        refine ⟨?_, (Hd.out.2.2.1.setCell (by simp) _).setCell (by simp) _⟩
        rw [dig_last' Hd.out.1 hm0 h10]
        rfl
      · go_wp2
        go_roundw
        case rel => exact ⟨m / 10, a - 1, (48 + m % 10) :: acc, by omega, by omega, rfl, by go_num, dig_more Hd.out.1 (by omega), Hd.out.2.1, Hd.out.2.2.1.setCell (by simp) _, by simp [World.setCell]; exact hsz⟩
        case measure => simp [intOf]; omega
  · have hN : digL n = decF 19 n [] := by unfold digL; rw [if_neg h0]
    rw [hN]
    clear hN
    go_enter Try.func26, Try.ntmps26
    go_wp2
    go_loopw [4, 5] (fun r p wr => AtDig w n r p wr) (fun r _ _ => (intOf r).toNat)
    case atStart => exact ⟨n, 20, [], by omega, by omega, rfl, rfl, dig_start _ (by omega), ⟨_, heap_alloc_new w _, by rfl, by rfl⟩, (Below.refl _ _).alloc (Nat.le_refl _) _, by simp⟩
    case round =>
      obtain ⟨m, a, acc, hm0, hm1, rfl, rfl, hd, hf, hb, hsz⟩ := hrel
      have ha2 := hd.2.2.2
      have ha20 : a ≤ 20 := by have := hd.2.2.1; omega
      obtain ⟨u, hu⟩ := hf.cell (a - 1) (by omega)
      have hfr := hf.frozen (a - 1)
      have hf1 := hf.set (by omega) ha20 (48 + m % 10)
      have Hd := Lib.hid (And.intro hd (And.intro hf1 hb))
      have hl3 : ((48 + m % 10) :: acc).length = 20 - (a - 1) := by have := hd.2.2.1; simp; omega
      have hsl := fun W => run_room (P := Try.prog) (i := i0) Try.underlying64 hi0 hz1 w.heap.size (a - 1) (by omega) ((a : Int) - 1) (by omega) W
      have hconv := run_conv_ns (P := Try.prog) _ 23 5 9 Try.underlying23 Try.underlying5 Try.underlying9 (20 - (a - 1)) hf1.ns
      rw [hl3] at hconv
      clear hd hf hb hf1 hl3
      by_cases h10 : m < 10
      · go_wp2
        go_ret
        refine ⟨?_, Hd.out.2.2.setCell (by simp) _⟩
        rw [dig_last' Hd.out.1 hm0 h10]
        rfl
      · go_wp2
        go_roundw
        case rel => exact ⟨m / 10, a - 1, (48 + m % 10) :: acc, by omega, by omega, rfl, by go_num, dig_more Hd.out.1 (by omega), Hd.out.2.1, Hd.out.2.2.setCell (by simp) _, by simp [World.setCell]; exact hsz⟩
        case measure => simp [intOf]; omega
end Num
end Go.Proofs.Ytpgpeigaoonpcaa
