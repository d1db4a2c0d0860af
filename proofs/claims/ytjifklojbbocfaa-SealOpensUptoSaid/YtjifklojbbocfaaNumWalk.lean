/-
  num.Num tells what numF tells.
-/
import Derived.Test.YtjifklojbbocfaaRows
import Derived.Test.YtjifklojbbocfaaNumPlain
import Derived.Test.YtjifklojbbocfaaBase
namespace Go.Proofs.Ytjifklojbbocfaa
namespace Num
open Go.RowKit

def Tells3 (r : Int × Nat × Int) (w : World) (e : Ending) (w' : World) : Prop := e = .returned (.tuple #[.int .i64 r.1, .int .i64 (r.2.1 : Nat), .int .i64 r.2.2]) ∧ w = w'

theorem num_in (A : Option Addr) (c : Nat) (zs : List Int) (i : Nat) (B : Nat) (w : World) (hr : Ns .u8 w B A zs) (hby : ∀ z ∈ zs, 0 ≤ z ∧ z ≤ 255) (hbig : zs.length ≤ 140737488355328) (hi : i ≤ zs.length) :
    Calls Try.prog 40 #[.slice A zs.length c, .int .i64 i] w (Tells3 (numF zs i) w) := by
  go_enter Try.func40, Try.ntmps40
  go_wp2
  go_step3
  go_wp2
  go_step3
  go_wp2
  go_loop [4, 5, 6, 7, 8] (fun _ _ _ n q => ∃ (k : Nat) (a : Int), i + k ≤ zs.length ∧ k ≤ 8 ∧ 0 ≤ a ∧ a < 128 ^ k ∧ n = .int .i64 a ∧ q = .int .i64 k ∧ Hid (numF zs i = numR (zs.drop (i + k)) (i + k) k a)) (fun _ _ _ _ q => zs.length - (intOf q).toNat)
  case atStart => exact ⟨0, 0, by omega, by omega, by omega, by simp, rfl, rfl, rfl⟩
  case round =>
    obtain ⟨k, a, hk, hk8, ha0, hak, rfl, rfl, hst⟩ := hrel
    by_cases hlt : i + k < zs.length
    · obtain ⟨b, off, rfl, hbB, hc⟩ := hr (by omega)
      have hcell := hc _ hlt
      obtain ⟨z, hz⟩ : ∃ z, zs.getD (i + k) 0 = z := ⟨_, rfl⟩
      have hb1 : 0 ≤ z ∧ z ≤ 255 := by
        rw [← hz, List.getD_eq_getElem?_getD, List.getElem?_eq_getElem hlt]; exact hby _ (List.getElem_mem hlt)
      rw [hz] at hcell
      have Hz := Lib.hid hz
      clear hz hr hc hby
      obtain ⟨hb0, hb1⟩ := hb1
      by_cases hA : (8 ≤ k ∧ 128 ≤ z) ∨ (0 < k ∧ z ≤ 0)
      · have hs := Lib.hid (hst.out.trans (numR_bad zs i k a z hlt Hz.out (by omega)))
        rcases hA with ⟨hA1, hA2⟩ | ⟨hA1, hA2⟩
        · go_wp2
          all_goals
            try rw [Exit.noGoto_ret]
            go_ret3
            rw [hs.out]
            exact ⟨ret3 rfl rfl rfl, rfl⟩
        · go_wp2
          all_goals
            try rw [Exit.noGoto_ret]
            go_ret3
            rw [hs.out]
            exact ⟨ret3 rfl rfl rfl, rfl⟩
      · have hA3 : 0 < k → 0 < z := by omega
        by_cases hB : z < 128
        · have hs := Lib.hid (hst.out.trans (numR_last zs i k a z hlt Hz.out (by omega) hB))
          have hor := Lib.hid (or_low k a z hk8 ha0 hak hb0 hB)
          go_wp2
          all_goals
            try rw [Exit.noGoto_ret]
            go_ret3
            rw [hs.out]
            first | exact ⟨ret3 hor.out rfl rfl, rfl⟩ | exact ⟨ret3 (or_low8 k a z (by omega) ha0 hak hb0 hB) (by show (i : Int) + 9 = ((i + k + 1 : Nat) : Int); omega) rfl, rfl⟩
        · have hk7 : k < 8 := by omega
          have hs := Lib.hid (hst.out.trans (numR_more zs i k a z hlt Hz.out hk7 (by omega)))
          have hor := Lib.hid (or_high k a z hk8 ha0 hak (by omega) (by omega))
          have hup := Lib.hid (acc_lt k a (z - 128) hak (by omega))
          have hge := Lib.hid (acc_ge k a (z - 128) ha0 (by omega))
          go_wp2
          all_goals
            go_round
            case rel => exact ⟨_, _, _, _, _, ⟨k + 1, by omega, by omega, _, hge.out, hup.out, rfl, rfl, hs.out⟩, rfl, rfl, rfl, congrArg (Value.int .i64) hor.out, by go_num⟩
            case measure => simp [intOf]; omega
    · have hstep := Lib.hid (numR_end zs i k a (by omega))
      go_wp2
      try rw [Exit.noGoto_ret]
      go_ret3
      rw [hst.out, hstep.out]
      exact ⟨ret3 rfl rfl rfl, rfl⟩

theorem num_out (A : Option Addr) (c n : Nat) (i : Int) (w : World) (hi : i < 0 ∨ (n : Int) < i) :
    Calls Try.prog 40 #[.slice A n c, .int .i64 i] w (Tells3 (0, 0, 1) w) := by
  by_cases h0 : i < 0
  · have hd : decide (i < 0) = true := decide_eq_true h0
    go_enter Try.func40, Try.ntmps40
    go_wp2
    go_step3
    go_wp2
    try rw [Exit.noGoto_ret]
    go_ret3
    exact ⟨ret3 rfl rfl rfl, rfl⟩
  · have h1 : (n : Int) < i := by omega
    have hd : decide (i < 0) = false := decide_eq_false h0
    have hd2 : decide ((n : Int) < i) = true := decide_eq_true h1
    clear hi
    go_enter Try.func40, Try.ntmps40
    go_wp2
    go_step3
    go_wp2
    try rw [Exit.noGoto_ret]
    go_ret3
    exact ⟨ret3 rfl rfl rfl, rfl⟩
theorem num_at (A : Option Addr) (c n : Nat) (zs : List Int) (hn : zs.length = n) (i : Nat) (B : Nat) (w : World) (hr : Ns .u8 w B A zs) (hby : ∀ z ∈ zs, 0 ≤ z ∧ z ≤ 255) (hbig : zs.length ≤ 140737488355328) (hi : i ≤ zs.length) :
    Calls Try.prog 40 #[.slice A n c, .int .i64 i] w (Tells3 (numF zs i) w) := by
  subst hn
  exact num_in A c zs i B w hr hby hbig hi
end Num
end Go.Proofs.Ytjifklojbbocfaa
