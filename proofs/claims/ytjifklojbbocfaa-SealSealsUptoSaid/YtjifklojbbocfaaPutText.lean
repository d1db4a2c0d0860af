/-
  num.PutText and firthref01.PutText make the bytes of a text.
-/
import Derived.Test.YtjifklojbbocfaaPutNum
namespace Go.Proofs.Ytjifklojbbocfaa
namespace Num
open Go.RowKit

def textL (s : ByteArray) : List Int := putL (s.size : Int) ++ strNums s

theorem puttext (s : ByteArray) (hs : s.size ≤ 140737488351232) (w : World) :
    Calls Try.prog 25 #[.string s] w (MadeNs 5 .u8 (textL s) w) := by
  obtain ⟨i0, hi0, hz0, hz1, hz2⟩ := info_parts Facts.info5
  have h1 := putnum_pos (s.size : Int) (by omega) w
  have hl : (putL (s.size : Int)).length ≤ 9 := putF_len 9 (s.size : Int)
  obtain ⟨L, hL⟩ : ∃ L, putL (s.size : Int) = L := ⟨_, rfl⟩
  have HL : Hid (textL s = L ++ strNums s) := by unfold textL; rw [hL]; exact rfl
  rw [hL] at h1 hl
  clear hL
  have H1 := Lib.hid h1
  clear h1
  go_enter Try.func25, Try.ntmps25
  go_wp2_with fail
  refine H1.out.mono ?_
  rintro e w1 ⟨A, c, rfl, hown, hb⟩
  go_wp2_with (at_builtin; refine Lib.wpList_append_own_string _ rfl (.tmp 5) (.tmp 6) 25 9 rfl w.heap.size 5 i0 Try.underlying25 Try.underlying9 hi0 hz0 hz1 hz2 _ L.length (nums .u8 L) rfl hown s rfl (by unfold maxLen; omega) (by omega) hb.size ?_; intro v2 w2 hown2 hg2 _)
  have hb2 : Below w.heap.size w w2 := hb.grown hg2 hb.size (fun k hk => (hown.lt k hk).1)
  have R : MadeNs 5 .u8 (textL s) w (.returned v2) w2 := by
    obtain ⟨A2, c2, rfl⟩ := own_form hown2
    have hlen : (textL s).length = L.length + s.size := by rw [HL.out, List.length_append, strNums_length]
    refine ⟨A2, c2, by rw [hlen], ?_, hb2⟩
    rw [hlen, HL.out]
    rw [strCells_nums] at hown2
    simpa [nums] using hown2
  clear hown hown2 hg2
  go_wp2
  go_ret
  exact R

theorem ref_puttext (s : ByteArray) (hs : s.size ≤ 140737488351232) (w : World) :
    Calls Try.prog 27 #[.string s] w (MadeNs 5 .u8 (textL s) w) := by
  obtain ⟨i0, hi0, hz0, hz1, hz2⟩ := info_parts Facts.info5
  have h1 := ref_putnum_pos (s.size : Int) (by omega) w
  have hl : (putL (s.size : Int)).length ≤ 9 := putF_len 9 (s.size : Int)
  obtain ⟨L, hL⟩ : ∃ L, putL (s.size : Int) = L := ⟨_, rfl⟩
  have HL : Hid (textL s = L ++ strNums s) := by unfold textL; rw [hL]; exact rfl
  rw [hL] at h1 hl
  clear hL
  have H1 := Lib.hid h1
  clear h1
  go_enter Try.func27, Try.ntmps27
  go_wp2_with fail
  refine H1.out.mono ?_
  rintro e w1 ⟨A, c, rfl, hown, hb⟩
  go_wp2
  go_loopw [3, 4] (fun v q wr => ∃ k : Nat, k ≤ s.size ∧ q = .int .i64 k ∧ wr.ownsRow w.heap.size 5 1 v (L.length + k) (nums .u8 (L ++ (strNums s).take k)) ∧ Below w.heap.size w wr) (fun _ q _ => s.size - (intOf q).toNat)
  case atStart => exact ⟨0, by omega, rfl, by simpa using hown, hb⟩
  case round =>
    obtain ⟨k, hk, rfl, hownr, hbr⟩ := hrel
    have hsz := hbr.size
    by_cases hlt : k < s.size
    · have hat := Lib.hid (strNums_at s k hlt)
      go_wp2_with (at_builtin; refine wpList_append_one _ rfl (.tmp 14) (.tmp 18) 25 rfl w.heap.size 5 i0 (.int .u8 0) 1 Try.underlying25 hi0 hz0 hz1 hz2 rfl _ (L.length + k) (nums .u8 (L ++ (strNums s).take k)) rfl hownr (.int .u8 ((s[k]'hlt).toNat : Int)) 1 rfl rfl (by omega) (by omega) hsz ?_; intro v1 w1 hown1 hg1 hat1)
      have hb1 : Below w.heap.size w w1 := hbr.grown hg1 hsz (fun k hk => (hownr.lt k hk).1)
      have ho : w1.ownsRow w.heap.size 5 1 v1 (L.length + (k + 1)) (nums .u8 (L ++ (strNums s).take (k + 1))) := by
        rw [hat.out]
        simpa [nums, Nat.add_assoc] using hown1
      clear hownr hown1 hg1 hat1
      go_wp2
      go_roundw
      case rel => exact ⟨k + 1, by omega, by go_num, ho, hb1⟩
      case measure => simp [intOf]; omega
    · go_wp2
      go_ret
      have hkk : k = s.size := by omega
      subst hkk
      rw [List.take_of_length_le (by rw [strNums_length]; omega)] at hownr
      obtain ⟨A2, c2, hv⟩ := own_form hownr
      subst hv
      have hlen : (textL s).length = L.length + s.size := by rw [HL.out, List.length_append, strNums_length]
      refine ⟨A2, c2, by rw [hlen]; rfl, ?_, hbr⟩
      rw [hlen, HL.out]
      exact hownr
end Num
end Go.Proofs.Ytjifklojbbocfaa
