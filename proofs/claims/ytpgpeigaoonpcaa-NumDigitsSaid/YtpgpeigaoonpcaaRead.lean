/-
  num.Read and firthref01.Read tell what readF tells.
-/
import Derived.Test.YtpgpeigaoonpcaaReadPlain
import Derived.Test.YtpgpeigaoonpcaaRows
namespace Go.Proofs.Ytpgpeigaoonpcaa
namespace Num
open Go.RowKit

theorem read_any (s : ByteArray) (hs : s.size ≤ 9223372036854775807) (w : World) :
    Calls Try.prog 24 #[.string s] w (Tells2 (readF (strNums s)) w) := by
  rcases Nat.eq_zero_or_pos s.size with h0 | h0
  · obtain rfl := str_empty h0
    go_enter Try.func24, Try.ntmps24
    go_wp2
    go_ret2
    exact ⟨ret2 rfl rfl, rfl⟩
  · have hemp := str_some h0
    have hl := strNums_length s
    by_cases h1 : 1 < s.size ∧ ((s[0]'h0).toNat : Int) = 48
    · have hR : readF (strNums s) = (0, 2) := by
        unfold readF
        rw [if_pos (.inr ⟨by omega, by rw [strNums_getD s 0 h0]; exact h1.2⟩)]
      rw [hR]
      obtain ⟨h1, h2⟩ := h1
      clear hl hR
      go_enter Try.func24, Try.ntmps24
      go_wp2
      go_ret2
      exact ⟨ret2 rfl rfl, rfl⟩
    · have hR : readF (strNums s) = readR (strNums s) 0 := by
        unfold readF
        rw [if_neg]
        rintro (h | ⟨h, h'⟩)
        · rw [h] at hl; simp at hl; omega
        · rw [strNums_getD s 0 h0] at h'
          exact h1 ⟨by omega, h'⟩
      have hcase : s.size ≤ 1 ∨ (1 < s.size ∧ (((s[0]'h0).toNat : Int) == 48) = false) := by
        by_cases h2 : 1 < s.size
        · exact .inr ⟨h2, by simpa using fun h3 => h1 ⟨h2, h3⟩⟩
        · exact .inl (by omega)
      have HR := Lib.hid (And.intro hR hl)
      clear hR hl h1
      rcases hcase with h1 | ⟨h1, h2⟩
      all_goals
        go_enter Try.func24, Try.ntmps24
        go_wp2
        go_loop [2, 3, 4, 21] (fun _ _ x q => ∃ (k : Nat) (n : Int), k ≤ s.size ∧ 0 ≤ n ∧ n ≤ 9223372036854775807 ∧ x = .int .i64 n ∧ q = .int .i64 k ∧ Hid (readF (strNums s) = readR ((strNums s).drop k) n)) (fun _ _ x q => s.size - (intOf q).toNat)
        case atStart => exact ⟨0, 0, by omega, by omega, by omega, rfl, rfl, HR.out.1⟩
        case round =>
          obtain ⟨k, n, hk, hn0, hn1, rfl, rfl, hst⟩ := hrel
          by_cases hlt : k < s.size
          · have hz0 : (0 : Int) ≤ ((s[k]'hlt).toNat : Int) := by omega
            have hz1 : ((s[k]'hlt).toNat : Int) ≤ 255 := by have := (s[k]'hlt).toNat_lt; omega
            have hs2 := Lib.hid (hst.out.trans (readR_at (strNums s) k n _ (by rw [strNums_length]; exact hlt) (strNums_getD s k hlt)))
            by_cases hb : ((s[k]'hlt).toNat : Int) < 48
            · go_wp2
              all_goals
                go_ret2
                rw [hs2.out, if_pos (.inl hb)]
                exact ⟨ret2 rfl rfl, rfl⟩
            · by_cases hb2 : (57 : Int) < ((s[k]'hlt).toNat : Int)
              · go_wp2
                all_goals
                  go_ret2
                  rw [hs2.out, if_pos (.inr hb2)]
                  exact ⟨ret2 rfl rfl, rfl⟩
              · by_cases hb3 : (9223372036854775807 - (((s[k]'hlt).toNat : Int) - 48)) / 10 < n
                · go_wp2
                  all_goals
                    go_ret2
                    rw [hs2.out, if_neg (by omega), if_pos hb3]
                    exact ⟨ret2 rfl rfl, rfl⟩
                · go_wp2
                  go_round
                  case rel => exact ⟨k + 1, n * 10 + (((s[k]'hlt).toNat : Int) - 48), by omega, by omega, by omega, by go_num, by go_num, by unfold Hid; rw [hs2.out, if_neg (by omega), if_neg hb3]⟩
                  case measure => simp [intOf]; omega
          · have hs2 := Lib.hid (hst.out.trans (readR_end (strNums s) k n (by rw [strNums_length]; omega)))
            go_wp2
            go_ret2
            rw [hs2.out]
            exact ⟨ret2 rfl rfl, rfl⟩

theorem ref_read_any (s : ByteArray) (hs : s.size ≤ 9223372036854775807) (w : World) :
    Calls Try.prog 25 #[.string s] w (Tells2 (readF (strNums s)) w) := by
  rcases Nat.eq_zero_or_pos s.size with h0 | h0
  · obtain rfl := str_empty h0
    go_enter Try.func25, Try.ntmps25
    go_wp2
    go_ret2
    exact ⟨ret2 rfl rfl, rfl⟩
  · have hemp := str_some h0
    have hl := strNums_length s
    by_cases h1 : 1 < s.size ∧ ((s[0]'h0).toNat : Int) = 48
    · have hR : readF (strNums s) = (0, 2) := by
        unfold readF
        rw [if_pos (.inr ⟨by omega, by rw [strNums_getD s 0 h0]; exact h1.2⟩)]
      rw [hR]
      obtain ⟨h1, h2⟩ := h1
      clear hl hR
      go_enter Try.func25, Try.ntmps25
      go_wp2
      go_ret2
      exact ⟨ret2 rfl rfl, rfl⟩
    · have hR : readF (strNums s) = readR (strNums s) 0 := by
        unfold readF
        rw [if_neg]
        rintro (h | ⟨h, h'⟩)
        · rw [h] at hl; simp at hl; omega
        · rw [strNums_getD s 0 h0] at h'
          exact h1 ⟨by omega, h'⟩
      have hcase : s.size ≤ 1 ∨ (1 < s.size ∧ (((s[0]'h0).toNat : Int) == 48) = false) := by
        by_cases h2 : 1 < s.size
        · exact .inr ⟨h2, by simpa using fun h3 => h1 ⟨h2, h3⟩⟩
        · exact .inl (by omega)
      have HR := Lib.hid (And.intro hR hl)
      clear hR hl h1
      rcases hcase with h1 | ⟨h1, h2⟩
      all_goals
        go_enter Try.func25, Try.ntmps25
        go_wp2
        go_loop [2, 3, 4, 5] (fun _ _ x q => ∃ (k : Nat) (n : Int), k ≤ s.size ∧ 0 ≤ n ∧ n ≤ 9223372036854775807 ∧ x = .int .i64 n ∧ q = .int .i64 k ∧ Hid (readF (strNums s) = readR ((strNums s).drop k) n)) (fun _ _ x q => s.size - (intOf q).toNat)
        case atStart => exact ⟨0, 0, by omega, by omega, by omega, rfl, rfl, HR.out.1⟩
        case round =>
          obtain ⟨k, n, hk, hn0, hn1, rfl, rfl, hst⟩ := hrel
          by_cases hlt : k < s.size
          · have hz0 : (0 : Int) ≤ ((s[k]'hlt).toNat : Int) := by omega
            have hz1 : ((s[k]'hlt).toNat : Int) ≤ 255 := by have := (s[k]'hlt).toNat_lt; omega
            have hs2 := Lib.hid (hst.out.trans (readR_at (strNums s) k n _ (by rw [strNums_length]; exact hlt) (strNums_getD s k hlt)))
            by_cases hb : ((s[k]'hlt).toNat : Int) < 48
            · go_wp2
              all_goals
                go_ret2
                rw [hs2.out, if_pos (.inl hb)]
                exact ⟨ret2 rfl rfl, rfl⟩
            · by_cases hb2 : (57 : Int) < ((s[k]'hlt).toNat : Int)
              · go_wp2
                all_goals
                  go_ret2
                  rw [hs2.out, if_pos (.inr hb2)]
                  exact ⟨ret2 rfl rfl, rfl⟩
              · by_cases hb3 : (9223372036854775807 - (((s[k]'hlt).toNat : Int) - 48)) / 10 < n
                · go_wp2
                  all_goals
                    go_ret2
                    rw [hs2.out, if_neg (by omega), if_pos hb3]
                    exact ⟨ret2 rfl rfl, rfl⟩
                · go_wp2
                  go_round
                  case rel => exact ⟨k + 1, n * 10 + (((s[k]'hlt).toNat : Int) - 48), by omega, by omega, by omega, by go_num, by go_num, by unfold Hid; rw [hs2.out, if_neg (by omega), if_neg hb3]⟩
                  case measure => simp [intOf]; omega
          · have hs2 := Lib.hid (hst.out.trans (readR_end (strNums s) k n (by rw [strNums_length]; omega)))
            go_wp2
            go_ret2
            rw [hs2.out]
            exact ⟨ret2 rfl rfl, rfl⟩

end Num
end Go.Proofs.Ytpgpeigaoonpcaa
