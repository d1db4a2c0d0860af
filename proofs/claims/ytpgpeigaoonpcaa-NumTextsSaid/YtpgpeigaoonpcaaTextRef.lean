/-
  firthref01.Text tells what textF tells.
-/
import Derived.Test.YtpgpeigaoonpcaaText
namespace Go.Proofs.Ytpgpeigaoonpcaa
namespace Num
open Go.RowKit

theorem ref_text_in (A : Option Addr) (c : Nat) (zs : List Int) (i : Nat) (most : Int) (hm : -9223372036854775808 ≤ most ∧ most ≤ 9223372036854775807) (B : Nat) (w : World) (hr : Ns .u8 w B A zs) (hby : ∀ z ∈ zs, 0 ≤ z ∧ z ≤ 255)
    (hbig : zs.length ≤ 140737488355328) (hc : zs.length ≤ c) (hi : i ≤ zs.length) :
    Calls Try.prog 23 #[.slice A zs.length c, .int .i64 i, .int .i64 most] w (TellsT (textF zs i most) w) := by
  have h1 := ref_num_in A c zs i B w hr hby (by omega) hi
  obtain ⟨⟨n, p, e⟩, hF⟩ : ∃ r, numF zs i = r := ⟨_, rfl⟩
  have hT : textF zs i most = if e ≠ 0 then ([], 0, e) else if max most 0 < n then ([], 0, 3) else if (zs.length : Int) - p < n then ([], 0, 4) else ((zs.drop p).take n.toNat, p + n.toNat, 0) := by
    unfold textF; rw [hF]
  rw [hF] at h1
  by_cases he : e = 0
  · subst he
    obtain ⟨hn0, hn1, hip, hpl⟩ := numF_ok hby hF
    rw [if_neg (by simp)] at hT
    have H1 := Lib.hid h1
    by_cases hm0 : 0 ≤ most
    all_goals by_cases hb : max most 0 < n
    · rw [if_pos hb] at hT
      rw [hT]
      have hb' : most < n := by omega
      clear h1 hF hT hb
      go_enter Try.func23, Try.ntmps23
      go_wp2_with fail
      refine H1.out.mono ?_
      rintro e w' ⟨rfl, rfl⟩
      go_wp2_with fail
      go_ret3
      exact ⟨rfl, rfl⟩
    · rw [if_neg hb] at hT
      have hb' : n ≤ most := by omega
      clear hb
      by_cases hl : (zs.length : Int) - p < n
      · rw [if_pos hl] at hT
        rw [hT]
        clear h1 hF hT
        go_enter Try.func23, Try.ntmps23
        go_wp2_with fail
        refine H1.out.mono ?_
        rintro e w' ⟨rfl, rfl⟩
        go_wp2_with fail
        all_goals
          go_ret3
          exact ⟨rfl, rfl⟩
      · rw [if_neg hl] at hT
        obtain ⟨b, off, rfl, _, _⟩ := hr (by omega)
        obtain ⟨m, rfl⟩ := Int.eq_ofNat_of_zero_le hn0
        rw [Int.toNat_natCast] at hT
        have hpm : p + m ≤ zs.length := by omega
        have hS := cut_len hpm
        have hcut := hr.cut p m
        obtain ⟨S, hSe⟩ : ∃ S, (zs.drop p).take m = S := ⟨_, rfl⟩
        rw [hSe] at hS hT hcut
        rw [hT]
        have hconv := run_conv_ns (P := Try.prog) w 23 5 9 Try.underlying23 Try.underlying5 Try.underlying9 (c - p) hcut
        rw [hS] at hconv
        clear h1 hF hT hl hcut hSe
        by_cases hpc : c = p
        · obtain rfl : m = 0 := by omega
          obtain rfl : S = [] := List.eq_nil_of_length_eq_zero hS
          subst hpc
          have hconv2 := run_conv_ns (P := Try.prog) w (A := some ⟨b, off, none⟩) (B := B) 23 5 9 Try.underlying23 Try.underlying5 Try.underlying9 0 (Ns.nil _)
          rw [List.length_nil] at hconv2
          clear hconv hr hby
          go_enter Try.func23, Try.ntmps23
          go_wp2_with fail
          refine H1.out.mono ?_
          rintro e w' ⟨rfl, rfl⟩
          go_wp2_with fail
          go_ret3
          exact ⟨rfl, rfl⟩
        · have HS := Lib.hid hS
          clear hr hby hS
          go_enter Try.func23, Try.ntmps23
          go_wp2_with fail
          refine H1.out.mono ?_
          rintro e w' ⟨rfl, rfl⟩
          go_wp2_with fail
          go_ret3
          exact ⟨rfl, rfl⟩
    · rw [if_pos hb] at hT
      rw [hT]
      have hb' : 0 < n := by omega
      have hm1 : most < 0 := by omega
      clear h1 hF hT hb hm0
      go_enter Try.func23, Try.ntmps23
      go_wp2_with fail
      refine H1.out.mono ?_
      rintro e w' ⟨rfl, rfl⟩
      go_wp2_with fail
      go_ret3
      exact ⟨rfl, rfl⟩
    · rw [if_neg hb] at hT
      have hb' : n ≤ 0 := by omega
      have hm1 : most < 0 := by omega
      clear hb hm0
      by_cases hl : (zs.length : Int) - p < n
      · rw [if_pos hl] at hT
        rw [hT]
        clear h1 hF hT
        go_enter Try.func23, Try.ntmps23
        go_wp2_with fail
        refine H1.out.mono ?_
        rintro e w' ⟨rfl, rfl⟩
        go_wp2_with fail
        all_goals
          go_ret3
          exact ⟨rfl, rfl⟩
      · rw [if_neg hl] at hT
        obtain ⟨b, off, rfl, _, _⟩ := hr (by omega)
        obtain ⟨m, rfl⟩ := Int.eq_ofNat_of_zero_le hn0
        rw [Int.toNat_natCast] at hT
        have hpm : p + m ≤ zs.length := by omega
        have hS := cut_len hpm
        have hcut := hr.cut p m
        obtain ⟨S, hSe⟩ : ∃ S, (zs.drop p).take m = S := ⟨_, rfl⟩
        rw [hSe] at hS hT hcut
        rw [hT]
        have hconv := run_conv_ns (P := Try.prog) w 23 5 9 Try.underlying23 Try.underlying5 Try.underlying9 (c - p) hcut
        rw [hS] at hconv
        clear h1 hF hT hl hcut hSe
        by_cases hpc : c = p
        · obtain rfl : m = 0 := by omega
          obtain rfl : S = [] := List.eq_nil_of_length_eq_zero hS
          subst hpc
          have hconv2 := run_conv_ns (P := Try.prog) w (A := some ⟨b, off, none⟩) (B := B) 23 5 9 Try.underlying23 Try.underlying5 Try.underlying9 0 (Ns.nil _)
          rw [List.length_nil] at hconv2
          clear hconv hr hby
          go_enter Try.func23, Try.ntmps23
          go_wp2_with fail
          refine H1.out.mono ?_
          rintro e w' ⟨rfl, rfl⟩
          go_wp2_with fail
          go_ret3
          exact ⟨rfl, rfl⟩
        · have HS := Lib.hid hS
          clear hr hby hS
          go_enter Try.func23, Try.ntmps23
          go_wp2_with fail
          refine H1.out.mono ?_
          rintro e w' ⟨rfl, rfl⟩
          go_wp2_with fail
          go_ret3
          exact ⟨rfl, rfl⟩
  · have heb : (e == 0) = false := by simpa using he
    have heb2 : (e != 0) = true := by simpa using he
    rw [hT, if_pos he]
    have H1 := Lib.hid h1
    clear h1 hF hT he
    go_enter Try.func23, Try.ntmps23
    go_wp2_with fail
    refine H1.out.mono ?_
    rintro e' w' ⟨rfl, rfl⟩
    go_wp2_with fail
    go_ret3
    exact ⟨rfl, rfl⟩

end Num
end Go.Proofs.Ytpgpeigaoonpcaa
