/-
  frame.feed, frame.Sum, firthref02.Sum: the check sum.
-/
import Derived.Test.YtgiojcjnljmaiaaSumPlain
import Derived.Test.YtgiojcjnljmaiaaFacts
namespace Go.Proofs.Ytgiojcjnljmaiaa
namespace Frm
open Go.RowKit

theorem feed_any (r c : Int) (hr : U32 r) (hc : 0 ≤ c ∧ c ≤ 255) (w : World) :
    Calls Try.prog 18 #[.int .u32 r, .int .u8 c] w fun e w' => e = .returned (.int .u32 (feedC r c)) ∧ w = w' := by
  have hx := xor_range r c hr (byte_u32 hc)
  obtain ⟨x, hxe⟩ : ∃ x, bits .xor .u32 r c = x := ⟨_, rfl⟩
  have HF : Hid (feedC r c = iterC 8 x) := by unfold Hid feedC; rw [hxe]
  rw [hxe] at hx
  obtain ⟨hx0, hx1⟩ := hx
  obtain ⟨hr0, hr1⟩ := hr
  obtain ⟨hc0, hc1⟩ := hc
  go_enter Try.func18, Try.ntmps18
  go_wp2
  clear hxe
  go_loop [0, 10] (fun q i => ∃ (k : Nat) (m : Int), k ≤ 8 ∧ 0 ≤ m ∧ m ≤ 4294967295 ∧ q = .int .u32 m ∧ i = .int .i64 k ∧ Hid (feedC r c = iterC (8 - k) m)) (fun _ i => 8 - (intOf i).toNat)
  case atStart => exact ⟨0, x, by omega, hx0, hx1, rfl, rfl, HF⟩
  case round =>
    obtain ⟨k, m, hk, hm0, hm1, rfl, rfl, hst⟩ := hrel
    by_cases h8 : k < 8
    · have hand := and_one m ⟨hm0, hm1⟩
      have hrg := stepC_range m ⟨hm0, hm1⟩
      have hit : iterC (8 - k) m = iterC (8 - (k + 1)) (stepC m) := by rw [show 8 - k = (8 - (k + 1)) + 1 by omega]; rfl
      have H := Lib.hid (And.intro hrg hit)
      clear hrg hit
      by_cases h1 : m % 2 = 1
      · have hs : stepC m = bits .xor .u32 (m / 2) 3988292384 := by unfold stepC; rw [if_pos h1]
        have HS := Lib.hid hs
        have hb : (m % 2 == 1) = true := by simpa using h1
        clear hs h1
        go_wp2
        go_round
        case rel => exact ⟨k + 1, stepC m, by omega, H.out.1.1, H.out.1.2, by rw [HS.out], by go_num, hst.out.trans H.out.2⟩
        case measure => simp [intOf]; omega
      · have hs : stepC m = m / 2 := by unfold stepC; rw [if_neg h1]
        have HS := Lib.hid hs
        have hb : (m % 2 == 1) = false := by simpa using h1
        clear hs h1
        go_wp2
        go_round
        case rel => exact ⟨k + 1, stepC m, by omega, H.out.1.1, H.out.1.2, by rw [HS.out], by go_num, hst.out.trans H.out.2⟩
        case measure => simp [intOf]; omega
    · go_wp2
      go_ret
      have hk8 : 8 - k = 0 := by omega
      have h := hst.out
      rw [hk8] at h
      exact ⟨by rw [h]; rfl, rfl⟩

theorem ref_sum_any (A : Option Addr) (c : Nat) (zs : List Int) (B : Nat) (w : World) (hr : Ns .u8 w B A zs) (hby : ∀ z ∈ zs, 0 ≤ z ∧ z ≤ 255) (hbig : zs.length ≤ 140737488355328) :
    Calls Try.prog 22 #[.slice A zs.length c] w fun e w' => e = .returned (.int .u32 (sumF zs)) ∧ w = w' := by
  go_enter Try.func22, Try.ntmps22
  go_wp2
  go_loop [3, 4] (fun q i => ∃ (k : Nat) (m : Int), k ≤ zs.length ∧ U32 m ∧ q = .int .u32 m ∧ i = .int .i64 k ∧ Hid (sumR zs 4294967295 = sumR (zs.drop k) m)) (fun _ i => zs.length - (intOf i).toNat)
  case atStart => exact ⟨0, _, by omega, full, rfl, rfl, rfl⟩
  case round =>
    obtain ⟨k, m, hk, hm, rfl, rfl, hst⟩ := hrel
    by_cases hlt : k < zs.length
    · obtain ⟨b, off, rfl, hbB, hc⟩ := hr (by omega)
      have hcell := hc _ hlt
      have hz := hby _ (List.getElem_mem hlt)
      have hdrop : zs.drop k = zs[k] :: zs.drop (k + 1) := List.drop_eq_getElem_cons hlt
      have hgd : zs.getD k 0 = zs[k] := by rw [List.getD_eq_getElem?_getD, List.getElem?_eq_getElem hlt]; rfl
      rw [hgd] at hcell
      obtain ⟨z, hze⟩ : ∃ z, zs[k] = z := ⟨_, rfl⟩
      rw [hze] at hcell hz hdrop
      have hst2 : Hid (sumR zs 4294967295 = sumR (zs.drop (k + 1)) (feedC m z)) := by unfold Hid; rw [hst.out, hdrop]; rfl
      have hx := xor_range m z hm (byte_u32 hz)
      obtain ⟨x, hxe⟩ : ∃ x, bits .xor .u32 m z = x := ⟨_, rfl⟩
      have HF : Hid (feedC m z = iterC 8 x) := by unfold Hid feedC; rw [hxe]
      rw [hxe] at hx
      obtain ⟨hx0, hx1⟩ := hx
      obtain ⟨hz0, hz1⟩ := hz
      obtain ⟨hm0, hm1⟩ := hm
      clear hr hc hby hdrop hgd hze
      go_wp2
      clear hxe
      go_loop [3, 5] (fun q i => ∃ (j : Nat) (y : Int), j ≤ 8 ∧ 0 ≤ y ∧ y ≤ 4294967295 ∧ q = .int .u32 y ∧ i = .int .i64 j ∧ Hid (feedC m z = iterC (8 - j) y)) (fun _ i => 8 - (intOf i).toNat)
      case atStart => exact ⟨0, x, by omega, hx0, hx1, rfl, rfl, HF⟩
      case round =>
        obtain ⟨j, y, hj, hy0, hy1, rfl, rfl, hst3⟩ := hrel
        by_cases h8 : j < 8
        · have hrg := stepC_range y ⟨hy0, hy1⟩
          have hit : iterC (8 - j) y = iterC (8 - (j + 1)) (stepC y) := by rw [show 8 - j = (8 - (j + 1)) + 1 by omega]; rfl
          have H := Lib.hid (And.intro hrg hit)
          clear hrg hit
          by_cases h1 : y % 2 = 1
          · have hs : stepC y = bits .xor .u32 (y / 2) 3988292384 := by unfold stepC; rw [if_pos h1]
            have HS := Lib.hid hs
            have hb : (y % 2 == 1) = true := by simpa using h1
            clear hs h1
            go_wp2
            go_round
            case rel => exact ⟨j + 1, stepC y, by omega, H.out.1.1, H.out.1.2, by rw [HS.out], by go_num, hst3.out.trans H.out.2⟩
            case measure => simp [intOf]; omega
          · have hs : stepC y = y / 2 := by unfold stepC; rw [if_neg h1]
            have HS := Lib.hid hs
            have hb : (y % 2 == 1) = false := by simpa using h1
            clear hs h1
            go_wp2
            go_round
            case rel => exact ⟨j + 1, stepC y, by omega, H.out.1.1, H.out.1.2, by rw [HS.out], by go_num, hst3.out.trans H.out.2⟩
            case measure => simp [intOf]; omega
        · have hk8 : 8 - j = 0 := by omega
          have h := hst3.out
          rw [hk8] at h
          have HE : Hid (sumR zs 4294967295 = sumR (zs.drop (k + 1)) y) := by unfold Hid; rw [hst2.out, h]; rfl
          clear h hst3
          go_wp2
          go_round
          case rel => exact ⟨k + 1, y, by omega, ⟨hy0, hy1⟩, rfl, by go_num, HE⟩
          case measure => simp [intOf]; omega
    · go_wp2
      go_ret
      have h := hst.out
      rw [List.drop_of_length_le (by omega)] at h
      have h2 : sumR zs 4294967295 = m := h
      exact ⟨by unfold sumF; rw [h2]; rfl, rfl⟩

theorem sum_any (A : Option Addr) (c : Nat) (ps : List (List Int)) (B : Nat) (w : World) (hr : Parts w B A ps) (hby : ∀ p ∈ ps, (∀ z ∈ p, 0 ≤ z ∧ z ≤ 255) ∧ p.length ≤ 140737488355328) (hbig : ps.length ≤ 140737488355328) :
    Calls Try.prog 12 #[.slice A ps.length c] w fun e w' => e = .returned (.int .u32 (sumF ps.flatten)) ∧ w = w' := by
  go_enter Try.func12, Try.ntmps12
  go_wp2
  go_loop [3, 10] (fun q i => ∃ (k : Nat) (m : Int), k ≤ ps.length ∧ U32 m ∧ q = .int .u32 m ∧ i = .int .i64 k ∧ Hid (sumR ps.flatten 4294967295 = sumR (ps.drop k).flatten m)) (fun _ i => ps.length - (intOf i).toNat)
  case atStart => exact ⟨0, _, by omega, full, rfl, rfl, rfl⟩
  case round =>
    obtain ⟨k, m, hk, hm, rfl, rfl, hst⟩ := hrel
    by_cases hlt : k < ps.length
    · obtain ⟨b, off, rfl, hbB, hc⟩ := hr (by omega)
      obtain ⟨A', c', hcell, hns, _⟩ := hc _ hlt
      have hgd : ps.getD k [] = ps[k] := by rw [List.getD_eq_getElem?_getD, List.getElem?_eq_getElem hlt]; rfl
      have hdrop : ps.drop k = ps[k] :: ps.drop (k + 1) := List.drop_eq_getElem_cons hlt
      have hz := hby _ (List.getElem_mem hlt)
      rw [hgd] at hcell hns
      obtain ⟨zs, hze⟩ : ∃ zs, ps[k] = zs := ⟨_, rfl⟩
      rw [hze] at hcell hz hdrop hns
      obtain ⟨hzb, hzl⟩ := hz
      obtain ⟨R, hR⟩ : ∃ R, (ps.drop (k + 1)).flatten = R := ⟨_, rfl⟩
      have hst2 : Hid (sumR ps.flatten 4294967295 = sumR (zs ++ R) m) := by unfold Hid; rw [hst.out, hdrop, List.flatten_cons, hR]
      have HR := Lib.hid hR
      clear hr hc hby hdrop hgd hze hst hR
      go_wp2
      go_loop [3, 16] (fun q i => ∃ (j : Nat) (y : Int), j ≤ zs.length ∧ U32 y ∧ q = .int .u32 y ∧ i = .int .i64 j ∧ Hid (sumR ps.flatten 4294967295 = sumR (zs.drop j ++ R) y)) (fun _ i => zs.length - (intOf i).toNat)
      case atStart => exact ⟨0, m, by omega, hm, rfl, rfl, hst2⟩
      case round =>
        obtain ⟨j, y, hj, hy, rfl, rfl, hst3⟩ := hrel
        by_cases hlt2 : j < zs.length
        · obtain ⟨b2, off2, rfl, _, hc2⟩ := hns (by omega)
          have hcell2 := hc2 _ hlt2
          have hz2 := hzb _ (List.getElem_mem hlt2)
          have hdrop2 : zs.drop j = zs[j] :: zs.drop (j + 1) := List.drop_eq_getElem_cons hlt2
          have hgd2 : zs.getD j 0 = zs[j] := by rw [List.getD_eq_getElem?_getD, List.getElem?_eq_getElem hlt2]; rfl
          rw [hgd2] at hcell2
          obtain ⟨z, hze2⟩ : ∃ z, zs[j] = z := ⟨_, rfl⟩
          rw [hze2] at hcell2 hz2 hdrop2
          have hst4 : Hid (sumR ps.flatten 4294967295 = sumR (zs.drop (j + 1) ++ R) (feedC y z)) := by unfold Hid; rw [hst3.out, hdrop2, List.cons_append, sumR_cons]
          have hf := Lib.hid (feed_any y z hy hz2)
          have hfr := Lib.hid (feedC_range y z hy hz2)
          clear hns hc2 hzb hdrop2 hgd2 hze2 hst3
          go_wp2_with (go_at_call 18; refine (hf.out _).mono ?_; rintro e w' ⟨rfl, rfl⟩)
          go_round
          case rel => exact ⟨j + 1, _, by omega, hfr.out, rfl, by go_num, hst4⟩
          case measure => simp [intOf]; omega
        · have hE : Hid (sumR ps.flatten 4294967295 = sumR (ps.drop (k + 1)).flatten y) := by
            unfold Hid
            rw [hst3.out, List.drop_of_length_le (by omega), HR.out, List.nil_append]
          clear hst2 hst3
          go_wp2
          go_round
          case rel => exact ⟨k + 1, y, by omega, hy, rfl, by go_num, hE⟩
          case measure => simp [intOf]; omega
    · have h := hst.out
      rw [List.drop_of_length_le (by omega)] at h
      have h2 : sumR ps.flatten 4294967295 = m := h
      have hx := xor_turn m 4294967295 hm full
      have HX := Lib.hid (And.intro h2 hx)
      clear h h2 hx
      go_wp2
      go_ret
      refine ⟨?_, rfl⟩
      unfold sumF
      rw [HX.out.1, HX.out.2]
      rfl
theorem sum_at (A : Option Addr) (c n : Nat) (ps : List (List Int)) (hn : ps.length = n) (B : Nat) (w : World) (hr : Parts w B A ps) (hby : ∀ p ∈ ps, (∀ z ∈ p, 0 ≤ z ∧ z ≤ 255) ∧ p.length ≤ 140737488355328) (hbig : n ≤ 140737488355328) :
    Calls Try.prog 12 #[.slice A n c] w fun e w' => e = .returned (.int .u32 (sumF ps.flatten)) ∧ w = w' := by
  subst hn
  exact sum_any A c ps B w hr hby hbig
theorem ref_sum_at (A : Option Addr) (c n : Nat) (zs : List Int) (hn : zs.length = n) (B : Nat) (w : World) (hr : Ns .u8 w B A zs) (hby : ∀ z ∈ zs, 0 ≤ z ∧ z ≤ 255) (hbig : n ≤ 140737488355328) :
    Calls Try.prog 22 #[.slice A n c] w fun e w' => e = .returned (.int .u32 (sumF zs)) ∧ w = w' := by
  subst hn
  exact ref_sum_any A c zs B w hr hby hbig
end Frm
end Go.Proofs.Ytgiojcjnljmaiaa
