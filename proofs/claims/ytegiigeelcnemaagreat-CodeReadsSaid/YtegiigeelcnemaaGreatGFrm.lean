/-
  Several texts of this family in one: SumPlain, Sum, Put, NextPlain, NextFacts, Next, NextRef.
-/
import Derived.Test.YtegiigeelcnemaaGreatGNumA
import Derived.Laws.BitsAllLaws
import Derived.Test.YtegiigeelcnemaaGreatGNumB
import Derived.Lib.SliceRun
import Derived.Deep.RegionHeld3
import Derived.Deep.DrawnRows
/-
  Plain words of layer 2: the check sum.
-/
namespace Go.Proofs.YtegiigeelcnemaaGreat
namespace Frm
open Go.RowKit

def stepC (m : Int) : Int := if m % 2 = 1 then bits .xor .u32 (m / 2) 3988292384 else m / 2
def iterC : Nat → Int → Int
  | 0, m => m
  | k + 1, m => iterC k (stepC m)
def feedC (r c : Int) : Int := iterC 8 (bits .xor .u32 r c)
def sumR (zs : List Int) (r : Int) : Int := zs.foldl feedC r
def sumF (zs : List Int) : Int := bits .xor .u32 (sumR zs 4294967295) 4294967295

def U32 (m : Int) : Prop := 0 ≤ m ∧ m ≤ 4294967295
theorem xor_range (a b : Int) (ha : U32 a) (hb : U32 b) : U32 (bits .xor .u32 a b) := by
  obtain ⟨a0, a1⟩ := ha
  obtain ⟨b0, b1⟩ := hb
  rw [u32_xor a b a0 (by omega) b0 (by omega)]
  have := Nat.xor_lt_two_pow (n := 32) (show a.toNat < 2 ^ 32 by omega) (show b.toNat < 2 ^ 32 by omega)
  exact ⟨by omega, by omega⟩
theorem xor_turn (a b : Int) (ha : U32 a) (hb : U32 b) : bits .xor .u32 a b = bits .xor .u32 b a := by
  obtain ⟨a0, a1⟩ := ha
  obtain ⟨b0, b1⟩ := hb
  rw [u32_xor a b a0 (by omega) b0 (by omega), u32_xor b a b0 (by omega) a0 (by omega), Nat.xor_comm]
theorem and_one (a : Int) (ha : U32 a) : bits .and .u32 a 1 = a % 2 := by
  obtain ⟨a0, a1⟩ := ha
  rw [u32_and a 1 a0 (by omega) (by omega) (by omega)]
  have : a.toNat &&& (1 : Int).toNat = a.toNat % 2 := Nat.and_one_is_mod _
  rw [this]
  omega
theorem stepC_range (m : Int) (h : U32 m) : U32 (stepC m) := by
  unfold stepC
  obtain ⟨h0, h1⟩ := h
  split
  · exact xor_range _ _ ⟨by omega, by omega⟩ ⟨by omega, by omega⟩
  · exact ⟨by omega, by omega⟩
theorem iterC_range : ∀ (k : Nat) (m : Int), U32 m → U32 (iterC k m)
  | 0, _, h => h
  | k + 1, m, h => iterC_range k (stepC m) (stepC_range m h)
theorem byte_u32 {c : Int} (h : 0 ≤ c ∧ c ≤ 255) : U32 c := ⟨h.1, by omega⟩
theorem feedC_range (r c : Int) (hr : U32 r) (hc : 0 ≤ c ∧ c ≤ 255) : U32 (feedC r c) := iterC_range 8 _ (xor_range r c hr (byte_u32 hc))
theorem sumR_range : ∀ (zs : List Int) (r : Int), U32 r → (∀ z ∈ zs, 0 ≤ z ∧ z ≤ 255) → U32 (sumR zs r)
  | [], _, h, _ => h
  | z :: zs, r, h, hz => by
    have e : sumR (z :: zs) r = sumR zs (feedC r z) := by unfold sumR; rw [List.foldl_cons]
    rw [e]
    exact sumR_range zs (feedC r z) (feedC_range r z h (hz z (by simp))) (fun x hx => hz x (by simp [hx]))
theorem full : U32 4294967295 := ⟨by omega, by omega⟩
theorem sumF_range (zs : List Int) (hz : ∀ z ∈ zs, 0 ≤ z ∧ z ≤ 255) : U32 (sumF zs) := by
  unfold sumF
  exact xor_range _ _ (sumR_range zs _ full hz) full
theorem sumR_cons (z : Int) (zs : List Int) (r : Int) : sumR (z :: zs) r = sumR zs (feedC r z) := by unfold sumR; rw [List.foldl_cons]
theorem sumR_append (a b : List Int) (r : Int) : sumR (a ++ b) r = sumR b (sumR a r) := by unfold sumR; rw [List.foldl_append]

/-- From A on stand slices of bytes, of which each reads as one of the lists. -/
def Parts (w : World) (B : Nat) (A : Option Addr) (ps : List (List Int)) : Prop :=
  0 < ps.length → ∃ b off, A = some ⟨b, off, none⟩ ∧ b < B ∧ ∀ j, j < ps.length → ∃ A' c', w.cell? ⟨b, off + j, none⟩ = some (.slice A' (ps.getD j []).length c') ∧ Ns .u8 w B A' (ps.getD j []) ∧ (ps.getD j []).length ≤ c'
theorem Parts.nil {w : World} {B : Nat} (A : Option Addr) : Parts w B A [] := fun h => absurd h (by simp)
theorem Parts.keep {w w' : World} {B : Nat} {A : Option Addr} {ps : List (List Int)} (h : Parts w B A ps) (hk : ∀ p : Addr, p.block < B → w'.cell? p = w.cell? p) : Parts w' B A ps := fun hp => by
  obtain ⟨b, off, e, hb, hc⟩ := h hp
  refine ⟨b, off, e, hb, fun j hj => ?_⟩
  obtain ⟨A', c', h1, h2, h3⟩ := hc j hj
  exact ⟨A', c', (hk _ hb).trans h1, h2.keep hk, h3⟩
theorem Parts.below {w w' : World} {B : Nat} {A : Option Addr} {ps : List (List Int)} (h : Parts w B A ps) (hb : Below B w w') : Parts w' B A ps := h.keep fun _ hp => hb.cell hp
theorem parts_one {w : World} {t : TypeId} {A : Option Addr} {c : Nat} {xs : List Int} {B : Nat} (h : Ns .u8 w B A xs) (hB : B ≤ w.heap.size) (hc : xs.length ≤ c) :
    Parts (w.alloc (.cells #[.slice A xs.length c] t)) (w.heap.size + 1) (some ⟨w.heap.size, 0, none⟩) [xs] := fun _ => by
  refine ⟨_, _, rfl, by omega, fun j hj => ?_⟩
  match j, hj with
  | 0, _ => exact ⟨A, c, by simp, (h.alloc hB _).more (by omega), hc⟩
theorem parts_two {w : World} {t : TypeId} {A A' : Option Addr} {c c' : Nat} {xs ys : List Int} {B : Nat} (h : Ns .u8 w B A xs) (h' : Ns .u8 w B A' ys) (hB : B ≤ w.heap.size) (hc : xs.length ≤ c) (hc' : ys.length ≤ c') :
    Parts (w.alloc (.cells #[.slice A xs.length c, .slice A' ys.length c'] t)) (w.heap.size + 1) (some ⟨w.heap.size, 0, none⟩) [xs, ys] := fun _ => by
  refine ⟨_, _, rfl, by omega, fun j hj => ?_⟩
  match j, hj with
  | 0, _ => exact ⟨A, c, by simp, (h.alloc hB _).more (by omega), hc⟩
  | 1, _ => exact ⟨A', c', by simp, (h'.alloc hB _).more (by omega), hc'⟩
theorem parts_three {w : World} {t : TypeId} {A A' A'' : Option Addr} {c c' c'' : Nat} {xs ys zs : List Int} {B : Nat} (h : Ns .u8 w B A xs) (h' : Ns .u8 w B A' ys) (h'' : Ns .u8 w B A'' zs) (hB : B ≤ w.heap.size)
    (hc : xs.length ≤ c) (hc' : ys.length ≤ c') (hc'' : zs.length ≤ c'') :
    Parts (w.alloc (.cells #[.slice A xs.length c, .slice A' ys.length c', .slice A'' zs.length c''] t)) (w.heap.size + 1) (some ⟨w.heap.size, 0, none⟩) [xs, ys, zs] := fun _ => by
  refine ⟨_, _, rfl, by omega, fun j hj => ?_⟩
  match j, hj with
  | 0, _ => exact ⟨A, c, by simp, (h.alloc hB _).more (by omega), hc⟩
  | 1, _ => exact ⟨A', c', by simp, (h'.alloc hB _).more (by omega), hc'⟩
  | 2, _ => exact ⟨A'', c'', by simp, (h''.alloc hB _).more (by omega), hc''⟩
theorem parts_one_at {w : World} {t : TypeId} {A : Option Addr} {c n g : Nat} {xs : List Int} {B : Nat} (hg : w.heap.size = g) (hn : xs.length = n) (h : Ns .u8 w B A xs) (hB : B ≤ w.heap.size) (hc : xs.length ≤ c) :
    Parts (w.alloc (.cells #[.slice A n c] t)) (g + 1) (some ⟨g, 0, none⟩) [xs] := by
  subst hn
  subst hg
  exact parts_one h hB hc
theorem parts_two_at {w : World} {t : TypeId} {A A' : Option Addr} {c c' n n' g : Nat} {xs ys : List Int} {B : Nat} (hg : w.heap.size = g) (hn : xs.length = n) (hn' : ys.length = n') (h : Ns .u8 w B A xs) (h' : Ns .u8 w B A' ys) (hB : B ≤ w.heap.size) (hc : xs.length ≤ c) (hc' : ys.length ≤ c') :
    Parts (w.alloc (.cells #[.slice A n c, .slice A' n' c'] t)) (g + 1) (some ⟨g, 0, none⟩) [xs, ys] := by
  subst hn
  subst hg
  subst hn'
  exact parts_two h h' hB hc hc'
end Frm
end Go.Proofs.YtegiigeelcnemaaGreat

/-
  frame.feed, frame.Sum, firthref02.Sum: the check sum.
-/
namespace Go.Proofs.YtegiigeelcnemaaGreat
namespace Frm
open Go.RowKit

set_option maxRecDepth 100000 in
theorem feed_any (r c : Int) (hr : U32 r) (hc : 0 ≤ c ∧ c ≤ 255) (w : World) :
    Calls Tryz.prog 121 #[.int .u32 r, .int .u8 c] w fun e w' => e = .returned (.int .u32 (feedC r c)) ∧ w = w' := by
  have hx := xor_range r c hr (byte_u32 hc)
  obtain ⟨x, hxe⟩ : ∃ x, bits .xor .u32 r c = x := ⟨_, rfl⟩
  have HF : Hid (feedC r c = iterC 8 x) := by unfold Hid feedC; rw [hxe]
  rw [hxe] at hx
  obtain ⟨hx0, hx1⟩ := hx
  obtain ⟨hr0, hr1⟩ := hr
  obtain ⟨hc0, hc1⟩ := hc
  go_enter Tryz.func121, Tryz.ntmps121
  go_wp2
  clear hxe
  go_loop [0, 10] (fun q i => ∃ (k : Nat) (m : Int), k ≤ 8 ∧ 0 ≤ m ∧ m ≤ 4294967295 ∧ q = .int .u32 m ∧ i = .int .i64 k ∧ Hid (feedC r c = iterC (8 - k) m)) (fun _ i => 8 - (intOf i).toNat)
  case atStart => exact ⟨0, x, by omega, hx0, hx1, rfl, rfl, HF⟩
  case round =>
    obtain ⟨k, m, hk, hm0, hm1, rfl, rfl, hst⟩ := hrel
    by_cases h8 : k < 8
    · have hand := and_one m ⟨hm0, hm1⟩
      have hrg := stepC_range m ⟨hm0, hm1⟩
      have hit : iterC (8 - k) m = iterC (8 - (k + 1)) (stepC m) := by rw [show 8 - k = (8 - (k + 1)) + 1 by omega]; rfl
      have H := Lib.hid (And.intro hrg hit)
      clear hrg hit
      by_cases h1 : m % 2 = 1
      · have hs : stepC m = bits .xor .u32 (m / 2) 3988292384 := by unfold stepC; rw [if_pos h1]
        have HS := Lib.hid hs
        have hb : (m % 2 == 1) = true := by simpa using h1
        clear hs h1
        go_wp2
        go_round
        case rel => exact ⟨k + 1, stepC m, by omega, H.out.1.1, H.out.1.2, by rw [HS.out], by go_num, hst.out.trans H.out.2⟩
        case measure => simp [intOf]; omega
      · have hs : stepC m = m / 2 := by unfold stepC; rw [if_neg h1]
        have HS := Lib.hid hs
        have hb : (m % 2 == 1) = false := by simpa using h1
        clear hs h1
        go_wp2
        go_round
        case rel => exact ⟨k + 1, stepC m, by omega, H.out.1.1, H.out.1.2, by rw [HS.out], by go_num, hst.out.trans H.out.2⟩
        case measure => simp [intOf]; omega
    · go_wp2
      go_ret
      have hk8 : 8 - k = 0 := by omega
      have h := hst.out
      rw [hk8] at h
      exact ⟨by rw [h]; rfl, rfl⟩

set_option maxRecDepth 100000 in
theorem ref_sum_any (A : Option Addr) (c : Nat) (zs : List Int) (B : Nat) (w : World) (hr : Ns .u8 w B A zs) (hby : ∀ z ∈ zs, 0 ≤ z ∧ z ≤ 255) (hbig : zs.length ≤ 140737488355328) :
    Calls Tryz.prog 89 #[.slice A zs.length c] w fun e w' => e = .returned (.int .u32 (sumF zs)) ∧ w = w' := by
  go_enter Tryz.func89, Tryz.ntmps89
  go_wp2
  go_loop [3, 4] (fun q i => ∃ (k : Nat) (m : Int), k ≤ zs.length ∧ U32 m ∧ q = .int .u32 m ∧ i = .int .i64 k ∧ Hid (sumR zs 4294967295 = sumR (zs.drop k) m)) (fun _ i => zs.length - (intOf i).toNat)
  case atStart => exact ⟨0, _, by omega, full, rfl, rfl, rfl⟩
  case round =>
    obtain ⟨k, m, hk, hm, rfl, rfl, hst⟩ := hrel
    by_cases hlt : k < zs.length
    · obtain ⟨b, off, rfl, hbB, hc⟩ := hr (by omega)
      have hcell := hc _ hlt
      have hz := hby _ (List.getElem_mem hlt)
      have hdrop : zs.drop k = zs[k] :: zs.drop (k + 1) := List.drop_eq_getElem_cons hlt
      have hgd : zs.getD k 0 = zs[k] := by rw [List.getD_eq_getElem?_getD, List.getElem?_eq_getElem hlt]; rfl
      rw [hgd] at hcell
      obtain ⟨z, hze⟩ : ∃ z, zs[k] = z := ⟨_, rfl⟩
      rw [hze] at hcell hz hdrop
      have hst2 : Hid (sumR zs 4294967295 = sumR (zs.drop (k + 1)) (feedC m z)) := by unfold Hid; rw [hst.out, hdrop]; rfl
      have hx := xor_range m z hm (byte_u32 hz)
      obtain ⟨x, hxe⟩ : ∃ x, bits .xor .u32 m z = x := ⟨_, rfl⟩
      have HF : Hid (feedC m z = iterC 8 x) := by unfold Hid feedC; rw [hxe]
      rw [hxe] at hx
      obtain ⟨hx0, hx1⟩ := hx
      obtain ⟨hz0, hz1⟩ := hz
      obtain ⟨hm0, hm1⟩ := hm
      clear hr hc hby hdrop hgd hze
      go_wp2
      clear hxe
      go_loop [3, 5] (fun q i => ∃ (j : Nat) (y : Int), j ≤ 8 ∧ 0 ≤ y ∧ y ≤ 4294967295 ∧ q = .int .u32 y ∧ i = .int .i64 j ∧ Hid (feedC m z = iterC (8 - j) y)) (fun _ i => 8 - (intOf i).toNat)
      case atStart => exact ⟨0, x, by omega, hx0, hx1, rfl, rfl, HF⟩
      case round =>
        obtain ⟨j, y, hj, hy0, hy1, rfl, rfl, hst3⟩ := hrel
        by_cases h8 : j < 8
        · have hrg := stepC_range y ⟨hy0, hy1⟩
          have hit : iterC (8 - j) y = iterC (8 - (j + 1)) (stepC y) := by rw [show 8 - j = (8 - (j + 1)) + 1 by omega]; rfl
          have H := Lib.hid (And.intro hrg hit)
          clear hrg hit
          by_cases h1 : y % 2 = 1
          · have hs : stepC y = bits .xor .u32 (y / 2) 3988292384 := by unfold stepC; rw [if_pos h1]
            have HS := Lib.hid hs
            have hb : (y % 2 == 1) = true := by simpa using h1
            clear hs h1
            go_wp2
            go_round
            case rel => exact ⟨j + 1, stepC y, by omega, H.out.1.1, H.out.1.2, by rw [HS.out], by go_num, hst3.out.trans H.out.2⟩
            case measure => simp [intOf]; omega
          · have hs : stepC y = y / 2 := by unfold stepC; rw [if_neg h1]
            have HS := Lib.hid hs
            have hb : (y % 2 == 1) = false := by simpa using h1
            clear hs h1
            go_wp2
            go_round
            case rel => exact ⟨j + 1, stepC y, by omega, H.out.1.1, H.out.1.2, by rw [HS.out], by go_num, hst3.out.trans H.out.2⟩
            case measure => simp [intOf]; omega
        · have hk8 : 8 - j = 0 := by omega
          have h := hst3.out
          rw [hk8] at h
          have HE : Hid (sumR zs 4294967295 = sumR (zs.drop (k + 1)) y) := by unfold Hid; rw [hst2.out, h]; rfl
          clear h hst3
          go_wp2
          go_round
          case rel => exact ⟨k + 1, y, by omega, ⟨hy0, hy1⟩, rfl, by go_num, HE⟩
          case measure => simp [intOf]; omega
    · go_wp2
      go_ret
      have h := hst.out
      rw [List.drop_of_length_le (by omega)] at h
      have h2 : sumR zs 4294967295 = m := h
      exact ⟨by unfold sumF; rw [h2]; rfl, rfl⟩

set_option maxRecDepth 100000 in
theorem sum_any (A : Option Addr) (c : Nat) (ps : List (List Int)) (B : Nat) (w : World) (hr : Parts w B A ps) (hby : ∀ p ∈ ps, (∀ z ∈ p, 0 ≤ z ∧ z ≤ 255) ∧ p.length ≤ 140737488355328) (hbig : ps.length ≤ 140737488355328) :
    Calls Tryz.prog 87 #[.slice A ps.length c] w fun e w' => e = .returned (.int .u32 (sumF ps.flatten)) ∧ w = w' := by
  go_enter Tryz.func87, Tryz.ntmps87
  go_wp2
  go_loop [3, 10] (fun q i => ∃ (k : Nat) (m : Int), k ≤ ps.length ∧ U32 m ∧ q = .int .u32 m ∧ i = .int .i64 k ∧ Hid (sumR ps.flatten 4294967295 = sumR (ps.drop k).flatten m)) (fun _ i => ps.length - (intOf i).toNat)
  case atStart => exact ⟨0, _, by omega, full, rfl, rfl, rfl⟩
  case round =>
    obtain ⟨k, m, hk, hm, rfl, rfl, hst⟩ := hrel
    by_cases hlt : k < ps.length
    · obtain ⟨b, off, rfl, hbB, hc⟩ := hr (by omega)
      obtain ⟨A', c', hcell, hns, _⟩ := hc _ hlt
      have hgd : ps.getD k [] = ps[k] := by rw [List.getD_eq_getElem?_getD, List.getElem?_eq_getElem hlt]; rfl
      have hdrop : ps.drop k = ps[k] :: ps.drop (k + 1) := List.drop_eq_getElem_cons hlt
      have hz := hby _ (List.getElem_mem hlt)
      rw [hgd] at hcell hns
      obtain ⟨zs, hze⟩ : ∃ zs, ps[k] = zs := ⟨_, rfl⟩
      rw [hze] at hcell hz hdrop hns
      obtain ⟨hzb, hzl⟩ := hz
      obtain ⟨R, hR⟩ : ∃ R, (ps.drop (k + 1)).flatten = R := ⟨_, rfl⟩
      have hst2 : Hid (sumR ps.flatten 4294967295 = sumR (zs ++ R) m) := by unfold Hid; rw [hst.out, hdrop, List.flatten_cons, hR]
      have HR := Lib.hid hR
      clear hr hc hby hdrop hgd hze hst hR
      go_wp2
      go_loop [3, 16] (fun q i => ∃ (j : Nat) (y : Int), j ≤ zs.length ∧ U32 y ∧ q = .int .u32 y ∧ i = .int .i64 j ∧ Hid (sumR ps.flatten 4294967295 = sumR (zs.drop j ++ R) y)) (fun _ i => zs.length - (intOf i).toNat)
      case atStart => exact ⟨0, m, by omega, hm, rfl, rfl, hst2⟩
      case round =>
        obtain ⟨j, y, hj, hy, rfl, rfl, hst3⟩ := hrel
        by_cases hlt2 : j < zs.length
        · obtain ⟨b2, off2, rfl, _, hc2⟩ := hns (by omega)
          have hcell2 := hc2 _ hlt2
          have hz2 := hzb _ (List.getElem_mem hlt2)
          have hdrop2 : zs.drop j = zs[j] :: zs.drop (j + 1) := List.drop_eq_getElem_cons hlt2
          have hgd2 : zs.getD j 0 = zs[j] := by rw [List.getD_eq_getElem?_getD, List.getElem?_eq_getElem hlt2]; rfl
          rw [hgd2] at hcell2
          obtain ⟨z, hze2⟩ : ∃ z, zs[j] = z := ⟨_, rfl⟩
          rw [hze2] at hcell2 hz2 hdrop2
          have hst4 : Hid (sumR ps.flatten 4294967295 = sumR (zs.drop (j + 1) ++ R) (feedC y z)) := by unfold Hid; rw [hst3.out, hdrop2, List.cons_append, sumR_cons]
          have hf := Lib.hid (feed_any y z hy hz2)
          have hfr := Lib.hid (feedC_range y z hy hz2)
          clear hns hc2 hzb hdrop2 hgd2 hze2 hst3
          go_wp2_with (go_at_call 121; refine (hf.out _).mono ?_; rintro e w' ⟨rfl, rfl⟩)
          go_round
          case rel => exact ⟨j + 1, _, by omega, hfr.out, rfl, by go_num, hst4⟩
          case measure => simp [intOf]; omega
        · have hE : Hid (sumR ps.flatten 4294967295 = sumR (ps.drop (k + 1)).flatten y) := by
            unfold Hid
            rw [hst3.out, List.drop_of_length_le (by omega), HR.out, List.nil_append]
          clear hst2 hst3
          go_wp2
          go_round
          case rel => exact ⟨k + 1, y, by omega, hy, rfl, by go_num, hE⟩
          case measure => simp [intOf]; omega
    · have h := hst.out
      rw [List.drop_of_length_le (by omega)] at h
      have h2 : sumR ps.flatten 4294967295 = m := h
      have hx := xor_turn m 4294967295 hm full
      have HX := Lib.hid (And.intro h2 hx)
      clear h h2 hx
      go_wp2
      go_ret
      refine ⟨?_, rfl⟩
      unfold sumF
      rw [HX.out.1, HX.out.2]
      rfl
theorem sum_at (A : Option Addr) (c n : Nat) (ps : List (List Int)) (hn : ps.length = n) (B : Nat) (w : World) (hr : Parts w B A ps) (hby : ∀ p ∈ ps, (∀ z ∈ p, 0 ≤ z ∧ z ≤ 255) ∧ p.length ≤ 140737488355328) (hbig : n ≤ 140737488355328) :
    Calls Tryz.prog 87 #[.slice A n c] w fun e w' => e = .returned (.int .u32 (sumF ps.flatten)) ∧ w = w' := by
  subst hn
  exact sum_any A c ps B w hr hby hbig
theorem ref_sum_at (A : Option Addr) (c n : Nat) (zs : List Int) (hn : zs.length = n) (B : Nat) (w : World) (hr : Ns .u8 w B A zs) (hby : ∀ z ∈ zs, 0 ≤ z ∧ z ≤ 255) (hbig : n ≤ 140737488355328) :
    Calls Tryz.prog 89 #[.slice A n c] w fun e w' => e = .returned (.int .u32 (sumF zs)) ∧ w = w' := by
  subst hn
  exact ref_sum_any A c zs B w hr hby hbig
end Frm
end Go.Proofs.YtegiigeelcnemaaGreat

/-
  frame.Put and firthref02.Put make the frame of some bytes, frameF.
-/
namespace Go.Proofs.YtegiigeelcnemaaGreat
namespace Frm
open Go.RowKit Num

def sum4 (s : Int) : List Int := [s % 256, s / 256 % 256, s / 65536 % 256, s / 16777216]
def frameF (zs : List Int) : List Int := putL (zs.length : Int) ++ sum4 (sumF (putL (zs.length : Int) ++ zs)) ++ zs
theorem sum4_bytes (s : Int) (h : U32 s) : ∀ z ∈ sum4 s, 0 ≤ z ∧ z ≤ 255 := by
  obtain ⟨h0, h1⟩ := h
  intro z hz
  simp only [sum4, List.mem_cons, List.not_mem_nil, or_false] at hz
  rcases hz with rfl | rfl | rfl | rfl <;> omega
theorem sum4_take (s : Int) (h : U32 s) (k : Nat) (hk : k < 4) : (sum4 s).take (k + 1) = (sum4 s).take k ++ [s / 2 ^ (8 * k) % 256] := by
  obtain ⟨h0, h1⟩ := h
  match k, hk with
  | 0, _ => simp [sum4]
  | 1, _ => simp [sum4]
  | 2, _ => simp [sum4]
  | 3, _ =>
    simp [sum4]
    omega

/-- A slice, whatever it is called: made by the call, with what it holds. -/
theorem made_two {e : TypeId} {k : IntKind} {xs ys : List Int} {w w' : World} {v : Value} {n : Nat} (hn : n = xs.length + ys.length) (hown : w'.ownsRow w.heap.size e 1 v n (nums k xs ++ nums k ys)) (hb : Below w.heap.size w w') :
    MadeNs e k (xs ++ ys) w (.returned v) w' := by
  subst hn
  obtain ⟨A, c, rfl⟩ := own_form hown
  exact ⟨A, c, by simp, by simpa [nums] using hown, hb⟩

set_option maxRecDepth 100000 in
theorem cat_any (A A' : Option Addr) (c c' n n' : Nat) (xs ys : List Int) (hn : xs.length = n) (hn' : ys.length = n') (B : Nat) (w : World) (hB : B ≤ w.heap.size) (hr : Ns .u8 w B A xs) (hr' : Ns .u8 w B A' ys) (hbig : n + n' ≤ 140737488355328) :
    Calls Tryz.prog 90 #[.slice A n c, .slice A' n' c'] w (MadeNs 5 .u8 (xs ++ ys) w) := by
  obtain ⟨i0, hi0, hz0, hz1, hz2⟩ := info_parts Facts.info5
  have q1 := hr.more hB
  have q2 := hr'.more hB
  have Hn := Lib.hid (And.intro hn hn')
  clear hr hr' hn hn'
  go_enter Tryz.func90, Tryz.ntmps90
  go_wp2_with (first
    | (at_builtin; refine wpList_append_ns _ rfl (.tmp 6) (.tmp 7) 25 rfl w.heap.size 5 i0 (.int .u8 0) 1 Tryz.underlying25 hi0 hz0 hz1 hz2 rfl (.slice none 0 0) (0) ([]) rfl (World.ownsRow_nil _ _ _ _) .u8 w.heap.size A n c xs Hn.out.1 rfl q1 (by omega) (by omega) (Nat.le_refl _) ?_; intro v1 w1 o1 g1 at1; have b1 : Below w.heap.size w w1 := (Below.refl _ _).grown g1 (Nat.le_refl _) (by simp [Value.ownBlock]); have q3 := q2.below b1)
    | (at_builtin; refine wpList_append_ns _ rfl (.tmp 9) (.tmp 10) 25 rfl w.heap.size 5 i0 (.int .u8 0) 1 Tryz.underlying25 hi0 hz0 hz1 hz2 rfl _ (0 + n) ([] ++ nums .u8 xs) rfl o1 .u8 w.heap.size A' n' c' ys Hn.out.2 rfl q3 (by omega) (by omega) b1.size ?_; intro v2 w2 o2 g2 at2; have b2 : Below w.heap.size w w2 := b1.grown g2 b1.size (fun k hk => (o1.lt k hk).1)))
  have R := made_two (k := .u8) (xs := xs) (ys := ys) (by rw [Hn.out.1, Hn.out.2]; omega) o2 b2
  clear o1 o2 g1 g2 at1 at2
  go_wp2
  go_ret
  exact R

theorem ns_four {w : World} {t : TypeId} (a b c d : Int) : Ns .u8 (w.alloc (.cells #[.int .u8 a, .int .u8 b, .int .u8 c, .int .u8 d] t)) (w.heap.size + 1) (some ⟨w.heap.size, 0, none⟩) [a, b, c, d] := fun _ => by
  refine ⟨_, _, rfl, by omega, fun j hj => ?_⟩
  match j, hj with
  | 0, _ => simp
  | 1, _ => simp
  | 2, _ => simp
  | 3, _ => simp

set_option maxRecDepth 100000 in
theorem ref_put_any (A : Option Addr) (c : Nat) (zs : List Int) (w : World) (hr : Ns .u8 w w.heap.size A zs) (hby : ∀ z ∈ zs, 0 ≤ z ∧ z ≤ 255) (hbig : zs.length ≤ 140737488351232) :
    Calls Tryz.prog 34 #[.slice A zs.length c] w (MadeNs 5 .u8 (frameF zs) w) := by
  obtain ⟨i0, hi0, hz0, hz1, hz2⟩ := info_parts Facts.info5
  have h1 := fun W => ref_putnum_pos (zs.length : Int) (by omega) W
  obtain ⟨hl1, hl9⟩ := putL_len (zs.length : Int)
  have hLb := putL_bytes (zs.length : Int) (by omega)
  have hfr : frameF zs = putL (zs.length : Int) ++ sum4 (sumF (putL (zs.length : Int) ++ zs)) ++ zs := rfl
  obtain ⟨L, hL⟩ : ∃ L, putL (zs.length : Int) = L := ⟨_, rfl⟩
  rw [hL] at h1 hl1 hl9 hLb hfr
  have hCb : ∀ z ∈ L ++ zs, 0 ≤ z ∧ z ≤ 255 := by
    intro z hz
    rcases List.mem_append.1 hz with hz | hz
    · exact hLb z hz
    · exact hby z hz
  have hCl : (L ++ zs).length = L.length + zs.length := List.length_append
  have hSr := sumF_range _ hCb
  obtain ⟨s, hs⟩ : ∃ s, sumF (L ++ zs) = s := ⟨_, rfl⟩
  rw [hs] at hfr hSr
  obtain ⟨hs0, hs1⟩ := hSr
  have H := Lib.hid (And.intro h1 (And.intro hCb (And.intro hCl (And.intro hs hfr))))
  clear h1 hL hLb hby hCb hCl hs hfr
  go_enter Tryz.func34, Tryz.ntmps34
  go_wp2_with fail
  refine (H.out.1 _).mono ?_
  rintro e w1 ⟨A1, c1, rfl, o1, b1⟩
  have n1 := own_ns o1
  have hr1 := hr.below b1
  go_wp2_with fail
  refine (cat_any A1 A c1 c _ _ L zs rfl rfl _ w1 (Nat.le_refl _) n1 (hr1.more b1.size) (by omega)).mono ?_
  rintro e w2 ⟨A2, c2, rfl, o2, b2⟩
  have n2 := own_ns o2
  go_wp2_with fail
  refine (ref_sum_at A2 c2 _ (L ++ zs) (by simp) _ w2 n2 H.out.2.1 (by have := H.out.2.2.1; simp; omega)).mono ?_
  rintro e w' ⟨rfl, rfl⟩
  rw [H.out.2.2.2.1]
  have o1' := own_below o1 b2 (Nat.le_refl _)
  have hsz2 := b2.size
  have hsz1 := b1.size
  have b12 : Below w.heap.size w w2 := b1.trans (b2.mono hsz1)
  clear o1 o2 n1 n2
  go_wp2_with (at_builtin; refine wpList_append_ns _ rfl (.tmp 12) (.tmp 27) 25 rfl w.heap.size 5 i0 (.int .u8 0) 1 Tryz.underlying25 hi0 hz0 hz1 hz2 rfl _ (L.length) (nums .u8 L) rfl (o1'.alloc _) .u8 (w2.heap.size + 1) (some ⟨w2.heap.size, 0, none⟩) 4 4 (sum4 s) rfl rfl (ns_four _ _ _ _) (by omega) (by omega) (by simp; omega) ?_; intro v3 w3 o3 g3 at3)
  have b3 : Below w.heap.size w w3 := (b12.alloc b12.size _).grown g3 (by simp; omega) (fun k hk => (o1'.lt k hk).1)
  have o3' : w3.ownsRow w.heap.size 5 1 v3 (L.length + 4) (nums .u8 (L ++ sum4 s)) := by simpa [nums] using o3
  obtain ⟨A3, c3, hv3⟩ := own_form o3'
  subst hv3
  have hl4 : (L ++ sum4 s).length = L.length + 4 := by simp [sum4]
  have n3 := own_ns (zs := L ++ sum4 s) (by rw [hl4]; exact o3')
  have hr3 := hr.below b3
  have HL4 := Lib.hid hl4
  clear hl4 o3 o3' o1' g3 at3
  refine (cat_any A3 A c3 c _ _ (L ++ sum4 s) zs HL4.out rfl _ w3 (Nat.le_refl _) n3 (hr3.more b3.size) (by omega)).mono ?_
  intro e w4 hm
  have hm2 := made_later hm b3
  rw [← H.out.2.2.2.2] at hm2
  clear hm
  obtain ⟨A4, c4, rfl, o4, b4⟩ := hm2
  have R : MadeNs 5 .u8 (frameF zs) w (.returned (.slice A4 (frameF zs).length c4)) w4 := ⟨A4, c4, rfl, o4, b4⟩
  clear H HL4 o4
  go_wp2
  go_ret
  exact R

set_option maxRecDepth 100000 in
theorem put_long (A : Option Addr) (c n : Nat) (w : World) (hl : 1048576 < n) (hbig : n ≤ 140737488351232) :
    Calls Tryz.prog 32 #[.slice A n c] w fun e w' => e = .returned (.tuple #[.slice none 0 0, .int .i64 3]) ∧ w = w' := by
  go_enter Tryz.func32, Tryz.ntmps32
  go_wp2
  go_ret2
  exact ⟨rfl, rfl⟩

/-- The frame, and OK. -/
def MadeOK (e : TypeId) (k : IntKind) (zs : List Int) (w : World) (r : Ending) (w' : World) : Prop :=
  ∃ A c, r = .returned (.tuple #[.slice A zs.length c, .int .i64 0]) ∧ w'.ownsRow w.heap.size e 1 (.slice A zs.length c) zs.length (nums k zs) ∧ Below w.heap.size w w'

set_option maxRecDepth 100000 in
theorem put_any (A : Option Addr) (c : Nat) (zs : List Int) (w : World) (hr : Ns .u8 w w.heap.size A zs) (hby : ∀ z ∈ zs, 0 ≤ z ∧ z ≤ 255) (hlc : zs.length ≤ c) (hbig : zs.length ≤ 1048576) :
    Calls Tryz.prog 32 #[.slice A zs.length c] w (MadeOK 5 .u8 (frameF zs) w) := by
  obtain ⟨i0, hi0, hz0, hz1, hz2⟩ := info_parts Facts.info5
  have h1 := fun W => putnum_pos (zs.length : Int) (by omega) W
  obtain ⟨hl1, hl9⟩ := putL_len (zs.length : Int)
  have hLb := putL_bytes (zs.length : Int) (by omega)
  have hfr : frameF zs = putL (zs.length : Int) ++ sum4 (sumF (putL (zs.length : Int) ++ zs)) ++ zs := rfl
  obtain ⟨L, hL⟩ : ∃ L, putL (zs.length : Int) = L := ⟨_, rfl⟩
  rw [hL] at h1 hl1 hl9 hLb hfr
  have hCb : ∀ z ∈ L ++ zs, 0 ≤ z ∧ z ≤ 255 := by
    intro z hz
    rcases List.mem_append.1 hz with hz | hz
    · exact hLb z hz
    · exact hby z hz
  have hSr := sumF_range _ hCb
  have hfl : sumF [L, zs].flatten = sumF (L ++ zs) := by simp
  obtain ⟨s, hs⟩ : ∃ s, sumF (L ++ zs) = s := ⟨_, rfl⟩
  rw [hs] at hfr hSr hfl
  have H := Lib.hid (And.intro h1 (And.intro hLb (And.intro hby (And.intro hfl hfr))))
  have HS := Lib.hid hSr
  obtain ⟨hs0, hs1⟩ := hSr
  clear h1 hL hLb hby hCb hs hfr hfl
  go_enter Tryz.func32, Tryz.ntmps32
  go_wp2_with fail
  refine (H.out.1 _).mono ?_
  rintro e w1 ⟨A1, c1, rfl, o1, b1⟩
  have n1 := own_ns o1
  have hr1 := hr.below b1
  have hsz1 := b1.size
  have hlc1 := (own_len o1).2
  go_wp2_with fail
  refine (sum_at _ _ _ [L, zs] rfl _ _ (parts_two_at rfl rfl rfl n1 (hr1.more b1.size) (Nat.le_refl _) hlc1 hlc) (by
    intro p hp
    rcases List.mem_cons.1 hp with rfl | hp
    · exact ⟨H.out.2.1, by omega⟩
    · rcases List.mem_cons.1 hp with rfl | hp
      · exact ⟨H.out.2.2.1, by omega⟩
      · cases hp) (by simp)).mono ?_
  rintro e w' ⟨rfl, rfl⟩
  rw [H.out.2.2.2.1]
  have b2 := b1.alloc hsz1 (.cells #[.slice A1 L.length c1, .slice A zs.length c] 25)
  have n2 := n1.alloc (Nat.le_refl _) (.cells #[.slice A1 L.length c1, .slice A zs.length c] 25)
  have hr2 := hr.below b2
  have hW1 : w1.heap.size ≤ (w1.alloc (.cells #[.slice A1 L.length c1, .slice A zs.length c] 25)).heap.size := by simp
  obtain ⟨W, hW⟩ : ∃ W, w1.alloc (.cells #[.slice A1 L.length c1, .slice A zs.length c] 25) = W := ⟨_, rfl⟩
  rw [hW] at b2 n2 hr2 hW1 ⊢
  have hsz2 := b2.size
  clear hW hr hr1 n1 o1
  go_wp2_with (first
    | (at_make; refine wpList_make_own _ rfl _ _ 25 rfl w.heap.size 5 i0 (.int .u8 0) 1 Tryz.underlying25 hi0 hz0 hz1 _ _ _ (L.length + 4 + zs.length) rfl rfl (by omega) (by rw [hz2]; omega) (by unfold maxLen; omega) hsz2 ?_; intro w3 o3 g3; have b3 : Below w.heap.size w w3 := b2.grown g3 hsz2 (fun k hk => by cases hk); have n3 := n2.grown g3 (by omega) (fun k hk => by cases hk); have hr3 := hr2.grown g3 hsz2 (fun k hk => by cases hk))
    | (at_builtin; refine wpList_append_ns _ rfl (.tmp 25) (.tmp 26) 25 rfl w.heap.size 5 i0 (.int .u8 0) 1 Tryz.underlying25 hi0 hz0 hz1 hz2 rfl _ 0 [] rfl o3 .u8 w1.heap.size A1 L.length c1 L rfl rfl n3 (by omega) (by omega) b3.size ?_; intro v4 w4 o4 g4 at4; have b4 : Below w.heap.size w w4 := b3.grown g4 b3.size (fun k hk => (o3.lt k hk).1); have hr4 := hr3.grown g4 b3.size (fun k hk => (o3.lt k hk).1)))
  go_loopw [6, 28] (fun v q wr => ∃ k : Nat, k ≤ 4 ∧ q = .int .i64 k ∧ wr.ownsRow w.heap.size 5 1 v (L.length + k) (nums .u8 (L ++ (sum4 s).take k)) ∧ Below w.heap.size w wr ∧ Ns .u8 wr w.heap.size A zs) (fun _ q _ => 4 - (intOf q).toNat)
  case atStart => exact ⟨0, by omega, rfl, by simpa [nums] using o4, b4, hr4⟩
  case round =>
    obtain ⟨k, hk, rfl, o5, b5, hr5⟩ := hrel
    have hsz5 := b5.size
    by_cases h4 : k < 4
    · have htk := Lib.hid (sum4_take s HS.out k h4)
      go_wp2_with (at_builtin; refine wpList_append_one _ rfl (.tmp 31) (.tmp 37) 25 rfl w.heap.size 5 i0 (.int .u8 0) 1 Tryz.underlying25 hi0 hz0 hz1 hz2 rfl _ (L.length + k) (nums .u8 (L ++ (sum4 s).take k)) rfl o5 (.int .u8 (s / 2 ^ (8 * k) % 256)) 1 rfl rfl (by omega) (by omega) hsz5 ?_; intro v6 w6 o6 g6 at6)
      case roundEnd =>
        refine ⟨⟨k + 1, by omega, rfl, ?_, b5.grown g6 hsz5 (fun j hj => (o5.lt j hj).1), hr5.grown g6 hsz5 (fun j hj => (o5.lt j hj).1)⟩, by simp only [intOf]; omega⟩
        have e1 : nums IntKind.u8 (L ++ (sum4 s).take (k + 1)) = nums .u8 (L ++ (sum4 s).take k) ++ [.int .u8 (s / 2 ^ (8 * k) % 256)] := by
          rw [htk.out]; simp [nums]
        rw [e1]
        exact o6
    · have hk4 : k = 4 := by omega
      subst hk4
      go_wp2_with (at_builtin; refine wpList_append_ns _ rfl (.tmp 40) (.tmp 41) 25 rfl w.heap.size 5 i0 (.int .u8 0) 1 Tryz.underlying25 hi0 hz0 hz1 hz2 rfl _ (L.length + 4) (nums .u8 (L ++ (sum4 s).take 4)) rfl o5 .u8 w.heap.size A zs.length c zs rfl rfl hr5 (by omega) (by omega) hsz5 ?_; intro v6 w6 o6 g6 at6)
      have b6 := b5.grown g6 hsz5 (fun j hj => (o5.lt j hj).1)
      have e1 : frameF zs = (L ++ sum4 s) ++ zs := H.out.2.2.2.2
      obtain ⟨A6, c6, h6, R6⟩ := made_two (n := L.length + 4 + zs.length) (xs := L ++ sum4 s) (ys := zs) (k := .u8) (by simp [sum4]) (by simpa [sum4] using o6) b6
      clear o6 g6 at6
      cases h6
      go_ret2
      rw [e1]
      exact ⟨A6, c6, rfl, R6⟩
end Frm
end Go.Proofs.YtegiigeelcnemaaGreat

/-
  Plain words of layer 2: what the frame at a place tells.
-/
namespace Go.Proofs.YtegiigeelcnemaaGreat
namespace Frm
open Go.RowKit Num

def leF : List Int → Int
  | [] => 0
  | z :: zs => z + 256 * leF zs
def cutF (zs : List Int) (i m : Nat) : List Int := (zs.drop i).take m
def nextF (zs : List Int) (i : Nat) : List Int × Nat × Int :=
  if (numF zs i).2.2 ≠ 0 then ([], 0, (numF zs i).2.2)
  else if 1048576 < (numF zs i).1 then ([], 0, 3)
  else if zs.length < (numF zs i).2.1 + 4 + (numF zs i).1.toNat then ([], 0, 4)
  else if frameF (cutF zs ((numF zs i).2.1 + 4) (numF zs i).1.toNat) = cutF zs i ((numF zs i).2.1 + 4 + (numF zs i).1.toNat - i)
    then (cutF zs ((numF zs i).2.1 + 4) (numF zs i).1.toNat, (numF zs i).2.1 + 4 + (numF zs i).1.toNat, 0) else ([], 0, 20)

theorem leF_take (zs : List Int) : ∀ (k p : Nat), p + k < zs.length → leF (cutF zs p (k + 1)) = leF (cutF zs p k) + zs.getD (p + k) 0 * 256 ^ k
  | 0, p, h => by
    unfold cutF
    rw [List.drop_eq_getElem_cons (by omega), List.take_succ_cons, List.take_zero, List.take_zero]
    simp only [leF, List.getD_eq_getElem?_getD, Nat.add_zero, List.getElem?_eq_getElem (show p < zs.length from h), Option.getD_some, Int.pow_zero]
    omega
  | k + 1, p, h => by
    have ih := leF_take zs k (p + 1) (by omega)
    unfold cutF at ih ⊢
    rw [List.drop_eq_getElem_cons (by omega), List.take_succ_cons, List.take_succ_cons, leF, leF, ih, Int.mul_add, ← Int.add_assoc, Int.pow_succ, show p + 1 + k = p + (k + 1) by omega]
    rw [show (256 : Int) * (zs.getD (p + (k + 1)) 0 * 256 ^ k) = zs.getD (p + (k + 1)) 0 * (256 ^ k * 256) by rw [Int.mul_comm 256, Int.mul_assoc]]
theorem cut_bytes {zs : List Int} (h : ∀ z ∈ zs, 0 ≤ z ∧ z ≤ 255) (i m : Nat) : ∀ z ∈ cutF zs i m, 0 ≤ z ∧ z ≤ 255 := fun z hz => h z (List.mem_of_mem_drop (List.mem_of_mem_take hz))
theorem cut_len {zs : List Int} {i m : Nat} (h : i + m ≤ zs.length) : (cutF zs i m).length = m := by unfold cutF; rw [List.length_take, List.length_drop]; omega
theorem cut_join (zs : List Int) (i m n : Nat) : cutF zs i (m + n) = cutF zs i m ++ cutF zs (i + m) n := by
  unfold cutF
  rw [List.take_add, List.drop_drop]
theorem leF_range : ∀ (l : List Int), (∀ z ∈ l, 0 ≤ z ∧ z ≤ 255) → 0 ≤ leF l ∧ leF l < 256 ^ l.length
  | [], _ => by simp [leF]
  | z :: l, h => by
    have ih := leF_range l (fun x hx => h x (by simp [hx]))
    have hz := h z (by simp)
    rw [leF, List.length_cons, Int.pow_succ]
    omega
theorem sum4_le (s : Int) (hs : U32 s) (q : List Int) (hq : q.length = 4) (hb : ∀ z ∈ q, 0 ≤ z ∧ z ≤ 255) : sum4 s = q ↔ s = leF q := by
  obtain ⟨h0, h1⟩ := hs
  match q, hq with
  | [a, b, c, d], _ =>
    have ha := hb a (by simp)
    have hb' := hb b (by simp)
    have hc := hb c (by simp)
    have hd := hb d (by simp)
    simp only [sum4, leF, List.cons.injEq, and_true]
    omega

theorem numF_bytes {zs : List Int} {i p : Nat} {n : Int} (hby : ∀ z ∈ zs, 0 ≤ z ∧ z ≤ 255) (h : numF zs i = (n, p, 0)) : cutF zs i (p - i) = putL n := by
  obtain ⟨m, k, g1, g2, g3, g4, g5, g6, g7, g8⟩ := numR_ok (zs.drop i) i 0 0 n p (fun z hz => hby z (List.mem_of_mem_drop hz)) (by omega) h
  have hn : n = m := by rw [g4]; simp
  subst hn
  unfold cutF putL
  rw [show p - i = k by omega, g8]

/-- The frame of what is within is what stands there just when the sum is the four bytes. -/
theorem frame_iff {zs : List Int} {i p N : Nat} (hby : ∀ z ∈ zs, 0 ≤ z ∧ z ≤ 255) (h : numF zs i = ((N : Int), p, 0)) (hl : p + 4 + N ≤ zs.length) :
    frameF (cutF zs (p + 4) N) = cutF zs i (p + 4 + N - i) ↔ sumF (cutF zs i (p - i) ++ cutF zs (p + 4) N) = leF (cutF zs p 4) := by
  have hip := (numF_ok hby h).2.2.1
  have hput := numF_bytes hby h
  have e1 : p + 4 + N - i = (p - i) + (4 + N) := by omega
  have e2 : cutF zs i (p + 4 + N - i) = cutF zs i (p - i) ++ (cutF zs p 4 ++ cutF zs (p + 4) N) := by
    rw [e1, cut_join, cut_join, show i + (p - i) = p by omega]
  have hb : ∀ z ∈ cutF zs i (p - i) ++ cutF zs (p + 4) N, 0 ≤ z ∧ z ≤ 255 := by
    intro z hz
    rcases List.mem_append.1 hz with hz | hz
    · exact cut_bytes hby _ _ z hz
    · exact cut_bytes hby _ _ z hz
  rw [← sum4_le _ (sumF_range _ hb) _ (cut_len (by omega)) (cut_bytes hby _ _), e2, frameF, cut_len (by omega), hput, List.append_assoc]
  constructor
  · intro h'
    exact (List.append_inj (List.append_cancel_left h') (by rw [cut_len (by omega)]; rfl)).1
  · intro h'
    rw [h']

/-- A byte is laid above those that there are. -/
theorem or_byte (k : Nat) (a z : Int) (hk : k < 4) (ha : 0 ≤ a) (hak : a < 256 ^ k) (hz : 0 ≤ z) (hz1 : z ≤ 255) : bits .or .u32 a (z * 2 ^ (8 * k) % 4294967296) = a + z * 256 ^ k := by
  obtain ⟨m, rfl⟩ := Int.eq_ofNat_of_zero_le ha
  obtain ⟨y, rfl⟩ := Int.eq_ofNat_of_zero_le hz
  have e0 : (256 : Nat) ^ k = 2 ^ (8 * k) := by rw [Nat.pow_mul]
  have e3 : ((256 ^ k : Nat) : Int) = (256 : Int) ^ k := Int.natCast_pow 256 k
  have e4 : ((2 ^ (8 * k) : Nat) : Int) = (2 : Int) ^ (8 * k) := Int.natCast_pow 2 (8 * k)
  rw [← e3] at hak
  have hm : m < 256 ^ k := Int.ofNat_lt.1 hak
  have hp : (256 : Nat) ^ k ≤ 16777216 := Nat.pow_le_pow_right (n := 256) (by omega) (show k ≤ 3 by omega)
  have hyk : y * 256 ^ k ≤ 255 * 256 ^ k := Nat.mul_le_mul_right _ (by omega)
  have e1 : (y : Int) * 2 ^ (8 * k) = ((y * 256 ^ k : Nat) : Int) := by rw [Int.natCast_mul, e0, e4]
  have e2 : (y : Int) * 256 ^ k = ((y * 256 ^ k : Nat) : Int) := by rw [Int.natCast_mul, e3]
  rw [e1, e2, Int.emod_eq_of_lt (by omega) (by omega), u32_or_nat _ _ (by omega) (by omega)]
  have := Nat.two_pow_add_eq_or_of_lt (i := 8 * k) (b := m) (by rw [← e0]; exact hm) y
  rw [Nat.or_comm, Nat.mul_comm y, e0, ← this, Int.natCast_add, Int.add_comm]

/-- What a call for the frame at a place tells: new bytes, the place behind, why not. -/
def Nexts (t : TypeId) (r : List Int × Nat × Int) (w : World) (e : Ending) (w' : World) : Prop :=
  ∃ A c, e = .returned (.tuple #[.slice A r.1.length c, .int .i64 (r.2.1 : Nat), .int .i64 r.2.2]) ∧ w'.ownsRow w.heap.size t 1 (.slice A r.1.length c) r.1.length (nums .u8 r.1) ∧ Below w.heap.size w w'
theorem nexts_none (t : TypeId) (k : Int) (w w' : World) (hb : Below w.heap.size w w') (v : Ending) (hv : v = .returned (.tuple #[.slice none 0 0, .int .i64 0, .int .i64 k])) : Nexts t ([], 0, k) w v w' :=
  ⟨none, 0, hv, World.ownsRow_nil _ _ _ _, hb⟩
end Frm
end Go.Proofs.YtegiigeelcnemaaGreat

/-
  What nextF tells: nothing at a fault; else the frame that stands there.
-/
namespace Go.Proofs.YtegiigeelcnemaaGreat
namespace Frm
open Go.RowKit Num

theorem next_err {zs Y : List Int} {i q : Nat} {e : Int} (h : nextF zs i = (Y, q, e)) (he : e ≠ 0) : Y = [] ∧ q = 0 := by
  unfold nextF at h
  split at h
  · simp only [Prod.mk.injEq] at h; exact ⟨h.1.symm, h.2.1.symm⟩
  · split at h
    · simp only [Prod.mk.injEq] at h; exact ⟨h.1.symm, h.2.1.symm⟩
    · split at h
      · simp only [Prod.mk.injEq] at h; exact ⟨h.1.symm, h.2.1.symm⟩
      · split at h
        · simp only [Prod.mk.injEq] at h; exact absurd h.2.2.symm he
        · simp only [Prod.mk.injEq] at h; exact ⟨h.1.symm, h.2.1.symm⟩

theorem next_ok {zs Y : List Int} {i q : Nat} (hby : ∀ z ∈ zs, 0 ≤ z ∧ z ≤ 255) (h : nextF zs i = (Y, q, 0)) :
    frameF Y = cutF zs i (q - i) ∧ i + 4 < q ∧ q ≤ zs.length ∧ Y.length ≤ 1048576 ∧ ∀ z ∈ Y, 0 ≤ z ∧ z ≤ 255 := by
  unfold nextF at h
  split at h
  · rename_i h0
    simp only [Prod.mk.injEq] at h
    exact absurd h.2.2 h0
  · rename_i h0
    split at h
    · simp only [Prod.mk.injEq] at h; omega
    · rename_i h1
      split at h
      · simp only [Prod.mk.injEq] at h; omega
      · rename_i h2
        split at h
        · rename_i h3
          simp only [Prod.mk.injEq] at h
          obtain ⟨rfl, rfl, _⟩ := h
          obtain ⟨⟨n, p, f⟩, hF⟩ : ∃ r, numF zs i = r := ⟨_, rfl⟩
          rw [hF] at h0 h1 h2 h3 ⊢
          have hf : f = 0 := by simpa using h0
          subst hf
          have hok := numF_ok hby hF
          simp only at h1 h2 h3 ⊢
          have hl : (cutF zs (p + 4) n.toNat).length = n.toNat := cut_len (by omega)
          exact ⟨h3, by omega, by omega, by omega, cut_bytes hby _ _⟩
        · simp only [Prod.mk.injEq] at h; omega

theorem frame_bytes {zs : List Int} (h : ∀ z ∈ zs, 0 ≤ z ∧ z ≤ 255) : ∀ z ∈ frameF zs, 0 ≤ z ∧ z ≤ 255 := by
  have hp := putL_bytes (zs.length : Int) (by omega)
  have hS : ∀ z ∈ putL (zs.length : Int) ++ zs, 0 ≤ z ∧ z ≤ 255 := by
    intro z hz
    rcases List.mem_append.1 hz with hz | hz
    · exact hp z hz
    · exact h z hz
  intro z hz
  unfold frameF at hz
  rcases List.mem_append.1 hz with hz | hz
  · rcases List.mem_append.1 hz with hz | hz
    · exact hp z hz
    · exact sum4_bytes _ (sumF_range _ hS) z hz
  · exact h z hz
theorem frame_len (zs : List Int) : (frameF zs).length = (putL (zs.length : Int)).length + 4 + zs.length := by
  unfold frameF
  rw [List.length_append, List.length_append]
  rfl
theorem cut_mid (a b c : List Int) (i m : Nat) (hi : a.length = i) (hm : b.length = m) : cutF (a ++ b ++ c) i m = b := by
  unfold cutF
  rw [List.append_assoc, List.drop_left' hi, List.take_left' hm]

/-- What is framed is taken out again, whatever stands before and behind. -/
theorem nextF_put {zs : List Int} (hbig : zs.length ≤ 1048576) (xs ys : List Int) : nextF (xs ++ frameF zs ++ ys) xs.length = (zs, xs.length + (frameF zs).length, 0) := by
  have hl := frame_len zs
  obtain ⟨P, hP⟩ : ∃ P, putL (zs.length : Int) = P := ⟨_, rfl⟩
  obtain ⟨S, hS⟩ : ∃ S, sum4 (sumF (P ++ zs)) = S := ⟨_, rfl⟩
  have hSl : S.length = 4 := by rw [← hS]; rfl
  have hF : frameF zs = P ++ S ++ zs := by unfold frameF; rw [hP, hS]
  rw [hP] at hl
  have h1 : numF (xs ++ frameF zs ++ ys) xs.length = ((zs.length : Int), xs.length + P.length, 0) := by
    have h := numF_put (zs.length : Int) (by omega) (by omega) xs (S ++ zs ++ ys)
    rw [hP] at h
    rw [hF, ← h]
    simp only [List.append_assoc]
  have h2 : cutF (xs ++ frameF zs ++ ys) (xs.length + P.length + 4) zs.length = zs := by
    have h := cut_mid (xs ++ P ++ S) zs ys (xs.length + P.length + 4) zs.length (by simp [hSl]; omega) rfl
    rw [hF, ← List.append_assoc, ← List.append_assoc]
    exact h
  have h3 : cutF (xs ++ frameF zs ++ ys) xs.length (xs.length + P.length + 4 + zs.length - xs.length) = frameF zs := cut_mid xs (frameF zs) ys _ _ rfl (by omega)
  unfold nextF
  rw [h1]
  simp only [Int.toNat_natCast]
  rw [if_neg (by simp), if_neg (by omega), if_neg (by simp; omega), h2, h3, if_pos rfl]
  rw [hl]
  simp only [Nat.add_assoc]
end Frm
end Go.Proofs.YtegiigeelcnemaaGreat

/-
  frame.Next and firthref02.Next tell what nextF tells.
-/
namespace Go.Proofs.YtegiigeelcnemaaGreat
namespace Frm
open Go.RowKit Num

theorem nexts_some {t : TypeId} {ys : List Int} {q : Nat} {w w' : World} {A : Option Addr} {c n : Nat} {v : Int} (hl : ys.length = n) (hv : v = (q : Int)) (ho : w'.ownsRow w.heap.size t 1 (.slice A ys.length c) ys.length (nums .u8 ys)) (hb : Below w.heap.size w w') :
    Nexts t (ys, q, 0) w (.returned (.tuple #[.slice A n c, .int .i64 v, .int .i64 0])) w' := by
  subst hv
  subst hl
  exact ⟨A, c, rfl, ho, hb⟩
theorem none0 {k : IntKind} {w : World} {B : Nat} {A : Option Addr} {zs : List Int} {N : Nat} (h : zs.length = N) (h0 : N = 0) : Ns k w B A zs := fun hp => absurd hp (by omega)
theorem clone_any (ad : Addr) (c n : Nat) (zs : List Int) (hn : zs.length = n) (B : Nat) (w : World) (hB : B ≤ w.heap.size) (hr : Ns .u8 w B (some ad) zs) (hbig : n ≤ 140737488351232) :
    Calls Tryz.prog 92 #[.slice (some ad) n c] w (MadeNs 5 .u8 zs w) := by
  obtain ⟨i0, hi0, hz0, hz1, hz2⟩ := info_parts Facts.info5
  have q1 := hr.more hB
  have ho := World.ownsRow_lit (base := w.heap.size) (e := 5) (size := 1) w #[] 0 (Nat.le_refl _) (by unfold maxLen; omega) rfl
  have q2 := q1.alloc (Nat.le_refl _) (.cells #[] 5)
  have hne := Lib.run_eql_slice_nil (P := Tryz.prog) w 25 5 (some ad) n c 0 0 Tryz.underlying25
  rw [show (some ad).isNone = false from rfl] at hne
  have Hn := Lib.hid hn
  clear hr hn q1
  go_enter Tryz.func92, Tryz.ntmps92
  have b0 := (Below.refl w.heap.size w).alloc (Nat.le_refl _) (.cells #[] 5)
  go_wp2_with (at_builtin; refine wpList_append_ns _ rfl (.tmp 5) (.tmp 6) 25 rfl w.heap.size 5 i0 (.int .u8 0) 1 Tryz.underlying25 hi0 hz0 hz1 hz2 rfl _ 0 [] rfl ho .u8 w.heap.size (some ad) n c zs Hn.out rfl q2 (by omega) (by omega) (by simp) ?_; intro v1 w1 o1 g1 at1)
  have b1 := b0.grown g1 (by simp) (fun j hj => (ho.lt j hj).1)
  obtain ⟨A1, c1, h1, R1⟩ := made_two (n := 0 + n) (xs := []) (ys := zs) (k := .u8) (by simp [Hn.out]) (by simpa [nums] using o1) b1
  clear o1 g1 at1
  cases h1
  go_ret
  exact ⟨A1, c1, rfl, R1⟩

set_option maxRecDepth 100000 in
theorem next_any (A : Option Addr) (c : Nat) (zs : List Int) (i : Nat) (w : World) (hr : Ns .u8 w w.heap.size A zs) (hby : ∀ z ∈ zs, 0 ≤ z ∧ z ≤ 255) (hlc : zs.length ≤ c) (hbig : zs.length ≤ 140737488351232) (hi : i ≤ zs.length) :
    Calls Tryz.prog 44 #[.slice A zs.length c, .int .i64 i] w (Nexts 5 (nextF zs i) w) := by
  have h1 := num_in A c zs i _ w hr hby (by omega) hi
  obtain ⟨⟨n, p, f⟩, hF⟩ : ∃ r, numF zs i = r := ⟨_, rfl⟩
  rw [hF] at h1
  have hfr := fun (N : Nat) (hN : (N : Int) = n) (hf : f = 0) hl => frame_iff (N := N) hby (by rw [hF, hN, hf]) hl
  have hok := fun (hf : f = 0) => numF_ok (n := n) (p := p) hby (by rw [hF, hf])
  by_cases he : f = 0
  · have hok1 := hok he
    obtain ⟨N, rfl⟩ := Int.eq_ofNat_of_zero_le hok1.1
    replace hfr := hfr N rfl he
    clear hok
    subst he
    obtain ⟨_, g2, g3, g4⟩ := hok1
    by_cases hlong : 1048576 < N
    · have hR : nextF zs i = ([], 0, 3) := by
        unfold nextF
        rw [hF, if_neg (by simp), if_pos (by simp; omega)]
      rw [hR]
      have H1 := Lib.hid h1
      clear h1 hR hfr hF hby hr
      go_enter Tryz.func44, Tryz.ntmps44
      go_wp2_with fail
      refine H1.out.mono ?_
      rintro e w1 ⟨rfl, rfl⟩
      go_wp2
      go_ret3
      exact nexts_none _ _ _ _ (Below.refl _ _) _ rfl
    · by_cases hshort : zs.length < p + 4 + N
      · have hR : nextF zs i = ([], 0, 4) := by
          unfold nextF
          rw [hF, if_neg (by simp), if_neg (by simp; omega), if_pos (by simpa using hshort)]
        rw [hR]
        have H1 := Lib.hid h1
        clear h1 hR hfr hF hby hr
        go_enter Tryz.func44, Tryz.ntmps44
        go_wp2_with fail
        refine H1.out.mono ?_
        rintro e w1 ⟨rfl, rfl⟩
        go_wp2
        go_ret3
        exact nexts_none _ _ _ _ (Below.refl _ _) _ rfl
      · have hlen : p + 4 + N ≤ zs.length := by omega
        replace hfr := hfr hlen
        obtain ⟨b, off, rfl, hb, hc⟩ := hr (by omega)
        have hp := hr.cut i (p - i)
        have hq := hr.cut (p + 4) N
        have hcell : ∀ k, k < 4 → w.cell? ⟨b, off + (p + k), none⟩ = some (.int .u8 (zs.getD (p + k) 0)) := fun k hk => hc _ (by omega)
        have hle : ∀ k, k < 4 → leF (cutF zs p (k + 1)) = leF (cutF zs p k) + zs.getD (p + k) 0 * 256 ^ k := fun k hk => leF_take zs k p (by omega)
        have hH := Lib.hid (And.intro hF (And.intro hfr (And.intro hby (And.intro hp (And.intro hq (And.intro hc hle))))))
        have H1 := Lib.hid h1
        clear h1 hfr hF hby hr hp hq hc hle
        rcases (show p + 4 < c ∨ c = p + 4 by omega) with hcap | rfl
        all_goals
          go_enter Tryz.func44, Tryz.ntmps44
          go_wp2_with fail
          refine H1.out.mono ?_
          rintro e w1 ⟨rfl, rfl⟩
          go_wp2
          go_loop [12, 39] (fun s q => ∃ (k : Nat) (a : Int), k ≤ 4 ∧ 0 ≤ a ∧ a < 256 ^ k ∧ q = .int .i64 k ∧ s = .int .u32 a ∧ Hid (a = leF (cutF zs p k))) (fun _ q => 4 - (intOf q).toNat)
          case atStart => exact ⟨0, 0, by omega, by omega, by simp, rfl, rfl, Lib.hid rfl⟩
          case round =>
            obtain ⟨k, a, hk, ha0, hak, rfl, rfl, hst⟩ := hrel
            by_cases h4 : k < 4
            · have hz1 := hH.out.2.2.1
              have hck := hcell k h4
              obtain ⟨z, hz⟩ : ∃ z, zs.getD (p + k) 0 = z := ⟨_, rfl⟩
              have hb1 : 0 ≤ z ∧ z ≤ 255 := by
                rw [← hz, List.getD_eq_getElem?_getD, List.getElem?_eq_getElem (show p + k < zs.length by omega)]; exact hz1 _ (List.getElem_mem _)
              have hs2 := Lib.hid (hH.out.2.2.2.2.2.2 k h4)
              have Hz := Lib.hid hz
              rw [hz] at hck
              clear hz hz1 hcell
              obtain ⟨hb0, hb1⟩ := hb1
              go_wp2
              case roundEnd =>
                have hor := or_byte k a z h4 ha0 hak hb0 hb1
                have hpow : (0 : Int) < 256 ^ k := Int.pow_pos (by omega)
                have hmul : 0 ≤ z * 256 ^ k := Int.mul_nonneg hb0 (by omega)
                have hmul2 : z * 256 ^ k ≤ 255 * 256 ^ k := Int.mul_le_mul_of_nonneg_right hb1 (by omega)
                have hsucc : (256 : Int) ^ (k + 1) = 256 ^ k * 256 := Int.pow_succ 256 k
                refine ⟨⟨k + 1, a + z * 256 ^ k, by omega, by omega, by omega, rfl, by rw [hor], Lib.hid ?_⟩, by simp only [intOf]; omega⟩
                rw [hs2.out, ← hst.out, Hz.out]
            · have hk4 : k = 4 := by omega
              subst hk4
              clear hcell
              go_wp2_with fail
              obtain ⟨hF, hfr, hby, hp, hq, _, _⟩ := hH.out
              have hlx : (cutF zs i (p - i)).length = p - i := cut_len (by omega)
              have hly : (cutF zs (p + 4) N).length = N := cut_len (by omega)
              have hbx := cut_bytes hby i (p - i)
              have hby' := cut_bytes hby (p + 4) N
              have hR : (sumF (cutF zs i (p - i) ++ cutF zs (p + 4) N) = a → nextF zs i = (cutF zs (p + 4) N, p + 4 + N, 0)) ∧ (¬ sumF (cutF zs i (p - i) ++ cutF zs (p + 4) N) = a → nextF zs i = ([], 0, 20)) := by
                rw [hst.out]
                constructor
                · intro h
                  unfold nextF
                  rw [hF, if_neg (by simp), if_neg (by simp; omega), if_neg (by simp; omega)]
                  exact if_pos (hfr.2 h)
                · intro h
                  unfold nextF
                  rw [hF, if_neg (by simp), if_neg (by simp; omega), if_neg (by simp; omega)]
                  exact if_neg (fun h' => h (hfr.1 h'))
              have hR := Lib.hid hR
              refine Calls.mono (sum_at _ _ _ [cutF zs i (p - i), cutF zs (p + 4) N] rfl _ _ (parts_two_at rfl hlx hly hp (by first | exact hq | exact none0 hly (by omega)) (Nat.le_refl _) (by omega) (by omega)) (by
                intro r hr
                rcases List.mem_cons.1 hr with rfl | hr
                · exact ⟨hbx, by omega⟩
                · rcases List.mem_cons.1 hr with rfl | hr
                  · exact ⟨hby', by omega⟩
                  · cases hr) (by simp)) ?_
              rintro e w2 ⟨rfl, rfl⟩
              have hq2 : ∀ o : Obj, Ns .u8 (w.alloc o) w.heap.size (some ⟨b, off + (p + 4), none⟩) (cutF zs (p + 4) N) := fun o => hq.alloc (Nat.le_refl _) o
              rw [show [cutF zs i (p - i), cutF zs (p + 4) N].flatten = cutF zs i (p - i) ++ cutF zs (p + 4) N by simp]
              obtain ⟨S, hS⟩ : ∃ S, sumF (cutF zs i (p - i) ++ cutF zs (p + 4) N) = S := ⟨_, rfl⟩
              rw [hS] at hR ⊢
              obtain ⟨Y, hY⟩ : ∃ Y, cutF zs (p + 4) N = Y := ⟨_, rfl⟩
              rw [hY] at hR hly
              simp only [hY] at hq2
              have hR := Lib.hid hR.out
              have HB : ∀ o : Obj, Below w.heap.size w (w.alloc o) := fun o => (Below.refl w.heap.size w).alloc (Nat.le_refl _) o
              clear hS hY hF hfr hby hp hq hlx hbx hby' hH H1 hst
              by_cases hSa : S = a
              · subst hSa
                have hR2 := Lib.hid (hR.out.1 rfl)
                clear hR
                go_wp2_with fail
                refine Calls.mono (clone_any _ _ _ Y hly w.heap.size _ (by simp) (by first | exact hq2 _ | exact none0 hly (by omega)) (by omega)) ?_
                rintro e w3 ⟨A3, c3, rfl, o3, b3⟩
                go_wp2
                go_ret3
                rw [hR2.out]
                exact nexts_some (q := p + 4 + N) (v := (p : Int) + 4 + N) hly (by omega) (own_base o3 (by simp)) ((HB _).trans (b3.mono (by simp)))
              · have hR2 := Lib.hid (hR.out.2 hSa)
                have hne : (S == a) = false := by simpa using hSa
                clear hR
                go_wp2
                go_ret3
                rw [hR2.out]
                exact nexts_none _ _ _ _ (HB _) _ rfl
  · have hR : nextF zs i = ([], 0, f) := by
      unfold nextF
      rw [hF, if_pos he]
    rw [hR]
    obtain ⟨rfl, rfl⟩ := numF_err hF he
    have hb : (f == 0) = false := by simpa using he
    have H1 := Lib.hid h1
    clear h1 hR hfr hF hby hr hok he
    go_enter Tryz.func44, Tryz.ntmps44
    go_wp2_with fail
    refine H1.out.mono ?_
    rintro e w1 ⟨rfl, rfl⟩
    go_wp2
    go_ret3
    exact nexts_none _ _ _ _ (Below.refl _ _) _ rfl
end Frm
end Go.Proofs.YtegiigeelcnemaaGreat

/-
  firthref02.Next tells what nextF tells.
-/
namespace Go.Proofs.YtegiigeelcnemaaGreat
namespace Frm
open Go.RowKit Num
attribute [local go_sem ↓] Go.wp_at_zero Go.wp_at_succ

set_option maxHeartbeats 1000000 in
set_option maxRecDepth 100000 in
theorem ref_next_any (A : Option Addr) (c : Nat) (zs : List Int) (i : Nat) (w : World) (hr : Ns .u8 w w.heap.size A zs) (hby : ∀ z ∈ zs, 0 ≤ z ∧ z ≤ 255) (hlc : zs.length ≤ c) (hbig : zs.length ≤ 140737488351232) (hi : i ≤ zs.length) :
    Calls Tryz.prog 47 #[.slice A zs.length c, .int .i64 i] w (Nexts 5 (nextF zs i) w) := by
  have h1 := ref_num_in A c zs i _ w hr hby (by omega) hi
  obtain ⟨⟨n, p, f⟩, hF⟩ : ∃ r, numF zs i = r := ⟨_, rfl⟩
  rw [hF] at h1
  have hok := fun (hf : f = 0) => numF_ok (n := n) (p := p) hby (by rw [hF, hf])
  by_cases he : f = 0
  · have hok1 := hok he
    obtain ⟨N, rfl⟩ := Int.eq_ofNat_of_zero_le hok1.1
    clear hok
    subst he
    obtain ⟨_, g2, g3, g4⟩ := hok1
    by_cases hlong : 1048576 < N
    · have hR : nextF zs i = ([], 0, 3) := by
        unfold nextF
        rw [hF, if_neg (by simp), if_pos (by simp; omega)]
      rw [hR]
      have H1 := Lib.hid h1
      clear h1 hR hF hby hr
      go_enter Tryz.func47, Tryz.ntmps47
      go_wp2_with fail
      refine H1.out.mono ?_
      rintro e w1 ⟨rfl, rfl⟩
      go_wp2
      go_ret3
      exact nexts_none _ _ _ _ (Below.refl _ _) _ rfl
    · by_cases hshort : zs.length < p + 4 + N
      · have hR : nextF zs i = ([], 0, 4) := by
          unfold nextF
          rw [hF, if_neg (by simp), if_neg (by simp; omega), if_pos (by simpa using hshort)]
        rw [hR]
        have H1 := Lib.hid h1
        clear h1 hR hF hby hr
        go_enter Tryz.func47, Tryz.ntmps47
        go_wp2_with fail
        refine H1.out.mono ?_
        rintro e w1 ⟨rfl, rfl⟩
        go_wp2
        go_ret3
        exact nexts_none _ _ _ _ (Below.refl _ _) _ rfl
      · have hlen : p + 4 + N ≤ zs.length := by omega
        obtain ⟨b, off, rfl, hb, hc⟩ := hr (by omega)
        have hR : (frameF (cutF zs (p + 4) N) = cutF zs i (p + 4 + N - i) → nextF zs i = (cutF zs (p + 4) N, p + 4 + N, 0)) ∧ (¬ frameF (cutF zs (p + 4) N) = cutF zs i (p + 4 + N - i) → nextF zs i = ([], 0, 20)) := by
          constructor
          · intro h
            unfold nextF
            rw [hF, if_neg (by simp), if_neg (by simp; omega), if_neg (by simp; omega)]
            exact if_pos h
          · intro h
            unfold nextF
            rw [hF, if_neg (by simp), if_neg (by simp; omega), if_neg (by simp; omega)]
            exact if_neg h
        have hp : Ns .u8 w w.heap.size _ (cutF zs i (p + 4 + N - i)) := hr.cut i (p + 4 + N - i)
        have hq : Ns .u8 w w.heap.size _ (cutF zs (p + 4) N) := hr.cut (p + 4) N
        have hly : (cutF zs (p + 4) N).length = N := cut_len (by omega)
        have hlz : (cutF zs i (p + 4 + N - i)).length = p + 4 + N - i := cut_len (by omega)
        have hyb := cut_bytes hby (p + 4) N
        have hzb := cut_bytes hby i (p + 4 + N - i)
        obtain ⟨Y, hY⟩ : ∃ Y, cutF zs (p + 4) N = Y := ⟨_, rfl⟩
        obtain ⟨Z, hZ⟩ : ∃ Z, cutF zs i (p + 4 + N - i) = Z := ⟨_, rfl⟩
        rw [hY] at hR hq hly hyb
        rw [hZ] at hR hp hlz hzb
        obtain ⟨F, hFr⟩ : ∃ F, frameF Y = F := ⟨_, rfl⟩
        have hF' := Lib.hid hFr
        have hFb : Hid (∀ z ∈ F, 0 ≤ z ∧ z ≤ 255) := Lib.hid (by rw [← hFr]; exact frame_bytes hyb)
        rw [hFr] at hR
        clear hFr
        have hR1 := hR
        clear hR
        have hR := Lib.hid hR1
        clear hR1
        have HB := Lib.hid (And.intro hyb hzb)
        have H1 := Lib.hid h1
        clear h1 hF hby hr hc hY hZ hyb hzb
        rcases (show p + 4 < c ∨ c = p + 4 by omega) with hcap | rfl
        · go_enter Tryz.func47, Tryz.ntmps47
          go_wp2_with fail
          refine H1.out.mono ?_
          rintro e w1 ⟨rfl, rfl⟩
          go_wp2_with fail
          refine Calls.mono (cat_any _ _ _ _ 0 N [] Y rfl hly w.heap.size w (Nat.le_refl _) (Ns.nil _) (by first | exact hq | exact none0 hly (by omega)) (by omega)) ?_
          rintro e w2 ⟨A2, c2, rfl, o2, b2⟩
          rw [List.nil_append] at o2 ⊢
          have n2 := own_ns o2
          have hp2 := hp.below b2
          have hsz2 := b2.size
          go_wp2_with fail
          have h2 := fun W hW => ref_put_any A2 c2 Y W hW HB.out.1 (by omega)
          rw [hF'.out, hly] at h2
          have H2 := Lib.hid h2
          clear h2
          have k2 : ∀ W, Ns .u8 W w.heap.size (some ⟨b, off + i, none⟩) Z → (convert 25 9 (.slice (some ⟨b, off + i, none⟩) (p + 4 + N - i) (c - i))).run Tryz.prog W = .ok (.string (strOfNums Z)) W := by
            intro W h
            have h' := run_conv_ns (P := Tryz.prog) W 25 5 9 Tryz.underlying25 Tryz.underlying5 Tryz.underlying9 (c - i) h
            rwa [hlz] at h'
          have d1 : (0 : Int) ≤ (i : Int) := by omega
          have d2 : (i : Int) ≤ (p : Int) + 4 + (N : Int) := by omega
          have d3 : (p : Int) + 4 + (N : Int) ≤ (c : Int) := by omega
          have d4 : ((p : Int) + 4 + (N : Int)).toNat = p + 4 + N := by omega
          have d5 : i < c := by omega
          have d6 : i ≤ p + 4 + N := by omega
          have d7 : p + 4 + N ≤ c := by omega
          have n2d : Ns .u8 w2.drew w2.drew.heap.size A2 Y := n2
          have hkp : ∀ W, Below w2.drew.heap.size w2.drew W → Ns .u8 W w.heap.size (some ⟨b, off + i, none⟩) Z := fun W hb => Ns.keep (w := w2.drew) hp2.drew fun _ hp => hb.cell (Nat.lt_of_lt_of_le hp hsz2)
          have O2 := Lib.hid o2
          have HN := Lib.hid n2d
          clear o2
          have kd := k2 _ hp2.drew
          have K2 := Lib.hid k2
          have HK := Lib.hid hkp
          clear k2 hkp
          go_region_with (first
            | (go_at_call 34; refine (H2.out _ n2d).mono ?_; rintro e w3 ⟨A3, c3, rfl, o3, b3⟩; have k1 := run_conv_ns (P := Tryz.prog) w3 25 5 9 Tryz.underlying25 Tryz.underlying5 Tryz.underlying9 c3 (own_ns o3); have k3 := K2.out _ (HK.out _ b3)))
          all_goals
            have o3' := Lib.hid (own_below (w := w2.drew) O2.out b3 (Nat.le_refl _))
            have b4 := Lib.hid ((b2.drew).trans (b3.mono hsz2))
            clear o3 b3 H2 O2 K2 HK
            by_cases hFZ : F = Z
            · have hR2 := Lib.hid (hR.out.1 hFZ)
              have hEq : ((strOfNums F).toList == (strOfNums Z).toList) = true := by rw [hFZ]; exact beq_self_eq_true _
              clear hR hFZ
              go_wp2
              all_goals
                rename_i h
                first
                  | (exfalso; rw [hEq] at h; revert h; decide)
                  | (go_ret3; rw [hR2.out]; exact nexts_some (q := p + 4 + N) (v := (p : Int) + 4 + N) hly (by omega) o3'.out b4.out)
            · have hR2 := Lib.hid (hR.out.2 hFZ)
              have hEq : ((strOfNums F).toList == (strOfNums Z).toList) = false := by
                have h := eqB_eq hFb.out HB.out.2
                rw [decide_eq_false hFZ] at h
                exact h
              clear hR hFZ
              go_wp2
              all_goals
                rename_i h
                first
                  | (exfalso; rw [hEq] at h; revert h; decide)
                  | (go_ret3; rw [hR2.out]; exact nexts_none _ _ _ _ b4.out _ rfl)
        · go_enter Tryz.func47, Tryz.ntmps47
          go_wp2_with fail
          refine H1.out.mono ?_
          rintro e w1 ⟨rfl, rfl⟩
          go_wp2_with fail
          refine Calls.mono (cat_any _ _ _ _ 0 N [] Y rfl hly w.heap.size w (Nat.le_refl _) (Ns.nil _) (by first | exact hq | exact none0 hly (by omega)) (by omega)) ?_
          rintro e w2 ⟨A2, c2, rfl, o2, b2⟩
          rw [List.nil_append] at o2 ⊢
          have n2 := own_ns o2
          have hp2 := hp.below b2
          have hsz2 := b2.size
          go_wp2_with fail
          have h2 := fun W hW => ref_put_any A2 c2 Y W hW HB.out.1 (by omega)
          rw [hF'.out, hly] at h2
          have H2 := Lib.hid h2
          clear h2
          have k2 : ∀ W, Ns .u8 W w.heap.size (some ⟨b, off + i, none⟩) Z → (convert 25 9 (.slice (some ⟨b, off + i, none⟩) (p + 4 + N - i) (p + 4 - i))).run Tryz.prog W = .ok (.string (strOfNums Z)) W := by
            intro W h
            have h' := run_conv_ns (P := Tryz.prog) W 25 5 9 Tryz.underlying25 Tryz.underlying5 Tryz.underlying9 (p + 4 - i) h
            rwa [hlz] at h'
          have d1 : (0 : Int) ≤ (i : Int) := by omega
          have d2 : (i : Int) ≤ (p : Int) + 4 + (N : Int) := by omega
          have d3 : (p : Int) + 4 + (N : Int) ≤ (p : Int) + 4 := by omega
          have d4 : ((p : Int) + 4 + (N : Int)).toNat = p + 4 + N := by omega
          have d5 : i < p + 4 := by omega
          have d6 : i ≤ p + 4 + N := by omega
          have d7 : p + 4 + N ≤ p + 4 := by omega
          have n2d : Ns .u8 w2.drew w2.drew.heap.size A2 Y := n2
          have hkp : ∀ W, Below w2.drew.heap.size w2.drew W → Ns .u8 W w.heap.size (some ⟨b, off + i, none⟩) Z := fun W hb => Ns.keep (w := w2.drew) hp2.drew fun _ hp => hb.cell (Nat.lt_of_lt_of_le hp hsz2)
          have O2 := Lib.hid o2
          have HN := Lib.hid n2d
          clear o2
          have kd := k2 _ hp2.drew
          have K2 := Lib.hid k2
          have HK := Lib.hid hkp
          clear k2 hkp
          go_region_with (first
            | (go_at_call 34; refine (H2.out _ n2d).mono ?_; rintro e w3 ⟨A3, c3, rfl, o3, b3⟩; have k1 := run_conv_ns (P := Tryz.prog) w3 25 5 9 Tryz.underlying25 Tryz.underlying5 Tryz.underlying9 c3 (own_ns o3); have k3 := K2.out _ (HK.out _ b3)))
          all_goals
            have o3' := Lib.hid (own_below (w := w2.drew) O2.out b3 (Nat.le_refl _))
            have b4 := Lib.hid ((b2.drew).trans (b3.mono hsz2))
            clear o3 b3 H2 O2 K2 HK
            by_cases hFZ : F = Z
            · have hR2 := Lib.hid (hR.out.1 hFZ)
              have hEq : ((strOfNums F).toList == (strOfNums Z).toList) = true := by rw [hFZ]; exact beq_self_eq_true _
              clear hR hFZ
              go_wp2
              all_goals
                rename_i h
                first
                  | (exfalso; rw [hEq] at h; revert h; decide)
                  | (go_ret3; rw [hR2.out]; exact nexts_some (q := p + 4 + N) (v := (p : Int) + 4 + N) hly (by omega) o3'.out b4.out)
            · have hR2 := Lib.hid (hR.out.2 hFZ)
              have hEq : ((strOfNums F).toList == (strOfNums Z).toList) = false := by
                have h := eqB_eq hFb.out HB.out.2
                rw [decide_eq_false hFZ] at h
                exact h
              clear hR hFZ
              go_wp2
              all_goals
                rename_i h
                first
                  | (exfalso; rw [hEq] at h; revert h; decide)
                  | (go_ret3; rw [hR2.out]; exact nexts_none _ _ _ _ b4.out _ rfl)
  · have hR : nextF zs i = ([], 0, f) := by
      unfold nextF
      rw [hF, if_pos he]
    rw [hR]
    obtain ⟨rfl, rfl⟩ := numF_err hF he
    have hb : (f == 0) = false := by simpa using he
    have H1 := Lib.hid h1
    clear h1 hR hF hby hr hok he
    go_enter Tryz.func47, Tryz.ntmps47
    go_wp2_with fail
    refine H1.out.mono ?_
    rintro e w1 ⟨rfl, rfl⟩
    go_wp2
    go_ret3
    exact nexts_none _ _ _ _ (Below.refl _ _) _ rfl
end Frm
end Go.Proofs.YtegiigeelcnemaaGreat
