/-
  Plain words of layer 2: the check sum.
-/
import Derived.Test.YtgiojcjnljmaiaaBase
import Derived.Laws.BitsAllLaws
namespace Go.Proofs.Ytgiojcjnljmaiaa
namespace Frm
open Go.RowKit

def stepC (m : Int) : Int := if m % 2 = 1 then bits .xor .u32 (m / 2) 3988292384 else m / 2
def iterC : Nat → Int → Int
  | 0, m => m
  | k + 1, m => iterC k (stepC m)
def feedC (r c : Int) : Int := iterC 8 (bits .xor .u32 r c)
def sumR (zs : List Int) (r : Int) : Int := zs.foldl feedC r
def sumF (zs : List Int) : Int := bits .xor .u32 (sumR zs 4294967295) 4294967295

def U32 (m : Int) : Prop := 0 ≤ m ∧ m ≤ 4294967295
theorem xor_range (a b : Int) (ha : U32 a) (hb : U32 b) : U32 (bits .xor .u32 a b) := by
  obtain ⟨a0, a1⟩ := ha
  obtain ⟨b0, b1⟩ := hb
  rw [u32_xor a b a0 (by omega) b0 (by omega)]
  have := Nat.xor_lt_two_pow (n := 32) (show a.toNat < 2 ^ 32 by omega) (show b.toNat < 2 ^ 32 by omega)
  exact ⟨by omega, by omega⟩
theorem xor_turn (a b : Int) (ha : U32 a) (hb : U32 b) : bits .xor .u32 a b = bits .xor .u32 b a := by
  obtain ⟨a0, a1⟩ := ha
  obtain ⟨b0, b1⟩ := hb
  rw [u32_xor a b a0 (by omega) b0 (by omega), u32_xor b a b0 (by omega) a0 (by omega), Nat.xor_comm]
theorem and_one (a : Int) (ha : U32 a) : bits .and .u32 a 1 = a % 2 := by
  obtain ⟨a0, a1⟩ := ha
  rw [u32_and a 1 a0 (by omega) (by omega) (by omega)]
  have : a.toNat &&& (1 : Int).toNat = a.toNat % 2 := Nat.and_one_is_mod _
  rw [this]
  omega
theorem stepC_range (m : Int) (h : U32 m) : U32 (stepC m) := by
  unfold stepC
  obtain ⟨h0, h1⟩ := h
  split
  · exact xor_range _ _ ⟨by omega, by omega⟩ ⟨by omega, by omega⟩
  · exact ⟨by omega, by omega⟩
theorem iterC_range : ∀ (k : Nat) (m : Int), U32 m → U32 (iterC k m)
  | 0, _, h => h
  | k + 1, m, h => iterC_range k (stepC m) (stepC_range m h)
theorem byte_u32 {c : Int} (h : 0 ≤ c ∧ c ≤ 255) : U32 c := ⟨h.1, by omega⟩
theorem feedC_range (r c : Int) (hr : U32 r) (hc : 0 ≤ c ∧ c ≤ 255) : U32 (feedC r c) := iterC_range 8 _ (xor_range r c hr (byte_u32 hc))
theorem sumR_range : ∀ (zs : List Int) (r : Int), U32 r → (∀ z ∈ zs, 0 ≤ z ∧ z ≤ 255) → U32 (sumR zs r)
  | [], _, h, _ => h
  | z :: zs, r, h, hz => by
    have e : sumR (z :: zs) r = sumR zs (feedC r z) := by unfold sumR; rw [List.foldl_cons]
    rw [e]
    exact sumR_range zs (feedC r z) (feedC_range r z h (hz z (by simp))) (fun x hx => hz x (by simp [hx]))
theorem full : U32 4294967295 := ⟨by omega, by omega⟩
theorem sumF_range (zs : List Int) (hz : ∀ z ∈ zs, 0 ≤ z ∧ z ≤ 255) : U32 (sumF zs) := by
  unfold sumF
  exact xor_range _ _ (sumR_range zs _ full hz) full
theorem sumR_cons (z : Int) (zs : List Int) (r : Int) : sumR (z :: zs) r = sumR zs (feedC r z) := by unfold sumR; rw [List.foldl_cons]
theorem sumR_append (a b : List Int) (r : Int) : sumR (a ++ b) r = sumR b (sumR a r) := by unfold sumR; rw [List.foldl_append]

/-- From A on stand slices of bytes, of which each reads as one of the lists. -/
def Parts (w : World) (B : Nat) (A : Option Addr) (ps : List (List Int)) : Prop :=
  0 < ps.length → ∃ b off, A = some ⟨b, off, none⟩ ∧ b < B ∧ ∀ j, j < ps.length → ∃ A' c', w.cell? ⟨b, off + j, none⟩ = some (.slice A' (ps.getD j []).length c') ∧ Ns .u8 w B A' (ps.getD j []) ∧ (ps.getD j []).length ≤ c'
theorem Parts.nil {w : World} {B : Nat} (A : Option Addr) : Parts w B A [] := fun h => absurd h (by simp)
theorem Parts.keep {w w' : World} {B : Nat} {A : Option Addr} {ps : List (List Int)} (h : Parts w B A ps) (hk : ∀ p : Addr, p.block < B → w'.cell? p = w.cell? p) : Parts w' B A ps := fun hp => by
  obtain ⟨b, off, e, hb, hc⟩ := h hp
  refine ⟨b, off, e, hb, fun j hj => ?_⟩
  obtain ⟨A', c', h1, h2, h3⟩ := hc j hj
  exact ⟨A', c', (hk _ hb).trans h1, h2.keep hk, h3⟩
theorem Parts.below {w w' : World} {B : Nat} {A : Option Addr} {ps : List (List Int)} (h : Parts w B A ps) (hb : Below B w w') : Parts w' B A ps := h.keep fun _ hp => hb.cell hp
theorem parts_one {w : World} {t : TypeId} {A : Option Addr} {c : Nat} {xs : List Int} {B : Nat} (h : Ns .u8 w B A xs) (hB : B ≤ w.heap.size) (hc : xs.length ≤ c) :
    Parts (w.alloc (.cells #[.slice A xs.length c] t)) (w.heap.size + 1) (some ⟨w.heap.size, 0, none⟩) [xs] := fun _ => by
  refine ⟨_, _, rfl, by omega, fun j hj => ?_⟩
  match j, hj with
  | 0, _ => exact ⟨A, c, by simp, (h.alloc hB _).more (by omega), hc⟩
theorem parts_two {w : World} {t : TypeId} {A A' : Option Addr} {c c' : Nat} {xs ys : List Int} {B : Nat} (h : Ns .u8 w B A xs) (h' : Ns .u8 w B A' ys) (hB : B ≤ w.heap.size) (hc : xs.length ≤ c) (hc' : ys.length ≤ c') :
    Parts (w.alloc (.cells #[.slice A xs.length c, .slice A' ys.length c'] t)) (w.heap.size + 1) (some ⟨w.heap.size, 0, none⟩) [xs, ys] := fun _ => by
  refine ⟨_, _, rfl, by omega, fun j hj => ?_⟩
  match j, hj with
  | 0, _ => exact ⟨A, c, by simp, (h.alloc hB _).more (by omega), hc⟩
  | 1, _ => exact ⟨A', c', by simp, (h'.alloc hB _).more (by omega), hc'⟩
theorem parts_three {w : World} {t : TypeId} {A A' A'' : Option Addr} {c c' c'' : Nat} {xs ys zs : List Int} {B : Nat} (h : Ns .u8 w B A xs) (h' : Ns .u8 w B A' ys) (h'' : Ns .u8 w B A'' zs) (hB : B ≤ w.heap.size)
    (hc : xs.length ≤ c) (hc' : ys.length ≤ c') (hc'' : zs.length ≤ c'') :
    Parts (w.alloc (.cells #[.slice A xs.length c, .slice A' ys.length c', .slice A'' zs.length c''] t)) (w.heap.size + 1) (some ⟨w.heap.size, 0, none⟩) [xs, ys, zs] := fun _ => by
  refine ⟨_, _, rfl, by omega, fun j hj => ?_⟩
  match j, hj with
  | 0, _ => exact ⟨A, c, by simp, (h.alloc hB _).more (by omega), hc⟩
  | 1, _ => exact ⟨A', c', by simp, (h'.alloc hB _).more (by omega), hc'⟩
  | 2, _ => exact ⟨A'', c'', by simp, (h''.alloc hB _).more (by omega), hc''⟩
theorem parts_one_at {w : World} {t : TypeId} {A : Option Addr} {c n g : Nat} {xs : List Int} {B : Nat} (hg : w.heap.size = g) (hn : xs.length = n) (h : Ns .u8 w B A xs) (hB : B ≤ w.heap.size) (hc : xs.length ≤ c) :
    Parts (w.alloc (.cells #[.slice A n c] t)) (g + 1) (some ⟨g, 0, none⟩) [xs] := by
  subst hn
  subst hg
  exact parts_one h hB hc
theorem parts_two_at {w : World} {t : TypeId} {A A' : Option Addr} {c c' n n' g : Nat} {xs ys : List Int} {B : Nat} (hg : w.heap.size = g) (hn : xs.length = n) (hn' : ys.length = n') (h : Ns .u8 w B A xs) (h' : Ns .u8 w B A' ys) (hB : B ≤ w.heap.size) (hc : xs.length ≤ c) (hc' : ys.length ≤ c') :
    Parts (w.alloc (.cells #[.slice A n c, .slice A' n' c'] t)) (g + 1) (some ⟨g, 0, none⟩) [xs, ys] := by
  subst hn
  subst hg
  subst hn'
  exact parts_two h h' hB hc hc'
end Frm
end Go.Proofs.Ytgiojcjnljmaiaa
