/-
  Plain words of layer 2: what the frame at a place tells.
-/
import Derived.Test.YtgiojcjnljmaiaaPut
namespace Go.Proofs.Ytgiojcjnljmaiaa
namespace Frm
open Go.RowKit Num

def leF : List Int → Int
  | [] => 0
  | z :: zs => z + 256 * leF zs
def cutF (zs : List Int) (i m : Nat) : List Int := (zs.drop i).take m
def nextF (zs : List Int) (i : Nat) : List Int × Nat × Int :=
  if (numF zs i).2.2 ≠ 0 then ([], 0, (numF zs i).2.2)
  else if 1048576 < (numF zs i).1 then ([], 0, 3)
  else if zs.length < (numF zs i).2.1 + 4 + (numF zs i).1.toNat then ([], 0, 4)
  else if frameF (cutF zs ((numF zs i).2.1 + 4) (numF zs i).1.toNat) = cutF zs i ((numF zs i).2.1 + 4 + (numF zs i).1.toNat - i)
    then (cutF zs ((numF zs i).2.1 + 4) (numF zs i).1.toNat, (numF zs i).2.1 + 4 + (numF zs i).1.toNat, 0) else ([], 0, 20)

theorem leF_take (zs : List Int) : ∀ (k p : Nat), p + k < zs.length → leF (cutF zs p (k + 1)) = leF (cutF zs p k) + zs.getD (p + k) 0 * 256 ^ k
  | 0, p, h => by
    unfold cutF
    rw [List.drop_eq_getElem_cons (by omega), List.take_succ_cons, List.take_zero, List.take_zero]
    simp only [leF, List.getD_eq_getElem?_getD, Nat.add_zero, List.getElem?_eq_getElem (show p < zs.length from h), Option.getD_some, Int.pow_zero]
    omega
  | k + 1, p, h => by
    have ih := leF_take zs k (p + 1) (by omega)
    unfold cutF at ih ⊢
    rw [List.drop_eq_getElem_cons (by omega), List.take_succ_cons, List.take_succ_cons, leF, leF, ih, Int.mul_add, ← Int.add_assoc, Int.pow_succ, show p + 1 + k = p + (k + 1) by omega]
    rw [show (256 : Int) * (zs.getD (p + (k + 1)) 0 * 256 ^ k) = zs.getD (p + (k + 1)) 0 * (256 ^ k * 256) by rw [Int.mul_comm 256, Int.mul_assoc]]
theorem cut_bytes {zs : List Int} (h : ∀ z ∈ zs, 0 ≤ z ∧ z ≤ 255) (i m : Nat) : ∀ z ∈ cutF zs i m, 0 ≤ z ∧ z ≤ 255 := fun z hz => h z (List.mem_of_mem_drop (List.mem_of_mem_take hz))
theorem cut_len {zs : List Int} {i m : Nat} (h : i + m ≤ zs.length) : (cutF zs i m).length = m := by unfold cutF; rw [List.length_take, List.length_drop]; omega
theorem cut_join (zs : List Int) (i m n : Nat) : cutF zs i (m + n) = cutF zs i m ++ cutF zs (i + m) n := by
  unfold cutF
  rw [List.take_add, List.drop_drop]
theorem leF_range : ∀ (l : List Int), (∀ z ∈ l, 0 ≤ z ∧ z ≤ 255) → 0 ≤ leF l ∧ leF l < 256 ^ l.length
  | [], _ => by simp [leF]
  | z :: l, h => by
    have ih := leF_range l (fun x hx => h x (by simp [hx]))
    have hz := h z (by simp)
    rw [leF, List.length_cons, Int.pow_succ]
    omega
theorem sum4_le (s : Int) (hs : U32 s) (q : List Int) (hq : q.length = 4) (hb : ∀ z ∈ q, 0 ≤ z ∧ z ≤ 255) : sum4 s = q ↔ s = leF q := by
  obtain ⟨h0, h1⟩ := hs
  match q, hq with
  | [a, b, c, d], _ =>
    have ha := hb a (by simp)
    have hb' := hb b (by simp)
    have hc := hb c (by simp)
    have hd := hb d (by simp)
    simp only [sum4, leF, List.cons.injEq, and_true]
    omega

theorem numF_bytes {zs : List Int} {i p : Nat} {n : Int} (hby : ∀ z ∈ zs, 0 ≤ z ∧ z ≤ 255) (h : numF zs i = (n, p, 0)) : cutF zs i (p - i) = putL n := by
  obtain ⟨m, k, g1, g2, g3, g4, g5, g6, g7, g8⟩ := numR_ok (zs.drop i) i 0 0 n p (fun z hz => hby z (List.mem_of_mem_drop hz)) (by omega) h
  have hn : n = m := by rw [g4]; simp
  subst hn
  unfold cutF putL
  rw [show p - i = k by omega, g8]

/-- The frame of what is within is what stands there just when the sum is the four bytes. -/
theorem frame_iff {zs : List Int} {i p N : Nat} (hby : ∀ z ∈ zs, 0 ≤ z ∧ z ≤ 255) (h : numF zs i = ((N : Int), p, 0)) (hl : p + 4 + N ≤ zs.length) :
    frameF (cutF zs (p + 4) N) = cutF zs i (p + 4 + N - i) ↔ sumF (cutF zs i (p - i) ++ cutF zs (p + 4) N) = leF (cutF zs p 4) := by
  have hip := (numF_ok hby h).2.2.1
  have hput := numF_bytes hby h
  have e1 : p + 4 + N - i = (p - i) + (4 + N) := by omega
  have e2 : cutF zs i (p + 4 + N - i) = cutF zs i (p - i) ++ (cutF zs p 4 ++ cutF zs (p + 4) N) := by
    rw [e1, cut_join, cut_join, show i + (p - i) = p by omega]
  have hb : ∀ z ∈ cutF zs i (p - i) ++ cutF zs (p + 4) N, 0 ≤ z ∧ z ≤ 255 := by
    intro z hz
    rcases List.mem_append.1 hz with hz | hz
    · exact cut_bytes hby _ _ z hz
    · exact cut_bytes hby _ _ z hz
  rw [← sum4_le _ (sumF_range _ hb) _ (cut_len (by omega)) (cut_bytes hby _ _), e2, frameF, cut_len (by omega), hput, List.append_assoc]
  constructor
  · intro h'
    exact (List.append_inj (List.append_cancel_left h') (by rw [cut_len (by omega)]; rfl)).1
  · intro h'
    rw [h']

/-- A byte is laid above those that there are. -/
theorem or_byte (k : Nat) (a z : Int) (hk : k < 4) (ha : 0 ≤ a) (hak : a < 256 ^ k) (hz : 0 ≤ z) (hz1 : z ≤ 255) : bits .or .u32 a (z * 2 ^ (8 * k) % 4294967296) = a + z * 256 ^ k := by
  obtain ⟨m, rfl⟩ := Int.eq_ofNat_of_zero_le ha
  obtain ⟨y, rfl⟩ := Int.eq_ofNat_of_zero_le hz
  have e0 : (256 : Nat) ^ k = 2 ^ (8 * k) := by rw [Nat.pow_mul]
  have e3 : ((256 ^ k : Nat) : Int) = (256 : Int) ^ k := Int.natCast_pow 256 k
  have e4 : ((2 ^ (8 * k) : Nat) : Int) = (2 : Int) ^ (8 * k) := Int.natCast_pow 2 (8 * k)
  rw [← e3] at hak
  have hm : m < 256 ^ k := Int.ofNat_lt.1 hak
  have hp : (256 : Nat) ^ k ≤ 16777216 := Nat.pow_le_pow_right (n := 256) (by omega) (show k ≤ 3 by omega)
  have hyk : y * 256 ^ k ≤ 255 * 256 ^ k := Nat.mul_le_mul_right _ (by omega)
  have e1 : (y : Int) * 2 ^ (8 * k) = ((y * 256 ^ k : Nat) : Int) := by rw [Int.natCast_mul, e0, e4]
  have e2 : (y : Int) * 256 ^ k = ((y * 256 ^ k : Nat) : Int) := by rw [Int.natCast_mul, e3]
  rw [e1, e2, Int.emod_eq_of_lt (by omega) (by omega), u32_or_nat _ _ (by omega) (by omega)]
  have := Nat.two_pow_add_eq_or_of_lt (i := 8 * k) (b := m) (by rw [← e0]; exact hm) y
  rw [Nat.or_comm, Nat.mul_comm y, e0, ← this, Int.natCast_add, Int.add_comm]

/-- What a call for the frame at a place tells: new bytes, the place behind, why not. -/
def Nexts (t : TypeId) (r : List Int × Nat × Int) (w : World) (e : Ending) (w' : World) : Prop :=
  ∃ A c, e = .returned (.tuple #[.slice A r.1.length c, .int .i64 (r.2.1 : Nat), .int .i64 r.2.2]) ∧ w'.ownsRow w.heap.size t 1 (.slice A r.1.length c) r.1.length (nums .u8 r.1) ∧ Below w.heap.size w w'
theorem nexts_none (t : TypeId) (k : Int) (w w' : World) (hb : Below w.heap.size w w') (v : Ending) (hv : v = .returned (.tuple #[.slice none 0 0, .int .i64 0, .int .i64 k])) : Nexts t ([], 0, k) w v w' :=
  ⟨none, 0, hv, World.ownsRow_nil _ _ _ _, hb⟩
end Frm
end Go.Proofs.Ytgiojcjnljmaiaa
