/-
  seal.Mark: the mark of some bytes by a secret; the small ones beside it.
-/
import Derived.Test.YtjifklojbbocfaaSealJoin
import Derived.Test.YtjifklojbbocfaaSameBase
import Derived.Test.YtjifklojbbocfaaRow
namespace Go.Proofs.Ytjifklojbbocfaa
namespace Seal
open Go.RowKit Num Span Ring Go.Proofs.Ytjifklojbbocfaa.Code
attribute [local go_sem ↓] Go.wp_at_zero Go.wp_at_succ

theorem parts_two {w : World} {A A' : Option Addr} {c c' B : Nat} {xs ys : List Int} (t : TypeId) (hB : B ≤ w.heap.size) (hx : Ns .u8 w B A xs) (hy : Ns .u8 w B A' ys) (bx : ∀ z ∈ xs, 0 ≤ z ∧ z ≤ 255) (bz : ∀ z ∈ ys, 0 ≤ z ∧ z ≤ 255) :
    PartsOf (w.alloc (.cells #[.slice A xs.length c, .slice A' ys.length c'] t)) w.heap.size 0 [.slice A xs.length c, .slice A' ys.length c'] [xs, ys] := by
  refine ⟨rfl, fun i v h => ?_, fun i v l h h' => ?_⟩
  · match i, h with
    | 0, h => simp at h; subst h; simp
    | 1, h => simp at h; subst h; simp
  · match i, h, h' with
    | 0, h, h' => simp at h h'; subst h; subst h'; exact ⟨⟨A, c, B, rfl, hx.alloc hB _⟩, bx⟩
    | 1, h, h' => simp at h h'; subst h; subst h'; exact ⟨⟨A', c', B, rfl, hy.alloc hB _⟩, bz⟩
theorem parts_three {w : World} {A0 A1 A2 : Option Addr} {c0 c1 c2 B : Nat} {l0 l1 l2 : List Int} (t : TypeId) (hB : B ≤ w.heap.size) (h0 : Ns .u8 w B A0 l0) (h1 : Ns .u8 w B A1 l1) (h2 : Ns .u8 w B A2 l2)
    (b0 : ∀ z ∈ l0, 0 ≤ z ∧ z ≤ 255) (b1 : ∀ z ∈ l1, 0 ≤ z ∧ z ≤ 255) (b2 : ∀ z ∈ l2, 0 ≤ z ∧ z ≤ 255) :
    PartsOf (w.alloc (.cells #[.slice A0 l0.length c0, .slice A1 l1.length c1, .slice A2 l2.length c2] t)) w.heap.size 0 [.slice A0 l0.length c0, .slice A1 l1.length c1, .slice A2 l2.length c2] [l0, l1, l2] := by
  refine ⟨rfl, fun i v h => ?_, fun i v l h h' => ?_⟩
  · match i, h with
    | 0, h => simp at h; subst h; simp
    | 1, h => simp at h; subst h; simp
    | 2, h => simp at h; subst h; simp
  · match i, h, h' with
    | 0, h, h' => simp at h h'; subst h; subst h'; exact ⟨⟨A0, c0, B, rfl, h0.alloc hB _⟩, b0⟩
    | 1, h, h' => simp at h h'; subst h; subst h'; exact ⟨⟨A1, c1, B, rfl, h1.alloc hB _⟩, b1⟩
    | 2, h, h' => simp at h h'; subst h; subst h'; exact ⟨⟨A2, c2, B, rfl, h2.alloc hB _⟩, b2⟩
theorem parts_four {w : World} {A0 A1 A2 A3 : Option Addr} {c0 c1 c2 c3 B : Nat} {l0 l1 l2 l3 : List Int} (t : TypeId) (hB : B ≤ w.heap.size) (h0 : Ns .u8 w B A0 l0) (h1 : Ns .u8 w B A1 l1) (h2 : Ns .u8 w B A2 l2) (h3 : Ns .u8 w B A3 l3)
    (b0 : ∀ z ∈ l0, 0 ≤ z ∧ z ≤ 255) (b1 : ∀ z ∈ l1, 0 ≤ z ∧ z ≤ 255) (b2 : ∀ z ∈ l2, 0 ≤ z ∧ z ≤ 255) (b3 : ∀ z ∈ l3, 0 ≤ z ∧ z ≤ 255) :
    PartsOf (w.alloc (.cells #[.slice A0 l0.length c0, .slice A1 l1.length c1, .slice A2 l2.length c2, .slice A3 l3.length c3] t)) w.heap.size 0 [.slice A0 l0.length c0, .slice A1 l1.length c1, .slice A2 l2.length c2, .slice A3 l3.length c3] [l0, l1, l2, l3] := by
  refine ⟨rfl, fun i v h => ?_, fun i v l h h' => ?_⟩
  · match i, h with
    | 0, h => simp at h; subst h; simp
    | 1, h => simp at h; subst h; simp
    | 2, h => simp at h; subst h; simp
    | 3, h => simp at h; subst h; simp
  · match i, h, h' with
    | 0, h, h' => simp at h h'; subst h; subst h'; exact ⟨⟨A0, c0, B, rfl, h0.alloc hB _⟩, b0⟩
    | 1, h, h' => simp at h h'; subst h; subst h'; exact ⟨⟨A1, c1, B, rfl, h1.alloc hB _⟩, b1⟩
    | 2, h, h' => simp at h h'; subst h; subst h'; exact ⟨⟨A2, c2, B, rfl, h2.alloc hB _⟩, b2⟩
    | 3, h, h' => simp at h h'; subst h; subst h'; exact ⟨⟨A3, c3, B, rfl, h3.alloc hB _⟩, b3⟩

theorem flat_bytes {vs : List Value} {Ls : List (List Int)} {w : World} {b o : Nat} (hp : PartsOf w b o vs Ls) : ∀ z ∈ Ls.flatten, 0 ≤ z ∧ z ≤ 255 := by
  intro z hz
  obtain ⟨l, hl, hz⟩ := List.mem_flatten.1 hz
  obtain ⟨i, hi, rfl⟩ := List.mem_iff_getElem.1 hl
  have hv : i < vs.length := by rw [hp.1]; exact hi
  exact (hp.2.2 i vs[i] Ls[i] (List.getElem?_eq_getElem hv) (List.getElem?_eq_getElem hi)).2 z hz

theorem shash_any (b n : Nat) (vs : List Value) (Ls : List (List Int)) (w : World) (hn : Ls.length = n) (h2 : 2 ≤ n) (hn2 : n ≤ 16) (hp : PartsOf w b 0 vs Ls) (hlen : Ls.flatten.length ≤ 140737488355328) (h1 : 0 < Ls.flatten.length) :
    Calls Try.prog 26 #[.slice (some ⟨b, 0, none⟩) n n] w fun e w' => e = .returned (.int .u64 (hashL Ls.flatten)) ∧ Below w.heap.size w w' := by
  have h3 := bjoin_any b 0 n n vs Ls w hn h2 hn2 hp (Nat.le_refl _) hlen h1 0
  have hb := flat_bytes hp
  obtain ⟨F, hF⟩ : ∃ F, Ls.flatten = F := ⟨_, rfl⟩
  rw [hF] at h3 hb hlen ⊢
  clear h1 hF
  have h5 := fun (A : Option Addr) (c m : Nat) (hm : F.length = m) (W : World) (hW : Ns .u8 W W.heap.size A F) => hash_any A c m F hm hb W hW (by omega)
  obtain ⟨m, hm⟩ : ∃ m, F.length = m := ⟨_, rfl⟩
  have H3 := Lib.hid h3
  have HB := Lib.hid (And.intro h5 hm)
  clear h3 hp hb h5 hm hlen hn
  go_enter Try.func26, Try.ntmps26
  go_wp2_with fail
  refine H3.out.mono ?_
  rintro e w1 ⟨v, rfl, hf, b1⟩
  obtain ⟨A, c, rfl, hN, hc⟩ := hf.ns
  rw [HB.out.2]
  have H4 := Lib.hid (And.intro (HB.out.1 A c m HB.out.2 w1 hN) b1)
  clear b1 hf hN hc
  go_wp2_with fail
  refine H4.out.1.mono ?_
  rintro e w2 ⟨rfl, rfl⟩
  go_wp2_with fail
  go_ret
  exact ⟨rfl, H4.out.2⟩

theorem and_half {i : Int} (h : U i) : bits .and .u64 i 4294967295 = i % 4294967296 := by
  obtain ⟨h0, h1⟩ := h
  rw [u64_and i 4294967295 h0 (by omega) (by omega) (by omega)]
  have : i.toNat &&& (4294967295 : Int).toNat = i.toNat % 2 ^ 32 := Nat.and_two_pow_sub_one_eq_mod i.toNat 32
  rw [this]
  omega

/-- The row of a mark while it is filled. -/
def Mk (g : Nat) (h : Int) (k : Nat) (w : World) : Prop := w.heap[g]? = some (.cells (nums .u8 ((be8 h).take k ++ List.replicate (8 - k) 0)).toArray 5 (0, 0))
theorem Mk.set {g k : Nat} {h : Int} {w : World} (hm : Mk g h k w) (hk : k < 8) (x : Int) (hx : (be8 h).getD k 0 = x) : Mk g h (k + 1) (w.setCell ⟨g, k, none⟩ (.int .u8 x)) := by
  have h' : w.heap[g]? = _ := hm
  unfold Mk
  subst hx
  simp only [World.setCell, Array.getElem?_modify, h', if_true, Option.map_some]
  match k, hk with
  | 0, _ => simp [be8, nums, List.replicate]
  | 1, _ => simp [be8, nums, List.replicate]
  | 2, _ => simp [be8, nums, List.replicate]
  | 3, _ => simp [be8, nums, List.replicate]
  | 4, _ => simp [be8, nums, List.replicate]
  | 5, _ => simp [be8, nums, List.replicate]
  | 6, _ => simp [be8, nums, List.replicate]
  | 7, _ => simp [be8, nums]
theorem Mk.cell {g k : Nat} {h : Int} {w : World} (hm : Mk g h k w) (hk : k < 8) : ∃ u, w.cell? ⟨g, k, none⟩ = some u := by
  have h' : w.heap[g]? = _ := hm
  simp only [World.cell?, h']
  have hl : k < (nums .u8 ((be8 h).take k ++ List.replicate (8 - k) 0)).length := by
    rw [nums_length, List.length_append, List.length_take, List.length_replicate, be8_len]
    omega
  exact ⟨_, by simp [List.getElem?_eq_getElem hl]; rfl⟩
theorem Mk.frozen {g k : Nat} {h : Int} {w : World} (hm : Mk g h k w) (j : Nat) : w.frozen? ⟨g, j, none⟩ = false := by
  have h' : w.heap[g]? = _ := hm
  simp [World.frozen?, h']
theorem Mk.own {g B : Nat} {h : Int} {w : World} (hm : Mk g h 8 w) (hB : B ≤ g) : w.ownsRow B 5 1 (.slice (some ⟨g, 0, none⟩) 8 8) 8 (nums .u8 (be8 h)) := by
  have h' : w.heap[g]? = _ := hm
  refine ⟨by simp [nums, be8_len], .inr ⟨g, 8, _, rfl, hB, h', by omega, by unfold maxLen; omega, ?_, ?_⟩⟩
  · simp [nums, be8]
  · simp [nums, be8]
end Seal
end Go.Proofs.Ytjifklojbbocfaa
