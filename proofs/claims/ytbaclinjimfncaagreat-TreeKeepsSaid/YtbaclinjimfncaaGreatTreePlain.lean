/-
  Plain words of layer 11: a tree is its records; a place's hash is made of what is beneath it.
-/
import Derived.Test.YtbaclinjimfncaaGreatGPut
namespace Go.Proofs.YtbaclinjimfncaaGreat
namespace Tree
open Vers Num Ring Disk Go.Proofs.YtbaclinjimfncaaGreat.Code

/-- A key's mark, and the two digits of its place. -/
def keyH (k : Nm) : Int := hashL (strNums k)
def dig0 (k : Nm) : Int := keyH k / 1152921504606846976
def dig1 (k : Nm) : Int := keyH k / 72057594037927936 % 16
theorem dig0_range (k : Nm) : 0 ≤ dig0 k ∧ dig0 k < 16 := by
  have h := hash_range (strNums k)
  unfold U at h
  unfold dig0 keyH
  omega
theorem dig1_range (k : Nm) : 0 ≤ dig1 k ∧ dig1 k < 16 := by unfold dig1; omega
/-- The leaf of a key. -/
def leafN (k : Nm) : Nat := (dig0 k * 16 + dig1 k).toNat
theorem leaf_lt (k : Nm) : leafN k < 256 := by
  have h0 := dig0_range k
  have h1 := dig1_range k
  unfold leafN
  omega
/-- Is a key beneath a path? -/
def inP : List Int → Nm → Bool
  | [], _ => true
  | [p], k => decide (dig0 k = p)
  | p :: q :: _, k => decide (dig0 k = p) && decide (dig1 k = q)
def okP (p : List Int) : Prop := (∀ d ∈ p, 0 ≤ d ∧ d < 16) ∧ p.length ≤ 2
instance (p : List Int) : Decidable (okP p) := by unfold okP; infer_instance
def beneath (all : List Rc) (p : List Int) : List Rc := all.filter fun r => inP p r.1
def leafR (all : List Rc) (i : Nat) : List Rc := all.filter fun r => decide (leafN r.1 = i)
def halves (h : Int) : List Int := putL (h / 4294967296) ++ putL (h % 4294967296)
def dotL (v : Vr) : List Int := putL v.s ++ putL v.n
def markL (r : Rc) : List Int := textL r.1 ++ r.2.flatMap dotL
def markF (r : Rc) : Int := hashL (markL r)
/-- What a place's hash is made of. -/
def leafT (l : List Rc) : List Int := l.flatMap fun r => halves (markF r)
def kidsT (f : Nat → Int) (n : Nat) : List Int := (List.range n).flatMap fun d => halves (f d)
/-- The hash of a place; k: how many digits the path is short of a leaf's. -/
def hF : Nat → List Rc → List Int → Int
  | 0, all, p => if beneath all p = [] then 0 else hashL (leafT (beneath all p))
  | k + 1, all, p => if beneath all p = [] then 0 else hashL (kidsT (fun d => hF k all (p ++ [(d : Int)])) 16)
def hashF (all : List Rc) (p : List Int) : Int := if okP p then hF (2 - p.length) all p else 0
def kidsF (all : List Rc) (p : List Int) : List Int := if okP p ∧ p.length < 2 then (List.range 16).map fun (d : Nat) => hashF all (p ++ [(d : Int)]) else []
def recsF (all : List Rc) (p : List Int) : List Rc := if okP p then beneath all p else []
/-- With a record in the place of its key's. -/
def withR (all : List Rc) (r : Rc) : List Rc := if r.2 = [] then wout all r.1 else wit all r.1 r.2
/-- Where lists of hashes differ. -/
def diffF (a b : List Int) : List Int := ((List.range 16).filter fun (i : Nat) => !decide (a.getD i 0 = b.getD i 0)).map fun (i : Nat) => (i : Int)

theorem hF_range (k : Nat) (all : List Rc) (p : List Int) : U (hF k all p) := by
  cases k <;> unfold hF <;> split
  · unfold U; omega
  · exact hash_range _
  · unfold U; omega
  · exact hash_range _
theorem hashF_range (all : List Rc) (p : List Int) : U (hashF all p) := by
  unfold hashF
  split
  · exact hF_range _ _ _
  · unfold U; omega
theorem halves_len {h : Int} : 2 ≤ (halves h).length ∧ (halves h).length ≤ 18 := by
  have h1 := putL_len (h / 4294967296)
  have h2 := putL_len (h % 4294967296)
  unfold halves
  rw [List.length_append]
  omega
theorem halves_bytes {h : Int} (hh : U h) : ∀ z ∈ halves h, 0 ≤ z ∧ z ≤ 255 := by
  unfold U at hh
  intro z hz
  rcases List.mem_append.1 hz with hz | hz
  · exact putL_bytes _ (by omega) z hz
  · exact putL_bytes _ (by omega) z hz
theorem putF_len5 (k : Nat) (n : Int) (h0 : 0 ≤ n) (h : n < 4294967296) : (putF k n).length ≤ 5 := by
  rcases k with _ | k
  · simp [putF]
  by_cases h1 : n < 128
  · rw [putF_last _ _ h1]; simp
  rw [putF_more _ _ (by omega), List.length_cons]
  rcases k with _ | k
  · simp [putF]
  by_cases h2 : n / 128 < 128
  · rw [putF_last _ _ h2]; simp
  rw [putF_more _ _ (by omega), List.length_cons]
  rcases k with _ | k
  · simp [putF]
  by_cases h3 : n / 128 / 128 < 128
  · rw [putF_last _ _ h3]; simp
  rw [putF_more _ _ (by omega), List.length_cons]
  rcases k with _ | k
  · simp [putF]
  by_cases h4 : n / 128 / 128 / 128 < 128
  · rw [putF_last _ _ h4]; simp
  rw [putF_more _ _ (by omega), List.length_cons]
  rcases k with _ | k
  · simp [putF]
  rw [putF_last _ _ (by omega)]; simp
theorem halves_len10 {h : Int} (hh : U h) : (halves h).length ≤ 10 := by
  unfold U at hh
  have h1 := putF_len5 9 (h / 4294967296) (by omega) (by omega)
  have h2 := putF_len5 9 (h % 4294967296) (by omega) (by omega)
  unfold halves putL
  rw [List.length_append]
  omega
theorem flat_len {α : Type} (f : α → List Int) (m : Nat) (l : List α) (h : ∀ x ∈ l, (f x).length ≤ m) : (l.flatMap f).length ≤ l.length * m := by
  induction l with
  | nil => simp
  | cons x l ih =>
    have h1 := h x (by simp)
    have h2 := ih fun y hy => h y (by simp [hy])
    rw [List.flatMap_cons, List.length_append, List.length_cons]
    have : (l.length + 1) * m = l.length * m + m := Nat.succ_mul _ _
    omega
theorem flat_bytes {α : Type} (f : α → List Int) (l : List α) (h : ∀ x ∈ l, ∀ z ∈ f x, 0 ≤ z ∧ z ≤ 255) : ∀ z ∈ l.flatMap f, 0 ≤ z ∧ z ≤ 255 := by
  intro z hz
  obtain ⟨x, hx, hz⟩ := List.mem_flatMap.1 hz
  exact h x hx z hz
theorem leafT_len (l : List Rc) : (leafT l).length ≤ l.length * 10 := flat_len _ 10 l fun _ _ => halves_len10 (hash_range _)
theorem leafT_bytes (l : List Rc) : ∀ z ∈ leafT l, 0 ≤ z ∧ z ≤ 255 := flat_bytes _ l fun _ _ => halves_bytes (hash_range _)
theorem kidsT_len (f : Nat → Int) (n : Nat) (h : ∀ d, U (f d)) : (kidsT f n).length ≤ n * 10 := by
  have := flat_len (fun d => halves (f d)) 10 (List.range n) fun _ _ => halves_len10 (h _)
  simpa [kidsT] using this
theorem kidsT_bytes (f : Nat → Int) (n : Nat) (h : ∀ d, U (f d)) : ∀ z ∈ kidsT f n, 0 ≤ z ∧ z ≤ 255 := flat_bytes _ _ fun _ _ => halves_bytes (h _)
theorem kidsT_succ (f : Nat → Int) (n : Nat) : kidsT f (n + 1) = kidsT f n ++ halves (f n) := by simp [kidsT, List.range_succ]

/-! ### The records, beneath paths and in leaves -/
theorem leaf_digits {k : Nm} {p q : Int} (hp : 0 ≤ p ∧ p < 16) (hq : 0 ≤ q ∧ q < 16) : (dig0 k = p ∧ dig1 k = q) ↔ leafN k = (p * 16 + q).toNat := by
  have h0 := dig0_range k
  have h1 := dig1_range k
  unfold leafN
  omega
/-- The leaves to which a path leads. -/
def fromN : List Int → Nat
  | [] => 0
  | [p] => (p * 16).toNat
  | p :: q :: _ => (p * 16 + q).toNat
def toN : List Int → Nat
  | [] => 256
  | [p] => ((p + 1) * 16).toNat
  | p :: q :: _ => (p * 16 + q + 1).toNat
/-- The spot of a place. -/
def spotN : List Int → Nat
  | [] => 0
  | [p] => (1 + p).toNat
  | p :: q :: _ => (17 + p * 16 + q).toNat
theorem ok_zero : okP [] := by decide
theorem ok_one {p : Int} : okP [p] ↔ 0 ≤ p ∧ p < 16 := by simp [okP]
theorem ok_two {p q : Int} : okP [p, q] ↔ (0 ≤ p ∧ p < 16) ∧ 0 ≤ q ∧ q < 16 := by simp [okP]
theorem ok_cases {p : List Int} (h : okP p) : p = [] ∨ (∃ a, p = [a] ∧ 0 ≤ a ∧ a < 16) ∨ ∃ a b, p = [a, b] ∧ (0 ≤ a ∧ a < 16) ∧ 0 ≤ b ∧ b < 16 := by
  match p, h with
  | [], _ => exact .inl rfl
  | [a], h => exact .inr (.inl ⟨a, rfl, ok_one.1 h⟩)
  | [a, b], h => exact .inr (.inr ⟨a, b, rfl, ok_two.1 h⟩)
  | _ :: _ :: _ :: _, h => exact absurd h.2 (by simp)
theorem spot_lt {p : List Int} (h : okP p) : spotN p < 273 := by
  rcases ok_cases h with rfl | ⟨a, rfl, ha⟩ | ⟨a, b, rfl, ha, hb⟩
  · simp [spotN]
  · simp only [spotN]; omega
  · simp only [spotN]; omega
theorem spot_inj {p q : List Int} (h : okP p) (h' : okP q) (e : spotN p = spotN q) : p = q := by
  rcases ok_cases h with rfl | ⟨a, rfl, ha⟩ | ⟨a, b, rfl, ha, hb⟩
  · rcases ok_cases h' with rfl | ⟨c, rfl, hc⟩ | ⟨c, d, rfl, hc, hd⟩
    · rfl
    · simp only [spotN] at e; omega
    · simp only [spotN] at e; omega
  · rcases ok_cases h' with rfl | ⟨c, rfl, hc⟩ | ⟨c, d, rfl, hc, hd⟩
    · simp only [spotN] at e; omega
    · simp only [spotN] at e
      have : a = c := by omega
      rw [this]
    · simp only [spotN] at e; omega
  · rcases ok_cases h' with rfl | ⟨c, rfl, hc⟩ | ⟨c, d, rfl, hc, hd⟩
    · simp only [spotN] at e; omega
    · simp only [spotN] at e; omega
    · simp only [spotN] at e
      have h1 : a = c := by omega
      have h2 : b = d := by omega
      rw [h1, h2]
theorem ok_longer {p : List Int} (h : okP p) (hl : p.length < 2) {d : Nat} (hd : d < 16) : okP (p ++ [(d : Int)]) := by
  refine ⟨fun x hx => ?_, by simp; omega⟩
  rcases List.mem_append.1 hx with hx | hx
  · exact h.1 x hx
  · simp at hx; omega
theorem in_leaf {p : List Int} (h : okP p) (k : Nm) : inP p k = true ↔ fromN p ≤ leafN k ∧ leafN k < toN p := by
  have h0 := dig0_range k
  have h1 := dig1_range k
  have hl := leaf_lt k
  rcases ok_cases h with rfl | ⟨a, rfl, ha⟩ | ⟨a, b, rfl, ha, hb⟩
  · simp [inP, fromN, toN]; exact hl
  · simp only [inP, fromN, toN, leafN, decide_eq_true_eq]
    omega
  · simp only [inP, fromN, toN, leafN, Bool.and_eq_true, decide_eq_true_eq]
    omega
theorem from_lt {p : List Int} (h : okP p) : fromN p < toN p ∧ toN p ≤ 256 := by
  rcases ok_cases h with rfl | ⟨a, rfl, ha⟩ | ⟨a, b, rfl, ha, hb⟩
  · simp [fromN, toN]
  · simp only [fromN, toN]; omega
  · simp only [fromN, toN]; omega
theorem beneath_nil (all : List Rc) : beneath all [] = all := List.filter_eq_self.2 fun _ _ => rfl
theorem beneath_mem {all : List Rc} {p : List Int} {r : Rc} : r ∈ beneath all p ↔ r ∈ all ∧ inP p r.1 = true := by simp [beneath]
theorem leaf_mem {all : List Rc} {i : Nat} {r : Rc} : r ∈ leafR all i ↔ r ∈ all ∧ leafN r.1 = i := by simp [leafR]
theorem beneath_srt {all : List Rc} (h : Srt all) (p : List Int) : Srt (beneath all p) := List.Pairwise.filter _ h
theorem leaf_srt {all : List Rc} (h : Srt all) (i : Nat) : Srt (leafR all i) := List.Pairwise.filter _ h
theorem beneath_len (all : List Rc) (p : List Int) : (beneath all p).length ≤ all.length := List.length_filter_le _ _
/-- Two rising lists with the same members are the same. -/
theorem srt_mem {β : Type} {l m : List (Nm × β)} (hl : Srt l) (hm : Srt m) (h : ∀ x, x ∈ l ↔ x ∈ m) : l = m := by
  refine srt_ext hl hm fun s => ?_
  cases hf : find l s with
  | none =>
    refine Eq.symm (find_none.2 fun x hx => ?_)
    exact find_none.1 hf x ((h x).2 hx)
  | some b =>
    have h1 := (h _).1 (find_some hf)
    exact (find_mem hm h1).symm
theorem with_mem {all : List Rc} {r x : Rc} : x ∈ withR all r ↔ (x = r ∧ r.2 ≠ []) ∨ (x ∈ all ∧ x.1 ≠ r.1) := by
  unfold withR
  by_cases h : r.2 = []
  · rw [if_pos h, mem_wout]
    simp [h]
  · rw [if_neg h, mem_wit]
    simp [h]
theorem with_srt {all : List Rc} (h : Srt all) (r : Rc) : Srt (withR all r) := by
  unfold withR
  split
  · exact h.wout _
  · exact h.wit _ _
theorem wout_len {β : Type} (l : List (Nm × β)) (s : Nm) : (wout l s).length ≤ l.length := List.length_filter_le _ _
theorem ins_len {β : Type} (l : List (Nm × β)) (s : Nm) (b : β) : (ins l s b).length = l.length + 1 := by
  induction l with
  | nil => rfl
  | cons y l ih =>
    unfold ins
    split
    · rfl
    · simp only [List.length_cons, ih]
theorem with_len (all : List Rc) (r : Rc) : (withR all r).length ≤ all.length + 1 := by
  unfold withR
  split
  · have := wout_len all r.1; omega
  · rw [wit, ins_len]; have := wout_len all r.1; omega
theorem leaf_with_ne {all : List Rc} (hs : Srt all) (r : Rc) {i : Nat} (hi : i ≠ leafN r.1) : leafR (withR all r) i = leafR all i := by
  refine srt_mem (leaf_srt (with_srt hs r) i) (leaf_srt hs i) fun x => ?_
  rw [leaf_mem, leaf_mem, with_mem]
  constructor
  · rintro ⟨⟨rfl, _⟩ | ⟨h1, _⟩, h2⟩
    · exact absurd h2.symm hi
    · exact ⟨h1, h2⟩
  · rintro ⟨h1, h2⟩
    exact ⟨.inr ⟨h1, fun e => hi (by rw [← h2, e])⟩, h2⟩
theorem leaf_with_eq {all : List Rc} (hs : Srt all) (r : Rc) : leafR (withR all r) (leafN r.1) = withR (leafR all (leafN r.1)) r := by
  refine srt_mem (leaf_srt (with_srt hs r) _) (with_srt (leaf_srt hs _) r) fun x => ?_
  rw [leaf_mem, with_mem, with_mem, leaf_mem]
  constructor
  · rintro ⟨⟨rfl, h⟩ | ⟨h1, h3⟩, h2⟩
    · exact .inl ⟨rfl, h⟩
    · exact .inr ⟨⟨h1, h2⟩, h3⟩
  · rintro (⟨rfl, h⟩ | ⟨⟨h1, h2⟩, h3⟩)
    · exact ⟨.inl ⟨rfl, h⟩, rfl⟩
    · exact ⟨.inr ⟨h1, h3⟩, h2⟩
theorem beneath_beneath (all : List Rc) (p : List Int) (hp : okP p) (d : Int) : beneath (beneath all p) (p ++ [d]) = beneath all (p ++ [d]) ∨ 2 ≤ p.length := by
  rcases ok_cases hp with rfl | ⟨a, rfl, _⟩ | ⟨a, b, rfl, _, _⟩
  · left
    rw [beneath_nil]
  · left
    unfold beneath
    rw [List.filter_filter]
    congr 1
    funext r
    simp only [inP, List.cons_append, List.nil_append]
    by_cases h : dig0 r.1 = a
    · simp [h]
    · simp [h]
  · right
    simp
/-- A hash hangs on what is beneath alone. -/
theorem hF_congr : ∀ (k : Nat) (all all' : List Rc) (p : List Int), okP p → p.length + k = 2 → beneath all p = beneath all' p → hF k all p = hF k all' p
  | 0, all, all', p, _, _, h => by unfold hF; rw [h]
  | k + 1, all, all', p, hp, hk, h => by
    unfold hF
    rw [h]
    split
    · rfl
    · congr 1
      unfold kidsT
      congr 1
      funext d
      congr 1
      by_cases hd : d < 16
      · refine hF_congr k all all' _ (ok_longer hp (by omega) hd) (by simp; omega) ?_
        have h1 := (beneath_beneath all p hp d).resolve_right (by omega)
        have h2 := (beneath_beneath all' p hp d).resolve_right (by omega)
        rw [← h1, ← h2, h]
      · have hn : ∀ a : List Rc, beneath a (p ++ [(d : Int)]) = [] := fun a => by
          refine List.filter_eq_nil_iff.2 fun r _ => ?_
          have h0 := dig0_range r.1
          have h1 := dig1_range r.1
          rcases ok_cases hp with rfl | ⟨x, rfl, _⟩ | ⟨x, y, rfl, _, _⟩
          · simp [inP]; omega
          · simp [inP]; intro _; omega
          · simp at hk
        cases k <;> unfold hF <;> simp only [hn, if_true]
theorem hF_beneath (k : Nat) (all : List Rc) (p : List Int) (d : Int) (hp : okP (p ++ [d])) (hk : p.length + 1 + k = 2) : hF k (beneath all p) (p ++ [d]) = hF k all (p ++ [d]) := by
  refine hF_congr k _ _ _ hp (by simp; omega) ?_
  have hp' : okP p := ⟨fun x hx => hp.1 x (by simp [hx]), by omega⟩
  exact (beneath_beneath all p hp' d).resolve_right (by omega)
end Tree
end Go.Proofs.YtbaclinjimfncaaGreat
