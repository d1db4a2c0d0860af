/-
  Several texts of this family in one: TreePlain, VersBase, VersCmp, MendPlain, TreeMap, TreeOnce, VersArgs, SliceAt, Weights.
-/
import Derived.Test.YtkfdplfgaddkmaaGreatK2
import Derived.Test.YtkfdplfgaddkmaaGreatK1
import Derived.Deep.RegionHeld3
import Derived.Deep.DrawnRows
import Derived.IntWalk
import Derived.Maps.OwnSet
import Derived.Maps.OwnOps
import Derived.Maps.RangeWalk
import Derived.StringKeys
import Derived.Tactics
import Derived.Tactics2
import Derived.Defers
import Derived.Laws.Pointers
import Derived.Laws.LoneSync
import Derived.RegionTactic
import Derived.RegionCalls
import Derived.ChangeAlike
/-
 Plain words of layer 11: a tree is its records; a place's hash is made of what is beneath it.
-/
namespace Go.Proofs.YtkfdplfgaddkmaaGreat
namespace Tree
open Vers Num Ring Disk Go.Proofs.YtkfdplfgaddkmaaGreat.Code

def keyH (k : Nm) : Int := hashL (strNums k)
def dig0 (k : Nm) : Int := keyH k / 1152921504606846976
def dig1 (k : Nm) : Int := keyH k / 72057594037927936 % 16
theorem dig0_range (k : Nm) : 0 ≤ dig0 k ∧ dig0 k < 16 := by
 have h := hash_range (strNums k)
 unfold U at h
 unfold dig0 keyH
 omega
theorem dig1_range (k : Nm) : 0 ≤ dig1 k ∧ dig1 k < 16 := by unfold dig1; omega
def leafN (k : Nm) : Nat := (dig0 k * 16 + dig1 k).toNat
theorem leaf_lt (k : Nm) : leafN k < 256 := by
 have h0 := dig0_range k
 have h1 := dig1_range k
 unfold leafN
 omega
def inP : List Int → Nm → Bool
 | [], _ => true
 | [p], k => decide (dig0 k = p)
 | p :: q :: _, k => decide (dig0 k = p) && decide (dig1 k = q)
def okP (p : List Int) : Prop := (∀ d ∈ p, 0 ≤ d ∧ d < 16) ∧ p.length ≤ 2
instance (p : List Int) : Decidable (okP p) := by unfold okP; infer_instance
def beneath (all : List Rc) (p : List Int) : List Rc := all.filter fun r => inP p r.1
def leafR (all : List Rc) (i : Nat) : List Rc := all.filter fun r => decide (leafN r.1 = i)
def halves (h : Int) : List Int := putL (h / 4294967296) ++ putL (h % 4294967296)
def dotL (v : Vr) : List Int := putL v.s ++ putL v.n
def markL (r : Rc) : List Int := textL r.1 ++ r.2.flatMap dotL
def markF (r : Rc) : Int := hashL (markL r)
def leafT (l : List Rc) : List Int := l.flatMap fun r => halves (markF r)
def kidsT (f : Nat → Int) (n : Nat) : List Int := (List.range n).flatMap fun d => halves (f d)
def hF : Nat → List Rc → List Int → Int
 | 0, all, p => if beneath all p = [] then 0 else hashL (leafT (beneath all p))
 | k + 1, all, p => if beneath all p = [] then 0 else hashL (kidsT (fun d => hF k all (p ++ [(d : Int)])) 16)
def hashF (all : List Rc) (p : List Int) : Int := if okP p then hF (2 - p.length) all p else 0
def kidsF (all : List Rc) (p : List Int) : List Int := if okP p ∧ p.length < 2 then (List.range 16).map fun (d : Nat) => hashF all (p ++ [(d : Int)]) else []
def recsF (all : List Rc) (p : List Int) : List Rc := if okP p then beneath all p else []
def withR (all : List Rc) (r : Rc) : List Rc := if r.2 = [] then wout all r.1 else wit all r.1 r.2
def diffF (a b : List Int) : List Int := ((List.range 16).filter fun (i : Nat) => !decide (a.getD i 0 = b.getD i 0)).map fun (i : Nat) => (i : Int)

theorem hF_range (k : Nat) (all : List Rc) (p : List Int) : U (hF k all p) := by
 cases k <;> unfold hF <;> split
 ·unfold U; omega
 ·exact hash_range _
 ·unfold U; omega
 ·exact hash_range _
theorem halves_bytes {h : Int} (hh : U h) : ∀ z ∈ halves h, 0 ≤ z ∧ z ≤ 255 := by
 unfold U at hh
 intro z hz
 rcases List.mem_append.1 hz with hz | hz
 ·exact putL_bytes _ (by omega) z hz
 ·exact putL_bytes _ (by omega) z hz
theorem putF_len5 (k : Nat) (n : Int) (h0 : 0 ≤ n) (h : n < 4294967296) : (putF k n).length ≤ 5 := by
 rcases k with _ | k
 ·simp [putF]
 by_cases h1 : n < 128
 ·rw [putF_last _ _ h1]; simp
 rw [putF_more _ _ (by omega), List.length_cons]
 rcases k with _ | k
 ·simp [putF]
 by_cases h2 : n / 128 < 128
 ·rw [putF_last _ _ h2]; simp
 rw [putF_more _ _ (by omega), List.length_cons]
 rcases k with _ | k
 ·simp [putF]
 by_cases h3 : n / 128 / 128 < 128
 ·rw [putF_last _ _ h3]; simp
 rw [putF_more _ _ (by omega), List.length_cons]
 rcases k with _ | k
 ·simp [putF]
 by_cases h4 : n / 128 / 128 / 128 < 128
 ·rw [putF_last _ _ h4]; simp
 rw [putF_more _ _ (by omega), List.length_cons]
 rcases k with _ | k
 ·simp [putF]
 rw [putF_last _ _ (by omega)]; simp
theorem halves_len10 {h : Int} (hh : U h) : (halves h).length ≤ 10 := by
 unfold U at hh
 have h1 := putF_len5 9 (h / 4294967296) (by omega) (by omega)
 have h2 := putF_len5 9 (h % 4294967296) (by omega) (by omega)
 unfold halves putL
 rw [List.length_append]
 omega
theorem flat_len {α : Type} (f : α → List Int) (m : Nat) (l : List α) (h : ∀ x ∈ l, (f x).length ≤ m) : (l.flatMap f).length ≤ l.length * m := by
 induction l with
 | nil => simp
 | cons x l ih =>
  have h1 := h x (by simp)
  have h2 := ih fun y hy => h y (by simp [hy])
  rw [List.flatMap_cons, List.length_append, List.length_cons]
  have : (l.length + 1) * m = l.length * m + m := Nat.succ_mul _ _
  omega
theorem flat_bytes {α : Type} (f : α → List Int) (l : List α) (h : ∀ x ∈ l, ∀ z ∈ f x, 0 ≤ z ∧ z ≤ 255) : ∀ z ∈ l.flatMap f, 0 ≤ z ∧ z ≤ 255 := by
 intro z hz
 obtain ⟨x, hx, hz⟩ := List.mem_flatMap.1 hz
 exact h x hx z hz
theorem leafT_len (l : List Rc) : (leafT l).length ≤ l.length * 10 := flat_len _ 10 l fun _ _ => halves_len10 (hash_range _)
theorem leafT_bytes (l : List Rc) : ∀ z ∈ leafT l, 0 ≤ z ∧ z ≤ 255 := flat_bytes _ l fun _ _ => halves_bytes (hash_range _)
theorem kidsT_len (f : Nat → Int) (n : Nat) (h : ∀ d, U (f d)) : (kidsT f n).length ≤ n * 10 := by
 have := flat_len (fun d => halves (f d)) 10 (List.range n) fun _ _ => halves_len10 (h _)
 simpa [kidsT] using this
theorem kidsT_bytes (f : Nat → Int) (n : Nat) (h : ∀ d, U (f d)) : ∀ z ∈ kidsT f n, 0 ≤ z ∧ z ≤ 255 := flat_bytes _ _ fun _ _ => halves_bytes (h _)
theorem kidsT_succ (f : Nat → Int) (n : Nat) : kidsT f (n + 1) = kidsT f n ++ halves (f n) := by simp [kidsT, List.range_succ]

/-! ### The records, beneath paths and in leaves -/
def fromN : List Int → Nat
 | [] => 0
 | [p] => (p * 16).toNat
 | p :: q :: _ => (p * 16 + q).toNat
def toN : List Int → Nat
 | [] => 256
 | [p] => ((p + 1) * 16).toNat
 | p :: q :: _ => (p * 16 + q + 1).toNat
def spotN : List Int → Nat
 | [] => 0
 | [p] => (1 + p).toNat
 | p :: q :: _ => (17 + p * 16 + q).toNat
theorem ok_zero : okP [] := by decide
theorem ok_one {p : Int} : okP [p] ↔ 0 ≤ p ∧ p < 16 := by simp [okP]
theorem ok_two {p q : Int} : okP [p, q] ↔ (0 ≤ p ∧ p < 16) ∧ 0 ≤ q ∧ q < 16 := by simp [okP]
theorem ok_cases {p : List Int} (h : okP p) : p = [] ∨ (∃ a, p = [a] ∧ 0 ≤ a ∧ a < 16) ∨ ∃ a b, p = [a, b] ∧ (0 ≤ a ∧ a < 16) ∧ 0 ≤ b ∧ b < 16 := by
 match p, h with
 | [], _ => exact .inl rfl
 | [a], h => exact .inr (.inl ⟨a, rfl, ok_one.1 h⟩)
 | [a, b], h => exact .inr (.inr ⟨a, b, rfl, ok_two.1 h⟩)
 | _ :: _ :: _ :: _, h => exact absurd h.2 (by simp)
theorem spot_lt {p : List Int} (h : okP p) : spotN p < 273 := by
 rcases ok_cases h with rfl | ⟨a, rfl, ha⟩ | ⟨a, b, rfl, ha, hb⟩
 ·simp [spotN]
 ·simp only [spotN]; omega
 ·simp only [spotN]; omega
theorem spot_inj {p q : List Int} (h : okP p) (h' : okP q) (e : spotN p = spotN q) : p = q := by
 rcases ok_cases h with rfl | ⟨a, rfl, ha⟩ | ⟨a, b, rfl, ha, hb⟩
 ·rcases ok_cases h' with rfl | ⟨c, rfl, hc⟩ | ⟨c, d, rfl, hc, hd⟩
  ·rfl
  ·simp only [spotN] at e; omega
  ·simp only [spotN] at e; omega
 ·rcases ok_cases h' with rfl | ⟨c, rfl, hc⟩ | ⟨c, d, rfl, hc, hd⟩
  ·simp only [spotN] at e; omega
  ·simp only [spotN] at e
   have : a = c := by omega
   rw [this]
  ·simp only [spotN] at e; omega
 ·rcases ok_cases h' with rfl | ⟨c, rfl, hc⟩ | ⟨c, d, rfl, hc, hd⟩
  ·simp only [spotN] at e; omega
  ·simp only [spotN] at e; omega
  ·simp only [spotN] at e
   have h1 : a = c := by omega
   have h2 : b = d := by omega
   rw [h1, h2]
theorem ok_longer {p : List Int} (h : okP p) (hl : p.length < 2) {d : Nat} (hd : d < 16) : okP (p ++ [(d : Int)]) := by
 refine ⟨fun x hx => ?_, by simp; omega⟩
 rcases List.mem_append.1 hx with hx | hx
 ·exact h.1 x hx
 ·simp at hx; omega
theorem in_leaf {p : List Int} (h : okP p) (k : Nm) : inP p k = true ↔ fromN p ≤ leafN k ∧ leafN k < toN p := by
 have h0 := dig0_range k
 have h1 := dig1_range k
 have hl := leaf_lt k
 rcases ok_cases h with rfl | ⟨a, rfl, ha⟩ | ⟨a, b, rfl, ha, hb⟩
 ·simp [inP, fromN, toN]; exact hl
 ·simp only [inP, fromN, toN, leafN, decide_eq_true_eq]
  omega
 ·simp only [inP, fromN, toN, leafN, Bool.and_eq_true, decide_eq_true_eq]
  omega
theorem from_lt {p : List Int} (h : okP p) : fromN p < toN p ∧ toN p ≤ 256 := by
 rcases ok_cases h with rfl | ⟨a, rfl, ha⟩ | ⟨a, b, rfl, ha, hb⟩
 ·simp [fromN, toN]
 ·simp only [fromN, toN]; omega
 ·simp only [fromN, toN]; omega
theorem beneath_nil (all : List Rc) : beneath all [] = all := List.filter_eq_self.2 fun _ _ => rfl
theorem beneath_mem {all : List Rc} {p : List Int} {r : Rc} : r ∈ beneath all p ↔ r ∈ all ∧ inP p r.1 = true := by simp [beneath]
theorem leaf_mem {all : List Rc} {i : Nat} {r : Rc} : r ∈ leafR all i ↔ r ∈ all ∧ leafN r.1 = i := by simp [leafR]
theorem beneath_srt {all : List Rc} (h : Srt all) (p : List Int) : Srt (beneath all p) := List.Pairwise.filter _ h
theorem leaf_srt {all : List Rc} (h : Srt all) (i : Nat) : Srt (leafR all i) := List.Pairwise.filter _ h
theorem beneath_len (all : List Rc) (p : List Int) : (beneath all p).length ≤ all.length := List.length_filter_le _ _
theorem srt_mem {β : Type} {l m : List (Nm × β)} (hl : Srt l) (hm : Srt m) (h : ∀ x, x ∈ l ↔ x ∈ m) : l = m := by
 refine srt_ext hl hm fun s => ?_
 cases hf : find l s with
 | none =>
  refine Eq.symm (find_none.2 fun x hx => ?_)
  exact find_none.1 hf x ((h x).2 hx)
 | some b =>
  have h1 := (h _).1 (find_some hf)
  exact (find_mem hm h1).symm
theorem with_mem {all : List Rc} {r x : Rc} : x ∈ withR all r ↔ (x = r ∧ r.2 ≠ []) ∨ (x ∈ all ∧ x.1 ≠ r.1) := by
 unfold withR
 by_cases h : r.2 = []
 ·rw [if_pos h, mem_wout]
  simp [h]
 ·rw [if_neg h, mem_wit]
  simp [h]
theorem with_srt {all : List Rc} (h : Srt all) (r : Rc) : Srt (withR all r) := by
 unfold withR
 split
 ·exact h.wout _
 ·exact h.wit _ _
theorem wout_len {β : Type} (l : List (Nm × β)) (s : Nm) : (wout l s).length ≤ l.length := List.length_filter_le _ _
theorem ins_len {β : Type} (l : List (Nm × β)) (s : Nm) (b : β) : (ins l s b).length = l.length + 1 := by
 induction l with
 | nil => rfl
 | cons y l ih =>
  unfold ins
  split
  ·rfl
  ·simp only [List.length_cons, ih]
theorem with_len (all : List Rc) (r : Rc) : (withR all r).length ≤ all.length + 1 := by
 unfold withR
 split
 ·have := wout_len all r.1; omega
 ·rw [wit, ins_len]; have := wout_len all r.1; omega
theorem leaf_with_ne {all : List Rc} (hs : Srt all) (r : Rc) {i : Nat} (hi : i ≠ leafN r.1) : leafR (withR all r) i = leafR all i := by
 refine srt_mem (leaf_srt (with_srt hs r) i) (leaf_srt hs i) fun x => ?_
 rw [leaf_mem, leaf_mem, with_mem]
 constructor
 ·rintro ⟨⟨rfl, _⟩ | ⟨h1, _⟩, h2⟩
  ·exact absurd h2.symm hi
  ·exact ⟨h1, h2⟩
 ·rintro ⟨h1, h2⟩
  exact ⟨.inr ⟨h1, fun e => hi (by rw [← h2, e])⟩, h2⟩
theorem leaf_with_eq {all : List Rc} (hs : Srt all) (r : Rc) : leafR (withR all r) (leafN r.1) = withR (leafR all (leafN r.1)) r := by
 refine srt_mem (leaf_srt (with_srt hs r) _) (with_srt (leaf_srt hs _) r) fun x => ?_
 rw [leaf_mem, with_mem, with_mem, leaf_mem]
 constructor
 ·rintro ⟨⟨rfl, h⟩ | ⟨h1, h3⟩, h2⟩
  ·exact .inl ⟨rfl, h⟩
  ·exact .inr ⟨⟨h1, h2⟩, h3⟩
 ·rintro (⟨rfl, h⟩ | ⟨⟨h1, h2⟩, h3⟩)
  ·exact ⟨.inl ⟨rfl, h⟩, rfl⟩
  ·exact ⟨.inr ⟨h1, h3⟩, h2⟩
theorem beneath_beneath (all : List Rc) (p : List Int) (hp : okP p) (d : Int) : beneath (beneath all p) (p ++ [d]) = beneath all (p ++ [d]) ∨ 2 ≤ p.length := by
 rcases ok_cases hp with rfl | ⟨a, rfl, _⟩ | ⟨a, b, rfl, _, _⟩
 ·left
  rw [beneath_nil]
 ·left
  unfold beneath
  rw [List.filter_filter]
  congr 1
  funext r
  simp only [inP, List.cons_append, List.nil_append]
  by_cases h : dig0 r.1 = a
  ·simp [h]
  ·simp [h]
 ·right
  simp
theorem hF_congr : ∀ (k : Nat) (all all' : List Rc) (p : List Int), okP p → p.length + k = 2 → beneath all p = beneath all' p → hF k all p = hF k all' p
 | 0, all, all', p, _, _, h => by unfold hF; rw [h]
 | k + 1, all, all', p, hp, hk, h => by
  unfold hF
  rw [h]
  split
  ·rfl
  ·congr 1
   unfold kidsT
   congr 1
   funext d
   congr 1
   by_cases hd : d < 16
   ·refine hF_congr k all all' _ (ok_longer hp (by omega) hd) (by simp; omega) ?_
    have h1 := (beneath_beneath all p hp d).resolve_right (by omega)
    have h2 := (beneath_beneath all' p hp d).resolve_right (by omega)
    rw [← h1, ← h2, h]
   ·have hn : ∀ a : List Rc, beneath a (p ++ [(d : Int)]) = [] := fun a => by
     refine List.filter_eq_nil_iff.2 fun r _ => ?_
     have h0 := dig0_range r.1
     have h1 := dig1_range r.1
     rcases ok_cases hp with rfl | ⟨x, rfl, _⟩ | ⟨x, y, rfl, _, _⟩
     ·simp [inP]; omega
     ·simp [inP]; intro _; omega
     ·simp at hk
    cases k <;> unfold hF <;> simp only [hn, if_true]
theorem hF_beneath (k : Nat) (all : List Rc) (p : List Int) (d : Int) (hp : okP (p ++ [d])) (hk : p.length + 1 + k = 2) : hF k (beneath all p) (p ++ [d]) = hF k all (p ++ [d]) := by
 refine hF_congr k _ _ _ hp (by simp; omega) ?_
 have hp' : okP p := ⟨fun x hx => hp.1 x (by simp [hx]), by omega⟩
 exact (beneath_beneath all p hp' d).resolve_right (by omega)
end Tree
end Go.Proofs.YtkfdplfgaddkmaaGreat

/-
 A slice of versions read as a list: five cells each, of which one is the slice of the spans of its past.
-/
namespace Go.Proofs.YtkfdplfgaddkmaaGreat
namespace Vers
open Go.RowKit Span

def Pa (w : World) (L B : Nat) (A : Option Addr) (c : Nat) (v : Vr) : Prop :=
 Ss w B A v.past ∧ v.past.length ≤ c ∧ v.past.length ≤ 140737488355328 ∧ v.val.size ≤ 140737488355328 ∧ (0 < v.past.length → ∀ a, A = some a → L ≤ a.block)
def Vat (w : World) (L B b off : Nat) (v : Vr) (A : Option Addr) (c : Nat) : Prop :=
 w.cell? ⟨b, off, none⟩ = some (.int .i64 v.s) ∧ w.cell? ⟨b, off + 1, none⟩ = some (.int .i64 v.n) ∧ w.cell? ⟨b, off + 2, none⟩ = some (.slice A v.past.length c) ∧
 w.cell? ⟨b, off + 3, none⟩ = some (.bool v.gone) ∧ w.cell? ⟨b, off + 4, none⟩ = some (.string v.val) ∧ Pa w L B A c v
def Vs (w : World) (L B : Nat) (A : Option Addr) (l : List Vr) : Prop :=
 0 < l.length → ∃ b off, A = some ⟨b, off, none⟩ ∧ L ≤ b ∧ b < B ∧ ∀ j, j < l.length → ∃ A' c', Vat w L B b (off + j * 5) (l.getD j v0) A' c'

section
variable {w w' : World} {L L' B B' b off c : Nat} {A : Option Addr} {l : List Vr} {l' : List Sp} {v : Vr}
theorem Ss.high (h : Ss w B A l') (hl : 0 < l'.length → ∀ a, A = some a → L ≤ a.block) (hk : ∀ p : Addr, L ≤ p.block → p.block < B → w'.cell? p = w.cell? p) : Ss w' B A l' := fun hp => by
 obtain ⟨b, off, e, hb, hc⟩ := h hp
 have hL : L ≤ b := hl hp _ e
 exact ⟨b, off, e, hb, fun j hj => ⟨(hk ⟨b, _, none⟩ hL hb).trans (hc j hj).1, (hk ⟨b, _, none⟩ hL hb).trans (hc j hj).2.1, (hk ⟨b, _, none⟩ hL hb).trans (hc j hj).2.2⟩⟩
theorem Pa.keep (h : Pa w L B A c v) (hk : ∀ p : Addr, L ≤ p.block → p.block < B → w'.cell? p = w.cell? p) : Pa w' L B A c v := ⟨Ss.high h.1 h.2.2.2.2 hk, h.2⟩
theorem Pa.more (h : Pa w L B A c v) (hB : B ≤ B') : Pa w L B' A c v := ⟨h.1.more hB, h.2⟩
theorem Pa.less (h : Pa w L B A c v) (hL : L' ≤ L) : Pa w L' B A c v := ⟨h.1, h.2.1, h.2.2.1, h.2.2.2.1, fun hp a ha => Nat.le_trans hL (h.2.2.2.2 hp a ha)⟩
theorem Pa.below (h : Pa w L B A c v) (hb : Below B w w') : Pa w' L B A c v := h.keep fun _ _ hp => hb.cell hp
theorem Pa.alloc (h : Pa w L B A c v) (hB : B ≤ w.heap.size) (o : Obj) : Pa (w.alloc o) L B A c v := h.keep fun p _ hp => World.cell?_alloc_lt w o p (by omega)
theorem Vat.keep (h : Vat w L B b off v A c) (hL : L ≤ b) (hb : b < B) (hk : ∀ p : Addr, L ≤ p.block → p.block < B → w'.cell? p = w.cell? p) : Vat w' L B b off v A c := by
 obtain ⟨h0, h1, h2, h3, h4, h5⟩ := h
 exact ⟨(hk ⟨b, _, none⟩ hL hb).trans h0, (hk ⟨b, _, none⟩ hL hb).trans h1, (hk ⟨b, _, none⟩ hL hb).trans h2, (hk ⟨b, _, none⟩ hL hb).trans h3, (hk ⟨b, _, none⟩ hL hb).trans h4, h5.keep hk⟩
theorem Vs.nil (A : Option Addr) : Vs w L B A [] := fun h => absurd h (by simp)
theorem Vs.keep (h : Vs w L B A l) (hk : ∀ p : Addr, L ≤ p.block → p.block < B → w'.cell? p = w.cell? p) : Vs w' L B A l := fun hp => by
 obtain ⟨b, off, e, hL, hb, hc⟩ := h hp
 refine ⟨b, off, e, hL, hb, fun j hj => ?_⟩
 obtain ⟨A', c', h1⟩ := hc j hj
 exact ⟨A', c', h1.keep hL hb hk⟩
theorem Vs.more (h : Vs w L B A l) (hB : B ≤ B') : Vs w L B' A l := fun hp => by
 obtain ⟨b, off, e, hL, hb, hc⟩ := h hp
 refine ⟨b, off, e, hL, by omega, fun j hj => ?_⟩
 obtain ⟨A', c', h0, h1, h2, h3, h4, h5⟩ := hc j hj
 exact ⟨A', c', h0, h1, h2, h3, h4, h5.more hB⟩
theorem Vs.less (h : Vs w L B A l) (hL : L' ≤ L) : Vs w L' B A l := fun hp => by
 obtain ⟨b, off, e, hLb, hb, hc⟩ := h hp
 refine ⟨b, off, e, by omega, hb, fun j hj => ?_⟩
 obtain ⟨A', c', h0, h1, h2, h3, h4, h5⟩ := hc j hj
 exact ⟨A', c', h0, h1, h2, h3, h4, h5.less hL⟩
theorem Vs.below (h : Vs w L B A l) (hb : Below B w w') : Vs w' L B A l := h.keep fun _ _ hp => hb.cell hp
theorem Vs.drewN (h : Vs w L B A l) (n : Nat) : Vs (w.drewN n) L B A l := h.keep fun _ _ _ => rfl
theorem Vs.alloc (h : Vs w L B A l) (hB : B ≤ w.heap.size) (o : Obj) : Vs (w.alloc o) L B A l := h.keep fun p _ hp => World.cell?_alloc_lt w o p (by omega)
theorem Vs.at {n k : Nat} (h : Vs w L B A l) (hn : l.length = n) (hb : Below B w w') (hk : k < n) (hv : l.getD k v0 = v) : ∃ b off A' c', A = some ⟨b, off, none⟩ ∧ L ≤ b ∧ b < B ∧ Vat w' L B b (off + k * 5) v A' c' := by
 obtain ⟨b, off, e, hL, hbB, hc⟩ := (h.below hb) (by omega)
 obtain ⟨A', c', h1⟩ := hc k (by omega)
 rw [hv] at h1
 exact ⟨b, off, A', c', e, hL, hbB, h1⟩
end
end Vers
end Go.Proofs.YtkfdplfgaddkmaaGreat

/-
 How dots are compared: vers.compare, firthref05.Less; the list of one dot.
-/
namespace Go.Proofs.YtkfdplfgaddkmaaGreat
namespace Vers
open Go.RowKit Span
attribute [local go_sem ↓] Go.wp_at_zero Go.wp_at_succ

def cmpI (x y : Int) : Int := if x < y then -1 else if y < x then 1 else 0
def cmpD (s n s' n' : Int) : Int := if cmpI s s' = 0 then cmpI n n' else cmpI s s'
theorem cmpD_lt (s n s' n' : Int) : cmpD s n s' n' < 0 ↔ s < s' ∨ (s = s' ∧ n < n') := by
 unfold cmpD cmpI
 repeat' split
 all_goals omega
theorem cmp_int (x y : Int) (w : World) : Calls Tryz.prog 146 #[.int .i64 x, .int .i64 y] w fun e w' => e = .returned (.int .i64 (cmpI x y)) ∧ w = w' := by
 have hN : ∀ (z : Int) (W : World), Calls Tryz.prog 156 #[.int .i64 z] W fun e w' => e = .returned (.bool false) ∧ W = w' := by
  intro z W
  go_enter Tryz.func156, Tryz.ntmps156
  go_wp2
  go_ret
  exact ⟨by simp, rfl⟩
 have H := Lib.hid hN
 clear hN
 rcases Int.lt_trichotomy x y with h | rfl | h
 ·have h1 : decide (x < y) = true := decide_eq_true h
  have hr : cmpI x y = -1 := by unfold cmpI; rw [if_pos h]
  have HR := Lib.hid hr
  clear hr h
  go_enter Tryz.func146, Tryz.ntmps146
  go_wp2_with (go_at_call 156; refine (H.out _ _).mono ?_; rintro e w' ⟨rfl, rfl⟩)
  go_ret
  exact ⟨by rw [HR.out]; rfl, rfl⟩
 ·have h1 : decide (x < x) = false := decide_eq_false (by omega)
  have hr : cmpI x x = 0 := by unfold cmpI; rw [if_neg (by omega), if_neg (by omega)]
  have HR := Lib.hid hr
  clear hr
  go_enter Tryz.func146, Tryz.ntmps146
  go_wp2_with (go_at_call 156; refine (H.out _ _).mono ?_; rintro e w' ⟨rfl, rfl⟩)
  go_ret
  exact ⟨by rw [HR.out]; rfl, rfl⟩
 ·have h1 : decide (x < y) = false := decide_eq_false (by omega)
  have h2 : decide (y < x) = true := decide_eq_true h
  have hr : cmpI x y = 1 := by unfold cmpI; rw [if_neg (by omega), if_pos h]
  have HR := Lib.hid hr
  clear hr h
  go_enter Tryz.func146, Tryz.ntmps146
  go_wp2_with (go_at_call 156; refine (H.out _ _).mono ?_; rintro e w' ⟨rfl, rfl⟩)
  go_ret
  exact ⟨by rw [HR.out]; rfl, rfl⟩

theorem cmp_int64 (x y : Int) (w : World) : Calls Tryz.prog 147 #[.int .i64 x, .int .i64 y] w fun e w' => e = .returned (.int .i64 (cmpI x y)) ∧ w = w' := by
 have hN : ∀ (z : Int) (W : World), Calls Tryz.prog 157 #[.int .i64 z] W fun e w' => e = .returned (.bool false) ∧ W = w' := by
  intro z W
  go_enter Tryz.func157, Tryz.ntmps157
  go_wp2
  go_ret
  exact ⟨by simp, rfl⟩
 have H := Lib.hid hN
 clear hN
 rcases Int.lt_trichotomy x y with h | rfl | h
 ·have h1 : decide (x < y) = true := decide_eq_true h
  have hr : cmpI x y = -1 := by unfold cmpI; rw [if_pos h]
  have HR := Lib.hid hr
  clear hr h
  go_enter Tryz.func147, Tryz.ntmps147
  go_wp2_with (go_at_call 157; refine (H.out _ _).mono ?_; rintro e w' ⟨rfl, rfl⟩)
  go_ret
  exact ⟨by rw [HR.out]; rfl, rfl⟩
 ·have h1 : decide (x < x) = false := decide_eq_false (by omega)
  have hr : cmpI x x = 0 := by unfold cmpI; rw [if_neg (by omega), if_neg (by omega)]
  have HR := Lib.hid hr
  clear hr
  go_enter Tryz.func147, Tryz.ntmps147
  go_wp2_with (go_at_call 157; refine (H.out _ _).mono ?_; rintro e w' ⟨rfl, rfl⟩)
  go_ret
  exact ⟨by rw [HR.out]; rfl, rfl⟩
 ·have h1 : decide (x < y) = false := decide_eq_false (by omega)
  have h2 : decide (y < x) = true := decide_eq_true h
  have hr : cmpI x y = 1 := by unfold cmpI; rw [if_neg (by omega), if_pos h]
  have HR := Lib.hid hr
  clear hr h
  go_enter Tryz.func147, Tryz.ntmps147
  go_wp2_with (go_at_call 157; refine (H.out _ _).mono ?_; rintro e w' ⟨rfl, rfl⟩)
  go_ret
  exact ⟨by rw [HR.out]; rfl, rfl⟩

theorem or_two (p q : Int) (b : Nat) (w : World) (h0 : w.cell? ⟨b, 0, none⟩ = some (.int .i64 p)) (h1 : w.cell? ⟨b, 1, none⟩ = some (.int .i64 q)) :
  Calls Tryz.prog 145 #[.slice (some ⟨b, 0, none⟩) 2 2] w fun e w' => e = .returned (.int .i64 (if p = 0 then q else p)) ∧ w = w' := by
 by_cases hp : p = 0
 ·subst hp
  rw [if_pos rfl]
  by_cases hq : q = 0
  ·subst hq
   go_enter Tryz.func145, Tryz.ntmps145
   go_wp2
   go_loopw [5, 8] (fun _ q wr => ∃ k : Nat, q = .int .i64 k ∧ k ≤ 2 ∧ w = wr) (fun _ q _ => 2 - (intOf q).toNat)
   case atStart => exact ⟨0, rfl, by omega, rfl⟩
   case round =>
    obtain ⟨k, rfl, hk, rfl⟩ := hrel
    match k, hk with
    | 0, _ =>
     go_wp2
     exact ⟨⟨1, rfl, by omega, trivial⟩, by simp only [intOf]; omega⟩
    | 1, _ =>
     go_wp2
     exact ⟨⟨2, rfl, by omega, trivial⟩, by simp only [intOf]; omega⟩
    | 2, _ =>
     go_wp2
     go_ret
     exact ⟨rfl, rfl⟩
  ·have g1 : (q == 0) = false := by simpa using hq
   have g2 : ¬ (q = 0) := hq
   go_enter Tryz.func145, Tryz.ntmps145
   go_wp2
   go_loopw [5, 8] (fun _ q wr => ∃ k : Nat, q = .int .i64 k ∧ k ≤ 1 ∧ w = wr) (fun _ q _ => 2 - (intOf q).toNat)
   case atStart => exact ⟨0, rfl, by omega, rfl⟩
   case round =>
    obtain ⟨k, rfl, hk, rfl⟩ := hrel
    match k, hk with
    | 0, _ =>
     go_wp2
     exact ⟨⟨1, rfl, by omega, trivial⟩, by simp only [intOf]; omega⟩
    | 1, _ =>
     go_wp2
     go_ret
     exact ⟨rfl, rfl⟩
 ·rw [if_neg hp]
  have g1 : (p == 0) = false := by simpa using hp
  go_enter Tryz.func145, Tryz.ntmps145
  go_wp2
  go_loopw [5, 8] (fun _ q wr => q = .int .i64 0 ∧ w = wr) (fun _ q _ => 2 - (intOf q).toNat)
  case atStart => exact ⟨rfl, rfl⟩
  case round =>
   obtain ⟨rfl, rfl⟩ := hrel
   go_wp2
   go_ret
   exact ⟨rfl, rfl⟩

set_option maxHeartbeats 1000000 in
theorem compare_any (s n s' n' : Int) (w : World) : Calls Tryz.prog 124 #[.agg #[.int .i64 s, .int .i64 n], .agg #[.int .i64 s', .int .i64 n']] w fun e w' => e = .returned (.int .i64 (cmpD s n s' n')) ∧ Below w.heap.size w w' := by
 have H1 := Lib.hid (fun W => cmp_int s s' W)
 have H2 := Lib.hid (fun W => cmp_int64 n n' W)
 have hr : (if cmpI s s' = 0 then cmpI n n' else cmpI s s') = cmpD s n s' n' := rfl
 obtain ⟨p, hp⟩ : ∃ p, cmpI s s' = p := ⟨_, rfl⟩
 obtain ⟨q, hq⟩ : ∃ q, cmpI n n' = q := ⟨_, rfl⟩
 rw [hp, hq] at hr
 have H1' : Hid (∀ W, Calls Tryz.prog 146 #[.int .i64 s, .int .i64 s'] W fun e w' => e = .returned (.int .i64 p) ∧ W = w') := by rw [← hp]; exact H1
 have H2' : Hid (∀ W, Calls Tryz.prog 147 #[.int .i64 n, .int .i64 n'] W fun e w' => e = .returned (.int .i64 q) ∧ W = w') := by rw [← hq]; exact H2
 obtain ⟨r, hr'⟩ : ∃ r, (if p = 0 then q else p) = r := ⟨_, rfl⟩
 have H3 := Lib.hid (fun b W h0 h1 => hr' ▸ or_two p q b W h0 h1)
 have HR := Lib.hid (hr'.symm.trans hr)
 clear H1 H2 hp hq hr hr'
 go_enter Tryz.func124, Tryz.ntmps124
 go_wp2
 obtain ⟨W, hW⟩ : ∃ W, (w.alloc (.cells #[.int .i64 s, .int .i64 n] 116)).alloc (.cells #[.int .i64 s', .int .i64 n'] 116) = W := ⟨_, rfl⟩
 have a0 : W.cell? ⟨w.heap.size, 0, none⟩ = some (.int .i64 s) := by rw [← hW]; simp
 have a1 : W.cell? ⟨w.heap.size, 1, none⟩ = some (.int .i64 n) := by rw [← hW]; simp
 have a2 : W.cell? ⟨w.heap.size + 1, 0, none⟩ = some (.int .i64 s') := by rw [← hW]; simp
 have a3 : W.cell? ⟨w.heap.size + 1, 1, none⟩ = some (.int .i64 n') := by rw [← hW]; simp
 have b0 : Below w.heap.size w W := by rw [← hW]; exact ((Below.refl _ w).alloc (Nat.le_refl _) _).alloc (by simp) _
 have hs : W.heap.size = w.heap.size + 2 := by rw [← hW]; simp
 rw [hW]
 clear hW
 have HB := Lib.hid (b0.alloc (by rw [hs]; omega) (.cells #[.int .i64 p, .int .i64 q] 3))
 obtain ⟨m, hm⟩ : ∃ m, w.heap.size = m := ⟨_, rfl⟩
 rw [hm] at a0 a1 a2 a3 hs ⊢
 clear hm b0
 have l0 : m < W.heap.size := by omega
 have l1 : m + 1 < W.heap.size := by omega
 clear hs
 go_region_held3 (fun V => V.cell? ⟨m, 0, none⟩ = some (.int .i64 s) ∧ V.cell? ⟨m, 1, none⟩ = some (.int .i64 n) ∧ V.cell? ⟨m + 1, 0, none⟩ = some (.int .i64 s') ∧ V.cell? ⟨m + 1, 1, none⟩ = some (.int .i64 n'))
  (first | exact ⟨a0, a1, a2, a3⟩ | exact ⟨(World.cell?_alloc_lt _ _ _ l0).trans a0, (World.cell?_alloc_lt _ _ _ l0).trans a1, (World.cell?_alloc_lt _ _ _ l1).trans a2, (World.cell?_alloc_lt _ _ _ l1).trans a3⟩)
  (first
   | (go_at_call 146; refine (H1'.out _).mono ?_; rintro e w1 ⟨rfl, rfl⟩)
   | (go_at_call 147; refine (H2'.out _).mono ?_; rintro e w1 ⟨rfl, rfl⟩)
   | (go_at_call 145; refine (H3.out _ _ (by simp) (by simp)).mono ?_; rintro e w1 ⟨rfl, rfl⟩))
 all_goals
  go_wp2
  go_ret
  exact ⟨by rw [HR.out]; rfl, HB.out.drew⟩

theorem less_any (s n s' n' : Int) (w : World) : Calls Tryz.prog 104 #[.agg #[.int .i64 s, .int .i64 n], .agg #[.int .i64 s', .int .i64 n']] w fun e w' => e = .returned (.bool (decide (s < s' ∨ (s = s' ∧ n < n')))) ∧ Below w.heap.size w w' := by
 obtain ⟨R, hR⟩ : ∃ R, decide (s < s' ∨ (s = s' ∧ n < n')) = R := ⟨_, rfl⟩
 rw [hR]
 by_cases h : s = s'
 ·have HR := Lib.hid (show R = decide (n < n') by rw [← hR]; simp [h])
  subst h
  have g : (s == s) = true := by simp
  clear hR
  go_enter Tryz.func104, Tryz.ntmps104
  go_wp2
  go_ret
  exact ⟨by rw [HR.out]; rfl, ((Below.refl _ w).alloc (Nat.le_refl _) _).alloc (by simp) _⟩
 ·have HR := Lib.hid (show R = decide (s < s') by rw [← hR]; simp [h])
  have g : (s == s') = false := by simp [h]
  clear h hR
  go_enter Tryz.func104, Tryz.ntmps104
  go_wp2
  go_ret
  exact ⟨by rw [HR.out]; rfl, ((Below.refl _ w).alloc (Nat.le_refl _) _).alloc (by simp) _⟩

def DotList (s n : Int) (w : World) (e : Ending) (w' : World) : Prop := ∃ A, e = .returned (.slice A 1 1) ∧ Ss w' w'.heap.size A [(s, n, n)] ∧ Below w.heap.size w w'
theorem dotlist_any (s n : Int) (w : World) : Calls Tryz.prog 143 #[.agg #[.int .i64 s, .int .i64 n]] w (DotList s n w) := by
 go_enter Tryz.func143, Tryz.ntmps143
 go_wp2
 go_ret
 refine ⟨_, rfl, fun _ => ⟨_, _, rfl, by simp, fun j hj => ?_⟩, ((Below.refl _ w).alloc (Nat.le_refl _) _).alloc (by simp) _⟩
 match j, hj with
 | 0, _ => simp
end Vers
end Go.Proofs.YtkfdplfgaddkmaaGreat

/-
 Plain words of layer 14: what one holds, what one takes, gives and answers.
-/
namespace Go.Proofs.YtkfdplfgaddkmaaGreat
namespace Mend
open Vers Num Ring Disk Tree Go.Proofs.YtkfdplfgaddkmaaGreat.Code

def getF (l : List Rc) (k : Nm) : List Vr := (find l k).getD []
def heldF (l : List Rc) : List Rc := l.foldl withR []
def okL (l : List Rc) : Prop := ∀ r ∈ l, okR r
instance (l : List Rc) : Decidable (okL l) := by unfold okL; infer_instance
theorem find_with (l : List Rc) (r : Rc) (t : Nm) : find (withR l r) t = if t = r.1 then (if r.2 = [] then none else some r.2) else find l t := by
 unfold withR
 by_cases h : r.2 = []
 ·rw [if_pos h, if_pos h, find_wout]
 ·rw [if_neg h, if_neg h, find_wit]
theorem get_with (l : List Rc) (r : Rc) (t : Nm) : getF (withR l r) t = if t = r.1 then r.2 else getF l t := by
 unfold getF
 rw [find_with]
 by_cases ht : t = r.1
 ·rw [if_pos ht, if_pos ht]
  by_cases h : r.2 = []
  ·rw [if_pos h, h]; rfl
  ·rw [if_neg h]; rfl
 ·rw [if_neg ht, if_neg ht]
def Hel (l : List Rc) : Prop := Srt l ∧ ∀ r ∈ l, r.2 ≠ []
theorem hel_nil : Hel [] := ⟨Srt.nil, fun _ h => by cases h⟩
theorem Hel.with {l : List Rc} (h : Hel l) (r : Rc) : Hel (withR l r) := ⟨with_srt h.1 r, fun x hx => by
 rcases with_mem.1 hx with ⟨rfl, hn⟩ | ⟨hx, _⟩
 ·exact hn
 ·exact h.2 x hx⟩
theorem hel_fold (l : List Rc) : ∀ acc : List Rc, Hel acc → Hel (l.foldl withR acc) := by
 induction l with
 | nil => exact fun _ h => h
 | cons r l ih => exact fun acc h => ih _ (h.with r)
theorem held_hel (l : List Rc) : Hel (heldF l) := hel_fold l [] hel_nil
theorem held_snoc (l : List Rc) (r : Rc) : heldF (l ++ [r]) = withR (heldF l) r := by simp [heldF]
theorem hel_ext {l m : List Rc} (hl : Hel l) (hm : Hel m) (h : ∀ k, getF l k = getF m k) : l = m := by
 refine srt_ext hl.1 hm.1 fun k => ?_
 have hk := h k
 unfold getF at hk
 cases h1 : find l k with
 | none =>
  cases h2 : find m k with
  | none => rfl
  | some b =>
   rw [h1, h2] at hk
   exact absurd hk.symm (hm.2 _ (find_some h2))
 | some a =>
  cases h2 : find m k with
  | none =>
   rw [h1, h2] at hk
   exact absurd hk (hl.2 _ (find_some h1))
  | some b =>
   rw [h1, h2] at hk
   exact congrArg some hk
def mergeR (now : List Rc) (r : Rc) : List Rc := if (mergeF (getF now r.1) r.2).2 = 0 then withR now (r.1, (mergeF (getF now r.1) r.2).1) else now
abbrev Stp3 := List Int × List Int × List Rc
end Mend
end Go.Proofs.YtkfdplfgaddkmaaGreat

/-
 A map from names to slices, whatever the slices lead to: each value is held as it stands (layer 11).
-/
namespace Go.Proofs.YtkfdplfgaddkmaaGreat
namespace Tree
open Go.RowKit Blk Go.Maps Disk
def heldE (v : Value) : Option (DataW Value × List MemPlace) := some (.held v, [])
theorem keyed : Keyed Tryz.prog 9 := string_keyed Tryz.underlying9
def okN (s : Nm) : Prop := s.size ≤ maxLen
theorem key_of {s : Nm} (h : okN s) : ∃ kl, keyOf Tryz.prog 9 (.string s) = some kl := ⟨_, WideMaps.keyOf_string_mk Tryz.underlying9 h⟩
theorem key_inj {s t : Nm} {kl : Lit} (h : keyOf Tryz.prog 9 (.string s) = some kl) (h' : keyOf Tryz.prog 9 (.string t) = some kl) : s = t := by
 have := keyed.inj h h'
 injection this
theorem key_inv {key : Value} {kl : Lit} (h : keyOf Tryz.prog 9 key = some kl) : ∃ s : Nm, key = .string s ∧ okN s := by
 cases key <;> simp [keyOf, mapKey, Tryz.underlying9] at h
 exact ⟨_, rfl, h.1⟩
abbrev Vl := List (Nm × Value)
def MapV (D : DataW Value) (l : Vl) : Prop := ∀ s kl, keyOf Tryz.prog 9 (.string s) = some kl → ∀ z, D.atKey kl z = (match find l s with | some v => .held v | none => z)
theorem MapV.has {D : DataW Value} {l : Vl} (h : MapV D l) {s : Nm} {kl : Lit} (hk : keyOf Tryz.prog 9 (.string s) = some kl) : Maps.has D kl = (find l s).isSome := by
 have h1 := h s kl hk
 rcases hf : find l s with _ | v
 ·rw [hf] at h1
  exact Maps.has_false_of_atKey h1
 ·rw [hf] at h1
  exact Maps.has_true_of_atKey h1
def MI (w : World) (mb : Nat) (l : Vl) : Prop := ∃ D n, w.ownsMap Tryz.prog 9 heldE mb n D ∧ MapV D l ∧ Srt l ∧ (∀ x ∈ l, okN x.1) ∧ Maps.size D = l.length
theorem shrink {w : World} {mb n : Nat} {D : DataW Value} (h : w.ownsMap Tryz.prog 9 heldE mb n D) : w.ownsMap Tryz.prog 9 heldE mb (Maps.size D) D := by
 obtain ⟨es, clock, hb, F, _, rfl⟩ := h
 exact ⟨es, clock, hb, F, by simp [Maps.size, length_sorted], rfl⟩
theorem len_wout {l : Vl} (h : Srt l) (s : Nm) : (wout l s).length + (if (find l s).isSome then 1 else 0) = l.length := by
 induction l with
 | nil => rfl
 | cons y l ih =>
  obtain ⟨h1, h2⟩ := List.pairwise_cons.1 h
  have ih := ih h2
  have e : wout (y :: l) s = if y.1 = s then wout l s else y :: wout l s := by
   unfold wout
   by_cases h : y.1 = s
   ·simp [h]
   ·simp [h]
  rw [e]
  unfold find
  by_cases hs : y.1 = s
  ·have n1 : find l s = none := find_none.2 fun z hz e2 => nlt_ne (h1 z hz) (hs.trans e2.symm)
   rw [n1] at ih
   rw [if_pos hs, if_pos hs]
   simp at ih ⊢
   omega
  ·rw [if_neg hs, if_neg hs]
   simp only [List.length_cons]
   omega
theorem len_ins {β : Type} (l : List (Nm × β)) (s : Nm) (b : β) : (ins l s b).length = l.length + 1 := by
 induction l with
 | nil => rfl
 | cons y l ih =>
  unfold ins
  split
  ·rfl
  ·simp only [List.length_cons, ih]
section
variable {w w' : World} {mb : Nat} {l : Vl}
theorem MI.lt (h : MI w mb l) : mb < w.heap.size := by
 obtain ⟨D, n, h, _⟩ := h
 exact h.lt
theorem MI.srt (h : MI w mb l) : Srt l := by
 obtain ⟨D, n, _, _, h, _⟩ := h
 exact h
theorem MI.same (h : MI w mb l) (hk : w'.heap[mb]? = w.heap[mb]?) : MI w' mb l := by
 obtain ⟨D, n, ⟨q, clock, h1, h2⟩, hr⟩ := h
 exact ⟨D, n, ⟨q, clock, hk.trans h1, h2⟩, hr⟩
theorem MI.ne (h : MI w mb l) {t : TypeId} {cs : Array Value} {fr : Nat × Nat} {g : Nat} (hc : w.heap[g]? = some (.cells cs t fr)) : g ≠ mb := fun q => by
 obtain ⟨D, n, ⟨q1, q2, q3, _⟩, _⟩ := h
 rw [q, q3] at hc
 injection hc with hc
 cases hc
theorem mi_made (w : World) : MI (w.alloc (.map #[] 0)) w.heap.size [] :=
 ⟨_, 0, World.ownsMap_made w _ _ _, (fun s kl _ z => by rfl), Srt.nil, (fun x hx => by cases hx), rfl⟩
theorem MI.store (h : MI w mb l) (hn : l.length < 140737488355328) (s : Nm) (hs : okN s) (v : Value) : ∃ w', (Instr.mapUpdate 93 (.map (some mb)) (.string s) v).run Tryz.prog w = .ok () w' ∧ MI w' mb (wit l s v) ∧ w.grownBy w' (some mb) := by
 obtain ⟨D, n, ho, hm, hsr, hok, hsz⟩ := h
 obtain ⟨kl, hkl⟩ := key_of hs
 obtain ⟨w', hrun, h1, h2⟩ := (shrink ho).store (t := 93) (e := 67) keyed Tryz.underlying93 (by rw [hsz]; unfold maxLen; omega) (d := .held v) (ps := []) hkl rfl
 refine ⟨w', hrun, ⟨_, _, h1, fun t kt hkt z => ?_, hsr.wit s v, fun x hx => ?_, ?_⟩, h2.grown⟩
 ·rw [find_wit]
  by_cases e : t = s
  ·subst e
   obtain rfl : kt = kl := by rw [hkt] at hkl; injection hkl
   rw [if_pos rfl, Maps.atKey_put_same ho.isMap (keyed.key hkl)]
  ·rw [if_neg e, Maps.atKey_put_other (fun q => e (key_inj hkt (by rw [q]; exact hkl)))]
   exact hm t kt hkt z
 ·rcases mem_wit.1 hx with rfl | ⟨hx, _⟩
  ·exact hs
  ·exact hok x hx
 ·rw [Maps.size_put (ho.tidy keyed), hm.has hkl, hsz, wit, len_ins]
  have := len_wout hsr s
  split at this <;> rename_i hc
  ·rw [if_pos hc]; omega
  ·rw [if_neg hc]; omega
theorem MI.drop (h : MI w mb l) (s : Nm) (hs : okN s) (ty : TypeId) : ∃ w', (Builtin.delete_ #[93, 9] ty #[.map (some mb), .string s]).run Tryz.prog w = .ok (.tuple #[]) w' ∧ MI w' mb (wout l s) ∧ w.grownBy w' (some mb) := by
 obtain ⟨D, n, ho, hm, hsr, hok, hsz⟩ := h
 obtain ⟨kl, hkl⟩ := key_of hs
 obtain ⟨w', hrun, h1, h2⟩ := ho.drop (t := 93) (e := 67) keyed Tryz.underlying93 hkl ty
 refine ⟨w', hrun, ⟨_, _, h1, fun t kt hkt z => ?_, hsr.wout s, fun x hx => hok x (mem_wout.1 hx).1, ?_⟩, h2.grown⟩
 ·rw [find_wout]
  by_cases e : t = s
  ·subst e
   obtain rfl : kt = kl := by rw [hkt] at hkl; injection hkl
   rw [if_pos rfl, Maps.atKey_del_same]
  ·rw [if_neg e, Maps.atKey_del_other (fun q => e (key_inj hkt (by rw [q]; exact hkl)))]
   exact hm t kt hkt z
 ·have h3 := Maps.size_del (k := kl) (ho.tidy keyed)
  rw [hm.has hkl, hsz] at h3
  have := len_wout hsr s
  omega
end
end Tree
end Go.Proofs.YtkfdplfgaddkmaaGreat

/-
 sync.Once in one goroutine: what is done once by a closure, whatever the closure does, if it leaves the Once itself alone.
-/
namespace Go.Proofs.YtkfdplfgaddkmaaGreat
namespace Once
open Go.RowKit Blk

theorem disable (w : World) : (callFunc 158 #[]).run Tryz.prog w = .ok (.value (.tuple #[])) w := run_call_mark0 Tryz.func158 (by kernel_rfl) (by kernel_rfl) (by kernel_rfl) .disable (by kernel_rfl) w
theorem enable (w : World) : (callFunc 160 #[]).run Tryz.prog w = .ok (.value (.tuple #[])) w := run_call_mark0 Tryz.func160 (by kernel_rfl) (by kernel_rfl) (by kernel_rfl) .enable (by kernel_rfl) w
theorem acquire (a : Addr) (w : World) : (callFunc 161 #[.pointer (some a)]).run Tryz.prog w = .ok (.value (.tuple #[])) w := run_call_marked Tryz.func161 (by kernel_rfl) (by kernel_rfl) (by kernel_rfl) .acquire (by kernel_rfl) a w
theorem releaseMerge (a : Addr) (w : World) : (callFunc 163 #[.pointer (some a)]).run Tryz.prog w = .ok (.value (.tuple #[])) w := run_call_marked Tryz.func163 (by kernel_rfl) (by kernel_rfl) (by kernel_rfl) .releaseMerge (by kernel_rfl) a w

set_option maxRecDepth 100000 in
theorem store_deferred (a : Addr) (x : Value) (u : FrameMode) (w : World) (hc : w.cell? a = some x) (hz : w.frozen? a = false) :
  CallsD Tryz.prog 139 #[.pointer (some a), .bool true] u w fun e u' w' => u' = u ∧ (e = .returned (.tuple #[]) ∧ w' = w.drew.setCell a (.int .u32 1)) := by
 have hc' : w.drew.cell? a = some x := by go_simp
 have hz' : w.drew.frozen? a = false := by go_simp
 have hst := run_call_store (P := Tryz.prog) Tryz.func153 (by kernel_rfl) (by kernel_rfl) (by kernel_rfl) (by kernel_rfl) (k := .u32) (y := 1) hc' hz'
 go_enter_d Tryz.func139, Tryz.ntmps139
 go_wp2
 go_region_calls
 all_goals (go_end0; exact ⟨rfl, rfl⟩)

set_option maxRecDepth 100000 in
theorem unlock_deferred (a : Addr) (u : FrameMode) (w : World) (hc : w.cell? a = some (.int .i32 1)) (hz : w.frozen? a = false) :
  CallsD Tryz.prog 138 #[.pointer (some a)] u w fun e u' w' => u' = u ∧ (e = .returned (.tuple #[]) ∧ w' = w.setCell a (.int .i32 0)) := by
 have hd := disable
 have he := enable
 have hr := releaseMerge
 have hadd := run_call_add (P := Tryz.prog) Tryz.func164 (by kernel_rfl) (by kernel_rfl) (by kernel_rfl) .i32 (by kernel_rfl) (y := -1) (s := 0) hc hz (by simp [go_sem]; rfl)
 have hcv := run_convert_to_unsafe (P := Tryz.prog) (src := 210) (dst := 214) Tryz.underlying210 Tryz.underlying214 (by kernel_rfl) hc
 go_enter_d Tryz.func138, Tryz.ntmps138
 go_wp2
 go_end0
 go_wp2
 go_end0
 exact ⟨rfl, rfl⟩

set_option maxRecDepth 100000 in
theorem lock_free (a : Addr) (w : World) (hc : w.cell? a = some (.int .i32 0)) (hz : w.frozen? a = false) :
  Calls Tryz.prog 137 #[.pointer (some a)] w fun e w' => e = .returned (.tuple #[]) ∧ w' = w.setCell a (.int .i32 1) := by
 have hd := disable
 have he := enable
 have ha := acquire
 have hcas := run_call_cas_hit (P := Tryz.prog) Tryz.func159 (by kernel_rfl) (by kernel_rfl) (by kernel_rfl) .i32 (by kernel_rfl) (y := 1) hc hz
 have hc' : (w.setCell a (.int .i32 1)).cell? a = some (.int .i32 1) := World.cell?_setCell_same w a _ hc
 have hcv := run_convert_to_unsafe (P := Tryz.prog) (src := 210) (dst := 214) Tryz.underlying210 Tryz.underlying214 (by kernel_rfl) hc'
 go_enter Tryz.func137, Tryz.ntmps137
 go_wp2
 first | go_end0 | (simp only [Exit.inBlock, Exit.then]; refine bodyPost_ret (results_none rfl _ _ _) rfl ?_) | refine bodyPost_ret (results_none rfl _ _ _) rfl ?_
 go_wp2
 go_end0
 exact ⟨rfl, rfl⟩

def Held (b off : Nat) (Q : World → Prop) (e : Ending) (w' : World) : Prop :=
 e = .returned (.tuple #[]) ∧ Q w' ∧ w'.cell? ⟨b, off, none⟩ = some (.int .u32 0) ∧ w'.cell? ⟨b, off + 1, none⟩ = some (.int .i32 1) ∧ w'.frozen? ⟨b, off, none⟩ = false ∧ w'.frozen? ⟨b, off + 1, none⟩ = false
def Over (b off : Nat) (Q : World → Prop) (e : Ending) (w' : World) : Prop :=
 e = .returned (.tuple #[]) ∧ ∃ w2, Q w2 ∧ w2.cell? ⟨b, off, none⟩ = some (.int .u32 0) ∧ w2.cell? ⟨b, off + 1, none⟩ = some (.int .i32 1) ∧ w' = (w2.drew.setCell ⟨b, off, none⟩ (.int .u32 1)).setCell ⟨b, off + 1, none⟩ (.int .i32 0)

set_option maxRecDepth 100000 in
set_option maxHeartbeats 1600000 in
theorem slow_any (b off : Nat) (k : FuncId) (caps : Array Value) (Q : World → Prop) (w : World)
  (h0 : w.cell? ⟨b, off, none⟩ = some (.int .u32 0)) (h1 : w.cell? ⟨b, off + 1, none⟩ = some (.int .i32 0)) (f1 : w.frozen? ⟨b, off + 1, none⟩ = false)
  (hen : ∀ W, (callFunc k caps).run Tryz.prog W = .ok (.enter k caps) W)
  (hK : Calls Tryz.prog k caps (w.setCell ⟨b, off + 1, none⟩ (.int .i32 1)) (Held b off Q)) :
  Calls Tryz.prog 117 #[.pointer (some ⟨b, off, none⟩), .func (.func k) #[] caps] w (Over b off Q) := by
 have hl := run_call_load (P := Tryz.prog) Tryz.func136 (by kernel_rfl) (by kernel_rfl) (by kernel_rfl) .u32 (by kernel_rfl) (w := w.setCell ⟨b, off + 1, none⟩ (.int .i32 1)) (a := ⟨b, off, none⟩) (x := 0) ((World.cell?_setCell_other _ ⟨b, off + 1, none⟩ ⟨b, off, none⟩ _ (by simp)).trans h0)
 have hnot : ∀ (x : Bool) (w : World), (Op.unary .not (.bool x)).run Tryz.prog w = .ok (.bool (!x)) w := fun _ _ => rfl
 go_enter_defers Tryz.func117, Tryz.ntmps117
 go_wp2_with (go_at_call 137; refine (lock_free ⟨b, off + 1, none⟩ _ (by go_simp) (by go_simp)).mono ?_; rintro e w' ⟨rfl, rfl⟩)
 go_wp2_with (go_at_call 116; go_in)
 refine Calls.mono hK ?_
 rintro e w2 ⟨rfl, hq, c0, c1, g0, g1⟩
 go_wp2
 -- the door: two deferred calls, the last laid first
 refine leaves_cons (f := 139) (args := #[.pointer (some ⟨b, off, none⟩), .bool true]) (by simp) (by simp [go_sem]) ?_
 refine (store_deferred ⟨b, off, none⟩ (.int .u32 0) .returning _ c0 g0).mono ?_
 rintro e u' w'' ⟨rfl, rfl, rfl⟩
 refine leaves_cons (f := 138) (args := #[.pointer (some ⟨b, off + 1, none⟩)]) (by simp [settle]) (by simp [go_sem]) ?_
 refine (unlock_deferred ⟨b, off + 1, none⟩ _ _ ?_ (by simpa using g1)).mono ?_
 ·refine (World.cell?_setCell_other _ ⟨b, off, none⟩ ⟨b, off + 1, none⟩ _ (by simp)).trans ?_
  rw [World.cell?_drew]
  exact c1
 rintro e u' w'' ⟨rfl, rfl, rfl⟩
 simp [Leaves, settle, results, Tryz.results117]
 exact ⟨rfl, w2, hq, c0, c1, rfl⟩

set_option maxRecDepth 100000 in
set_option maxHeartbeats 1600000 in
theorem do_first (b off : Nat) (k : FuncId) (caps : Array Value) (Q : World → Prop) (w : World)
  (h0 : w.cell? ⟨b, off, none⟩ = some (.int .u32 0)) (h1 : w.cell? ⟨b, off + 1, none⟩ = some (.int .i32 0)) (f1 : w.frozen? ⟨b, off + 1, none⟩ = false)
  (hen : ∀ W, (callFunc k caps).run Tryz.prog W = .ok (.enter k caps) W)
  (hK : Calls Tryz.prog k caps (w.setCell ⟨b, off + 1, none⟩ (.int .i32 1)) (Held b off Q)) :
  Calls Tryz.prog 93 #[.pointer (some ⟨b, off, none⟩), .func (.func k) #[] caps] w (Over b off Q) := by
 have hl := run_call_load (P := Tryz.prog) Tryz.func136 (by kernel_rfl) (by kernel_rfl) (by kernel_rfl) .u32 (by kernel_rfl) h0
 have hnot : ∀ (x : Bool) (w : World), (Op.unary .not (.bool x)).run Tryz.prog w = .ok (.bool (!x)) w := fun _ _ => rfl
 have HS := Lib.hid (slow_any b off k caps Q w h0 h1 f1 hen hK)
 clear hen hK
 go_enter Tryz.func93, Tryz.ntmps93
 go_wp2_with (first | (go_at_call 117; refine HS.out.mono ?_; rintro e w' ⟨rfl, hw⟩) | (go_at_call 116; go_in))
 go_end0
 exact ⟨rfl, hw⟩

theorem do_done (a : Addr) (d : Int) (hd : ¬ d = 0) (fv : Value) (w : World) (h0 : w.cell? a = some (.int .u32 d)) :
  Calls Tryz.prog 93 #[.pointer (some a), fv] w fun e w' => e = .returned (.tuple #[]) ∧ w' = w := by
 have hl := run_call_load (P := Tryz.prog) Tryz.func136 (by kernel_rfl) (by kernel_rfl) (by kernel_rfl) .u32 (by kernel_rfl) h0
 have hnot : ∀ (x : Bool) (w : World), (Op.unary .not (.bool x)).run Tryz.prog w = .ok (.bool (!x)) w := fun _ _ => rfl
 have hd' : (d != 0) = true := by simp [hd]
 go_enter Tryz.func93, Tryz.ntmps93
 go_wp2
 go_end0
 exact ⟨rfl, rfl⟩
end Once
end Go.Proofs.YtkfdplfgaddkmaaGreat

/-
 Versions and slices of versions among a law's arguments.
-/
namespace Go.Proofs.YtkfdplfgaddkmaaGreat
namespace Vers
open Go.ChangeShapes Go.WideShapes Go.ChangeAt Go.RowKit Go.Joins Go.Deep Span

theorem cells_ver : Tryz.prog.cellsOf 119 = 5 := by kernel_rfl
theorem bytes_ver : Tryz.prog.bytesOf 119 = 64 := by kernel_rfl
theorem cells_spans : Tryz.prog.cellsOf 117 = 1 := by kernel_rfl
theorem cells_bool : Tryz.prog.cellsOf 4 = 1 := by kernel_rfl
theorem cells_string : Tryz.prog.cellsOf 9 = 1 := by kernel_rfl
theorem cells_int : Tryz.prog.cellsOf 3 = 1 := by kernel_rfl
theorem cells_int64 : Tryz.prog.cellsOf 2 = 1 := by kernel_rfl

section
variable {H : Type} {enc : TypeId × Value → H} {P : Program} {W : World}

def Wt (P : Program) (t : TypeId) (d : DataW H) : Prop := ∀ x ∈ d.weights P t, x ≤ 140737488351232
theorem wt_arg {ts : List TypeId} {ds : List (DataW H)} {j : Nat} {t : TypeId} {d : DataW H} (h : (DataW.weightsEach P ts ds).all (· ≤ reachBytes) = true) (ht : ts[j]? = some t) (hd : ds[j]? = some d) : Wt P t d := fun x hx => by
 have h1 := List.all_eq_true.1 h x (DataW.weights_mem_each ht hd x hx)
 have h3 : reachBytes = 140737488351232 := by decide
 simpa [h3] using h1
theorem wt_all {e : TypeId} : ∀ {l : List (DataW H)}, (∀ x ∈ DataW.weightsAll P e l, x ≤ 140737488351232) → ∀ d ∈ l, Wt P e d
 | [], _, d, hd => by simp at hd
 | y :: l, h, d, hd => by
  simp only [DataW.weightsAll, List.mem_append] at h
  rcases List.mem_cons.1 hd with rfl | hd
  ·exact fun x hx => h x (.inl hx)
  ·exact wt_all (fun x hx => h x (.inr hx)) d hd
theorem wt_slice {t e : TypeId} {el sp : List (DataW H)} (ht : P.underlying t = some (.slice e)) (h : Wt P t (.slice el sp)) : (el.length + sp.length) * P.bytesOf e ≤ 140737488351232 ∧ ∀ d ∈ el, Wt P e d := by
 unfold Wt at h
 simp only [DataW.weights, ht, List.mem_cons, List.mem_append] at h
 exact ⟨h _ (.inl rfl), wt_all fun x hx => h x (.inr (.inl hx))⟩
theorem wt_string {t : TypeId} {b : List UInt8} (h : Wt P t (.lit (.string b) : DataW H)) : b.length ≤ 140737488351232 := by
 unfold Wt at h
 simp only [DataW.weights, List.mem_cons, List.not_mem_nil, or_false, forall_eq] at h
 exact h
theorem wt_each : ∀ {ts : List TypeId} {ds : List (DataW H)}, (∀ x ∈ DataW.weightsEach P ts ds, x ≤ 140737488351232) → ∀ (j : Nat) t d, ts[j]? = some t → ds[j]? = some d → Wt P t d
 | [], _, _, _, _, _, ht, _ => by simp at ht
 | _ :: _, [], _, _, _, _, _, hd => by simp at hd
 | t0 :: ts, d0 :: ds, h, j, t, d, ht, hd => by
  simp only [DataW.weightsEach, List.mem_append] at h
  rcases j with _ | j
  ·simp only [List.getElem?_cons_zero, Option.some.injEq] at ht hd
   subst ht hd
   exact fun x hx => h x (.inl hx)
  ·simp only [List.getElem?_cons_succ] at ht hd
   exact wt_each (fun x hx => h x (.inr hx)) j t d ht hd
theorem wt_struct {t : TypeId} {fs : Array Field} {parts : List (DataW H)} (ht : P.underlying t = some (.struct fs)) (h : Wt P t (.agg parts)) : ∀ (j : Nat) u d, (fs.toList.map (·.type))[j]? = some u → parts[j]? = some d → Wt P u d := by
 unfold Wt at h
 simp only [DataW.weights, ht] at h
 exact wt_each h

end

section
variable {H : Type} {enc : TypeId × Value → H} {W : World}
set_option maxRecDepth 100000 in
theorem past_at {n : Nat} {cs : List Value} {D : DataW H} {Pl : List MemPlace} (h : DataW.trod enc Tryz.prog W 0 (fun _ => true) true n 117 cs = some (D, Pl)) (hw : Wt Tryz.prog 117 D) :
  ∃ (A : Option Addr) (c : Nat) (l : List Sp), cs = [.slice A l.length c] ∧ Ss W W.heap.size A l ∧ l.length ≤ c ∧ l.length * 24 ≤ 140737488351232 := by
 have hf : DataW.Trod enc Tryz.prog W 0 (fun _ => true) true 117 (cs.headD (.slice none 0 0)) D Pl := by
  rcases open_slice Tryz.underlying117 h with ⟨rfl, hx⟩ | ⟨a, len, cap, m, n', D', Pl', rfl, _⟩
  ·exact ⟨n, h⟩
  ·exact ⟨n, h⟩
 have hcs : ∃ A len c, cs = [.slice A len c] := by
  rcases open_slice Tryz.underlying117 h with ⟨rfl, hx⟩ | ⟨a, len, cap, m, n', D', Pl', rfl, _⟩
  ·exact ⟨_, _, _, rfl⟩
  ·exact ⟨_, _, _, rfl⟩
 obtain ⟨A, len, c, rfl⟩ := hcs
 obtain ⟨fuel, hf⟩ := hf
 simp only [List.headD_cons, Value.cells] at hf
 rcases open_slice Tryz.underlying117 hf with ⟨he, hx⟩ | ⟨a, len', cap', m, n', D', Pl', he, _, hl, hm, hmm, hx, hi⟩
 ·simp at he
  obtain ⟨rfl, rfl, rfl⟩ := he
  exact ⟨none, 0, [], rfl, Ss.nil _, by simp, by simp⟩
 ·simp at he
  obtain ⟨rfl, rfl, rfl⟩ := he
  simp only [Prod.mk.injEq] at hx
  simp only [if_true] at hmm
  subst hmm
  have hwt := wt_slice Tryz.underlying117 (hx.1 ▸ hw)
  rw [bytes_span] at hwt
  have hz : ∀ i, i < len → ∃ z : Sp, W.cell? (a.add (i * 3)) = some (.int .i64 z.1) ∧ W.cell? (a.add (i * 3 + 1)) = some (.int .i64 z.2.1) ∧ W.cell? (a.add (i * 3 + 2)) = some (.int .i64 z.2.2) := by
   intro i hil
   obtain ⟨cs', hc, ht'⟩ := hi i (by omega)
   rw [cells_span] at hc
   obtain ⟨_, hcl, hat⟩ := World.cells?_some hc
   obtain ⟨z, z0, z1, z2⟩ := span_at Tryz.underlying121 (by kernel_rfl) Tryz.underlying3 Tryz.underlying2 Tryz.underlying2 ht'
   have q0 := (hat 0 (by omega)).trans z0
   have q1 := (hat 1 (by omega)).trans z1
   have q2 := (hat 2 (by omega)).trans z2
   rw [Go.Deep.add_add] at q0 q1 q2
   exact ⟨z, q0, q1, q2⟩
  obtain ⟨f, hfz⟩ : ∃ f : Nat → Sp, ∀ i, i < len → W.cell? (a.add (i * 3)) = some (.int .i64 (f i).1) ∧ W.cell? (a.add (i * 3 + 1)) = some (.int .i64 (f i).2.1) ∧ W.cell? (a.add (i * 3 + 2)) = some (.int .i64 (f i).2.2) :=
   ⟨fun i => if h : i < len then (hz i h).choose else (0, 0, 0), fun i h => by simp only [dif_pos h]; exact (hz i h).choose_spec⟩
  have hlen : ((List.range len).map f).length = len := by simp
  refine ⟨some a, _, (List.range len).map f, by rw [hlen], fun hp => ?_, by rw [hlen]; exact hl, by rw [hlen]; have := hwt.1; simp at this; omega⟩
  rw [hlen] at hp
  obtain ⟨b, off, spot⟩ := a
  have hspot : spot = none := by simpa [Addr.add] using World.cell?_spot (hfz 0 hp).1
  subst hspot
  have hadd : ∀ k, (⟨b, off, none⟩ : Addr).add k = ⟨b, off + k, none⟩ := Go.WideShapes.add_plain b off
  have h0 := (hfz 0 hp).1
  refine ⟨b, off, rfl, by have := World.block_lt_of_cell? W _ h0; rwa [hadd] at this, fun j hj => ?_⟩
  rw [hlen] at hj
  have hg : ((List.range len).map f).getD j (0, 0, 0) = f j := by simp [List.getD_eq_getElem?_getD, hj]
  rw [hg]
  obtain ⟨c0, c1, c2⟩ := hfz j hj
  rw [hadd] at c0 c1 c2
  exact ⟨c0, by rw [Nat.add_assoc]; exact c1, by rw [Nat.add_assoc]; exact c2⟩

set_option maxRecDepth 100000 in
theorem ver_at {n : Nat} {cs : List Value} {D : DataW H} {Pl : List MemPlace} (h : DataW.trod enc Tryz.prog W 0 (fun _ => true) true n 119 cs = some (D, Pl)) (hw : Wt Tryz.prog 119 D) :
  ∃ (v : Vr) (A : Option Addr) (c : Nat), cs = [.int .i64 v.s, .int .i64 v.n, .slice A v.past.length c, .bool v.gone, .string v.val] ∧ Pa W 0 W.heap.size A c v ∧ v.past.length * 24 ≤ 140737488351232 ∧ v.val.size ≤ 140737488351232 ∧
   (Lit.int .i64 v.s).wf = true ∧ (Lit.int .i64 v.n).wf = true := by
 obtain ⟨y0, y1, y2, y3, m, hx, hl, h0, h1, h2, h3⟩ := trod_struct4 Tryz.underlying119 h
 obtain ⟨z0, z1, m', hx', _, g0, g1⟩ := trod_struct2 Tryz.underlying116 h0
 rw [cells_ver] at hl
 match cs, hl with
 | [q0, q1, q2, q3, q4], _ =>
  simp only [cells_dot, cells_spans, cells_bool, cells_string, cells_int, cells_int64, List.drop_zero, List.take_succ_cons, List.take_zero, List.drop_succ_cons] at h1 h2 h3 g0 g1
  obtain ⟨s, e0, _, w0⟩ := DataW.trod_int Tryz.underlying3 g0
  obtain ⟨vn, e1, _, w1⟩ := DataW.trod_int Tryz.underlying2 g1
  obtain ⟨g, e3, _⟩ := DataW.trod_bool Tryz.underlying4 h2
  obtain ⟨x, e4, x4, hxl⟩ := DataW.trod_string Tryz.underlying9 h3
  simp only [Prod.mk.injEq] at hx
  have hww := wt_struct Tryz.underlying119 (hx.1 ▸ hw)
  obtain ⟨A, c, l, e2, hs, hlc, hlw⟩ := past_at (D := y1.1) (Pl := y1.2) h1 (hww 1 117 y1.1 rfl rfl)
  have hv := hww 3 9 y3.1 rfl rfl
  rw [show y3 = (.lit (.string x.data.toList), []) from x4] at hv
  have hvl := wt_string hv
  have hsz : x.data.toList.length = x.size := by rw [Array.length_toList]; rfl
  rw [hsz] at hvl
  simp only [List.cons.injEq, and_true] at e0 e1 e2 e3 e4
  subst e0 e1 e2 e3 e4
  exact ⟨⟨s, vn, l, g, x⟩, A, c, rfl, ⟨hs, hlc, by simp only; omega, by simp only; omega, fun _ _ _ => Nat.zero_le _⟩, hlw, hvl, w0, w1⟩

end
end Vers
end Go.Proofs.YtkfdplfgaddkmaaGreat

/-
 A slice by its cell, among the data of a law's arguments: its elements by a reading of one element's cells.
-/
namespace Go.Proofs.YtkfdplfgaddkmaaGreat
namespace Vers
open Go.ChangeShapes Go.WideShapes Go.ChangeAt Go.RowKit Go.Joins Go.Deep Span

section
variable {H : Type} {enc : TypeId × Value → H} {P : Program} {W : World}
set_option maxRecDepth 100000 in
theorem slice_at {t e : TypeId} (ht : P.underlying t = some (.slice e)) {n : Nat} {cs : List Value} {D : DataW H} {Pl : List MemPlace} (h : DataW.trod enc P W 0 (fun _ => true) true n t cs = some (D, Pl)) (hw : Wt P t D)
  {size bytes : Nat} (hs : P.cellsOf e = size) (hb : P.bytesOf e = bytes) (h1 : 0 < size) {α : Type} (val : α → List Value) (Q : α → Prop) (d : α) (hlen : ∀ x, (val x).length = size)
  (hel : ∀ n cs (D : DataW H) Pl, DataW.trod enc P W 0 (fun _ => true) true n e cs = some (D, Pl) → Wt P e D → ∃ x, cs = val x ∧ Q x) :
  ∃ (A : Option Addr) (c : Nat) (l : List α), cs = [.slice A l.length c] ∧ l.length ≤ c ∧ l.length * bytes ≤ 140737488351232 ∧ (∀ x ∈ l, Q x) ∧
   (0 < l.length → ∃ b off, A = some ⟨b, off, none⟩ ∧ b < W.heap.size ∧ ∀ j, j < l.length → ∀ r u, (val (l.getD j d))[r]? = some u → W.cell? ⟨b, off + j * size + r, none⟩ = some u) := by
 rcases open_slice ht h with ⟨rfl, hx⟩ | ⟨a, len, cap, m, n', D', Pl', rfl, _, hl, hm, hmm, hx, hi⟩
 ·exact ⟨none, 0, [], rfl, by simp, by simp, by simp, fun h => absurd h (by simp)⟩
 ·simp only [Prod.mk.injEq] at hx
  simp only [if_true] at hmm
  subst hmm
  have hwt := wt_slice ht (hx.1 ▸ hw)
  rw [hb] at hwt
  have hz : ∀ i, i < len → ∃ x : α, (∀ j u, (val x)[j]? = some u → W.cell? (a.add (i * size + j)) = some u) ∧ Q x := by
   intro i hil
   obtain ⟨cs', hc, ht'⟩ := hi i (by omega)
   rw [hs] at hc
   obtain ⟨_, hcl, hat⟩ := World.cells?_some hc
   obtain ⟨x, hcs', hq⟩ := hel _ _ _ _ ht' (hwt.2 (D' i) (List.mem_map.2 ⟨i, List.mem_range.2 hil, rfl⟩))
   subst hcs'
   refine ⟨x, fun j u hj => ?_, hq⟩
   have hj5 : j < size := by
    rcases Nat.lt_or_ge j size with h | h
    ·exact h
    ·rw [List.getElem?_eq_none (by rw [hlen]; exact h)] at hj; cases hj
   have q := (hat j hj5).trans hj
   rwa [Go.Deep.add_add] at q
  obtain ⟨f, hfz⟩ : ∃ f : Nat → α, ∀ i, i < len → (∀ j u, (val (f i))[j]? = some u → W.cell? (a.add (i * size + j)) = some u) ∧ Q (f i) :=
   ⟨fun i => if h : i < len then (hz i h).choose else d, fun i h => by simp only [dif_pos h]; exact (hz i h).choose_spec⟩
  have hll : ((List.range len).map f).length = len := by simp
  refine ⟨some a, _, (List.range len).map f, by rw [hll], by rw [hll]; exact hl, by rw [hll]; have := hwt.1; simp only [List.length_map, List.length_range] at this; exact Nat.le_trans (Nat.mul_le_mul_right _ (by omega)) this, fun x hx => ?_, fun hp => ?_⟩
  ·obtain ⟨i, hi', rfl⟩ := List.mem_map.1 hx
   exact (hfz i (List.mem_range.1 hi')).2
  ·rw [hll] at hp
   obtain ⟨b, off, spot⟩ := a
   obtain ⟨u0, hu0⟩ : ∃ u, (val (f 0))[0]? = some u := ⟨_, List.getElem?_eq_getElem (by rw [hlen]; exact h1)⟩
   have h0 := (hfz 0 hp).1 0 u0 hu0
   have hspot : spot = none := by simpa [Addr.add] using World.cell?_spot h0
   subst hspot
   have hadd : ∀ k, (⟨b, off, none⟩ : Addr).add k = ⟨b, off + k, none⟩ := Go.WideShapes.add_plain b off
   refine ⟨b, off, rfl, by have := World.block_lt_of_cell? W _ h0; rwa [hadd] at this, fun j hj r u hu => ?_⟩
   rw [hll] at hj
   have hg : ((List.range len).map f).getD j d = f j := by simp [List.getD_eq_getElem?_getD, hj]
   rw [hg] at hu
   have h := (hfz j hj).1 r u hu
   rw [hadd] at h
   rw [Nat.add_assoc]
   exact h
end
end Vers
end Go.Proofs.YtkfdplfgaddkmaaGreat

/-
 What the data of a law's arguments weigh: each string and each slice within them is within the reach.
-/
namespace Go.Proofs.YtkfdplfgaddkmaaGreat
namespace Wgt
open Go.ChangeShapes Go.WideShapes Go.ChangeAt Go.RowKit

section
variable {H : Type} {P : Program}

def Wt (P : Program) (t : TypeId) (d : DataW H) : Prop := ∀ x ∈ d.weights P t, x ≤ 140737488351232
theorem wt_arg {ts : List TypeId} {ds : List (DataW H)} {j : Nat} {t : TypeId} {d : DataW H} (h : (DataW.weightsEach P ts ds).all (· ≤ reachBytes) = true) (ht : ts[j]? = some t) (hd : ds[j]? = some d) : Wt P t d := fun x hx => by
 have h1 := List.all_eq_true.1 h x (DataW.weights_mem_each ht hd x hx)
 have h3 : reachBytes = 140737488351232 := by decide
 simpa [h3] using h1
theorem wt_all {e : TypeId} : ∀ {l : List (DataW H)}, (∀ x ∈ DataW.weightsAll P e l, x ≤ 140737488351232) → ∀ d ∈ l, Wt P e d
 | [], _, d, hd => by simp at hd
 | y :: l, h, d, hd => by
  simp only [DataW.weightsAll, List.mem_append] at h
  rcases List.mem_cons.1 hd with rfl | hd
  ·exact fun x hx => h x (.inl hx)
  ·exact wt_all (fun x hx => h x (.inr hx)) d hd
theorem wt_slice {t e : TypeId} {el sp : List (DataW H)} (ht : P.underlying t = some (.slice e)) (h : Wt P t (.slice el sp)) : (el.length + sp.length) * P.bytesOf e ≤ 140737488351232 ∧ ∀ d ∈ el, Wt P e d := by
 unfold Wt at h
 simp only [DataW.weights, ht, List.mem_cons, List.mem_append] at h
 exact ⟨h _ (.inl rfl), wt_all fun x hx => h x (.inr (.inl hx))⟩
theorem wt_string {t : TypeId} {b : List UInt8} (h : Wt P t (.lit (.string b) : DataW H)) : b.length ≤ 140737488351232 := by
 unfold Wt at h
 simp only [DataW.weights, List.mem_cons, List.not_mem_nil, or_false, forall_eq] at h
 exact h
theorem wt_each : ∀ {ts : List TypeId} {ds : List (DataW H)}, (∀ x ∈ DataW.weightsEach P ts ds, x ≤ 140737488351232) → ∀ (j : Nat) t d, ts[j]? = some t → ds[j]? = some d → Wt P t d
 | [], _, _, _, _, _, ht, _ => by simp at ht
 | _ :: _, [], _, _, _, _, _, hd => by simp at hd
 | t0 :: ts, d0 :: ds, h, j, t, d, ht, hd => by
  simp only [DataW.weightsEach, List.mem_append] at h
  rcases j with _ | j
  ·simp only [List.getElem?_cons_zero, Option.some.injEq] at ht hd
   subst ht hd
   exact fun x hx => h x (.inl hx)
  ·simp only [List.getElem?_cons_succ] at ht hd
   exact wt_each (fun x hx => h x (.inr hx)) j t d ht hd
theorem wt_struct {t : TypeId} {fs : Array Field} {parts : List (DataW H)} (ht : P.underlying t = some (.struct fs)) (h : Wt P t (.agg parts)) : ∀ (j : Nat) u d, (fs.toList.map (·.type))[j]? = some u → parts[j]? = some d → Wt P u d := by
 unfold Wt at h
 simp only [DataW.weights, ht] at h
 exact wt_each h
end
end Wgt
end Go.Proofs.YtkfdplfgaddkmaaGreat
