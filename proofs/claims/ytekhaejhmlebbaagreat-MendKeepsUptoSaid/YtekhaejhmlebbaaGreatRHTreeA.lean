/-
 Several texts of this family in one: TreePlain, TreeOnce, TreeCopy, TreeMap, TreeSmall, TreeMark.
-/
import Derived.Test.YtekhaejhmlebbaaGreatRGPut
import Derived.Test.YtekhaejhmlebbaaGreatRGBase
import Derived.Tactics
import Derived.Tactics2
import Derived.Defers
import Derived.Laws.Pointers
import Derived.Laws.LoneSync
import Derived.RegionTactic
import Derived.RegionCalls
import Derived.ChangeAlike
import Derived.Test.YtekhaejhmlebbaaGreatRGFill
import Derived.Maps.OwnSet
import Derived.Maps.OwnOps
import Derived.Maps.RangeWalk
import Derived.StringKeys
import Derived.Test.YtekhaejhmlebbaaGreatRGCode
import Derived.Deep.RegionHeld3
import Derived.Laws.IdiomStrings
import Derived.Laws.BitsAllLaws
/-
 Plain words of layer 11: a tree is its records; a place's hash is made of what is beneath it.
-/
namespace Go.Proofs.YtekhaejhmlebbaaGreat
namespace Tree
open Vers Num Ring Disk Go.Proofs.YtekhaejhmlebbaaGreat.Code

def keyH (k : Nm) : Int := hashL (strNums k)
def dig0 (k : Nm) : Int := keyH k / 1152921504606846976
def dig1 (k : Nm) : Int := keyH k / 72057594037927936 % 16
theorem dig0_range (k : Nm) : 0 ≤ dig0 k ∧ dig0 k < 16 := by
 have h := hash_range (strNums k)
 unfold U at h
 unfold dig0 keyH
 omega
theorem dig1_range (k : Nm) : 0 ≤ dig1 k ∧ dig1 k < 16 := by unfold dig1; omega
def leafN (k : Nm) : Nat := (dig0 k * 16 + dig1 k).toNat
theorem leaf_lt (k : Nm) : leafN k < 256 := by
 have h0 := dig0_range k
 have h1 := dig1_range k
 unfold leafN
 omega
def inP : List Int → Nm → Bool
 | [], _ => true
 | [p], k => decide (dig0 k = p)
 | p :: q :: _, k => decide (dig0 k = p) && decide (dig1 k = q)
def okP (p : List Int) : Prop := (∀ d ∈ p, 0 ≤ d ∧ d < 16) ∧ p.length ≤ 2
instance (p : List Int) : Decidable (okP p) := by unfold okP; infer_instance
def beneath (all : List Rc) (p : List Int) : List Rc := all.filter fun r => inP p r.1
def leafR (all : List Rc) (i : Nat) : List Rc := all.filter fun r => decide (leafN r.1 = i)
def halves (h : Int) : List Int := putL (h / 4294967296) ++ putL (h % 4294967296)
def dotL (v : Vr) : List Int := putL v.s ++ putL v.n
def markL (r : Rc) : List Int := textL r.1 ++ r.2.flatMap dotL
def markF (r : Rc) : Int := hashL (markL r)
def leafT (l : List Rc) : List Int := l.flatMap fun r => halves (markF r)
def kidsT (f : Nat → Int) (n : Nat) : List Int := (List.range n).flatMap fun d => halves (f d)
def hF : Nat → List Rc → List Int → Int
 | 0, all, p => if beneath all p = [] then 0 else hashL (leafT (beneath all p))
 | k + 1, all, p => if beneath all p = [] then 0 else hashL (kidsT (fun d => hF k all (p ++ [(d : Int)])) 16)
def hashF (all : List Rc) (p : List Int) : Int := if okP p then hF (2 - p.length) all p else 0
def kidsF (all : List Rc) (p : List Int) : List Int := if okP p ∧ p.length < 2 then (List.range 16).map fun (d : Nat) => hashF all (p ++ [(d : Int)]) else []
def recsF (all : List Rc) (p : List Int) : List Rc := if okP p then beneath all p else []
def withR (all : List Rc) (r : Rc) : List Rc := if r.2 = [] then wout all r.1 else wit all r.1 r.2
def diffF (a b : List Int) : List Int := ((List.range 16).filter fun (i : Nat) => !decide (a.getD i 0 = b.getD i 0)).map fun (i : Nat) => (i : Int)

theorem hF_range (k : Nat) (all : List Rc) (p : List Int) : U (hF k all p) := by
 cases k <;> unfold hF <;> split
 ·unfold U; omega
 ·exact hash_range _
 ·unfold U; omega
 ·exact hash_range _
theorem halves_bytes {h : Int} (hh : U h) : ∀ z ∈ halves h, 0 ≤ z ∧ z ≤ 255 := by
 unfold U at hh
 intro z hz
 rcases List.mem_append.1 hz with hz | hz
 ·exact putL_bytes _ (by omega) z hz
 ·exact putL_bytes _ (by omega) z hz
theorem putF_len5 (k : Nat) (n : Int) (h0 : 0 ≤ n) (h : n < 4294967296) : (putF k n).length ≤ 5 := by
 rcases k with _ | k
 ·simp [putF]
 by_cases h1 : n < 128
 ·rw [putF_last _ _ h1]; simp
 rw [putF_more _ _ (by omega), List.length_cons]
 rcases k with _ | k
 ·simp [putF]
 by_cases h2 : n / 128 < 128
 ·rw [putF_last _ _ h2]; simp
 rw [putF_more _ _ (by omega), List.length_cons]
 rcases k with _ | k
 ·simp [putF]
 by_cases h3 : n / 128 / 128 < 128
 ·rw [putF_last _ _ h3]; simp
 rw [putF_more _ _ (by omega), List.length_cons]
 rcases k with _ | k
 ·simp [putF]
 by_cases h4 : n / 128 / 128 / 128 < 128
 ·rw [putF_last _ _ h4]; simp
 rw [putF_more _ _ (by omega), List.length_cons]
 rcases k with _ | k
 ·simp [putF]
 rw [putF_last _ _ (by omega)]; simp
theorem halves_len10 {h : Int} (hh : U h) : (halves h).length ≤ 10 := by
 unfold U at hh
 have h1 := putF_len5 9 (h / 4294967296) (by omega) (by omega)
 have h2 := putF_len5 9 (h % 4294967296) (by omega) (by omega)
 unfold halves putL
 rw [List.length_append]
 omega
theorem flat_bytes {α : Type} (f : α → List Int) (l : List α) (h : ∀ x ∈ l, ∀ z ∈ f x, 0 ≤ z ∧ z ≤ 255) : ∀ z ∈ l.flatMap f, 0 ≤ z ∧ z ≤ 255 := by
 intro z hz
 obtain ⟨x, hx, hz⟩ := List.mem_flatMap.1 hz
 exact h x hx z hz
theorem leafT_bytes (l : List Rc) : ∀ z ∈ leafT l, 0 ≤ z ∧ z ≤ 255 := flat_bytes _ l fun _ _ => halves_bytes (hash_range _)
theorem kidsT_bytes (f : Nat → Int) (n : Nat) (h : ∀ d, U (f d)) : ∀ z ∈ kidsT f n, 0 ≤ z ∧ z ≤ 255 := flat_bytes _ _ fun _ _ => halves_bytes (h _)
theorem kidsT_succ (f : Nat → Int) (n : Nat) : kidsT f (n + 1) = kidsT f n ++ halves (f n) := by simp [kidsT, List.range_succ]

/-! ### The records, beneath paths and in leaves -/
def fromN : List Int → Nat
 | [] => 0
 | [p] => (p * 16).toNat
 | p :: q :: _ => (p * 16 + q).toNat
def toN : List Int → Nat
 | [] => 256
 | [p] => ((p + 1) * 16).toNat
 | p :: q :: _ => (p * 16 + q + 1).toNat
def spotN : List Int → Nat
 | [] => 0
 | [p] => (1 + p).toNat
 | p :: q :: _ => (17 + p * 16 + q).toNat
theorem ok_zero : okP [] := by decide
theorem ok_one {p : Int} : okP [p] ↔ 0 ≤ p ∧ p < 16 := by simp [okP]
theorem ok_two {p q : Int} : okP [p, q] ↔ (0 ≤ p ∧ p < 16) ∧ 0 ≤ q ∧ q < 16 := by simp [okP]
theorem ok_cases {p : List Int} (h : okP p) : p = [] ∨ (∃ a, p = [a] ∧ 0 ≤ a ∧ a < 16) ∨ ∃ a b, p = [a, b] ∧ (0 ≤ a ∧ a < 16) ∧ 0 ≤ b ∧ b < 16 := by
 match p, h with
 | [], _ => exact .inl rfl
 | [a], h => exact .inr (.inl ⟨a, rfl, ok_one.1 h⟩)
 | [a, b], h => exact .inr (.inr ⟨a, b, rfl, ok_two.1 h⟩)
 | _ :: _ :: _ :: _, h => exact absurd h.2 (by simp)
theorem spot_lt {p : List Int} (h : okP p) : spotN p < 273 := by
 rcases ok_cases h with rfl | ⟨a, rfl, ha⟩ | ⟨a, b, rfl, ha, hb⟩
 ·simp [spotN]
 ·simp only [spotN]; omega
 ·simp only [spotN]; omega
theorem spot_inj {p q : List Int} (h : okP p) (h' : okP q) (e : spotN p = spotN q) : p = q := by
 rcases ok_cases h with rfl | ⟨a, rfl, ha⟩ | ⟨a, b, rfl, ha, hb⟩
 ·rcases ok_cases h' with rfl | ⟨c, rfl, hc⟩ | ⟨c, d, rfl, hc, hd⟩
  ·rfl
  ·simp only [spotN] at e; omega
  ·simp only [spotN] at e; omega
 ·rcases ok_cases h' with rfl | ⟨c, rfl, hc⟩ | ⟨c, d, rfl, hc, hd⟩
  ·simp only [spotN] at e; omega
  ·simp only [spotN] at e
   have : a = c := by omega
   rw [this]
  ·simp only [spotN] at e; omega
 ·rcases ok_cases h' with rfl | ⟨c, rfl, hc⟩ | ⟨c, d, rfl, hc, hd⟩
  ·simp only [spotN] at e; omega
  ·simp only [spotN] at e; omega
  ·simp only [spotN] at e
   have h1 : a = c := by omega
   have h2 : b = d := by omega
   rw [h1, h2]
theorem ok_longer {p : List Int} (h : okP p) (hl : p.length < 2) {d : Nat} (hd : d < 16) : okP (p ++ [(d : Int)]) := by
 refine ⟨fun x hx => ?_, by simp; omega⟩
 rcases List.mem_append.1 hx with hx | hx
 ·exact h.1 x hx
 ·simp at hx; omega
theorem in_leaf {p : List Int} (h : okP p) (k : Nm) : inP p k = true ↔ fromN p ≤ leafN k ∧ leafN k < toN p := by
 have h0 := dig0_range k
 have h1 := dig1_range k
 have hl := leaf_lt k
 rcases ok_cases h with rfl | ⟨a, rfl, ha⟩ | ⟨a, b, rfl, ha, hb⟩
 ·simp [inP, fromN, toN]; exact hl
 ·simp only [inP, fromN, toN, leafN, decide_eq_true_eq]
  omega
 ·simp only [inP, fromN, toN, leafN, Bool.and_eq_true, decide_eq_true_eq]
  omega
theorem from_lt {p : List Int} (h : okP p) : fromN p < toN p ∧ toN p ≤ 256 := by
 rcases ok_cases h with rfl | ⟨a, rfl, ha⟩ | ⟨a, b, rfl, ha, hb⟩
 ·simp [fromN, toN]
 ·simp only [fromN, toN]; omega
 ·simp only [fromN, toN]; omega
theorem beneath_nil (all : List Rc) : beneath all [] = all := List.filter_eq_self.2 fun _ _ => rfl
theorem beneath_mem {all : List Rc} {p : List Int} {r : Rc} : r ∈ beneath all p ↔ r ∈ all ∧ inP p r.1 = true := by simp [beneath]
theorem leaf_mem {all : List Rc} {i : Nat} {r : Rc} : r ∈ leafR all i ↔ r ∈ all ∧ leafN r.1 = i := by simp [leafR]
theorem beneath_srt {all : List Rc} (h : Srt all) (p : List Int) : Srt (beneath all p) := List.Pairwise.filter _ h
theorem leaf_srt {all : List Rc} (h : Srt all) (i : Nat) : Srt (leafR all i) := List.Pairwise.filter _ h
theorem beneath_len (all : List Rc) (p : List Int) : (beneath all p).length ≤ all.length := List.length_filter_le _ _
theorem srt_mem {β : Type} {l m : List (Nm × β)} (hl : Srt l) (hm : Srt m) (h : ∀ x, x ∈ l ↔ x ∈ m) : l = m := by
 refine srt_ext hl hm fun s => ?_
 cases hf : find l s with
 | none =>
  refine Eq.symm (find_none.2 fun x hx => ?_)
  exact find_none.1 hf x ((h x).2 hx)
 | some b =>
  have h1 := (h _).1 (find_some hf)
  exact (find_mem hm h1).symm
theorem with_mem {all : List Rc} {r x : Rc} : x ∈ withR all r ↔ (x = r ∧ r.2 ≠ []) ∨ (x ∈ all ∧ x.1 ≠ r.1) := by
 unfold withR
 by_cases h : r.2 = []
 ·rw [if_pos h, mem_wout]
  simp [h]
 ·rw [if_neg h, mem_wit]
  simp [h]
theorem with_srt {all : List Rc} (h : Srt all) (r : Rc) : Srt (withR all r) := by
 unfold withR
 split
 ·exact h.wout _
 ·exact h.wit _ _
theorem wout_len {β : Type} (l : List (Nm × β)) (s : Nm) : (wout l s).length ≤ l.length := List.length_filter_le _ _
theorem ins_len {β : Type} (l : List (Nm × β)) (s : Nm) (b : β) : (ins l s b).length = l.length + 1 := by
 induction l with
 | nil => rfl
 | cons y l ih =>
  unfold ins
  split
  ·rfl
  ·simp only [List.length_cons, ih]
theorem with_len (all : List Rc) (r : Rc) : (withR all r).length ≤ all.length + 1 := by
 unfold withR
 split
 ·have := wout_len all r.1; omega
 ·rw [wit, ins_len]; have := wout_len all r.1; omega
theorem leaf_with_ne {all : List Rc} (hs : Srt all) (r : Rc) {i : Nat} (hi : i ≠ leafN r.1) : leafR (withR all r) i = leafR all i := by
 refine srt_mem (leaf_srt (with_srt hs r) i) (leaf_srt hs i) fun x => ?_
 rw [leaf_mem, leaf_mem, with_mem]
 constructor
 ·rintro ⟨⟨rfl, _⟩ | ⟨h1, _⟩, h2⟩
  ·exact absurd h2.symm hi
  ·exact ⟨h1, h2⟩
 ·rintro ⟨h1, h2⟩
  exact ⟨.inr ⟨h1, fun e => hi (by rw [← h2, e])⟩, h2⟩
theorem leaf_with_eq {all : List Rc} (hs : Srt all) (r : Rc) : leafR (withR all r) (leafN r.1) = withR (leafR all (leafN r.1)) r := by
 refine srt_mem (leaf_srt (with_srt hs r) _) (with_srt (leaf_srt hs _) r) fun x => ?_
 rw [leaf_mem, with_mem, with_mem, leaf_mem]
 constructor
 ·rintro ⟨⟨rfl, h⟩ | ⟨h1, h3⟩, h2⟩
  ·exact .inl ⟨rfl, h⟩
  ·exact .inr ⟨⟨h1, h2⟩, h3⟩
 ·rintro (⟨rfl, h⟩ | ⟨⟨h1, h2⟩, h3⟩)
  ·exact ⟨.inl ⟨rfl, h⟩, rfl⟩
  ·exact ⟨.inr ⟨h1, h3⟩, h2⟩
theorem beneath_beneath (all : List Rc) (p : List Int) (hp : okP p) (d : Int) : beneath (beneath all p) (p ++ [d]) = beneath all (p ++ [d]) ∨ 2 ≤ p.length := by
 rcases ok_cases hp with rfl | ⟨a, rfl, _⟩ | ⟨a, b, rfl, _, _⟩
 ·left
  rw [beneath_nil]
 ·left
  unfold beneath
  rw [List.filter_filter]
  congr 1
  funext r
  simp only [inP, List.cons_append, List.nil_append]
  by_cases h : dig0 r.1 = a
  ·simp [h]
  ·simp [h]
 ·right
  simp
theorem hF_congr : ∀ (k : Nat) (all all' : List Rc) (p : List Int), okP p → p.length + k = 2 → beneath all p = beneath all' p → hF k all p = hF k all' p
 | 0, all, all', p, _, _, h => by unfold hF; rw [h]
 | k + 1, all, all', p, hp, hk, h => by
  unfold hF
  rw [h]
  split
  ·rfl
  ·congr 1
   unfold kidsT
   congr 1
   funext d
   congr 1
   by_cases hd : d < 16
   ·refine hF_congr k all all' _ (ok_longer hp (by omega) hd) (by simp; omega) ?_
    have h1 := (beneath_beneath all p hp d).resolve_right (by omega)
    have h2 := (beneath_beneath all' p hp d).resolve_right (by omega)
    rw [← h1, ← h2, h]
   ·have hn : ∀ a : List Rc, beneath a (p ++ [(d : Int)]) = [] := fun a => by
     refine List.filter_eq_nil_iff.2 fun r _ => ?_
     have h0 := dig0_range r.1
     have h1 := dig1_range r.1
     rcases ok_cases hp with rfl | ⟨x, rfl, _⟩ | ⟨x, y, rfl, _, _⟩
     ·simp [inP]; omega
     ·simp [inP]; intro _; omega
     ·simp at hk
    cases k <;> unfold hF <;> simp only [hn, if_true]
end Tree
end Go.Proofs.YtekhaejhmlebbaaGreat

/-
 sync.Once in one goroutine: what is done once by a closure, whatever the closure does, if it leaves the Once itself alone.
-/
namespace Go.Proofs.YtekhaejhmlebbaaGreat
namespace Once
open Go.RowKit Blk

theorem disable (w : World) : (callFunc 150 #[]).run Tryz.prog w = .ok (.value (.tuple #[])) w := run_call_mark0 Tryz.func150 (by kernel_rfl) (by kernel_rfl) (by kernel_rfl) .disable (by kernel_rfl) w
theorem enable (w : World) : (callFunc 152 #[]).run Tryz.prog w = .ok (.value (.tuple #[])) w := run_call_mark0 Tryz.func152 (by kernel_rfl) (by kernel_rfl) (by kernel_rfl) .enable (by kernel_rfl) w
theorem acquire (a : Addr) (w : World) : (callFunc 153 #[.pointer (some a)]).run Tryz.prog w = .ok (.value (.tuple #[])) w := run_call_marked Tryz.func153 (by kernel_rfl) (by kernel_rfl) (by kernel_rfl) .acquire (by kernel_rfl) a w
theorem releaseMerge (a : Addr) (w : World) : (callFunc 155 #[.pointer (some a)]).run Tryz.prog w = .ok (.value (.tuple #[])) w := run_call_marked Tryz.func155 (by kernel_rfl) (by kernel_rfl) (by kernel_rfl) .releaseMerge (by kernel_rfl) a w

set_option maxRecDepth 100000 in
theorem store_deferred (a : Addr) (x : Value) (u : FrameMode) (w : World) (hc : w.cell? a = some x) (hz : w.frozen? a = false) :
  CallsD Tryz.prog 139 #[.pointer (some a), .bool true] u w fun e u' w' => u' = u ∧ (e = .returned (.tuple #[]) ∧ w' = w.drew.setCell a (.int .u32 1)) := by
 have hc' : w.drew.cell? a = some x := by go_simp
 have hz' : w.drew.frozen? a = false := by go_simp
 have hst := run_call_store (P := Tryz.prog) Tryz.func148 (by kernel_rfl) (by kernel_rfl) (by kernel_rfl) (by kernel_rfl) (k := .u32) (y := 1) hc' hz'
 go_enter_d Tryz.func139, Tryz.ntmps139
 go_wp2
 go_region_calls
 all_goals (go_end0; exact ⟨rfl, rfl⟩)

set_option maxRecDepth 100000 in
theorem unlock_deferred (a : Addr) (u : FrameMode) (w : World) (hc : w.cell? a = some (.int .i32 1)) (hz : w.frozen? a = false) :
  CallsD Tryz.prog 138 #[.pointer (some a)] u w fun e u' w' => u' = u ∧ (e = .returned (.tuple #[]) ∧ w' = w.setCell a (.int .i32 0)) := by
 have hd := disable
 have he := enable
 have hr := releaseMerge
 have hadd := run_call_add (P := Tryz.prog) Tryz.func156 (by kernel_rfl) (by kernel_rfl) (by kernel_rfl) .i32 (by kernel_rfl) (y := -1) (s := 0) hc hz (by simp [go_sem]; rfl)
 have hcv := run_convert_to_unsafe (P := Tryz.prog) (src := 187) (dst := 191) Tryz.underlying187 Tryz.underlying191 (by kernel_rfl) hc
 go_enter_d Tryz.func138, Tryz.ntmps138
 go_wp2
 go_end0
 go_wp2
 go_end0
 exact ⟨rfl, rfl⟩

set_option maxRecDepth 100000 in
theorem lock_free (a : Addr) (w : World) (hc : w.cell? a = some (.int .i32 0)) (hz : w.frozen? a = false) :
  Calls Tryz.prog 137 #[.pointer (some a)] w fun e w' => e = .returned (.tuple #[]) ∧ w' = w.setCell a (.int .i32 1) := by
 have hd := disable
 have he := enable
 have ha := acquire
 have hcas := run_call_cas_hit (P := Tryz.prog) Tryz.func151 (by kernel_rfl) (by kernel_rfl) (by kernel_rfl) .i32 (by kernel_rfl) (y := 1) hc hz
 have hc' : (w.setCell a (.int .i32 1)).cell? a = some (.int .i32 1) := World.cell?_setCell_same w a _ hc
 have hcv := run_convert_to_unsafe (P := Tryz.prog) (src := 187) (dst := 191) Tryz.underlying187 Tryz.underlying191 (by kernel_rfl) hc'
 go_enter Tryz.func137, Tryz.ntmps137
 go_wp2
 first | go_end0 | (simp only [Exit.inBlock, Exit.then]; refine bodyPost_ret (results_none rfl _ _ _) rfl ?_) | refine bodyPost_ret (results_none rfl _ _ _) rfl ?_
 go_wp2
 go_end0
 exact ⟨rfl, rfl⟩

def Held (b off : Nat) (Q : World → Prop) (e : Ending) (w' : World) : Prop :=
 e = .returned (.tuple #[]) ∧ Q w' ∧ w'.cell? ⟨b, off, none⟩ = some (.int .u32 0) ∧ w'.cell? ⟨b, off + 1, none⟩ = some (.int .i32 1) ∧ w'.frozen? ⟨b, off, none⟩ = false ∧ w'.frozen? ⟨b, off + 1, none⟩ = false
def Over (b off : Nat) (Q : World → Prop) (e : Ending) (w' : World) : Prop :=
 e = .returned (.tuple #[]) ∧ ∃ w2, Q w2 ∧ w2.cell? ⟨b, off, none⟩ = some (.int .u32 0) ∧ w2.cell? ⟨b, off + 1, none⟩ = some (.int .i32 1) ∧ w' = (w2.drew.setCell ⟨b, off, none⟩ (.int .u32 1)).setCell ⟨b, off + 1, none⟩ (.int .i32 0)

set_option maxRecDepth 100000 in
set_option maxHeartbeats 1600000 in
theorem slow_any (b off : Nat) (k : FuncId) (caps : Array Value) (Q : World → Prop) (w : World)
  (h0 : w.cell? ⟨b, off, none⟩ = some (.int .u32 0)) (h1 : w.cell? ⟨b, off + 1, none⟩ = some (.int .i32 0)) (f1 : w.frozen? ⟨b, off + 1, none⟩ = false)
  (hen : ∀ W, (callFunc k caps).run Tryz.prog W = .ok (.enter k caps) W)
  (hK : Calls Tryz.prog k caps (w.setCell ⟨b, off + 1, none⟩ (.int .i32 1)) (Held b off Q)) :
  Calls Tryz.prog 120 #[.pointer (some ⟨b, off, none⟩), .func (.func k) #[] caps] w (Over b off Q) := by
 have hl := run_call_load (P := Tryz.prog) Tryz.func136 (by kernel_rfl) (by kernel_rfl) (by kernel_rfl) .u32 (by kernel_rfl) (w := w.setCell ⟨b, off + 1, none⟩ (.int .i32 1)) (a := ⟨b, off, none⟩) (x := 0) ((World.cell?_setCell_other _ ⟨b, off + 1, none⟩ ⟨b, off, none⟩ _ (by simp)).trans h0)
 have hnot : ∀ (x : Bool) (w : World), (Op.unary .not (.bool x)).run Tryz.prog w = .ok (.bool (!x)) w := fun _ _ => rfl
 go_enter_defers Tryz.func120, Tryz.ntmps120
 go_wp2_with (go_at_call 137; refine (lock_free ⟨b, off + 1, none⟩ _ (by go_simp) (by go_simp)).mono ?_; rintro e w' ⟨rfl, rfl⟩)
 go_wp2_with (go_at_call 119; go_in)
 refine Calls.mono hK ?_
 rintro e w2 ⟨rfl, hq, c0, c1, g0, g1⟩
 go_wp2
 -- the door: two deferred calls, the last laid first
 refine leaves_cons (f := 139) (args := #[.pointer (some ⟨b, off, none⟩), .bool true]) (by simp) (by simp [go_sem]) ?_
 refine (store_deferred ⟨b, off, none⟩ (.int .u32 0) .returning _ c0 g0).mono ?_
 rintro e u' w'' ⟨rfl, rfl, rfl⟩
 refine leaves_cons (f := 138) (args := #[.pointer (some ⟨b, off + 1, none⟩)]) (by simp [settle]) (by simp [go_sem]) ?_
 refine (unlock_deferred ⟨b, off + 1, none⟩ _ _ ?_ (by simpa using g1)).mono ?_
 ·refine (World.cell?_setCell_other _ ⟨b, off, none⟩ ⟨b, off + 1, none⟩ _ (by simp)).trans ?_
  rw [World.cell?_drew]
  exact c1
 rintro e u' w'' ⟨rfl, rfl, rfl⟩
 simp [Leaves, settle, results, Tryz.results120]
 exact ⟨rfl, w2, hq, c0, c1, rfl⟩

set_option maxRecDepth 100000 in
set_option maxHeartbeats 1600000 in
theorem do_first (b off : Nat) (k : FuncId) (caps : Array Value) (Q : World → Prop) (w : World)
  (h0 : w.cell? ⟨b, off, none⟩ = some (.int .u32 0)) (h1 : w.cell? ⟨b, off + 1, none⟩ = some (.int .i32 0)) (f1 : w.frozen? ⟨b, off + 1, none⟩ = false)
  (hen : ∀ W, (callFunc k caps).run Tryz.prog W = .ok (.enter k caps) W)
  (hK : Calls Tryz.prog k caps (w.setCell ⟨b, off + 1, none⟩ (.int .i32 1)) (Held b off Q)) :
  Calls Tryz.prog 91 #[.pointer (some ⟨b, off, none⟩), .func (.func k) #[] caps] w (Over b off Q) := by
 have hl := run_call_load (P := Tryz.prog) Tryz.func136 (by kernel_rfl) (by kernel_rfl) (by kernel_rfl) .u32 (by kernel_rfl) h0
 have hnot : ∀ (x : Bool) (w : World), (Op.unary .not (.bool x)).run Tryz.prog w = .ok (.bool (!x)) w := fun _ _ => rfl
 have HS := Lib.hid (slow_any b off k caps Q w h0 h1 f1 hen hK)
 clear hen hK
 go_enter Tryz.func91, Tryz.ntmps91
 go_wp2_with (first | (go_at_call 120; refine HS.out.mono ?_; rintro e w' ⟨rfl, hw⟩) | (go_at_call 119; go_in))
 go_end0
 exact ⟨rfl, hw⟩

theorem do_done (a : Addr) (d : Int) (hd : ¬ d = 0) (fv : Value) (w : World) (h0 : w.cell? a = some (.int .u32 d)) :
  Calls Tryz.prog 91 #[.pointer (some a), fv] w fun e w' => e = .returned (.tuple #[]) ∧ w' = w := by
 have hl := run_call_load (P := Tryz.prog) Tryz.func136 (by kernel_rfl) (by kernel_rfl) (by kernel_rfl) .u32 (by kernel_rfl) h0
 have hnot : ∀ (x : Bool) (w : World), (Op.unary .not (.bool x)).run Tryz.prog w = .ok (.bool (!x)) w := fun _ _ => rfl
 have hd' : (d != 0) = true := by simp [hd]
 go_enter Tryz.func91, Tryz.ntmps91
 go_wp2
 go_end0
 exact ⟨rfl, rfl⟩
end Once
end Go.Proofs.YtekhaejhmlebbaaGreat

/-
 Copies: of numbers, of versions: what is made has no memory in common with what it was made of (layer 11).
-/
namespace Go.Proofs.YtekhaejhmlebbaaGreat
namespace Tree
open Go.RowKit Vers Span Blk
attribute [local go_sem ↓] Go.wp_at_zero Go.wp_at_succ

theorem info_int : (Tryz.prog.info? 3).map (fun i => (i.zero, i.size, i.bytes)) = some (some (.int .i64 0), 1, 8) := by kernel_rfl
def Tn (t : TypeId) (w : World) (n : Nat) (A : Option Addr) : Prop := 0 < n → ∀ a, A = some a → ∃ cur, w.heap[a.block]? = some (.cells cur t (0, 0))
theorem Tn.same {t : TypeId} {w w' : World} {n : Nat} {A : Option Addr} (h : Tn t w n A) (hk : ∀ a, 0 < n → A = some a → w'.heap[a.block]? = w.heap[a.block]?) : Tn t w' n A := fun hn a ha => by
 obtain ⟨cur, hc⟩ := h hn a ha
 exact ⟨cur, (hk a hn ha).trans hc⟩
theorem Tn.lt {t : TypeId} {w : World} {n : Nat} {A : Option Addr} (h : Tn t w n A) (hn : 0 < n) {a : Addr} (ha : A = some a) : a.block < w.heap.size := by
 obtain ⟨cur, hc⟩ := h hn a ha
 exact (Array.getElem?_eq_some_iff.1 hc).1
def OwnI (l : List Int) (n : Nat) (w : World) (e : Ending) (w' : World) : Prop := ∃ A1 c1, e = .returned (.slice A1 n c1) ∧ Hid (w'.ownsRow w.heap.size 3 1 (.slice A1 n c1) n (nums .i64 l)) ∧ Below w.heap.size w w'
set_option maxRecDepth 100000 in
theorem clonei_any (A : Option Addr) (c n : Nat) (l : List Int) (hn : l.length = n) (w : World) (hr : Ns .i64 w w.heap.size A l) (hbig : n ≤ 17592186043904) :
  Calls Tryz.prog 42 #[.slice A n c] w (OwnI l n w) := by
 obtain ⟨i0, hi0, hz0, hz1, hz2⟩ := info_parts info_int
 rcases A with _ | ad
 ·have h0 : l = [] := by
   rcases Nat.eq_zero_or_pos l.length with h0 | h0
   ·exact List.eq_nil_of_length_eq_zero h0
   ·obtain ⟨b, off, he, _⟩ := hr h0
    cases he
  subst h0
  obtain rfl : n = 0 := hn.symm
  have hne := Lib.run_eql_slice_nil (P := Tryz.prog) w 23 3 none 0 c 0 0 Tryz.underlying23
  rw [show (none : Option Addr).isNone = true from rfl] at hne
  go_enter Tryz.func42, Tryz.ntmps42
  go_wp2_with fail
  go_ret
  exact ⟨none, 0, rfl, Lib.hid ⟨rfl, .inl ⟨rfl, rfl⟩⟩, Below.refl _ _⟩
 ·have ho := World.ownsRow_lit (base := w.heap.size) (e := 3) (size := 1) w #[] 0 (Nat.le_refl _) (by unfold maxLen; omega) rfl
  have q2 : Ns .i64 (w.alloc (.cells #[] 3)) w.heap.size (some ad) l := hr.below ((Below.refl _ w).alloc (Nat.le_refl _) _)
  have hne := Lib.run_eql_slice_nil (P := Tryz.prog) w 23 3 (some ad) n c 0 0 Tryz.underlying23
  rw [show (some ad).isNone = false from rfl] at hne
  have Hn := Lib.hid hn
  clear hr hn
  go_enter Tryz.func42, Tryz.ntmps42
  have b0 := (Below.refl w.heap.size w).alloc (Nat.le_refl _) (.cells #[] 3)
  go_wp2_with (at_builtin; refine wpList_append_ns _ rfl (.tmp 5) (.tmp 6) 23 rfl w.heap.size 3 i0 _ 8 Tryz.underlying23 hi0 hz0 hz1 hz2 rfl _ 0 [] rfl ho .i64 w.heap.size (some ad) n c l Hn.out rfl q2 (by omega) (by omega) (by simp) ?_; intro v1 w1 o1 g1 at1)
  have b1 := b0.grown g1 (by simp) (fun j hj => (ho.lt j hj).1)
  obtain ⟨A1, c1, rfl⟩ := own_form o1
  have o2 : w1.ownsRow w.heap.size 3 1 (.slice A1 l.length c1) l.length (nums .i64 l) := by
   rw [Hn.out]
   simpa using o1
  have HF := Lib.hid (And.intro o2 b1)
  have hz : 0 + n = l.length := by rw [Hn.out, Nat.zero_add]
  have HZ := Lib.hid hz
  clear o1 g1 at1 o2 b1 b0 ho q2 hz
  go_wp2_with fail
  go_ret
  exact ⟨A1, c1, by simp, Lib.hid (by have h := HF.out.1; rw [Hn.out] at h; exact h), HF.out.2⟩

end Tree
end Go.Proofs.YtekhaejhmlebbaaGreat

/-
 A map from names to slices, whatever the slices lead to: each value is held as it stands (layer 11).
-/
namespace Go.Proofs.YtekhaejhmlebbaaGreat
namespace Tree
open Go.RowKit Blk Go.Maps Disk
def heldE (v : Value) : Option (DataW Value × List MemPlace) := some (.held v, [])
theorem keyed : Keyed Tryz.prog 9 := string_keyed Tryz.underlying9
def okN (s : Nm) : Prop := s.size ≤ maxLen
theorem key_of {s : Nm} (h : okN s) : ∃ kl, keyOf Tryz.prog 9 (.string s) = some kl := ⟨_, WideMaps.keyOf_string_mk Tryz.underlying9 h⟩
theorem key_inj {s t : Nm} {kl : Lit} (h : keyOf Tryz.prog 9 (.string s) = some kl) (h' : keyOf Tryz.prog 9 (.string t) = some kl) : s = t := by
 have := keyed.inj h h'
 injection this
theorem key_inv {key : Value} {kl : Lit} (h : keyOf Tryz.prog 9 key = some kl) : ∃ s : Nm, key = .string s ∧ okN s := by
 cases key <;> simp [keyOf, mapKey, Tryz.underlying9] at h
 exact ⟨_, rfl, h.1⟩
abbrev Vl := List (Nm × Value)
def MapV (D : DataW Value) (l : Vl) : Prop := ∀ s kl, keyOf Tryz.prog 9 (.string s) = some kl → ∀ z, D.atKey kl z = (match find l s with | some v => .held v | none => z)
theorem MapV.has {D : DataW Value} {l : Vl} (h : MapV D l) {s : Nm} {kl : Lit} (hk : keyOf Tryz.prog 9 (.string s) = some kl) : Maps.has D kl = (find l s).isSome := by
 have h1 := h s kl hk
 rcases hf : find l s with _ | v
 ·rw [hf] at h1
  exact Maps.has_false_of_atKey h1
 ·rw [hf] at h1
  exact Maps.has_true_of_atKey h1
def MI (w : World) (mb : Nat) (l : Vl) : Prop := ∃ D n, w.ownsMap Tryz.prog 9 heldE mb n D ∧ MapV D l ∧ Srt l ∧ (∀ x ∈ l, okN x.1) ∧ Maps.size D = l.length
theorem shrink {w : World} {mb n : Nat} {D : DataW Value} (h : w.ownsMap Tryz.prog 9 heldE mb n D) : w.ownsMap Tryz.prog 9 heldE mb (Maps.size D) D := by
 obtain ⟨es, clock, hb, F, _, rfl⟩ := h
 exact ⟨es, clock, hb, F, by simp [Maps.size, length_sorted], rfl⟩
theorem len_wout {l : Vl} (h : Srt l) (s : Nm) : (wout l s).length + (if (find l s).isSome then 1 else 0) = l.length := by
 induction l with
 | nil => rfl
 | cons y l ih =>
  obtain ⟨h1, h2⟩ := List.pairwise_cons.1 h
  have ih := ih h2
  have e : wout (y :: l) s = if y.1 = s then wout l s else y :: wout l s := by
   unfold wout
   by_cases h : y.1 = s
   ·simp [h]
   ·simp [h]
  rw [e]
  unfold find
  by_cases hs : y.1 = s
  ·have n1 : find l s = none := find_none.2 fun z hz e2 => nlt_ne (h1 z hz) (hs.trans e2.symm)
   rw [n1] at ih
   rw [if_pos hs, if_pos hs]
   simp at ih ⊢
   omega
  ·rw [if_neg hs, if_neg hs]
   simp only [List.length_cons]
   omega
theorem len_ins {β : Type} (l : List (Nm × β)) (s : Nm) (b : β) : (ins l s b).length = l.length + 1 := by
 induction l with
 | nil => rfl
 | cons y l ih =>
  unfold ins
  split
  ·rfl
  ·simp only [List.length_cons, ih]
theorem zeroS (w : World) : (zeroValue 50).run Tryz.prog w = .ok (.slice none 0 0) w := by kernel_rfl
section
variable {w w' : World} {mb : Nat} {l : Vl}
theorem MI.lt (h : MI w mb l) : mb < w.heap.size := by
 obtain ⟨D, n, h, _⟩ := h
 exact h.lt
theorem MI.same (h : MI w mb l) (hk : w'.heap[mb]? = w.heap[mb]?) : MI w' mb l := by
 obtain ⟨D, n, ⟨q, clock, h1, h2⟩, hr⟩ := h
 exact ⟨D, n, ⟨q, clock, hk.trans h1, h2⟩, hr⟩
theorem MI.ne (h : MI w mb l) {t : TypeId} {cs : Array Value} {fr : Nat × Nat} {g : Nat} (hc : w.heap[g]? = some (.cells cs t fr)) : g ≠ mb := fun q => by
 obtain ⟨D, n, ⟨q1, q2, q3, _⟩, _⟩ := h
 rw [q, q3] at hc
 injection hc with hc
 cases hc
theorem mi_made (w : World) : MI (w.alloc (.map #[] 0)) w.heap.size [] :=
 ⟨_, 0, World.ownsMap_made w _ _ _, (fun s kl _ z => by rfl), Srt.nil, (fun x hx => by cases hx), rfl⟩
theorem held_is {D : DataW Value} {l : Vl} (hm : MapV D l) {s : Nm} {kl : Lit} (hkl : keyOf Tryz.prog 9 (.string s) = some kl) {v : Value} {ps : List MemPlace} (hv : heldE v = some (D.atKey kl (.held (.slice none 0 0)), ps)) : v = (find l s).getD (.slice none 0 0) := by
 have h1 := hm s kl hkl (.held (.slice none 0 0))
 have e1 : DataW.held v = D.atKey kl (.held (.slice none 0 0)) := congrArg Prod.fst (Option.some.inj hv)
 rw [h1] at e1
 cases hf : find l s with
 | none => rw [hf] at e1; exact DataW.held.inj e1
 | some u => rw [hf] at e1; exact DataW.held.inj e1
theorem MI.look_ok (h : MI w mb l) (s : Nm) (hs : okN s) : (Instr.lookup 81 (.map (some mb)) (.string s) true).run Tryz.prog w = .ok (.tuple #[(find l s).getD (.slice none 0 0), .bool (find l s).isSome]) w := by
 obtain ⟨D, n, ho, hm, _, _, _⟩ := h
 obtain ⟨kl, hkl⟩ := key_of hs
 obtain ⟨v, ps, hrun, hv⟩ := ho.look_ok (t := 81) (e := 50) keyed Tryz.underlying81 (zeroS w) (zd := .held (.slice none 0 0)) (zp := []) rfl hkl
 have hv3 : v = (find l s).getD (.slice none 0 0) := held_is hm hkl hv
 rw [← hv3, ← hm.has hkl]
 exact hrun
theorem MI.store (h : MI w mb l) (hn : l.length < 140737488355328) (s : Nm) (hs : okN s) (v : Value) : ∃ w', (Instr.mapUpdate 81 (.map (some mb)) (.string s) v).run Tryz.prog w = .ok () w' ∧ MI w' mb (wit l s v) ∧ w.grownBy w' (some mb) := by
 obtain ⟨D, n, ho, hm, hsr, hok, hsz⟩ := h
 obtain ⟨kl, hkl⟩ := key_of hs
 obtain ⟨w', hrun, h1, h2⟩ := (shrink ho).store (t := 81) (e := 50) keyed Tryz.underlying81 (by rw [hsz]; unfold maxLen; omega) (d := .held v) (ps := []) hkl rfl
 refine ⟨w', hrun, ⟨_, _, h1, fun t kt hkt z => ?_, hsr.wit s v, fun x hx => ?_, ?_⟩, h2.grown⟩
 ·rw [find_wit]
  by_cases e : t = s
  ·subst e
   obtain rfl : kt = kl := by rw [hkt] at hkl; injection hkl
   rw [if_pos rfl, Maps.atKey_put_same ho.isMap (keyed.key hkl)]
  ·rw [if_neg e, Maps.atKey_put_other (fun q => e (key_inj hkt (by rw [q]; exact hkl)))]
   exact hm t kt hkt z
 ·rcases mem_wit.1 hx with rfl | ⟨hx, _⟩
  ·exact hs
  ·exact hok x hx
 ·rw [Maps.size_put (ho.tidy keyed), hm.has hkl, hsz, wit, len_ins]
  have := len_wout hsr s
  split at this <;> rename_i hc
  ·rw [if_pos hc]; omega
  ·rw [if_neg hc]; omega
theorem MI.drop (h : MI w mb l) (s : Nm) (hs : okN s) (ty : TypeId) : ∃ w', (Builtin.delete_ #[81, 9] ty #[.map (some mb), .string s]).run Tryz.prog w = .ok (.tuple #[]) w' ∧ MI w' mb (wout l s) ∧ w.grownBy w' (some mb) := by
 obtain ⟨D, n, ho, hm, hsr, hok, hsz⟩ := h
 obtain ⟨kl, hkl⟩ := key_of hs
 obtain ⟨w', hrun, h1, h2⟩ := ho.drop (t := 81) (e := 50) keyed Tryz.underlying81 hkl ty
 refine ⟨w', hrun, ⟨_, _, h1, fun t kt hkt z => ?_, hsr.wout s, fun x hx => hok x (mem_wout.1 hx).1, ?_⟩, h2.grown⟩
 ·rw [find_wout]
  by_cases e : t = s
  ·subst e
   obtain rfl : kt = kl := by rw [hkt] at hkl; injection hkl
   rw [if_pos rfl, Maps.atKey_del_same]
  ·rw [if_neg e, Maps.atKey_del_other (fun q => e (key_inj hkt (by rw [q]; exact hkl)))]
   exact hm t kt hkt z
 ·have h3 := Maps.size_del (k := kl) (ho.tidy keyed)
  rw [hm.has hkl, hsz] at h3
  have := len_wout hsr s
  omega
end
end Tree
end Go.Proofs.YtekhaejhmlebbaaGreat

/-
 Paths: is it one, its spot, the leaves beneath, one digit more; what a hash is written as.
-/
namespace Go.Proofs.YtekhaejhmlebbaaGreat
namespace Tree
open Go.RowKit Vers Num Ring Disk Blk Go.Proofs.YtekhaejhmlebbaaGreat.Code
attribute [local go_sem ↓] Go.wp_at_zero Go.wp_at_succ

set_option maxRecDepth 100000 in
theorem isPath_any (A : Option Addr) (c n : Nat) (p : List Int) (hn : p.length = n) (hbig : n ≤ 140737488355328) (w : World) (hr : Ns .i64 w w.heap.size A p) :
  Calls Tryz.prog 64 #[.slice A n c] w (fun e w' => e = .returned (.bool (decide (okP p))) ∧ w = w') := by
 obtain ⟨D, hD⟩ : ∃ D, decide (okP p) = D := ⟨_, rfl⟩
 rw [hD]
 have HS := Lib.hid (And.intro hr (And.intro hn hD))
 clear hr hn hD
 go_enter Tryz.func64, Tryz.ntmps64
 go_wp2_with fail
 go_loop [7] (fun q => ∃ k : Nat, q = .int .i64 k ∧ k ≤ n ∧ Hid (∀ x ∈ p.take k, 0 ≤ x ∧ x < 16)) (fun q => n - (intOf q).toNat)
 case atStart => exact ⟨0, rfl, by omega, Lib.hid (by simp)⟩
 case round =>
  obtain ⟨k, rfl, hk, hst⟩ := hrel
  have hn := HS.out.2.1
  by_cases hlt : k < n
  ·have d1 : (0 : Int) ≤ (k : Int) := by omega
   have d2 : (k : Int) < (n : Int) := by omega
   have hbad := all_bad (R := fun x => 0 ≤ x ∧ x < 16) (0 : Int) (show k < p.length by omega)
   have hstep := all_step (R := fun x => 0 ≤ x ∧ x < 16) (0 : Int) (show k < p.length by omega) hst.out
   obtain ⟨pb, off, rfl, hpb, hc⟩ := HS.out.1 (by omega)
   have c0 := hc k (by omega)
   obtain ⟨x, hxx⟩ : ∃ x, p.getD k 0 = x := ⟨_, rfl⟩
   rw [hxx] at c0 hbad hstep
   by_cases cA : 0 ≤ x ∧ x < 16
   ·have HN := Lib.hid (hstep cA)
    obtain ⟨a1, a2⟩ := cA
    have e1 : decide (x < 0) = false := decide_eq_false (by omega)
    have e2 : decide (16 ≤ x) = false := decide_eq_false (by omega)
    clear hstep hbad hst hn hxx hc
    go_wp2_with fail
    go_round
    case rel => exact ⟨k + 1, rfl, by omega, HN⟩
    case measure => simp only [intOf]; omega
   ·have HN := Lib.hid (HS.out.2.2.symm.trans (decide_eq_false (fun h => by
     have := of_decide_eq_false (hbad cA)
     exact this fun y hy => h.1 y hy)))
    clear hstep hbad hst hn hxx hc
    by_cases a1 : x < 0
    ·have e1 : decide (x < 0) = true := decide_eq_true a1
     clear cA
     go_wp2_with fail
     go_ret
     exact ⟨by rw [HN.out]; rfl, rfl⟩
    ·have e1 : decide (x < 0) = false := decide_eq_false a1
     have a2 : 16 ≤ x := by omega
     have e2 : decide (16 ≤ x) = true := decide_eq_true a2
     clear cA
     go_wp2_with fail
     go_ret
     exact ⟨by rw [HN.out]; rfl, rfl⟩
  ·have hkn : k = n := by omega
   subst hkn
   have hall : ∀ x ∈ p, 0 ≤ x ∧ x < 16 := by
    have h := hst.out
    rwa [List.take_of_length_le (by omega)] at h
   have HN : Hid (D = decide ((k : Int) ≤ 2)) := Lib.hid (by
    rw [← HS.out.2.2]
    exact decide_eq_decide.2 ⟨fun h => by have := h.2; omega, fun h => ⟨hall, by omega⟩⟩)
   clear hst hn hall
   by_cases h2 : (k : Int) ≤ 2
   ·rw [decide_eq_true h2] at HN
    go_wp2_with fail
    go_ret
    exact ⟨by rw [HN.out]; rfl, rfl⟩
   ·rw [decide_eq_false h2] at HN
    go_wp2_with fail
    go_ret
    exact ⟨by rw [HN.out]; rfl, rfl⟩

set_option maxRecDepth 100000 in
theorem spot_any (A : Option Addr) (c n : Nat) (p : List Int) (hn : p.length = n) (hp : okP p) (w : World) (hr : Ns .i64 w w.heap.size A p) :
  Calls Tryz.prog 90 #[.slice A n c] w (fun e w' => e = .returned (.int .i64 (spotN p : Nat)) ∧ ∃ q, w' = w.drewN q) := by
 rcases ok_cases hp with rfl | ⟨a, rfl, a1, a2⟩ | ⟨a, b, rfl, ⟨a1, a2⟩, b1, b2⟩
 ·obtain rfl : n = 0 := by simpa using hn.symm
  clear hr hp
  go_enter Tryz.func90, Tryz.ntmps90
  go_wp2_with fail
  go_ret
  exact ⟨rfl, 0, rfl⟩
 ·obtain rfl : n = 1 := by simpa using hn.symm
  obtain ⟨pb, off, rfl, hpb, hc⟩ := hr (by simp)
  have c0 := hc 0 (by simp)
  simp at c0
  have HE : Hid (((spotN [a] : Nat) : Int) = 1 + a) := Lib.hid (by simp only [spotN]; omega)
  clear hr hp hc hn
  go_enter Tryz.func90, Tryz.ntmps90
  go_wp2_with fail
  go_ret
  exact ⟨by rw [HE.out]; rfl, 0, rfl⟩
 ·obtain rfl : n = 2 := by simpa using hn.symm
  obtain ⟨pb, off, rfl, hpb, hc⟩ := hr (by simp)
  have c0 := hc 0 (by simp)
  have c1 := hc 1 (by simp)
  simp at c0 c1
  have HE : Hid (((spotN [a, b] : Nat) : Int) = 17 + a * 16 + b) := Lib.hid (by simp only [spotN]; omega)
  have HW := Lib.hid (And.intro (show IntKind.i64.wrap (a * 16) = a * 16 from IntWalk.i64_in _ (by omega)) (And.intro (show IntKind.i64.wrap (17 + a * 16) = 17 + a * 16 from IntWalk.i64_in _ (by omega)) (show IntKind.i64.wrap (17 + a * 16 + b) = 17 + a * 16 + b from IntWalk.i64_in _ (by omega))))
  clear hr hp hc hn
  go_enter Tryz.func90, Tryz.ntmps90
  go_wp2_with fail
  obtain ⟨v1, v2, v3⟩ := HW.out
  go_quiet (fail)
  go_wp2_with fail
  go_ret
  exact ⟨by rw [HE.out]; rfl, _, rfl⟩

set_option maxRecDepth 100000 in
theorem beneath_any (A : Option Addr) (c n : Nat) (p : List Int) (hn : p.length = n) (hp : okP p) (w : World) (hr : Ns .i64 w w.heap.size A p) :
  Calls Tryz.prog 67 #[.slice A n c] w (fun e w' => e = .returned (.tuple #[.int .i64 (fromN p : Nat), .int .i64 (toN p : Nat)]) ∧ ∃ q, w' = w.drewN q) := by
 rcases ok_cases hp with rfl | ⟨a, rfl, a1, a2⟩ | ⟨a, b, rfl, ⟨a1, a2⟩, b1, b2⟩
 ·obtain rfl : n = 0 := by simpa using hn.symm
  clear hr hp
  go_enter Tryz.func67, Tryz.ntmps67
  go_wp2_with fail
  go_ret2
  exact ⟨rfl, 0, rfl⟩
 ·obtain rfl : n = 1 := by simpa using hn.symm
  obtain ⟨pb, off, rfl, hpb, hc⟩ := hr (by simp)
  have c0 := hc 0 (by simp)
  simp at c0
  have HE : Hid (((fromN [a] : Nat) : Int) = a * 16 ∧ ((toN [a] : Nat) : Int) = (a + 1) * 16) := Lib.hid (by simp only [fromN, toN]; omega)
  have HW := Lib.hid (And.intro (show IntKind.i64.wrap (a * 16) = a * 16 from IntWalk.i64_in _ (by omega)) (And.intro (show IntKind.i64.wrap (a + 1) = a + 1 from IntWalk.i64_in _ (by omega)) (show IntKind.i64.wrap ((a + 1) * 16) = (a + 1) * 16 from IntWalk.i64_in _ (by omega))))
  clear hr hp hc hn
  go_enter Tryz.func67, Tryz.ntmps67
  go_wp2_with fail
  obtain ⟨v1, v2, v3⟩ := HW.out
  go_quiet (fail)
  go_wp2_with fail
  go_ret2
  exact ⟨by rw [HE.out.1, HE.out.2]; rfl, _, rfl⟩
 ·obtain rfl : n = 2 := by simpa using hn.symm
  obtain ⟨pb, off, rfl, hpb, hc⟩ := hr (by simp)
  have c0 := hc 0 (by simp)
  have c1 := hc 1 (by simp)
  simp at c0 c1
  have HE : Hid (((fromN [a, b] : Nat) : Int) = a * 16 + b ∧ ((toN [a, b] : Nat) : Int) = a * 16 + b + 1) := Lib.hid (by simp only [fromN, toN]; omega)
  have HW := Lib.hid (And.intro (show IntKind.i64.wrap (a * 16) = a * 16 from IntWalk.i64_in _ (by omega)) (show IntKind.i64.wrap (a * 16 + b) = a * 16 + b from IntWalk.i64_in _ (by omega)))
  have l1 : 0 ≤ a * 16 + b := by omega
  have l2 : a * 16 + b < 256 := by omega
  clear hr hp hc hn
  go_enter Tryz.func67, Tryz.ntmps67
  go_wp2_with fail
  obtain ⟨v1, v2⟩ := HW.out
  go_quiet (fail)
  clear v1 v2
  go_wp2_with fail
  go_ret2
  exact ⟨by rw [HE.out.1, HE.out.2]; rfl, _, rfl⟩
end Tree
end Go.Proofs.YtekhaejhmlebbaaGreat

/-
 A key's place, a path with a digit more, a hash as bytes, the mark of a key with its versions.
-/
namespace Go.Proofs.YtekhaejhmlebbaaGreat
namespace Tree
open Go.RowKit Vers Num Ring Disk Blk
open Go.Proofs.YtekhaejhmlebbaaGreat.Code hiding Bn
attribute [local go_sem ↓] Go.wp_at_zero Go.wp_at_succ

theorem text_bytes (s : ByteArray) (V : World) : ∃ c V', (convert 9 98 (.string s)).run Tryz.prog V = .ok (.slice (some ⟨V.heap.size, 0, none⟩) s.size c) V' ∧ Ns .u8 V' V'.heap.size (some ⟨V.heap.size, 0, none⟩) (strNums s) ∧ Below V.heap.size V V' := by
 refine ⟨_, _, run_bytes_of_string V _ _ 5 s Tryz.underlying9 Tryz.underlying98 Tryz.underlying5, ?_, ?_⟩
 ·intro _
  refine ⟨V.heap.size, 0, rfl, by show V.heap.size < (V.heap.push _).size; rw [Array.size_push]; omega, fun j hj => ?_⟩
  rw [strNums_length] at hj
  have h1 := bytesRow_at s (grownCap V s.size 0 5) j hj
  refine (World.cell?_alloc_mark V.drew _ _ _ _).trans ?_
  rw [Nat.zero_add, h1]
  have hj' : j < s.data.size := hj
  simp [strNums, List.getD_eq_getElem?_getD]
  rw [Array.getElem?_eq_getElem hj']
  rfl
 ·exact ((Below.refl V.heap.size V).drew).alloc (Nat.le_refl _) _

theorem and_15 {x : Int} (hx : U x) : bits .and .u64 x 15 = x % 16 := by
 unfold U at hx
 rw [u64_and x 15 hx.1 hx.2 (by omega) (by omega)]
 have h := Nat.and_two_pow_sub_one_eq_mod x.toNat 4
 simp only [Nat.reducePow, Nat.reduceSub] at h
 rw [show (15 : Int).toNat = 15 from rfl, h]
 omega
theorem and_low {x : Int} (hx : U x) : bits .and .u64 x 4294967295 = x % 4294967296 := by
 unfold U at hx
 rw [u64_and x 4294967295 hx.1 hx.2 (by omega) (by omega)]
 have h := Nat.and_two_pow_sub_one_eq_mod x.toNat 32
 simp only [Nat.reducePow, Nat.reduceSub] at h
 rw [show (4294967295 : Int).toNat = 4294967295 from rfl, h]
 omega

def Placed (k : Nm) (w : World) (e : Ending) (w' : World) : Prop :=
 ∃ g, e = .returned (.slice (some ⟨g, 0, none⟩) 2 2) ∧ Hid (Ns .i64 w' w'.heap.size (some ⟨g, 0, none⟩) [dig0 k, dig1 k] ∧ w.heap.size ≤ g) ∧ Below w.heap.size w w'
theorem ns_two (w : World) (x y : Int) : Ns .i64 (w.alloc (.cells #[.int .i64 x, .int .i64 y] 3)) (w.alloc (.cells #[.int .i64 x, .int .i64 y] 3)).heap.size (some ⟨w.heap.size, 0, none⟩) [x, y] := fun _ =>
 ⟨w.heap.size, 0, rfl, by simp, fun j hj => by
  obtain rfl | rfl : j = 0 ∨ j = 1 := by simp at hj; omega
  all_goals simp⟩
set_option maxRecDepth 100000 in
theorem place_any (k : Nm) (w : World) (hbig : k.size ≤ 140737488355328) : Calls Tryz.prog 89 #[.string k] w (Placed k w) := by
 obtain ⟨c, V, hcv, hns, hb⟩ := text_bytes k w
 have H1 := Lib.hid (hash_any _ c k.size (strNums k) (strNums_length k) (strNums_bytes k) V hns hbig)
 have hr := hash_range (strNums k)
 have HD : Hid (dig0 k = keyH k / 1152921504606846976 ∧ dig1 k = keyH k / 72057594037927936 % 16) := Lib.hid ⟨rfl, rfl⟩
 unfold keyH at HD
 obtain ⟨x, hx⟩ : ∃ x, hashL (strNums k) = x := ⟨_, rfl⟩
 rw [hx] at H1 hr HD
 have HB := Lib.hid hb
 have HA := Lib.hid (and_15 (x := x / 72057594037927936) (by unfold U at *; omega))
 obtain ⟨r0, r1⟩ := hr
 have a15 := HA.out
 clear hns hb hx
 go_enter Tryz.func89, Tryz.ntmps89
 go_wp2_with fail
 refine H1.out.mono ?_
 rintro e w1 ⟨rfl, rfl⟩
 go_wp2_with fail
 go_ret
 exact ⟨V.heap.size, rfl, Lib.hid ⟨by rw [HD.out.1, HD.out.2]; exact ns_two V _ _, HB.out.size⟩, HB.out.alloc HB.out.size _⟩

set_option maxRecDepth 100000 in
theorem longer_any (A : Option Addr) (c n : Nat) (p : List Int) (hn : p.length = n) (hbig : n ≤ 1024) (d : Int) (w : World) (hr : Ns .i64 w w.heap.size A p) :
  Calls Tryz.prog 66 #[.slice A n c, .int .i64 d] w (OwnI (p ++ [d]) (n + 1) w) := by
 obtain ⟨i0, hi0, hz0, hz1, hz2⟩ := info_parts info_int
 have H1 := Lib.hid (clonei_any A c n p hn w hr (by omega))
 clear hr hn
 go_enter Tryz.func66, Tryz.ntmps66
 go_wp2_with fail
 refine H1.out.mono ?_
 rintro e w1 ⟨A1, c1, rfl, h1, b1⟩
 have hs := b1.size
 go_wp2_with (at_builtin; refine wpList_append_one _ rfl _ _ 23 rfl w.heap.size 3 i0 _ 8 Tryz.underlying23 hi0 hz0 hz1 hz2 rfl _ n (nums .i64 p) rfl h1.out (.int .i64 d) 1 rfl rfl (by omega) (by omega) hs ?_; intro v2 w2 o2 g2 at2)
 have b2 := b1.grown g2 hs (fun j hj => (h1.out.lt j hj).1)
 obtain ⟨A2, c2, rfl⟩ := own_form o2
 have HF := Lib.hid (And.intro o2 b2)
 clear o2 b2 g2 at2
 go_ret
 exact ⟨A2, c2, rfl, Lib.hid (by have h := HF.out.1; rwa [show nums .i64 p ++ [Value.int .i64 d] = nums .i64 (p ++ [d]) by simp [nums]] at h), HF.out.2⟩

theorem info_u8 : (Tryz.prog.info? 5).map (fun i => (i.zero, i.size, i.bytes)) = some (some (.int .u8 0), 1, 1) := by kernel_rfl
def OwnB (base : Nat) (zs : List Int) (w : World) (e : Ending) (w' : World) : Prop :=
 ∃ A' c', e = .returned (.slice A' zs.length c') ∧ Hid (w'.ownsRow base 5 1 (.slice A' zs.length c') zs.length (nums .u8 zs)) ∧ Below base w w'
set_option maxRecDepth 100000 in
theorem putHash_any (A : Option Addr) (c n : Nat) (zs : List Int) (hn : zs.length = n) (hbig : n ≤ 70368744177664) (h : Int) (hh : U h) (base : Nat) (w : World) (hb : base ≤ w.heap.size) (ho : w.ownsRow base 5 1 (.slice A n c) n (nums .u8 zs)) :
  Calls Tryz.prog 122 #[.slice A n c, .int .u64 h] w (OwnB base (zs ++ halves h) w) := by
 obtain ⟨i0, hi0, hz0, hz1, hz2⟩ := info_parts info_u8
 have hlow := and_low hh
 unfold U at hh
 obtain ⟨r0, r1⟩ := hh
 obtain ⟨x, hx⟩ : ∃ x, h / 4294967296 = x := ⟨_, rfl⟩
 obtain ⟨y, hy⟩ : ∃ y, h % 4294967296 = y := ⟨_, rfl⟩
 have x0 : 0 ≤ x := by omega
 have x1 : x < 4294967296 := by omega
 have y0 : 0 ≤ y := by omega
 have y1 : y < 4294967296 := by omega
 have l1 := putL_len x
 have l2 := putL_len y
 have HX := Lib.hid (show halves h = putL x ++ putL y by unfold halves; rw [hx, hy])
 rw [hy] at hlow
 have HN := Lib.hid hn
 clear hn hy
 go_enter Tryz.func122, Tryz.ntmps122
 go_wp2_with fail
 refine (putnum_pos x ⟨x0, by omega⟩ w).mono ?_
 rintro e w1 ⟨A1, c1, rfl, o1, b1⟩
 have s1 := b1.size
 have ho1 := own_below ho b1 (Nat.le_refl _)
 have ns1 := own_ns o1
 obtain ⟨k1, hk1⟩ : ∃ k, (putL x).length = k := ⟨_, rfl⟩
 rw [hk1] at l1 ⊢
 go_wp2_with (at_builtin; refine wpList_append_ns _ rfl (.tmp 5) (.tmp 9) 98 rfl base 5 i0 _ 1 Tryz.underlying98 hi0 hz0 hz1 hz2 rfl _ n (nums .u8 zs) rfl ho1 .u8 w1.heap.size A1 k1 c1 (putL x) hk1 rfl ns1 (by omega) (by omega) (by omega) ?_; intro v2 w2 o2 g2 at2)
 have b2 : Below base w w2 := (b1.mono hb).grown g2 (by omega) (fun j hj => (ho1.lt j hj).1)
 obtain ⟨A2, c2, rfl⟩ := own_form o2
 have hb2 : base ≤ w2.heap.size := Nat.le_trans hb b2.size
 have o2' : w2.ownsRow base 5 1 (.slice A2 (n + k1) c2) (n + k1) (nums .u8 (zs ++ putL x)) := by
  have e : nums .u8 (zs ++ putL x) = nums .u8 zs ++ nums .u8 (putL x) := by simp [nums]
  rw [e]; exact o2
 have HB2 := Lib.hid b2
 clear o1 b1 s1 ho1 ns1 o2 g2 at2 b2 ho
 refine (putnum_pos y ⟨y0, by omega⟩ w2).mono ?_
 rintro e w3 ⟨A3, c3, rfl, o3, b3⟩
 have s3 := b3.size
 have ho3 := own_below o2' b3 (Nat.le_refl _)
 have ns3 := own_ns o3
 have HK1 := Lib.hid hk1
 obtain ⟨k2, hk2⟩ : ∃ k, (putL y).length = k := ⟨_, rfl⟩
 rw [hk2] at l2 ⊢
 clear hk1
 go_wp2_with (at_builtin; refine wpList_append_ns _ rfl (.tmp 11) (.tmp 15) 98 rfl base 5 i0 _ 1 Tryz.underlying98 hi0 hz0 hz1 hz2 rfl _ (n + k1) (nums .u8 (zs ++ putL x)) rfl ho3 .u8 w3.heap.size A3 k2 c3 (putL y) hk2 rfl ns3 (by omega) (by omega) (by omega) ?_; intro v4 w4 o4 g4 at4)
 have b4 : Below base w w4 := (HB2.out.trans (b3.mono hb2)).grown g4 (by omega) (fun j hj => (ho3.lt j hj).1)
 obtain ⟨A4, c4, rfl⟩ := own_form o4
 have e4 : n + k1 + k2 = (zs ++ halves h).length := by rw [HX.out, ← HK1.out, ← hk2, ← HN.out]; simp [Nat.add_assoc]
 have e5 : nums .u8 (zs ++ putL x) ++ nums .u8 (putL y) = nums .u8 (zs ++ halves h) := by rw [HX.out]; simp [nums]
 rw [e5, e4] at o4
 have HF := Lib.hid (And.intro o4 (And.intro b4 e4))
 clear o4 b4 g4 at4 e4 e5 o3 b3 ho3 ns3 hk2
 go_ret
 rw [HF.out.2.2]
 exact ⟨A4, c4, rfl, Lib.hid HF.out.1, HF.out.2.1⟩

def Marking' (key : Nm) (l : List Vr) (m : Nat) (w : World) (v q : Value) (wr : World) : Prop :=
 ∃ (k n : Nat) (A : Option Addr) (c : Nat), q = .int .i64 k ∧ k ≤ m ∧ v = .slice A n c ∧ n ≤ 41 + 18 * k ∧ Hid ((textL key ++ (l.take k).flatMap dotL).length = n ∧ wr.ownsRow w.heap.size 5 1 (.slice A n c) n (nums .u8 (textL key ++ (l.take k).flatMap dotL))) ∧ Below w.heap.size w wr
theorem right_nums {l : List Vr} (h : RightV l) : ∀ v ∈ l, (0 ≤ v.s ∧ v.s ≤ 9223372036854775807) ∧ 0 ≤ v.n ∧ v.n ≤ 9223372036854775807 := fun v hv => by
 have := (h.2.1.1 v hv).1
 unfold okD at this
 omega
set_option maxRecDepth 100000 in
theorem mark_any (key : Nm) (A : Option Addr) (c m : Nat) (l : List Vr) (hm : l.length = m) (hkey : key.size ≤ 32) (hl : RightV l) (w : World) (hv : Vs w 0 w.heap.size A l) :
  Calls Tryz.prog 123 #[.string key, .slice A m c] w (fun e w' => e = .returned (.int .u64 (markF (key, l))) ∧ Below w.heap.size w w') := by
 obtain ⟨i0, hi0, hz0, hz1, hz2⟩ := info_parts info_u8
 have hm2 : m ≤ 512 := by have := hl.1; omega
 have HV := Lib.hid (And.intro hv (And.intro hm (right_nums hl)))
 clear hv hm hl
 go_enter Tryz.func123, Tryz.ntmps123
 go_wp2_with fail
 refine (puttext key (by omega) w).mono ?_
 rintro e w1 ⟨A1, c1, rfl, o1, b1⟩
 have hl1 : (textL key).length ≤ 41 := by
  have h := putL_len (key.size : Int)
  unfold textL
  rw [List.length_append, strNums_length]
  omega
 obtain ⟨n1, hn1⟩ : ∃ n, (textL key).length = n := ⟨_, rfl⟩
 rw [hn1] at o1 hl1 ⊢
 have HI : Hid (Marking' key l m w (.slice A1 n1 c1) (.int .i64 0) w1) := Lib.hid ⟨0, n1, A1, c1, rfl, by omega, rfl, by omega, Lib.hid ⟨by simpa using hn1, by simpa using o1⟩, b1⟩
 clear o1 b1 hn1 hl1
 go_wp2_with fail
 go_loopw [5, 12] (fun v q wr => Marking' key l m w v q wr) (fun _ q _ => m - (intOf q).toNat)
 case atStart => exact HI.out
 case round =>
  clear HI
  obtain ⟨k, n, A2, c2, rfl, hk, rfl, hn41, hst, hb⟩ := hrel
  by_cases hlt : k < m
  ·obtain ⟨pb, off, A3, c3, rfl, _, hbB, a0, a1, a2, a3, a4, _⟩ := HV.out.1.at HV.out.2.1 hb hlt rfl
   have hkl : k < l.length := by have := HV.out.2.1; omega
   have hmem : l.getD k v0 ∈ l := by
    rw [List.getD_eq_getElem?_getD, List.getElem?_eq_getElem hkl]
    exact List.getElem_mem _
   obtain ⟨⟨z0, z1⟩, z2, z3⟩ := HV.out.2.2 _ hmem
   have HT : Hid (l.take (k + 1) = l.take k ++ [l.getD k v0]) := Lib.hid (by
    rw [List.take_succ_eq_append_getElem hkl]
    simp [List.getD_eq_getElem?_getD, hkl])
   obtain ⟨v, hvv⟩ : ∃ v, l.getD k v0 = v := ⟨_, rfl⟩
   rw [hvv] at a0 a1 a2 a3 a4 HT z0 z1 z2 z3
   obtain ⟨s, vn, vp, vg, vx⟩ := v
   simp only at a0 a1 a2 a3 a4 z0 z1 z2 z3
   obtain ⟨kp, hkp⟩ : ∃ kp, vp.length = kp := ⟨_, rfl⟩
   rw [hkp] at a2
   have d1 : (0 : Int) ≤ (k : Int) := by omega
   have d2 : (k : Int) < (m : Int) := by omega
   have l1 := putL_len s
   have l2 := putL_len vn
   have hsz := hb.size
   have HB := Lib.hid hb
   clear hb hvv hkp hmem
   go_wp2_with fail
   have b0 : Below w.heap.size w (wr.alloc (.cells #[.int .i64 s, .int .i64 vn, .slice A3 kp c3, .bool vg, .string vx] 59)) := HB.out.alloc hsz _
   obtain ⟨bv, hbv⟩ : ∃ bv, wr.heap.size = bv := ⟨_, rfl⟩
   obtain ⟨V, hV⟩ : ∃ V, wr.alloc (.cells #[.int .i64 s, .int .i64 vn, .slice A3 kp c3, .bool vg, .string vx] 59) = V := ⟨_, rfl⟩
   have hBV : Bn bv 59 [.int .i64 s, .int .i64 vn, .slice A3 kp c3, .bool vg, .string vx] V := by rw [← hV, ← hbv]; exact World.alloc_heap_new _ _
   have oV := own_below hst.out.2 ((Below.refl wr.heap.size wr).alloc (Nat.le_refl _) (.cells #[.int .i64 s, .int .i64 vn, .slice A3 kp c3, .bool vg, .string vx] 59)) (Nat.le_refl _)
   rw [hV] at b0 oV ⊢
   rw [hbv]
   have sV : V.heap.size = bv + 1 := by rw [← hV, ← hbv]; simp
   have HS := Lib.hid (And.intro hst.out.1 (And.intro hV hbv))
   clear hst hV hbv
   refine (putnum_pos s ⟨z0, z1⟩ V).mono ?_
   rintro e w2 ⟨B1, e1, rfl, o1, b1⟩
   have s1 := b1.size
   have o2 := own_below oV b1 (Nat.le_refl _)
   have ns1 := own_ns o1
   obtain ⟨k1, hk1⟩ : ∃ k, (putL s).length = k := ⟨_, rfl⟩
   rw [hk1] at l1 ⊢
   have BV2 := hBV.same (b1.block _ hBV.lt)
   have hw2 : w.heap.size ≤ w2.heap.size := Nat.le_trans b0.size s1
   have HB2 := Lib.hid (b0.trans (b1.mono b0.size))
   clear b0 b1 oV o1 hBV
   go_wp2_with (at_builtin; refine wpList_append_ns _ rfl (.tmp 16) (.tmp 20) 98 rfl w.heap.size 5 i0 _ 1 Tryz.underlying98 hi0 hz0 hz1 hz2 rfl _ n (nums .u8 (textL key ++ (l.take k).flatMap dotL)) rfl o2 .u8 w2.heap.size B1 k1 e1 (putL s) hk1 rfl ns1 (by omega) (by omega) hw2 ?_; intro v3 w3 o3 g3 at3; obtain ⟨B3, e3, rfl⟩ := own_form o3; have BV3 := BV2.kept g3 (fun q => own_ne o2 BV2 (by decide) q.symm); have cv := BV3.cell 1; simp only [List.getElem?_cons_zero, List.getElem?_cons_succ] at cv; have HB3 := Lib.hid (HB2.out.grown g3 hw2 (fun j hj => (o2.lt j hj).1)))
   have hw3 : w.heap.size ≤ w3.heap.size := HB3.out.size
   have HK1 := Lib.hid hk1
   clear o2 g3 at3 ns1 BV2 HB2 hk1 cv
   refine (putnum_pos vn ⟨z2, z3⟩ w3).mono ?_
   rintro e w4 ⟨B4, e4, rfl, o4, b4⟩
   have s4 := b4.size
   have o5 := own_below o3 b4 (Nat.le_refl _)
   have ns4 := own_ns o4
   obtain ⟨k2, hk2⟩ : ∃ k, (putL vn).length = k := ⟨_, rfl⟩
   rw [hk2] at l2 ⊢
   have HB4 := Lib.hid (HB3.out.trans (b4.mono hw3))
   have hw4 : w.heap.size ≤ w4.heap.size := HB4.out.size
   clear b4 o4 o3 HB3 BV3
   go_wp2_with (at_builtin; refine wpList_append_ns _ rfl (.tmp 22) (.tmp 26) 98 rfl w.heap.size 5 i0 _ 1 Tryz.underlying98 hi0 hz0 hz1 hz2 rfl _ (n + k1) (nums .u8 (textL key ++ (l.take k).flatMap dotL) ++ nums .u8 (putL s)) rfl o5 .u8 w4.heap.size B4 k2 e4 (putL vn) hk2 rfl ns4 (by omega) (by omega) hw4 ?_; intro v6 w6 o6 g6 at6; obtain ⟨B6, e6, rfl⟩ := own_form o6; have HB6 := Lib.hid (HB4.out.grown g6 hw4 (fun j hj => (o5.lt j hj).1)))
   have HF : Hid (Marking' key l m w (.slice B6 (n + k1 + k2) e6) (.int .i64 ((k : Int) + 1)) w6) := Lib.hid ⟨k + 1, n + k1 + k2, B6, e6, by go_num, by omega, rfl, by omega, Lib.hid ⟨by
     rw [HT.out, List.flatMap_append, ← List.append_assoc, List.length_append, HS.out.1]
     simp [dotL, HK1.out, hk2, Nat.add_assoc], by
     have h := o6
     rw [HT.out]
     simpa [nums, dotL, List.append_assoc] using h⟩, HB6.out⟩
   clear o6 g6 at6 o5 ns4 HB4 hk2
   go_roundw
   case rel => exact HF.out
   case measure => simp only [intOf]; omega
  ·have hkm : k = m := by omega
   subst hkm
   have hfull : l.take k = l := List.take_of_length_le (by have := HV.out.2.1; omega)
   rw [hfull] at hst
   have hby : ∀ z ∈ textL key ++ l.flatMap dotL, 0 ≤ z ∧ z ≤ 255 := fun z hz => by
    rcases List.mem_append.1 hz with hz | hz
    ·unfold textL at hz
     rcases List.mem_append.1 hz with hz | hz
     ·exact putL_bytes _ (by omega) z hz
     ·exact strNums_bytes key z hz
    ·refine flat_bytes dotL l (fun v hv z hz => ?_) z hz
     have h1 := HV.out.2.2 v hv
     unfold dotL at hz
     rcases List.mem_append.1 hz with hz | hz
     ·exact putL_bytes _ h1.1.1 z hz
     ·exact putL_bytes _ h1.2.1 z hz
   have HK := Lib.hid (hash_any A2 c2 n (textL key ++ l.flatMap dotL) hst.out.1 hby wr (own_ns (n := n) (by have h := hst.out.2; rw [hst.out.1]; exact h)) (by omega))
   have HB := Lib.hid hb
   clear hst hb hfull hby
   go_wp2_with fail
   refine HK.out.mono ?_
   rintro e w2 ⟨rfl, rfl⟩
   go_wp2_with fail
   go_ret
   exact ⟨rfl, HB.out⟩
end Tree
end Go.Proofs.YtekhaejhmlebbaaGreat
