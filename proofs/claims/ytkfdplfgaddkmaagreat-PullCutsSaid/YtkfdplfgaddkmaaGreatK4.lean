/-
  Several texts of this family in one: RingHash, TreePlain, MendPlain, TreeMap.
-/
import Derived.Test.YtkfdplfgaddkmaaGreatK2
import Derived.Laws.BitsAllLaws
import Derived.Laws.Bits64
import Derived.Test.YtkfdplfgaddkmaaGreatK3
import Derived.Maps.OwnSet
import Derived.Maps.OwnOps
import Derived.Maps.RangeWalk
import Derived.StringKeys
/-
 The marks of bytes, of both: one function of the bytes.
-/
namespace Go.Proofs.YtkfdplfgaddkmaaGreat
namespace Ring
open Go.RowKit

def U (x : Int) : Prop := 0 ≤ x ∧ x < 18446744073709551616
def xorU (a b : Int) : Int := ((a.toNat ^^^ b.toNat : Nat) : Int)
theorem xor_range {a b : Int} (ha : U a) (hb : U b) : U (xorU a b) := by
 unfold U xorU at *
 have h := Nat.xor_lt_two_pow (n := 64) (x := a.toNat) (y := b.toNat) (by omega) (by omega)
 omega
theorem bits_is {a b : Int} (ha : U a) (hb : U b) : bits .xor .u64 a b = xorU a b := u64_xor a b ha.1 ha.2 hb.1 hb.2
theorem wrap_range (x : Int) : U (IntKind.u64.wrap x) := by
 unfold U
 have h : IntKind.u64.wrap x = x % 18446744073709551616 := by simp [IntKind.wrap, IntKind.signed, IntKind.bits]
 rw [h]
 omega
def stepH (h c : Int) : Int := IntKind.u64.wrap (xorU h c * 1099511628211)
def foldH (zs : List Int) : Int := zs.foldl stepH 14695981039346656037
def finH (h : Int) : Int := xorU h (h / 8589934592)
def hashL (zs : List Int) : Int := finH (IntKind.u64.wrap (finH (foldH zs) * 18397679294719823053))

theorem fold_range (zs : List Int) : U (foldH zs) := by
 unfold foldH
 have key : ∀ (zs : List Int) (h : Int), U h → U (zs.foldl stepH h) := by
  intro zs
  induction zs with
  | nil => intro h hh; exact hh
  | cons z zs ih => intro h hh; exact ih _ (wrap_range _)
 exact key zs _ (by unfold U; omega)
theorem fold_snoc (zs : List Int) {k : Nat} (h : k < zs.length) : foldH (zs.take (k + 1)) = stepH (foldH (zs.take k)) (zs.getD k 0) := by
 unfold foldH
 rw [List.take_succ_eq_append_getElem h, List.foldl_append]
 simp [List.getD_eq_getElem?_getD, h]
theorem fin_range {h : Int} (hh : U h) : U (finH h) := xor_range hh (by unfold U at *; omega)
theorem hash_range (zs : List Int) : U (hashL zs) := fin_range (wrap_range _)
theorem fin_bits {h : Int} (hh : U h) : bits .xor .u64 h (h / 8589934592) = finH h := bits_is hh (by unfold U at *; omega)
theorem wrap_u {x : Int} (hx : U x) : IntKind.u64.wrap x = x := by
 unfold U at hx
 have h : IntKind.u64.wrap x = x % 18446744073709551616 := by simp [IntKind.wrap, IntKind.signed, IntKind.bits]
 rw [h]; omega
theorem quo_u {h : Int} (hh : U h) : IntKind.u64.wrap (h.tdiv 8589934592) = h / 8589934592 := by
 rw [Int.tdiv_eq_ediv_of_nonneg hh.1]
 exact wrap_u (by unfold U at *; omega)
theorem step_bits {h z : Int} (hh : U h) (hz : 0 ≤ z ∧ z ≤ 255) : IntKind.u64.wrap (bits .xor .u64 h z * 1099511628211) = stepH h z := by
 rw [bits_is hh (by unfold U; omega)]
 rfl

set_option maxRecDepth 100000 in
theorem hash_any (A : Option Addr) (c n : Nat) (zs : List Int) (hn : zs.length = n) (hz : ∀ z ∈ zs, 0 ≤ z ∧ z ≤ 255) (w : World) (hr : Ns .u8 w w.heap.size A zs) (hbig : n ≤ 140737488355328) :
  Calls Tryz.prog 100 #[.slice A n c] w fun e w' => e = .returned (.int .u64 (hashL zs)) ∧ w = w' := by
 go_enter Tryz.func100, Tryz.ntmps100
 go_wp2_with fail
 go_loop [3, 8] (fun hv iv => ∃ k : Nat, iv = .int .i64 k ∧ k ≤ n ∧ hv = .int .u64 (foldH (zs.take k))) (fun _ iv => n - (intOf iv).toNat)
 case atStart => exact ⟨0, rfl, by omega, rfl⟩
 case round =>
  obtain ⟨k, rfl, hk, rfl⟩ := hrel
  by_cases hlt : k < n
  ·obtain ⟨b, off, rfl, _, hc⟩ := hr (by omega)
   have hcell := hc k (by omega)
   have hzr := hz _ (List.getElem_mem (l := zs) (n := k) (by omega))
   have hst := fold_snoc zs (k := k) (by omega)
   have hr1 := fold_range (zs.take k)
   have e : zs[k]'(by omega) = zs.getD k 0 := by simp [List.getD_eq_getElem?_getD, show k < zs.length by omega]
   rw [e] at hzr
   obtain ⟨z, hz1⟩ : ∃ z, zs.getD k 0 = z := ⟨_, rfl⟩
   obtain ⟨h, hh⟩ : ∃ h, foldH (zs.take k) = h := ⟨_, rfl⟩
   rw [hz1] at hcell hzr hst
   rw [hh] at hst hr1 ⊢
   have HB := Lib.hid ((step_bits hr1 hzr).trans hst.symm)
   clear e hz1 hh hst hr1 hc hr hz
   go_wp2_with fail
   exact ⟨⟨k + 1, rfl, by omega, by rw [HB.out]⟩, by simp only [intOf]; omega⟩
  ·have hkn : k = n := by omega
   subst hkn
   have hfull : foldH (zs.take k) = foldH zs := by rw [List.take_of_length_le (by omega)]
   have hr1 := fold_range zs
   have HB := Lib.hid (show bits .xor .u64 (IntKind.u64.wrap (bits .xor .u64 (foldH zs) (foldH zs / 8589934592) * 18397679294719823053)) (IntKind.u64.wrap (bits .xor .u64 (foldH zs) (foldH zs / 8589934592) * 18397679294719823053) / 8589934592) = hashL zs by
    rw [fin_bits hr1, fin_bits (wrap_range _)]
    rfl)
   rw [hfull]
   obtain ⟨h, hh⟩ : ∃ h, foldH zs = h := ⟨_, rfl⟩
   rw [hh] at HB ⊢
   clear hfull hr1 hh hr hz hn
   go_wp2_with fail
   go_ret
   exact ⟨by rw [HB.out]; rfl, rfl⟩

set_option maxRecDepth 100000 in
theorem ref_hash_any (A : Option Addr) (c n : Nat) (zs : List Int) (hn : zs.length = n) (hz : ∀ z ∈ zs, 0 ≤ z ∧ z ≤ 255) (w : World) (hr : Ns .u8 w w.heap.size A zs) (hbig : n ≤ 140737488355328) :
  Calls Tryz.prog 78 #[.slice A n c] w fun e w' => e = .returned (.int .u64 (hashL zs)) ∧ w = w' := by
 go_enter Tryz.func78, Tryz.ntmps78
 go_wp2_with fail
 go_loop [3, 4] (fun hv iv => ∃ k : Nat, iv = .int .i64 k ∧ k ≤ n ∧ hv = .int .u64 (foldH (zs.take k))) (fun _ iv => n - (intOf iv).toNat)
 case atStart => exact ⟨0, rfl, by omega, rfl⟩
 case round =>
  obtain ⟨k, rfl, hk, rfl⟩ := hrel
  by_cases hlt : k < n
  ·obtain ⟨b, off, rfl, _, hc⟩ := hr (by omega)
   have hcell := hc k (by omega)
   have hzr := hz _ (List.getElem_mem (l := zs) (n := k) (by omega))
   have hst := fold_snoc zs (k := k) (by omega)
   have hr1 := fold_range (zs.take k)
   have e : zs[k]'(by omega) = zs.getD k 0 := by simp [List.getD_eq_getElem?_getD, show k < zs.length by omega]
   rw [e] at hzr
   obtain ⟨z, hz1⟩ : ∃ z, zs.getD k 0 = z := ⟨_, rfl⟩
   obtain ⟨h, hh⟩ : ∃ h, foldH (zs.take k) = h := ⟨_, rfl⟩
   rw [hz1] at hcell hzr hst
   rw [hh] at hst hr1 ⊢
   have HB := Lib.hid ((step_bits hr1 hzr).trans hst.symm)
   clear e hz1 hh hst hr1 hc hr hz
   go_wp2_with fail
   exact ⟨⟨k + 1, rfl, by omega, by rw [HB.out]⟩, by simp only [intOf]; omega⟩
  ·have hkn : k = n := by omega
   subst hkn
   have hfull : foldH (zs.take k) = foldH zs := by rw [List.take_of_length_le (by omega)]
   have hr1 := fold_range zs
   have HB := Lib.hid (show bits .xor .u64 (IntKind.u64.wrap (bits .xor .u64 (foldH zs) (IntKind.u64.wrap ((foldH zs).tdiv 8589934592)) * 18397679294719823053)) (IntKind.u64.wrap ((IntKind.u64.wrap (bits .xor .u64 (foldH zs) (IntKind.u64.wrap ((foldH zs).tdiv 8589934592)) * 18397679294719823053)).tdiv 8589934592)) = hashL zs by
    rw [quo_u hr1, fin_bits hr1, quo_u (wrap_range _), fin_bits (wrap_range _)]
    rfl)
   rw [hfull]
   obtain ⟨h, hh⟩ : ∃ h, foldH zs = h := ⟨_, rfl⟩
   rw [hh] at HB ⊢
   clear hfull hr1 hh hr hz hn
   go_wp2_with fail
   go_ret
   exact ⟨by rw [HB.out]; rfl, rfl⟩
end Ring
end Go.Proofs.YtkfdplfgaddkmaaGreat

/-
 Plain words of layer 11: a tree is its records; a place's hash is made of what is beneath it.
-/
namespace Go.Proofs.YtkfdplfgaddkmaaGreat
namespace Tree
open Vers Num Ring Disk Go.Proofs.YtkfdplfgaddkmaaGreat.Code

def keyH (k : Nm) : Int := hashL (strNums k)
def dig0 (k : Nm) : Int := keyH k / 1152921504606846976
def dig1 (k : Nm) : Int := keyH k / 72057594037927936 % 16
theorem dig0_range (k : Nm) : 0 ≤ dig0 k ∧ dig0 k < 16 := by
 have h := hash_range (strNums k)
 unfold U at h
 unfold dig0 keyH
 omega
theorem dig1_range (k : Nm) : 0 ≤ dig1 k ∧ dig1 k < 16 := by unfold dig1; omega
def leafN (k : Nm) : Nat := (dig0 k * 16 + dig1 k).toNat
theorem leaf_lt (k : Nm) : leafN k < 256 := by
 have h0 := dig0_range k
 have h1 := dig1_range k
 unfold leafN
 omega
def inP : List Int → Nm → Bool
 | [], _ => true
 | [p], k => decide (dig0 k = p)
 | p :: q :: _, k => decide (dig0 k = p) && decide (dig1 k = q)
def okP (p : List Int) : Prop := (∀ d ∈ p, 0 ≤ d ∧ d < 16) ∧ p.length ≤ 2
instance (p : List Int) : Decidable (okP p) := by unfold okP; infer_instance
def beneath (all : List Rc) (p : List Int) : List Rc := all.filter fun r => inP p r.1
def leafR (all : List Rc) (i : Nat) : List Rc := all.filter fun r => decide (leafN r.1 = i)
def halves (h : Int) : List Int := putL (h / 4294967296) ++ putL (h % 4294967296)
def dotL (v : Vr) : List Int := putL v.s ++ putL v.n
def markL (r : Rc) : List Int := textL r.1 ++ r.2.flatMap dotL
def markF (r : Rc) : Int := hashL (markL r)
def leafT (l : List Rc) : List Int := l.flatMap fun r => halves (markF r)
def kidsT (f : Nat → Int) (n : Nat) : List Int := (List.range n).flatMap fun d => halves (f d)
def hF : Nat → List Rc → List Int → Int
 | 0, all, p => if beneath all p = [] then 0 else hashL (leafT (beneath all p))
 | k + 1, all, p => if beneath all p = [] then 0 else hashL (kidsT (fun d => hF k all (p ++ [(d : Int)])) 16)
def hashF (all : List Rc) (p : List Int) : Int := if okP p then hF (2 - p.length) all p else 0
def kidsF (all : List Rc) (p : List Int) : List Int := if okP p ∧ p.length < 2 then (List.range 16).map fun (d : Nat) => hashF all (p ++ [(d : Int)]) else []
def recsF (all : List Rc) (p : List Int) : List Rc := if okP p then beneath all p else []
def withR (all : List Rc) (r : Rc) : List Rc := if r.2 = [] then wout all r.1 else wit all r.1 r.2
def diffF (a b : List Int) : List Int := ((List.range 16).filter fun (i : Nat) => !decide (a.getD i 0 = b.getD i 0)).map fun (i : Nat) => (i : Int)

theorem hF_range (k : Nat) (all : List Rc) (p : List Int) : U (hF k all p) := by
 cases k <;> unfold hF <;> split
 ·unfold U; omega
 ·exact hash_range _
 ·unfold U; omega
 ·exact hash_range _
theorem halves_bytes {h : Int} (hh : U h) : ∀ z ∈ halves h, 0 ≤ z ∧ z ≤ 255 := by
 unfold U at hh
 intro z hz
 rcases List.mem_append.1 hz with hz | hz
 ·exact putL_bytes _ (by omega) z hz
 ·exact putL_bytes _ (by omega) z hz
theorem putF_len5 (k : Nat) (n : Int) (h0 : 0 ≤ n) (h : n < 4294967296) : (putF k n).length ≤ 5 := by
 rcases k with _ | k
 ·simp [putF]
 by_cases h1 : n < 128
 ·rw [putF_last _ _ h1]; simp
 rw [putF_more _ _ (by omega), List.length_cons]
 rcases k with _ | k
 ·simp [putF]
 by_cases h2 : n / 128 < 128
 ·rw [putF_last _ _ h2]; simp
 rw [putF_more _ _ (by omega), List.length_cons]
 rcases k with _ | k
 ·simp [putF]
 by_cases h3 : n / 128 / 128 < 128
 ·rw [putF_last _ _ h3]; simp
 rw [putF_more _ _ (by omega), List.length_cons]
 rcases k with _ | k
 ·simp [putF]
 by_cases h4 : n / 128 / 128 / 128 < 128
 ·rw [putF_last _ _ h4]; simp
 rw [putF_more _ _ (by omega), List.length_cons]
 rcases k with _ | k
 ·simp [putF]
 rw [putF_last _ _ (by omega)]; simp
theorem halves_len10 {h : Int} (hh : U h) : (halves h).length ≤ 10 := by
 unfold U at hh
 have h1 := putF_len5 9 (h / 4294967296) (by omega) (by omega)
 have h2 := putF_len5 9 (h % 4294967296) (by omega) (by omega)
 unfold halves putL
 rw [List.length_append]
 omega
theorem flat_len {α : Type} (f : α → List Int) (m : Nat) (l : List α) (h : ∀ x ∈ l, (f x).length ≤ m) : (l.flatMap f).length ≤ l.length * m := by
 induction l with
 | nil => simp
 | cons x l ih =>
  have h1 := h x (by simp)
  have h2 := ih fun y hy => h y (by simp [hy])
  rw [List.flatMap_cons, List.length_append, List.length_cons]
  have : (l.length + 1) * m = l.length * m + m := Nat.succ_mul _ _
  omega
theorem flat_bytes {α : Type} (f : α → List Int) (l : List α) (h : ∀ x ∈ l, ∀ z ∈ f x, 0 ≤ z ∧ z ≤ 255) : ∀ z ∈ l.flatMap f, 0 ≤ z ∧ z ≤ 255 := by
 intro z hz
 obtain ⟨x, hx, hz⟩ := List.mem_flatMap.1 hz
 exact h x hx z hz
theorem leafT_len (l : List Rc) : (leafT l).length ≤ l.length * 10 := flat_len _ 10 l fun _ _ => halves_len10 (hash_range _)
theorem leafT_bytes (l : List Rc) : ∀ z ∈ leafT l, 0 ≤ z ∧ z ≤ 255 := flat_bytes _ l fun _ _ => halves_bytes (hash_range _)
theorem kidsT_len (f : Nat → Int) (n : Nat) (h : ∀ d, U (f d)) : (kidsT f n).length ≤ n * 10 := by
 have := flat_len (fun d => halves (f d)) 10 (List.range n) fun _ _ => halves_len10 (h _)
 simpa [kidsT] using this
theorem kidsT_bytes (f : Nat → Int) (n : Nat) (h : ∀ d, U (f d)) : ∀ z ∈ kidsT f n, 0 ≤ z ∧ z ≤ 255 := flat_bytes _ _ fun _ _ => halves_bytes (h _)
theorem kidsT_succ (f : Nat → Int) (n : Nat) : kidsT f (n + 1) = kidsT f n ++ halves (f n) := by simp [kidsT, List.range_succ]

/-! ### The records, beneath paths and in leaves -/
def fromN : List Int → Nat
 | [] => 0
 | [p] => (p * 16).toNat
 | p :: q :: _ => (p * 16 + q).toNat
def toN : List Int → Nat
 | [] => 256
 | [p] => ((p + 1) * 16).toNat
 | p :: q :: _ => (p * 16 + q + 1).toNat
def spotN : List Int → Nat
 | [] => 0
 | [p] => (1 + p).toNat
 | p :: q :: _ => (17 + p * 16 + q).toNat
theorem ok_zero : okP [] := by decide
theorem ok_one {p : Int} : okP [p] ↔ 0 ≤ p ∧ p < 16 := by simp [okP]
theorem ok_two {p q : Int} : okP [p, q] ↔ (0 ≤ p ∧ p < 16) ∧ 0 ≤ q ∧ q < 16 := by simp [okP]
theorem ok_cases {p : List Int} (h : okP p) : p = [] ∨ (∃ a, p = [a] ∧ 0 ≤ a ∧ a < 16) ∨ ∃ a b, p = [a, b] ∧ (0 ≤ a ∧ a < 16) ∧ 0 ≤ b ∧ b < 16 := by
 match p, h with
 | [], _ => exact .inl rfl
 | [a], h => exact .inr (.inl ⟨a, rfl, ok_one.1 h⟩)
 | [a, b], h => exact .inr (.inr ⟨a, b, rfl, ok_two.1 h⟩)
 | _ :: _ :: _ :: _, h => exact absurd h.2 (by simp)
theorem spot_lt {p : List Int} (h : okP p) : spotN p < 273 := by
 rcases ok_cases h with rfl | ⟨a, rfl, ha⟩ | ⟨a, b, rfl, ha, hb⟩
 ·simp [spotN]
 ·simp only [spotN]; omega
 ·simp only [spotN]; omega
theorem spot_inj {p q : List Int} (h : okP p) (h' : okP q) (e : spotN p = spotN q) : p = q := by
 rcases ok_cases h with rfl | ⟨a, rfl, ha⟩ | ⟨a, b, rfl, ha, hb⟩
 ·rcases ok_cases h' with rfl | ⟨c, rfl, hc⟩ | ⟨c, d, rfl, hc, hd⟩
  ·rfl
  ·simp only [spotN] at e; omega
  ·simp only [spotN] at e; omega
 ·rcases ok_cases h' with rfl | ⟨c, rfl, hc⟩ | ⟨c, d, rfl, hc, hd⟩
  ·simp only [spotN] at e; omega
  ·simp only [spotN] at e
   have : a = c := by omega
   rw [this]
  ·simp only [spotN] at e; omega
 ·rcases ok_cases h' with rfl | ⟨c, rfl, hc⟩ | ⟨c, d, rfl, hc, hd⟩
  ·simp only [spotN] at e; omega
  ·simp only [spotN] at e; omega
  ·simp only [spotN] at e
   have h1 : a = c := by omega
   have h2 : b = d := by omega
   rw [h1, h2]
theorem ok_longer {p : List Int} (h : okP p) (hl : p.length < 2) {d : Nat} (hd : d < 16) : okP (p ++ [(d : Int)]) := by
 refine ⟨fun x hx => ?_, by simp; omega⟩
 rcases List.mem_append.1 hx with hx | hx
 ·exact h.1 x hx
 ·simp at hx; omega
theorem in_leaf {p : List Int} (h : okP p) (k : Nm) : inP p k = true ↔ fromN p ≤ leafN k ∧ leafN k < toN p := by
 have h0 := dig0_range k
 have h1 := dig1_range k
 have hl := leaf_lt k
 rcases ok_cases h with rfl | ⟨a, rfl, ha⟩ | ⟨a, b, rfl, ha, hb⟩
 ·simp [inP, fromN, toN]; exact hl
 ·simp only [inP, fromN, toN, leafN, decide_eq_true_eq]
  omega
 ·simp only [inP, fromN, toN, leafN, Bool.and_eq_true, decide_eq_true_eq]
  omega
theorem from_lt {p : List Int} (h : okP p) : fromN p < toN p ∧ toN p ≤ 256 := by
 rcases ok_cases h with rfl | ⟨a, rfl, ha⟩ | ⟨a, b, rfl, ha, hb⟩
 ·simp [fromN, toN]
 ·simp only [fromN, toN]; omega
 ·simp only [fromN, toN]; omega
theorem beneath_nil (all : List Rc) : beneath all [] = all := List.filter_eq_self.2 fun _ _ => rfl
theorem beneath_mem {all : List Rc} {p : List Int} {r : Rc} : r ∈ beneath all p ↔ r ∈ all ∧ inP p r.1 = true := by simp [beneath]
theorem leaf_mem {all : List Rc} {i : Nat} {r : Rc} : r ∈ leafR all i ↔ r ∈ all ∧ leafN r.1 = i := by simp [leafR]
theorem beneath_srt {all : List Rc} (h : Srt all) (p : List Int) : Srt (beneath all p) := List.Pairwise.filter _ h
theorem leaf_srt {all : List Rc} (h : Srt all) (i : Nat) : Srt (leafR all i) := List.Pairwise.filter _ h
theorem beneath_len (all : List Rc) (p : List Int) : (beneath all p).length ≤ all.length := List.length_filter_le _ _
theorem srt_mem {β : Type} {l m : List (Nm × β)} (hl : Srt l) (hm : Srt m) (h : ∀ x, x ∈ l ↔ x ∈ m) : l = m := by
 refine srt_ext hl hm fun s => ?_
 cases hf : find l s with
 | none =>
  refine Eq.symm (find_none.2 fun x hx => ?_)
  exact find_none.1 hf x ((h x).2 hx)
 | some b =>
  have h1 := (h _).1 (find_some hf)
  exact (find_mem hm h1).symm
theorem with_mem {all : List Rc} {r x : Rc} : x ∈ withR all r ↔ (x = r ∧ r.2 ≠ []) ∨ (x ∈ all ∧ x.1 ≠ r.1) := by
 unfold withR
 by_cases h : r.2 = []
 ·rw [if_pos h, mem_wout]
  simp [h]
 ·rw [if_neg h, mem_wit]
  simp [h]
theorem with_srt {all : List Rc} (h : Srt all) (r : Rc) : Srt (withR all r) := by
 unfold withR
 split
 ·exact h.wout _
 ·exact h.wit _ _
theorem wout_len {β : Type} (l : List (Nm × β)) (s : Nm) : (wout l s).length ≤ l.length := List.length_filter_le _ _
theorem ins_len {β : Type} (l : List (Nm × β)) (s : Nm) (b : β) : (ins l s b).length = l.length + 1 := by
 induction l with
 | nil => rfl
 | cons y l ih =>
  unfold ins
  split
  ·rfl
  ·simp only [List.length_cons, ih]
theorem with_len (all : List Rc) (r : Rc) : (withR all r).length ≤ all.length + 1 := by
 unfold withR
 split
 ·have := wout_len all r.1; omega
 ·rw [wit, ins_len]; have := wout_len all r.1; omega
theorem leaf_with_ne {all : List Rc} (hs : Srt all) (r : Rc) {i : Nat} (hi : i ≠ leafN r.1) : leafR (withR all r) i = leafR all i := by
 refine srt_mem (leaf_srt (with_srt hs r) i) (leaf_srt hs i) fun x => ?_
 rw [leaf_mem, leaf_mem, with_mem]
 constructor
 ·rintro ⟨⟨rfl, _⟩ | ⟨h1, _⟩, h2⟩
  ·exact absurd h2.symm hi
  ·exact ⟨h1, h2⟩
 ·rintro ⟨h1, h2⟩
  exact ⟨.inr ⟨h1, fun e => hi (by rw [← h2, e])⟩, h2⟩
theorem leaf_with_eq {all : List Rc} (hs : Srt all) (r : Rc) : leafR (withR all r) (leafN r.1) = withR (leafR all (leafN r.1)) r := by
 refine srt_mem (leaf_srt (with_srt hs r) _) (with_srt (leaf_srt hs _) r) fun x => ?_
 rw [leaf_mem, with_mem, with_mem, leaf_mem]
 constructor
 ·rintro ⟨⟨rfl, h⟩ | ⟨h1, h3⟩, h2⟩
  ·exact .inl ⟨rfl, h⟩
  ·exact .inr ⟨⟨h1, h2⟩, h3⟩
 ·rintro (⟨rfl, h⟩ | ⟨⟨h1, h2⟩, h3⟩)
  ·exact ⟨.inl ⟨rfl, h⟩, rfl⟩
  ·exact ⟨.inr ⟨h1, h3⟩, h2⟩
theorem beneath_beneath (all : List Rc) (p : List Int) (hp : okP p) (d : Int) : beneath (beneath all p) (p ++ [d]) = beneath all (p ++ [d]) ∨ 2 ≤ p.length := by
 rcases ok_cases hp with rfl | ⟨a, rfl, _⟩ | ⟨a, b, rfl, _, _⟩
 ·left
  rw [beneath_nil]
 ·left
  unfold beneath
  rw [List.filter_filter]
  congr 1
  funext r
  simp only [inP, List.cons_append, List.nil_append]
  by_cases h : dig0 r.1 = a
  ·simp [h]
  ·simp [h]
 ·right
  simp
theorem hF_congr : ∀ (k : Nat) (all all' : List Rc) (p : List Int), okP p → p.length + k = 2 → beneath all p = beneath all' p → hF k all p = hF k all' p
 | 0, all, all', p, _, _, h => by unfold hF; rw [h]
 | k + 1, all, all', p, hp, hk, h => by
  unfold hF
  rw [h]
  split
  ·rfl
  ·congr 1
   unfold kidsT
   congr 1
   funext d
   congr 1
   by_cases hd : d < 16
   ·refine hF_congr k all all' _ (ok_longer hp (by omega) hd) (by simp; omega) ?_
    have h1 := (beneath_beneath all p hp d).resolve_right (by omega)
    have h2 := (beneath_beneath all' p hp d).resolve_right (by omega)
    rw [← h1, ← h2, h]
   ·have hn : ∀ a : List Rc, beneath a (p ++ [(d : Int)]) = [] := fun a => by
     refine List.filter_eq_nil_iff.2 fun r _ => ?_
     have h0 := dig0_range r.1
     have h1 := dig1_range r.1
     rcases ok_cases hp with rfl | ⟨x, rfl, _⟩ | ⟨x, y, rfl, _, _⟩
     ·simp [inP]; omega
     ·simp [inP]; intro _; omega
     ·simp at hk
    cases k <;> unfold hF <;> simp only [hn, if_true]
theorem hF_beneath (k : Nat) (all : List Rc) (p : List Int) (d : Int) (hp : okP (p ++ [d])) (hk : p.length + 1 + k = 2) : hF k (beneath all p) (p ++ [d]) = hF k all (p ++ [d]) := by
 refine hF_congr k _ _ _ hp (by simp; omega) ?_
 have hp' : okP p := ⟨fun x hx => hp.1 x (by simp [hx]), by omega⟩
 exact (beneath_beneath all p hp' d).resolve_right (by omega)
end Tree
end Go.Proofs.YtkfdplfgaddkmaaGreat

/-
 Plain words of layer 14: what one holds, what one takes, gives and answers.
-/
namespace Go.Proofs.YtkfdplfgaddkmaaGreat
namespace Mend
open Vers Num Ring Disk Tree Go.Proofs.YtkfdplfgaddkmaaGreat.Code

def getF (l : List Rc) (k : Nm) : List Vr := (find l k).getD []
def heldF (l : List Rc) : List Rc := l.foldl withR []
def okL (l : List Rc) : Prop := ∀ r ∈ l, okR r
instance (l : List Rc) : Decidable (okL l) := by unfold okL; infer_instance
theorem find_with (l : List Rc) (r : Rc) (t : Nm) : find (withR l r) t = if t = r.1 then (if r.2 = [] then none else some r.2) else find l t := by
 unfold withR
 by_cases h : r.2 = []
 ·rw [if_pos h, if_pos h, find_wout]
 ·rw [if_neg h, if_neg h, find_wit]
theorem get_with (l : List Rc) (r : Rc) (t : Nm) : getF (withR l r) t = if t = r.1 then r.2 else getF l t := by
 unfold getF
 rw [find_with]
 by_cases ht : t = r.1
 ·rw [if_pos ht, if_pos ht]
  by_cases h : r.2 = []
  ·rw [if_pos h, h]; rfl
  ·rw [if_neg h]; rfl
 ·rw [if_neg ht, if_neg ht]
def Hel (l : List Rc) : Prop := Srt l ∧ ∀ r ∈ l, r.2 ≠ []
theorem hel_nil : Hel [] := ⟨Srt.nil, fun _ h => by cases h⟩
theorem Hel.with {l : List Rc} (h : Hel l) (r : Rc) : Hel (withR l r) := ⟨with_srt h.1 r, fun x hx => by
 rcases with_mem.1 hx with ⟨rfl, hn⟩ | ⟨hx, _⟩
 ·exact hn
 ·exact h.2 x hx⟩
theorem hel_fold (l : List Rc) : ∀ acc : List Rc, Hel acc → Hel (l.foldl withR acc) := by
 induction l with
 | nil => exact fun _ h => h
 | cons r l ih => exact fun acc h => ih _ (h.with r)
theorem held_hel (l : List Rc) : Hel (heldF l) := hel_fold l [] hel_nil
theorem held_snoc (l : List Rc) (r : Rc) : heldF (l ++ [r]) = withR (heldF l) r := by simp [heldF]
theorem hel_ext {l m : List Rc} (hl : Hel l) (hm : Hel m) (h : ∀ k, getF l k = getF m k) : l = m := by
 refine srt_ext hl.1 hm.1 fun k => ?_
 have hk := h k
 unfold getF at hk
 cases h1 : find l k with
 | none =>
  cases h2 : find m k with
  | none => rfl
  | some b =>
   rw [h1, h2] at hk
   exact absurd hk.symm (hm.2 _ (find_some h2))
 | some a =>
  cases h2 : find m k with
  | none =>
   rw [h1, h2] at hk
   exact absurd hk (hl.2 _ (find_some h1))
  | some b =>
   rw [h1, h2] at hk
   exact congrArg some hk
def mergeR (now : List Rc) (r : Rc) : List Rc := if (mergeF (getF now r.1) r.2).2 = 0 then withR now (r.1, (mergeF (getF now r.1) r.2).1) else now
abbrev Stp3 := List Int × List Int × List Rc
end Mend
end Go.Proofs.YtkfdplfgaddkmaaGreat

/-
 A map from names to slices, whatever the slices lead to: each value is held as it stands (layer 11).
-/
namespace Go.Proofs.YtkfdplfgaddkmaaGreat
namespace Tree
open Go.RowKit Blk Go.Maps Disk
def heldE (v : Value) : Option (DataW Value × List MemPlace) := some (.held v, [])
theorem keyed : Keyed Tryz.prog 9 := string_keyed Tryz.underlying9
def okN (s : Nm) : Prop := s.size ≤ maxLen
theorem key_of {s : Nm} (h : okN s) : ∃ kl, keyOf Tryz.prog 9 (.string s) = some kl := ⟨_, WideMaps.keyOf_string_mk Tryz.underlying9 h⟩
theorem key_inj {s t : Nm} {kl : Lit} (h : keyOf Tryz.prog 9 (.string s) = some kl) (h' : keyOf Tryz.prog 9 (.string t) = some kl) : s = t := by
 have := keyed.inj h h'
 injection this
theorem key_inv {key : Value} {kl : Lit} (h : keyOf Tryz.prog 9 key = some kl) : ∃ s : Nm, key = .string s ∧ okN s := by
 cases key <;> simp [keyOf, mapKey, Tryz.underlying9] at h
 exact ⟨_, rfl, h.1⟩
abbrev Vl := List (Nm × Value)
def MapV (D : DataW Value) (l : Vl) : Prop := ∀ s kl, keyOf Tryz.prog 9 (.string s) = some kl → ∀ z, D.atKey kl z = (match find l s with | some v => .held v | none => z)
theorem MapV.has {D : DataW Value} {l : Vl} (h : MapV D l) {s : Nm} {kl : Lit} (hk : keyOf Tryz.prog 9 (.string s) = some kl) : Maps.has D kl = (find l s).isSome := by
 have h1 := h s kl hk
 rcases hf : find l s with _ | v
 ·rw [hf] at h1
  exact Maps.has_false_of_atKey h1
 ·rw [hf] at h1
  exact Maps.has_true_of_atKey h1
def MI (w : World) (mb : Nat) (l : Vl) : Prop := ∃ D n, w.ownsMap Tryz.prog 9 heldE mb n D ∧ MapV D l ∧ Srt l ∧ (∀ x ∈ l, okN x.1) ∧ Maps.size D = l.length
theorem shrink {w : World} {mb n : Nat} {D : DataW Value} (h : w.ownsMap Tryz.prog 9 heldE mb n D) : w.ownsMap Tryz.prog 9 heldE mb (Maps.size D) D := by
 obtain ⟨es, clock, hb, F, _, rfl⟩ := h
 exact ⟨es, clock, hb, F, by simp [Maps.size, length_sorted], rfl⟩
theorem len_wout {l : Vl} (h : Srt l) (s : Nm) : (wout l s).length + (if (find l s).isSome then 1 else 0) = l.length := by
 induction l with
 | nil => rfl
 | cons y l ih =>
  obtain ⟨h1, h2⟩ := List.pairwise_cons.1 h
  have ih := ih h2
  have e : wout (y :: l) s = if y.1 = s then wout l s else y :: wout l s := by
   unfold wout
   by_cases h : y.1 = s
   ·simp [h]
   ·simp [h]
  rw [e]
  unfold find
  by_cases hs : y.1 = s
  ·have n1 : find l s = none := find_none.2 fun z hz e2 => nlt_ne (h1 z hz) (hs.trans e2.symm)
   rw [n1] at ih
   rw [if_pos hs, if_pos hs]
   simp at ih ⊢
   omega
  ·rw [if_neg hs, if_neg hs]
   simp only [List.length_cons]
   omega
theorem len_ins {β : Type} (l : List (Nm × β)) (s : Nm) (b : β) : (ins l s b).length = l.length + 1 := by
 induction l with
 | nil => rfl
 | cons y l ih =>
  unfold ins
  split
  ·rfl
  ·simp only [List.length_cons, ih]
section
variable {w w' : World} {mb : Nat} {l : Vl}
theorem MI.lt (h : MI w mb l) : mb < w.heap.size := by
 obtain ⟨D, n, h, _⟩ := h
 exact h.lt
theorem MI.srt (h : MI w mb l) : Srt l := by
 obtain ⟨D, n, _, _, h, _⟩ := h
 exact h
theorem MI.same (h : MI w mb l) (hk : w'.heap[mb]? = w.heap[mb]?) : MI w' mb l := by
 obtain ⟨D, n, ⟨q, clock, h1, h2⟩, hr⟩ := h
 exact ⟨D, n, ⟨q, clock, hk.trans h1, h2⟩, hr⟩
theorem MI.ne (h : MI w mb l) {t : TypeId} {cs : Array Value} {fr : Nat × Nat} {g : Nat} (hc : w.heap[g]? = some (.cells cs t fr)) : g ≠ mb := fun q => by
 obtain ⟨D, n, ⟨q1, q2, q3, _⟩, _⟩ := h
 rw [q, q3] at hc
 injection hc with hc
 cases hc
theorem mi_made (w : World) : MI (w.alloc (.map #[] 0)) w.heap.size [] :=
 ⟨_, 0, World.ownsMap_made w _ _ _, (fun s kl _ z => by rfl), Srt.nil, (fun x hx => by cases hx), rfl⟩
theorem MI.store (h : MI w mb l) (hn : l.length < 140737488355328) (s : Nm) (hs : okN s) (v : Value) : ∃ w', (Instr.mapUpdate 93 (.map (some mb)) (.string s) v).run Tryz.prog w = .ok () w' ∧ MI w' mb (wit l s v) ∧ w.grownBy w' (some mb) := by
 obtain ⟨D, n, ho, hm, hsr, hok, hsz⟩ := h
 obtain ⟨kl, hkl⟩ := key_of hs
 obtain ⟨w', hrun, h1, h2⟩ := (shrink ho).store (t := 93) (e := 67) keyed Tryz.underlying93 (by rw [hsz]; unfold maxLen; omega) (d := .held v) (ps := []) hkl rfl
 refine ⟨w', hrun, ⟨_, _, h1, fun t kt hkt z => ?_, hsr.wit s v, fun x hx => ?_, ?_⟩, h2.grown⟩
 ·rw [find_wit]
  by_cases e : t = s
  ·subst e
   obtain rfl : kt = kl := by rw [hkt] at hkl; injection hkl
   rw [if_pos rfl, Maps.atKey_put_same ho.isMap (keyed.key hkl)]
  ·rw [if_neg e, Maps.atKey_put_other (fun q => e (key_inj hkt (by rw [q]; exact hkl)))]
   exact hm t kt hkt z
 ·rcases mem_wit.1 hx with rfl | ⟨hx, _⟩
  ·exact hs
  ·exact hok x hx
 ·rw [Maps.size_put (ho.tidy keyed), hm.has hkl, hsz, wit, len_ins]
  have := len_wout hsr s
  split at this <;> rename_i hc
  ·rw [if_pos hc]; omega
  ·rw [if_neg hc]; omega
theorem MI.drop (h : MI w mb l) (s : Nm) (hs : okN s) (ty : TypeId) : ∃ w', (Builtin.delete_ #[93, 9] ty #[.map (some mb), .string s]).run Tryz.prog w = .ok (.tuple #[]) w' ∧ MI w' mb (wout l s) ∧ w.grownBy w' (some mb) := by
 obtain ⟨D, n, ho, hm, hsr, hok, hsz⟩ := h
 obtain ⟨kl, hkl⟩ := key_of hs
 obtain ⟨w', hrun, h1, h2⟩ := ho.drop (t := 93) (e := 67) keyed Tryz.underlying93 hkl ty
 refine ⟨w', hrun, ⟨_, _, h1, fun t kt hkt z => ?_, hsr.wout s, fun x hx => hok x (mem_wout.1 hx).1, ?_⟩, h2.grown⟩
 ·rw [find_wout]
  by_cases e : t = s
  ·subst e
   obtain rfl : kt = kl := by rw [hkt] at hkl; injection hkl
   rw [if_pos rfl, Maps.atKey_del_same]
  ·rw [if_neg e, Maps.atKey_del_other (fun q => e (key_inj hkt (by rw [q]; exact hkl)))]
   exact hm t kt hkt z
 ·have h3 := Maps.size_del (k := kl) (ho.tidy keyed)
  rw [hm.has hkl, hsz] at h3
  have := len_wout hsr s
  omega
end
end Tree
end Go.Proofs.YtkfdplfgaddkmaaGreat
