/-
 Several texts of this family in one: NumPlain, NumWalk, NumRef, Text, CodeParse, CodeRd, CodeSpans.
-/
import Derived.WalkKit
import Derived.Test.YtekhaejhmlebbaaGreatRows
import Derived.Test.YtekhaejhmlebbaaGreatRGBase
import Derived.Test.YtekhaejhmlebbaaGreatRGSpanA
import Derived.RangeFuncBox
import Derived.WalkLawsBesides
import Derived.Deep.RegionHeld3
import Derived.Deep.DrawnRows
import Derived.Test.YtekhaejhmlebbaaGreatRGVect
/-
 Plain words of layer 1: a number's bytes, read one by one.
-/
namespace Go.Proofs.YtekhaejhmlebbaaGreat
namespace Num
open Go.RowKit

def numR : List Int → Nat → Nat → Int → Int × Nat × Int
 | [], _, _, _ => (0, 0, 4)
 | c :: r, p, i, n =>
  if (i = 8 ∧ 127 < c) ∨ (0 < i ∧ c = 0) then (0, 0, 2)
  else if c < 128 then (n + c * 128 ^ i, p + 1, 0)
  else numR r (p + 1) (i + 1) (n + (c - 128) * 128 ^ i)

def numF (zs : List Int) (i : Nat) : Int × Nat × Int := numR (zs.drop i) i 0 0

def putF : Nat → Int → List Int
 | 0, _ => []
 | k + 1, n => if n < 128 then [n] else (n % 128 + 128) :: putF k (n / 128)
def putL (n : Int) : List Int := putF 9 n

theorem putF_last (k : Nat) (n : Int) (h : n < 128) : putF (k + 1) n = [n] := by rw [putF, if_pos h]
theorem putF_more (k : Nat) (n : Int) (h : 128 ≤ n) : putF (k + 1) n = (n % 128 + 128) :: putF k (n / 128) := by rw [putF, if_neg (by omega)]

def Laid (n : Int) (acc : List Int) (f : Nat) (m : Int) : Prop := putL n = acc ++ putF (f + 1) m ∧ m < 128 ^ (f + 1) ∧ acc.length + (f + 1) = 9
theorem laid_start (n : Int) (h : n ≤ 9223372036854775807) : Laid n [] 8 n := ⟨rfl, by omega, rfl⟩
theorem laid_len {n : Int} {acc : List Int} {f : Nat} {m : Int} (h : Laid n acc f m) : acc.length ≤ 8 := by have := h.2.2; omega
theorem laid_more {n : Int} {acc : List Int} {f : Nat} {m : Int} (h : Laid n acc f m) (hm : 128 ≤ m) : ∃ g, Laid n (acc ++ [m % 128 + 128]) g (m / 128) := by
 obtain ⟨h1, h2, h3⟩ := h
 cases f with
 | zero => simp at h2; omega
 | succ g =>
  refine ⟨g, ?_, ?_, by simp; omega⟩
  ·rw [h1, putF_more _ _ hm]; simp
  ·rw [Int.pow_succ] at h2
   exact Int.ediv_lt_of_lt_mul (by omega) h2
theorem laid_last {n : Int} {acc : List Int} {f : Nat} {m : Int} (h : Laid n acc f m) (hm : m < 128) : putL n = acc ++ [m] := by
 rw [h.1, putF_last _ _ hm]

theorem putF_bytes : ∀ (k : Nat) (n : Int), 0 ≤ n → ∀ z ∈ putF k n, 0 ≤ z ∧ z ≤ 255
 | 0, _, _, z, hz => by simp [putF] at hz
 | k + 1, n, hn, z, hz => by
  by_cases h : n < 128
  ·rw [putF_last _ _ h] at hz; simp at hz; omega
  ·rw [putF_more _ _ (by omega)] at hz
   rcases List.mem_cons.1 hz with rfl | hz
   ·omega
   ·exact putF_bytes k (n / 128) (by omega) z hz
theorem putF_len : ∀ (k : Nat) (n : Int), (putF k n).length ≤ k
 | 0, _ => by simp [putF]
 | k + 1, n => by
  by_cases h : n < 128
  ·rw [putF_last _ _ h]; simp
  ·rw [putF_more _ _ (by omega)]; have := putF_len k (n / 128); simp; omega
theorem putF_pos (k : Nat) (n : Int) : 1 ≤ (putF (k + 1) n).length := by
 by_cases h : n < 128
 ·rw [putF_last _ _ h]; simp
 ·rw [putF_more _ _ (by omega)]; simp

theorem numR_ok : ∀ (l : List Int) (p i : Nat) (a n : Int) (q : Nat), (∀ z ∈ l, 0 ≤ z ∧ z ≤ 255) → i ≤ 8 → numR l p i a = (n, q, 0) →
  ∃ (m : Int) (k : Nat), 0 ≤ m ∧ m < 128 ^ (9 - i) ∧ (0 < i → 1 ≤ m) ∧ n = a + m * 128 ^ i ∧ q = p + k ∧ 1 ≤ k ∧ k ≤ l.length ∧ l.take k = putF (9 - i) m
 | [], p, i, a, n, q, _, _, h => by simp [numR] at h
 | c :: r, p, i, a, n, q, hby, hi, h => by
  have hc0 := hby c (by simp)
  obtain ⟨j, hj⟩ : ∃ j, 9 - i = j + 1 := ⟨8 - i, by omega⟩
  have hpow : (0 : Int) < 128 ^ j := Int.pow_pos (by omega)
  rw [numR] at h
  by_cases hb : (i = 8 ∧ 127 < c) ∨ (0 < i ∧ c = 0)
  ·rw [if_pos hb] at h
   simp at h
  ·rw [if_neg hb] at h
   by_cases hc : c < 128
   ·rw [if_pos hc] at h
    simp only [Prod.mk.injEq] at h
    refine ⟨c, 1, by omega, ?_, by omega, h.1.symm, by omega, by omega, by simp, ?_⟩
    ·rw [hj, Int.pow_succ]
     omega
    ·rw [hj, putF_last _ _ hc]
     rfl
   ·rw [if_neg hc] at h
    obtain ⟨m, k, h1, h2, h3, h4, h5, h6, h7, h8⟩ := numR_ok r (p + 1) (i + 1) _ n q (fun z hz => hby z (by simp [hz])) (by omega) h
    have h3' := h3 (by omega)
    have hj' : 9 - (i + 1) = j := by omega
    rw [hj'] at h2 h8
    refine ⟨c - 128 + m * 128, k + 1, by omega, ?_, by omega, ?_, by omega, by omega, by simp; omega, ?_⟩
    ·rw [hj, Int.pow_succ]
     omega
    ·rw [h4, Int.pow_succ, Int.add_mul, Int.mul_assoc, Int.mul_comm 128, Int.add_assoc]
    ·rw [hj, putF_more _ _ (by omega), List.take_succ_cons, h8]
     congr 2
     ·omega
     ·omega

theorem numR_put : ∀ (j i p : Nat) (a m : Int) (r : List Int), 9 - i = j + 1 → i ≤ 8 → 0 ≤ m → m < 128 ^ (j + 1) → (0 < i → 1 ≤ m) →
  numR (putF (j + 1) m ++ r) p i a = (a + m * 128 ^ i, p + (putF (j + 1) m).length, 0)
 | j, i, p, a, m, r, hj, hi, h0, h1, h2 => by
  by_cases hm : m < 128
  ·rw [putF_last _ _ hm]
   show numR (m :: r) p i a = _
   rw [numR, if_neg (by omega), if_pos hm]
   rfl
  ·rw [putF_more _ _ (by omega)]
   cases j with
   | zero => simp at h1; omega
   | succ j =>
    show numR ((m % 128 + 128) :: (putF (j + 1) (m / 128) ++ r)) p i a = _
    rw [numR, if_neg (by omega), if_neg (by omega), numR_put j (i + 1) (p + 1) _ (m / 128) r (by omega) (by omega) (by omega) (by rw [Int.pow_succ] at h1; exact Int.ediv_lt_of_lt_mul (by omega) h1) (by omega)]
    refine Prod.ext ?_ (Prod.ext ?_ rfl)
    ·show a + (m % 128 + 128 - 128) * 128 ^ i + m / 128 * 128 ^ (i + 1) = a + m * 128 ^ i
     rw [Int.pow_succ, Int.add_sub_cancel, Int.mul_comm (128 ^ i) 128, ← Int.mul_assoc, Int.add_assoc, ← Int.add_mul]
     congr 2
     omega
    ·simp only [List.length_cons]
     omega

theorem numF_put (n : Int) (h0 : 0 ≤ n) (h1 : n ≤ 9223372036854775807) (xs ys : List Int) : numF (xs ++ putL n ++ ys) xs.length = (n, xs.length + (putL n).length, 0) := by
 unfold numF
 rw [List.append_assoc, List.drop_left]
 have h := numR_put 8 0 xs.length 0 n ys (by omega) (by omega) h0 (by omega) (by omega)
 rw [show putL n = putF (8 + 1) n from rfl, h]
 simp
theorem putL_len (n : Int) : 1 ≤ (putL n).length ∧ (putL n).length ≤ 9 := ⟨putF_pos 8 n, putF_len 9 n⟩
theorem putL_bytes (n : Int) (h : 0 ≤ n) : ∀ z ∈ putL n, 0 ≤ z ∧ z ≤ 255 := putF_bytes 9 n h

theorem numF_ok {zs : List Int} {i p : Nat} {n : Int} (hby : ∀ z ∈ zs, 0 ≤ z ∧ z ≤ 255) (h : numF zs i = (n, p, 0)) : 0 ≤ n ∧ n ≤ 9223372036854775807 ∧ i < p ∧ p ≤ zs.length := by
 obtain ⟨m, k, g1, g2, g3, g4, g5, g6, g7, g8⟩ := numR_ok (zs.drop i) i 0 0 n p (fun z hz => hby z (List.mem_of_mem_drop hz)) (by omega) h
 rw [List.length_drop] at g7
 have hm : m < 128 ^ 9 := g2
 have hn : n = m := by rw [g4]; simp
 subst hn
 omega
end Num
end Go.Proofs.YtekhaejhmlebbaaGreat

/-
 num.Num tells what numF tells.
-/
namespace Go.Proofs.YtekhaejhmlebbaaGreat
namespace Num
open Go.RowKit

end Num
end Go.Proofs.YtekhaejhmlebbaaGreat

/-
 firthref01.Num tells what numF tells.
-/
namespace Go.Proofs.YtekhaejhmlebbaaGreat
namespace Num
open Go.RowKit

end Num
end Go.Proofs.YtekhaejhmlebbaaGreat

/-
 num.Text and firthref01.Text tell what textF tells.
-/
namespace Go.Proofs.YtekhaejhmlebbaaGreat
namespace Num
open Go.RowKit

def textF (zs : List Int) (i : Nat) (most : Int) : List Int × Nat × Int :=
 if (numF zs i).2.2 ≠ 0 then ([], 0, (numF zs i).2.2)
 else if max most 0 < (numF zs i).1 then ([], 0, 3)
 else if (zs.length : Int) - (numF zs i).2.1 < (numF zs i).1 then ([], 0, 4)
 else ((zs.drop (numF zs i).2.1).take (numF zs i).1.toNat, (numF zs i).2.1 + (numF zs i).1.toNat, 0)

end Num
end Go.Proofs.YtekhaejhmlebbaaGreat

/-
 Plain words of layer 6: what is taken from bytes, one thing behind the other, and what is written.
-/
namespace Go.Proofs.YtekhaejhmlebbaaGreat
namespace Code
open Num Span

def Std (zs : List Int) (p : Nat) (e : List Int) : Prop := p ≤ zs.length ∧ e <+: zs.drop p
theorem std_nil {zs : List Int} {p : Nat} (h : p ≤ zs.length) : Std zs p [] := ⟨h, List.nil_prefix⟩
theorem std_le {zs e : List Int} {p : Nat} (h : Std zs p e) : p + e.length ≤ zs.length := by
 have h1 := h.2.length_le
 rw [List.length_drop] at h1
 have := h.1
 omega
theorem std_append {zs a b : List Int} {p : Nat} : Std zs p (a ++ b) ↔ Std zs p a ∧ Std zs (p + a.length) b := by
 constructor
 ·intro h
  have hl := std_le h
  rw [List.length_append] at hl
  obtain ⟨t, ht⟩ := h.2
  refine ⟨⟨h.1, ⟨b ++ t, by rw [← ht, List.append_assoc]⟩⟩, by omega, ⟨t, ?_⟩⟩
  rw [← List.drop_drop, ← ht, List.append_assoc, List.drop_left]
 ·rintro ⟨⟨h1, t, ht⟩, h2, u, hu⟩
  refine ⟨h1, u, ?_⟩
  rw [List.append_assoc, hu, ← List.drop_drop, ← ht, List.drop_left]
def numP (zs : List Int) (p : Nat) : Option (Int × Nat) := if (numF zs p).2.2 = 0 then some ((numF zs p).1, (numF zs p).2.1) else none
theorem numP_put {zs : List Int} {p : Nat} {n : Int} (h0 : 0 ≤ n) (h1 : n ≤ 9223372036854775807) (h : Std zs p (putL n)) : numP zs p = some (n, p + (putL n).length) := by
 obtain ⟨hp, t, ht⟩ := h
 have e : zs = zs.take p ++ putL n ++ t := by rw [List.append_assoc, ht, List.take_append_drop]
 have hl : (zs.take p).length = p := by rw [List.length_take]; omega
 have h2 := numF_put n h0 h1 (zs.take p) t
 rw [← e, hl] at h2
 unfold numP
 rw [h2]
 rfl
theorem numP_ok {zs : List Int} {p q : Nat} {n : Int} (hby : ∀ z ∈ zs, 0 ≤ z ∧ z ≤ 255) (hp : p ≤ zs.length) (h : numP zs p = some (n, q)) : Std zs p (putL n) ∧ q = p + (putL n).length ∧ 0 ≤ n ∧ n ≤ 9223372036854775807 := by
 unfold numP at h
 split at h
 ·rename_i he
  obtain ⟨⟨n', q', e⟩, hF⟩ : ∃ r, numF zs p = r := ⟨_, rfl⟩
  rw [hF] at h he
  simp only [Option.some.injEq, Prod.mk.injEq] at h he
  obtain ⟨rfl, rfl⟩ := h
  subst he
  obtain ⟨h0, h1, _, _⟩ := numF_ok hby hF
  obtain ⟨m, k, g1, g2, g3, g4, g5, g6, g7, g8⟩ := numR_ok (zs.drop p) p 0 0 n' q' (fun z hz => hby z (List.mem_of_mem_drop hz)) (by omega) hF
  have hn : n' = m := by rw [g4]; simp
  subst hn
  have hk : (putL n').length = k := by
   have := congrArg List.length g8
   rw [List.length_take] at this
   unfold putL
   have e9 : 9 - 0 = 9 := rfl
   rw [e9] at this
   omega
  refine ⟨⟨hp, ?_⟩, by omega, h0, h1⟩
  show putF 9 n' <+: _
  rw [show putF 9 n' = (zs.drop p).take k from g8.symm]
  exact List.take_prefix _ _
 ·cases h
def listP {α : Type} (P : Nat → Option (α × Nat)) : Nat → Nat → Option (List α × Nat)
 | 0, p => some ([], p)
 | k + 1, p =>
  match P p with
  | none => none
  | some (x, q) => (listP P k q).map fun r => (x :: r.1, r.2)
theorem listP_more {α : Type} {P : Nat → Option (α × Nat)} {k p q : Nat} {x : α} (h : P p = some (x, q)) : listP P (k + 1) p = (listP P k q).map fun r => (x :: r.1, r.2) := by rw [listP, h]
theorem listP_put {α : Type} {P : Nat → Option (α × Nat)} {enc : α → List Int} {ok : α → Prop} {zs : List Int} (hP : ∀ x p, ok x → Std zs p (enc x) → P p = some (x, p + (enc x).length)) :
  ∀ (l : List α) (p : Nat), (∀ x ∈ l, ok x) → Std zs p (l.flatMap enc) → listP P l.length p = some (l, p + (l.flatMap enc).length)
 | [], p, _, _ => by simp [listP]
 | x :: l, p, hok, h => by
  rw [List.flatMap_cons] at h
  obtain ⟨h1, h2⟩ := std_append.1 h
  rw [List.length_cons, listP_more (hP x p (hok x (by simp)) h1), listP_put hP l _ (fun y hy => hok y (by simp [hy])) h2]
  simp [Nat.add_assoc]
theorem listP_ok {α : Type} {P : Nat → Option (α × Nat)} {enc : α → List Int} {ok : α → Prop} {zs : List Int} (hP : ∀ x p q, p ≤ zs.length → P p = some (x, q) → q ≤ zs.length ∧ (ok x → Std zs p (enc x) ∧ q = p + (enc x).length)) :
  ∀ (k p q : Nat) (l : List α), p ≤ zs.length → listP P k p = some (l, q) → l.length = k ∧ q ≤ zs.length ∧ ((∀ x ∈ l, ok x) → Std zs p (l.flatMap enc) ∧ q = p + (l.flatMap enc).length)
 | 0, p, q, l, hp, h => by
  simp only [listP, Option.some.injEq, Prod.mk.injEq] at h
  obtain ⟨rfl, rfl⟩ := h
  exact ⟨rfl, hp, fun _ => ⟨std_nil hp, rfl⟩⟩
 | k + 1, p, q, l, hp, h => by
  rw [listP] at h
  split at h
  ·cases h
  ·rename_i x r hx
   obtain ⟨y, hy, he⟩ := Option.map_eq_some_iff.1 h
   simp only [Prod.mk.injEq] at he
   obtain ⟨rfl, rfl⟩ := he
   obtain ⟨hr, hx2⟩ := hP x p r hp hx
   obtain ⟨h1, h2, h3⟩ := listP_ok hP k r y.2 y.1 hr hy
   refine ⟨by simp [h1], h2, fun hok => ?_⟩
   obtain ⟨g1, g2⟩ := hx2 (hok x (by simp))
   obtain ⟨g3, g4⟩ := h3 (fun z hz => hok z (by simp [hz]))
   rw [List.flatMap_cons]
   refine ⟨std_append.2 ⟨g1, by rw [← g2]; exact g3⟩, ?_⟩
   rw [List.length_append]
   omega

def seqP {α : Type} (P : Nat → Option (α × Nat)) (zs : List Int) (p : Nat) : Option (List α × Nat) :=
 match numP zs p with
 | none => none
 | some (n, q) => listP P n.toNat q
def seqL {α : Type} (enc : α → List Int) (l : List α) : List Int := putL (l.length : Int) ++ l.flatMap enc
theorem seqP_put {α : Type} {P : Nat → Option (α × Nat)} {enc : α → List Int} {ok : α → Prop} {zs : List Int} (hP : ∀ x p, ok x → Std zs p (enc x) → P p = some (x, p + (enc x).length))
  {l : List α} {p : Nat} (hl : l.length ≤ 9223372036854775807) (hok : ∀ x ∈ l, ok x) (h : Std zs p (seqL enc l)) : seqP P zs p = some (l, p + (seqL enc l).length) := by
 obtain ⟨h1, h2⟩ := std_append.1 h
 unfold seqP
 rw [numP_put (by omega) (by omega) h1]
 simp only [Int.toNat_natCast]
 rw [listP_put hP l _ hok h2]
 unfold seqL
 rw [List.length_append, Nat.add_assoc]
theorem seqP_ok {α : Type} {P : Nat → Option (α × Nat)} {enc : α → List Int} {ok : α → Prop} {zs : List Int} (hby : ∀ z ∈ zs, 0 ≤ z ∧ z ≤ 255) (hP : ∀ x p q, p ≤ zs.length → P p = some (x, q) → q ≤ zs.length ∧ (ok x → Std zs p (enc x) ∧ q = p + (enc x).length))
  {l : List α} {p q : Nat} (hp : p ≤ zs.length) (h : seqP P zs p = some (l, q)) : q ≤ zs.length ∧ ((∀ x ∈ l, ok x) → Std zs p (seqL enc l) ∧ q = p + (seqL enc l).length) := by
 unfold seqP at h
 split at h
 ·cases h
 ·rename_i n r hn
  obtain ⟨g1, g2, g3, g4⟩ := numP_ok hby hp hn
  have gl := std_le g1
  obtain ⟨h1, h2, h3⟩ := listP_ok hP _ r q l (by omega) h
  refine ⟨h2, fun hok => ?_⟩
  obtain ⟨k1, k2⟩ := h3 hok
  have e : (l.length : Int) = n := by omega
  unfold seqL
  rw [e, List.length_append]
  exact ⟨std_append.2 ⟨g1, by rw [← g2]; exact k1⟩, by omega⟩

/-! ### Spans, as the program takes them and as the document does -/
end Code
end Go.Proofs.YtekhaejhmlebbaaGreat

/-
 The reader of layer 6: its block, and what taking comes to; numbers and texts.
-/
namespace Go.Proofs.YtekhaejhmlebbaaGreat
namespace Code
open Go.RowKit Num Span
attribute [local go_sem ↓] Go.wp_at_zero Go.wp_at_succ

section
variable {w w' : World} {g n p c : Nat} {A : Option Addr}
end

def Src (g : Nat) (A : Option Addr) (c n : Nat) (zs : List Int) (w : World) : Prop :=
 Ns .u8 w g A zs ∧ (∀ z ∈ zs, 0 ≤ z ∧ z ≤ 255) ∧ zs.length = n ∧ n ≤ c ∧ n ≤ 4294967296
theorem Src.kept {w w' : World} {g n c : Nat} {A : Option Addr} {zs : List Int} (h : Src g A c n zs w) (hg : w.grownBy w' (some g)) (hlt : g < w.heap.size) : Src g A c n zs w' :=
 ⟨h.1.grown hg (by omega) (fun k hk => by injection hk with hk; omega), h.2⟩
theorem Src.drew {w : World} {g n c : Nat} {A : Option Addr} {zs : List Int} (h : Src g A c n zs w) : Src g A c n zs w.drew := h

end Code
end Go.Proofs.YtekhaejhmlebbaaGreat

/-
 The reader of layer 6: spans and sets.
-/
namespace Go.Proofs.YtekhaejhmlebbaaGreat
namespace Code
open Go.RowKit Num Span
attribute [local go_sem ↓] Go.wp_at_zero Go.wp_at_succ

theorem results_cell1 {fn : Func} {p : Tmp} {ty : TypeId} (h : fn.results = #[.cell p ty]) (tmps : Array Value) (P : Program) (w : World) :
  (results fn tmps).run P w = ((asAddr (tmps.getD p undef)).run P w).andThen fun a w₁ => (loadVar ty a).run P w₁ := by
 simp only [results, h]
 simp [Sem.run_bind, Result.andThen]

def Box3 (B : Nat) (t : TypeId) (x y z : Value) (w : World) : Prop := w.heap[B]? = some (.cells #[x, y, z] t (0, 0))
section
variable {w w' : World} {B : Nat} {t : TypeId} {x y z x' y' z' : Value}
theorem Box3.lt (h : Box3 B t x y z w) : B < w.heap.size := (Array.getElem?_eq_some_iff.1 h).1
theorem Box3.kept {row : Option Nat} (h : Box3 B t x y z w) (hg : w.grownBy w' row) (hne : some B ≠ row) : Box3 B t x y z w' := (hg.block B h.lt hne).trans h
theorem Box3.cell (h : Box3 B t x y z w) : w.cell? ⟨B, 0, none⟩ = some x ∧ w.cell? ⟨B, 1, none⟩ = some y ∧ w.cell? ⟨B, 2, none⟩ = some z := by
 have h' : w.heap[B]? = _ := h
 refine ⟨?_, ?_, ?_⟩ <;> simp [World.cell?, h']
theorem Box3.frozen (h : Box3 B t x y z w) (j : Nat) : w.frozen? ⟨B, j, none⟩ = false := by simp [World.frozen?, show w.heap[B]? = _ from h]
def set3 (w : World) (B : Nat) (x y z : Value) : World := ((w.setCell ⟨B, 0, none⟩ x).setCell ⟨B, 1, none⟩ y).setCell ⟨B, 2, none⟩ z
theorem Box3.set (h : Box3 B t x y z w) : Box3 B t x' y' z' (set3 w B x' y' z') := by
 have h' : w.heap[B]? = some (.cells #[x, y, z] t (0, 0)) := h
 show (set3 w B x' y' z').heap[B]? = _
 simp [set3, World.setCell, Array.getElem?_modify, h']
end

theorem listP_len {α : Type} {P : Nat → Option (α × Nat)} {n : Nat} (hP : ∀ x p q, p ≤ n → P p = some (x, q) → p < q ∧ q ≤ n) : ∀ (k p q : Nat) (l : List α), p ≤ n → listP P k p = some (l, q) → p + l.length ≤ q ∧ q ≤ n
 | 0, p, q, l, hp, h => by
  simp only [listP, Option.some.injEq, Prod.mk.injEq] at h
  obtain ⟨rfl, rfl⟩ := h
  exact ⟨by simp, hp⟩
 | k + 1, p, q, l, hp, h => by
  rw [listP] at h
  split at h
  ·cases h
  ·rename_i x r hx
   obtain ⟨y, hy, he⟩ := Option.map_eq_some_iff.1 h
   simp only [Prod.mk.injEq] at he
   obtain ⟨rfl, rfl⟩ := he
   obtain ⟨h1, h2⟩ := hP x p r hp hx
   obtain ⟨h3, h4⟩ := listP_len hP k r y.2 y.1 h2 hy
   simp only [List.length_cons]
   omega
theorem seqP_len {α : Type} {P : Nat → Option (α × Nat)} {zs : List Int} (hby : ∀ z ∈ zs, 0 ≤ z ∧ z ≤ 255) (hP : ∀ x p q, p ≤ zs.length → P p = some (x, q) → p < q ∧ q ≤ zs.length) {p q : Nat} {l : List α} (hp : p ≤ zs.length) (h : seqP P zs p = some (l, q)) : p + l.length < q ∧ q ≤ zs.length := by
 unfold seqP at h
 split at h
 ·cases h
 ·rename_i n r hn
  obtain ⟨g1, g2, g3, g4⟩ := numP_ok hby hp hn
  have gl := std_le g1
  have gp := putL_len n
  have := listP_len hP _ r q l (by omega) h
  omega
end Code
end Go.Proofs.YtekhaejhmlebbaaGreat
