/-
  Several texts of this family in one: CodeParse, CodeRd, CodeSpans, CodeCatch, CodeSet.
-/
import Derived.Test.YtegiigeelcnemaaGreatGNumB
import Derived.Test.YtegiigeelcnemaaGreatGSpanA
import Derived.Test.YtegiigeelcnemaaGreatRows
import Derived.RangeFuncBox
import Derived.WalkLawsBesides
import Derived.Deep.RegionHeld3
import Derived.Deep.DrawnRows
import Derived.Test.YtegiigeelcnemaaGreatGSpanB
import Derived.Defers
import Derived.Recover
/-
  Plain words of layer 6: what is taken from bytes, one thing behind the other, and what is written.
-/
namespace Go.Proofs.YtegiigeelcnemaaGreat
namespace Code
open Num Span

/-- The bytes e stand at the place p of zs. -/
def Std (zs : List Int) (p : Nat) (e : List Int) : Prop := p ≤ zs.length ∧ e <+: zs.drop p
theorem std_nil {zs : List Int} {p : Nat} (h : p ≤ zs.length) : Std zs p [] := ⟨h, List.nil_prefix⟩
theorem std_le {zs e : List Int} {p : Nat} (h : Std zs p e) : p + e.length ≤ zs.length := by
  have h1 := h.2.length_le
  rw [List.length_drop] at h1
  have := h.1
  omega
theorem std_append {zs a b : List Int} {p : Nat} : Std zs p (a ++ b) ↔ Std zs p a ∧ Std zs (p + a.length) b := by
  constructor
  · intro h
    have hl := std_le h
    rw [List.length_append] at hl
    obtain ⟨t, ht⟩ := h.2
    refine ⟨⟨h.1, ⟨b ++ t, by rw [← ht, List.append_assoc]⟩⟩, by omega, ⟨t, ?_⟩⟩
    rw [← List.drop_drop, ← ht, List.append_assoc, List.drop_left]
  · rintro ⟨⟨h1, t, ht⟩, h2, u, hu⟩
    refine ⟨h1, u, ?_⟩
    rw [List.append_assoc, hu, ← List.drop_drop, ← ht, List.drop_left]
theorem std_all {zs e : List Int} : Std zs 0 e ∧ e.length = zs.length ↔ zs = e := by
  constructor
  · rintro ⟨⟨_, t, ht⟩, h2⟩
    rw [List.drop_zero] at ht
    have : t = [] := List.eq_nil_of_length_eq_zero (by have := congrArg List.length ht; simp at this; omega)
    rw [← ht, this, List.append_nil]
  · rintro rfl
    exact ⟨⟨by omega, by simp⟩, rfl⟩
theorem std_take {zs e : List Int} {p : Nat} (h : Std zs p e) : (zs.drop p).take e.length = e := by
  obtain ⟨t, ht⟩ := h.2
  rw [← ht, List.take_left]

/-- A number at a place: it, and the place behind. -/
def numP (zs : List Int) (p : Nat) : Option (Int × Nat) := if (numF zs p).2.2 = 0 then some ((numF zs p).1, (numF zs p).2.1) else none
theorem numP_put {zs : List Int} {p : Nat} {n : Int} (h0 : 0 ≤ n) (h1 : n ≤ 9223372036854775807) (h : Std zs p (putL n)) : numP zs p = some (n, p + (putL n).length) := by
  obtain ⟨hp, t, ht⟩ := h
  have e : zs = zs.take p ++ putL n ++ t := by rw [List.append_assoc, ht, List.take_append_drop]
  have hl : (zs.take p).length = p := by rw [List.length_take]; omega
  have h2 := numF_put n h0 h1 (zs.take p) t
  rw [← e, hl] at h2
  unfold numP
  rw [h2]
  rfl
theorem numP_ok {zs : List Int} {p q : Nat} {n : Int} (hby : ∀ z ∈ zs, 0 ≤ z ∧ z ≤ 255) (hp : p ≤ zs.length) (h : numP zs p = some (n, q)) : Std zs p (putL n) ∧ q = p + (putL n).length ∧ 0 ≤ n ∧ n ≤ 9223372036854775807 := by
  unfold numP at h
  split at h
  · rename_i he
    obtain ⟨⟨n', q', e⟩, hF⟩ : ∃ r, numF zs p = r := ⟨_, rfl⟩
    rw [hF] at h he
    simp only [Option.some.injEq, Prod.mk.injEq] at h he
    obtain ⟨rfl, rfl⟩ := h
    subst he
    obtain ⟨h0, h1, _, _⟩ := numF_ok hby hF
    obtain ⟨m, k, g1, g2, g3, g4, g5, g6, g7, g8⟩ := numR_ok (zs.drop p) p 0 0 n' q' (fun z hz => hby z (List.mem_of_mem_drop hz)) (by omega) hF
    have hn : n' = m := by rw [g4]; simp
    subst hn
    have hk : (putL n').length = k := by
      have := congrArg List.length g8
      rw [List.length_take] at this
      unfold putL
      have e9 : 9 - 0 = 9 := rfl
      rw [e9] at this
      omega
    refine ⟨⟨hp, ?_⟩, by omega, h0, h1⟩
    show putF 9 n' <+: _
    rw [show putF 9 n' = (zs.drop p).take k from g8.symm]
    exact List.take_prefix _ _
  · cases h
theorem numP_none {zs : List Int} {p : Nat} (h : numP zs p = none) : (numF zs p).2.2 ≠ 0 := by
  unfold numP at h
  split at h
  · cases h
  · assumption
theorem numP_some {zs : List Int} {p q : Nat} {n : Int} (h : numP zs p = some (n, q)) : numF zs p = (n, q, 0) := by
  unfold numP at h
  split at h
  · rename_i he
    simp only [Option.some.injEq, Prod.mk.injEq] at h
    rw [← h.1, ← h.2, ← he]
  · cases h

/-- A number up to a greatest one. -/
def upP (m : Int) (zs : List Int) (p : Nat) : Option (Int × Nat) :=
  match numP zs p with
  | some (n, q) => if n ≤ m then some (n, q) else none
  | none => none
theorem upP_put {zs : List Int} {p : Nat} {n m : Int} (h0 : 0 ≤ n) (hm : n ≤ m) (h1 : n ≤ 9223372036854775807) (h : Std zs p (putL n)) : upP m zs p = some (n, p + (putL n).length) := by
  unfold upP
  rw [numP_put h0 h1 h]
  simp only
  rw [if_pos hm]
theorem upP_ok {zs : List Int} {p q : Nat} {n m : Int} (hby : ∀ z ∈ zs, 0 ≤ z ∧ z ≤ 255) (hp : p ≤ zs.length) (h : upP m zs p = some (n, q)) : Std zs p (putL n) ∧ q = p + (putL n).length ∧ 0 ≤ n ∧ n ≤ m ∧ n ≤ 9223372036854775807 := by
  unfold upP at h
  split at h
  · rename_i n' q' hn
    split at h
    · simp only [Option.some.injEq, Prod.mk.injEq] at h
      obtain ⟨rfl, rfl⟩ := h
      obtain ⟨h1, h2, h3, h4⟩ := numP_ok hby hp hn
      exact ⟨h1, h2, h3, by assumption, h4⟩
    · cases h
  · cases h

/-- A text of at most so many bytes. -/
def textP (most : Int) (zs : List Int) (p : Nat) : Option (List Int × Nat) := if (textF zs p most).2.2 = 0 then some ((textF zs p most).1, (textF zs p most).2.1) else none
/-- The bytes of a text. -/
def txtL (l : List Int) : List Int := putL (l.length : Int) ++ l
theorem textP_put {zs l : List Int} {p : Nat} {most : Int} (hm : (l.length : Int) ≤ most) (hb : zs.length ≤ 9223372036854775807) (h : Std zs p (txtL l)) : textP most zs p = some (l, p + (txtL l).length) := by
  obtain ⟨h1, h2⟩ := std_append.1 h
  have hl := std_le h2
  have hn := numP_some (numP_put (n := (l.length : Int)) (by omega) (by omega) h1)
  have hT : textF zs p most = (l, p + (putL (l.length : Int)).length + l.length, 0) := by
    unfold textF
    rw [hn]
    simp only
    rw [if_neg (by simp), if_neg (by omega), if_neg (by omega), Int.toNat_natCast, std_take h2]
  unfold textP
  rw [hT]
  simp only [if_true, Option.some.injEq, Prod.mk.injEq, true_and]
  unfold txtL
  rw [List.length_append]
  omega
theorem textP_ok {zs l : List Int} {p q : Nat} {most : Int} (hby : ∀ z ∈ zs, 0 ≤ z ∧ z ≤ 255) (hp : p ≤ zs.length) (h : textP most zs p = some (l, q)) :
    Std zs p (txtL l) ∧ q = p + (txtL l).length ∧ (l.length : Int) ≤ max most 0 ∧ ∀ z ∈ l, 0 ≤ z ∧ z ≤ 255 := by
  unfold textP at h
  split at h
  · rename_i he
    simp only [Option.some.injEq, Prod.mk.injEq] at h
    unfold textF at h he
    split at h
    · rename_i h1
      rw [if_pos h1] at he
      exact absurd he h1
    · rename_i h1
      rw [if_neg h1] at he
      split at h
      · rename_i h2
        rw [if_pos h2] at he
        simp at he
      · rename_i h2
        rw [if_neg h2] at he
        split at h
        · rename_i h3
          rw [if_pos h3] at he
          simp at he
        · rename_i h3
          obtain ⟨rfl, rfl⟩ := h
          obtain ⟨⟨n, r, e⟩, hF⟩ : ∃ r, numF zs p = r := ⟨_, rfl⟩
          rw [hF] at h1 h2 h3 ⊢
          simp only at h1 h2 h3 ⊢
          have he0 : e = 0 := Decidable.byContradiction h1
          subst he0
          obtain ⟨g1, g2, g3, g4⟩ := numP_ok hby hp (q := r) (n := n) (by unfold numP; rw [hF]; rfl)
          obtain ⟨m, rfl⟩ := Int.eq_ofNat_of_zero_le g3
          have hr := std_le g1
          rw [Int.toNat_natCast]
          have hlen : ((zs.drop r).take m).length = m := cut_len (by omega)
          refine ⟨?_, ?_, by rw [hlen]; omega, fun z hz => hby z (List.mem_of_mem_drop (List.mem_of_mem_take hz))⟩
          · refine std_append.2 ⟨by rw [hlen]; exact g1, ?_⟩
            rw [hlen, ← g2]
            exact ⟨by omega, List.take_prefix _ _⟩
          · unfold txtL
            rw [List.length_append, hlen]
            omega
  · cases h

/-- So many things, one behind the other. -/
def listP {α : Type} (P : Nat → Option (α × Nat)) : Nat → Nat → Option (List α × Nat)
  | 0, p => some ([], p)
  | k + 1, p =>
    match P p with
    | none => none
    | some (x, q) => (listP P k q).map fun r => (x :: r.1, r.2)
theorem listP_zero {α : Type} (P : Nat → Option (α × Nat)) (p : Nat) : listP P 0 p = some ([], p) := rfl
theorem listP_none {α : Type} {P : Nat → Option (α × Nat)} {k p : Nat} (h : P p = none) : listP P (k + 1) p = none := by rw [listP, h]
theorem listP_more {α : Type} {P : Nat → Option (α × Nat)} {k p q : Nat} {x : α} (h : P p = some (x, q)) : listP P (k + 1) p = (listP P k q).map fun r => (x :: r.1, r.2) := by rw [listP, h]
theorem listP_put {α : Type} {P : Nat → Option (α × Nat)} {enc : α → List Int} {ok : α → Prop} {zs : List Int} (hP : ∀ x p, ok x → Std zs p (enc x) → P p = some (x, p + (enc x).length)) :
    ∀ (l : List α) (p : Nat), (∀ x ∈ l, ok x) → Std zs p (l.flatMap enc) → listP P l.length p = some (l, p + (l.flatMap enc).length)
  | [], p, _, _ => by simp [listP]
  | x :: l, p, hok, h => by
    rw [List.flatMap_cons] at h
    obtain ⟨h1, h2⟩ := std_append.1 h
    rw [List.length_cons, listP_more (hP x p (hok x (by simp)) h1), listP_put hP l _ (fun y hy => hok y (by simp [hy])) h2]
    simp [Nat.add_assoc]
theorem listP_ok {α : Type} {P : Nat → Option (α × Nat)} {enc : α → List Int} {ok : α → Prop} {zs : List Int} (hP : ∀ x p q, p ≤ zs.length → P p = some (x, q) → q ≤ zs.length ∧ (ok x → Std zs p (enc x) ∧ q = p + (enc x).length)) :
    ∀ (k p q : Nat) (l : List α), p ≤ zs.length → listP P k p = some (l, q) → l.length = k ∧ q ≤ zs.length ∧ ((∀ x ∈ l, ok x) → Std zs p (l.flatMap enc) ∧ q = p + (l.flatMap enc).length)
  | 0, p, q, l, hp, h => by
    simp only [listP, Option.some.injEq, Prod.mk.injEq] at h
    obtain ⟨rfl, rfl⟩ := h
    exact ⟨rfl, hp, fun _ => ⟨std_nil hp, rfl⟩⟩
  | k + 1, p, q, l, hp, h => by
    rw [listP] at h
    split at h
    · cases h
    · rename_i x r hx
      obtain ⟨y, hy, he⟩ := Option.map_eq_some_iff.1 h
      simp only [Prod.mk.injEq] at he
      obtain ⟨rfl, rfl⟩ := he
      obtain ⟨hr, hx2⟩ := hP x p r hp hx
      obtain ⟨h1, h2, h3⟩ := listP_ok hP k r y.2 y.1 hr hy
      refine ⟨by simp [h1], h2, fun hok => ?_⟩
      obtain ⟨g1, g2⟩ := hx2 (hok x (by simp))
      obtain ⟨g3, g4⟩ := h3 (fun z hz => hok z (by simp [hz]))
      rw [List.flatMap_cons]
      refine ⟨std_append.2 ⟨g1, by rw [← g2]; exact g3⟩, ?_⟩
      rw [List.length_append]
      omega

/-- A list: how many, and they. -/
def seqP {α : Type} (P : Nat → Option (α × Nat)) (zs : List Int) (p : Nat) : Option (List α × Nat) :=
  match numP zs p with
  | none => none
  | some (n, q) => listP P n.toNat q
def seqL {α : Type} (enc : α → List Int) (l : List α) : List Int := putL (l.length : Int) ++ l.flatMap enc
theorem seqP_put {α : Type} {P : Nat → Option (α × Nat)} {enc : α → List Int} {ok : α → Prop} {zs : List Int} (hP : ∀ x p, ok x → Std zs p (enc x) → P p = some (x, p + (enc x).length))
    {l : List α} {p : Nat} (hl : l.length ≤ 9223372036854775807) (hok : ∀ x ∈ l, ok x) (h : Std zs p (seqL enc l)) : seqP P zs p = some (l, p + (seqL enc l).length) := by
  obtain ⟨h1, h2⟩ := std_append.1 h
  unfold seqP
  rw [numP_put (by omega) (by omega) h1]
  simp only [Int.toNat_natCast]
  rw [listP_put hP l _ hok h2]
  unfold seqL
  rw [List.length_append, Nat.add_assoc]
theorem seqP_ok {α : Type} {P : Nat → Option (α × Nat)} {enc : α → List Int} {ok : α → Prop} {zs : List Int} (hby : ∀ z ∈ zs, 0 ≤ z ∧ z ≤ 255) (hP : ∀ x p q, p ≤ zs.length → P p = some (x, q) → q ≤ zs.length ∧ (ok x → Std zs p (enc x) ∧ q = p + (enc x).length))
    {l : List α} {p q : Nat} (hp : p ≤ zs.length) (h : seqP P zs p = some (l, q)) : q ≤ zs.length ∧ ((∀ x ∈ l, ok x) → Std zs p (seqL enc l) ∧ q = p + (seqL enc l).length) := by
  unfold seqP at h
  split at h
  · cases h
  · rename_i n r hn
    obtain ⟨g1, g2, g3, g4⟩ := numP_ok hby hp hn
    have gl := std_le g1
    obtain ⟨h1, h2, h3⟩ := listP_ok hP _ r q l (by omega) h
    refine ⟨h2, fun hok => ?_⟩
    obtain ⟨k1, k2⟩ := h3 hok
    have e : (l.length : Int) = n := by omega
    unfold seqL
    rw [e, List.length_append]
    exact ⟨std_append.2 ⟨g1, by rw [← g2]; exact k1⟩, by omega⟩

/-! ### Spans, as the program takes them and as the document does -/
def spL (x : Sp) : List Int := putL x.1 ++ putL x.2.1 ++ putL (x.2.2 - x.2.1)
def setL (l : List Sp) : List Int := seqL spL l
def spanP (zs : List Int) (p : Nat) : Option (Sp × Nat) :=
  match upP 2147483647 zs p with
  | none => none
  | some (s, q) =>
    match upP 4611686018427387904 zs q with
    | none => none
    | some (f, r) =>
      match upP (4611686018427387904 - f) zs r with
      | none => none
      | some (t, u) => some ((s, f, f + t), u)
def setP (zs : List Int) (p : Nat) : Option (List Sp × Nat) := seqP (spanP zs) zs p
/-- As the document does: the site is whatever number, and the end may be too great. -/
def spanQ (zs : List Int) (p : Nat) : Option (Sp × Nat) :=
  match numP zs p with
  | none => none
  | some (s, q) =>
    match upP 4611686018427387904 zs q with
    | none => none
    | some (f, r) =>
      match upP 4611686018427387904 zs r with
      | none => none
      | some (t, u) => some ((s, f, Go.RowKit.wrap64 (f + t)), u)
def setQ (zs : List Int) (p : Nat) : Option (List Sp × Nat) := seqP (spanQ zs) zs p

theorem spanP_put {zs : List Int} (x : Sp) (p : Nat) (hx : okSp x) (h : Std zs p (spL x)) : spanP zs p = some (x, p + (spL x).length) := by
  obtain ⟨s, f, t⟩ := x
  obtain ⟨h12, h3⟩ := std_append.1 h
  obtain ⟨h1, h2⟩ := std_append.1 h12
  unfold okSp at hx
  simp only at h1 h2 h3 h12 hx
  unfold spanP
  rw [upP_put (by omega) (by omega) (by omega) h1]
  simp only
  rw [upP_put (by omega) (by omega) (by omega) h2]
  simp only
  rw [List.length_append, ← Nat.add_assoc] at h3
  rw [upP_put (by omega) (by omega) (by omega) h3]
  simp only [Option.some.injEq, Prod.mk.injEq, true_and]
  unfold spL
  simp only [List.length_append]
  omega
theorem spanQ_put {zs : List Int} (x : Sp) (p : Nat) (hx : okSp x) (h : Std zs p (spL x)) : spanQ zs p = some (x, p + (spL x).length) := by
  obtain ⟨s, f, t⟩ := x
  obtain ⟨h12, h3⟩ := std_append.1 h
  obtain ⟨h1, h2⟩ := std_append.1 h12
  unfold okSp at hx
  simp only at h1 h2 h3 h12 hx
  unfold spanQ
  rw [numP_put (by omega) (by omega) h1]
  simp only
  rw [upP_put (by omega) (by omega) (by omega) h2]
  simp only
  rw [List.length_append, ← Nat.add_assoc] at h3
  rw [upP_put (by omega) (by omega) (by omega) h3]
  have e : Go.RowKit.wrap64 (f + (t - f)) = t := by rw [show f + (t - f) = t by omega]; exact Go.IntWalk.wrap64_in t ⟨by omega, by omega⟩
  simp only [Option.some.injEq, Prod.mk.injEq, true_and, e]
  unfold spL
  simp only [List.length_append]
  omega
theorem spanP_ok {zs : List Int} (hby : ∀ z ∈ zs, 0 ≤ z ∧ z ≤ 255) (x : Sp) (p q : Nat) (hp : p ≤ zs.length) (h : spanP zs p = some (x, q)) : q ≤ zs.length ∧ (okSp x → Std zs p (spL x) ∧ q = p + (spL x).length) := by
  unfold spanP at h
  split at h
  · cases h
  · rename_i s r h1
    obtain ⟨a1, a2, a3, a4, a5⟩ := upP_ok hby hp h1
    have l1 := std_le a1
    split at h
    · cases h
    · rename_i f u h2
      obtain ⟨b1, b2, b3, b4, b5⟩ := upP_ok hby (by omega) h2
      have l2 := std_le b1
      split at h
      · cases h
      · rename_i t v h3
        obtain ⟨c1, c2, c3, c4, c5⟩ := upP_ok hby (by omega) h3
        have l3 := std_le c1
        simp only [Option.some.injEq, Prod.mk.injEq] at h
        obtain ⟨rfl, rfl⟩ := h
        refine ⟨by omega, fun _ => ?_⟩
        unfold spL
        simp only
        rw [show f + t - f = t by omega]
        refine ⟨std_append.2 ⟨std_append.2 ⟨a1, by rw [← a2]; exact b1⟩, ?_⟩, by simp only [List.length_append]; omega⟩
        rw [List.length_append, ← Nat.add_assoc, ← a2, ← b2]
        exact c1
theorem spanQ_ok {zs : List Int} (hby : ∀ z ∈ zs, 0 ≤ z ∧ z ≤ 255) (x : Sp) (p q : Nat) (hp : p ≤ zs.length) (h : spanQ zs p = some (x, q)) : q ≤ zs.length ∧ (okSp x → Std zs p (spL x) ∧ q = p + (spL x).length) := by
  unfold spanQ at h
  split at h
  · cases h
  · rename_i s r h1
    obtain ⟨a1, a2, a3, a4⟩ := numP_ok hby hp h1
    have l1 := std_le a1
    split at h
    · cases h
    · rename_i f u h2
      obtain ⟨b1, b2, b3, b4, b5⟩ := upP_ok hby (by omega) h2
      have l2 := std_le b1
      split at h
      · cases h
      · rename_i t v h3
        obtain ⟨c1, c2, c3, c4, c5⟩ := upP_ok hby (by omega) h3
        have l3 := std_le c1
        simp only [Option.some.injEq, Prod.mk.injEq] at h
        obtain ⟨rfl, rfl⟩ := h
        refine ⟨by omega, fun hok => ?_⟩
        unfold okSp at hok
        simp only at hok
        have e : Go.RowKit.wrap64 (f + t) = f + t := by
          rcases (by omega : f + t ≤ 9223372036854775807 ∨ f + t = 9223372036854775808) with hh | hh
          · exact Go.IntWalk.wrap64_in _ ⟨by omega, hh⟩
          · rw [hh] at hok
            exact absurd hok.2.2.2.1 (by rw [show Go.RowKit.wrap64 9223372036854775808 = -9223372036854775808 by decide +kernel]; omega)
        unfold spL
        simp only
        rw [e, show f + t - f = t by omega]
        refine ⟨std_append.2 ⟨std_append.2 ⟨a1, by rw [← a2]; exact b1⟩, ?_⟩, by simp only [List.length_append]; omega⟩
        rw [List.length_append, ← Nat.add_assoc, ← a2, ← b2]
        exact c1

/-- What comes of all bytes, where P takes from them and what is taken must be right. -/
def wholeF {α : Type} (P : Option (α × Nat)) (m : Nat) (R : α → Prop) [DecidablePred R] (x0 : α) : α × Int :=
  match P with
  | none => (x0, 2)
  | some (x, q) => if q = m ∧ R x then (x, 0) else (x0, 2)
theorem wholeF_ok {α : Type} {P : Option (α × Nat)} {m : Nat} {R : α → Prop} [DecidablePred R] {x0 x : α} {q : Nat} (h : P = some (x, q)) (hq : q = m) (hR : R x) : wholeF P m R x0 = (x, 0) := by
  unfold wholeF
  rw [h]
  simp only
  rw [if_pos ⟨hq, hR⟩]
theorem wholeF_bad {α : Type} {P : Option (α × Nat)} {m : Nat} {R : α → Prop} [DecidablePred R] {x0 : α} (h : ∀ x q, P = some (x, q) → ¬ (q = m ∧ R x)) : wholeF P m R x0 = (x0, 2) := by
  unfold wholeF
  split
  · rfl
  · rename_i x q
    rw [if_neg (h x q rfl)]
/-- Two that take the same right things from the same bytes come to the same. -/
theorem wholeF_same {α : Type} {P Q : Option (α × Nat)} {zs : List Int} {R : α → Prop} [DecidablePred R] {x0 : α} {enc : α → List Int}
    (p1 : ∀ x, R x → zs = enc x → P = some (x, zs.length)) (p2 : ∀ x q, P = some (x, q) → R x → q = zs.length → zs = enc x)
    (q1 : ∀ x, R x → zs = enc x → Q = some (x, zs.length)) (q2 : ∀ x q, Q = some (x, q) → R x → q = zs.length → zs = enc x) :
    wholeF P zs.length R x0 = wholeF Q zs.length R x0 := by
  by_cases h : ∃ x, R x ∧ zs = enc x
  · obtain ⟨x, hR, he⟩ := h
    rw [wholeF_ok (p1 x hR he) rfl hR, wholeF_ok (q1 x hR he) rfl hR]
  · rw [wholeF_bad (fun x q hP hq => h ⟨x, hq.2, p2 x q hP hq.2 hq.1⟩), wholeF_bad (fun x q hQ hq => h ⟨x, hq.2, q2 x q hQ hq.2 hq.1⟩)]

/-- What Set tells of bytes. -/
def setF (zs : List Int) : List Sp × Int := wholeF (setP zs 0) zs.length Right []
theorem setP_put {zs : List Int} {p : Nat} {l : List Sp} (hl : l.length ≤ 9223372036854775807) (hr : ∀ x ∈ l, okSp x) (h : Std zs p (setL l)) : setP zs p = some (l, p + (setL l).length) := seqP_put (ok := okSp) (fun x p => spanP_put x p) hl hr h
theorem setQ_put {zs : List Int} {p : Nat} {l : List Sp} (hl : l.length ≤ 9223372036854775807) (hr : ∀ x ∈ l, okSp x) (h : Std zs p (setL l)) : setQ zs p = some (l, p + (setL l).length) := seqP_put (ok := okSp) (fun x p => spanQ_put x p) hl hr h
theorem setP_ok {zs : List Int} (hby : ∀ z ∈ zs, 0 ≤ z ∧ z ≤ 255) {p q : Nat} {l : List Sp} (hp : p ≤ zs.length) (h : setP zs p = some (l, q)) : q ≤ zs.length ∧ ((∀ x ∈ l, okSp x) → Std zs p (setL l) ∧ q = p + (setL l).length) := seqP_ok (ok := okSp) hby (spanP_ok hby) hp h
theorem setQ_ok {zs : List Int} (hby : ∀ z ∈ zs, 0 ≤ z ∧ z ≤ 255) {p q : Nat} {l : List Sp} (hp : p ≤ zs.length) (h : setQ zs p = some (l, q)) : q ≤ zs.length ∧ ((∀ x ∈ l, okSp x) → Std zs p (setL l) ∧ q = p + (setL l).length) := seqP_ok (ok := okSp) hby (spanQ_ok hby) hp h
theorem setF_ref {zs : List Int} (hby : ∀ z ∈ zs, 0 ≤ z ∧ z ≤ 255) : wholeF (setQ zs 0) zs.length Right [] = setF zs := by
  refine wholeF_same (enc := setL) (fun x hR he => ?_) (fun x q h hR hq => ?_) (fun x hR he => ?_) (fun x q h hR hq => ?_)
  · have h1 := std_all.2 he
    have := hR.1
    rw [setQ_put (by omega) hR.2.1 h1.1]
    rw [Nat.zero_add, h1.2]
  · obtain ⟨h1, h2⟩ := (setQ_ok hby (by omega) h).2 hR.2.1
    exact std_all.1 ⟨h1, by omega⟩
  · have h1 := std_all.2 he
    have := hR.1
    rw [setP_put (by omega) hR.2.1 h1.1]
    rw [Nat.zero_add, h1.2]
  · obtain ⟨h1, h2⟩ := (setP_ok hby (by omega) h).2 hR.2.1
    exact std_all.1 ⟨h1, by omega⟩
theorem setF_right {zs : List Int} {l : List Sp} (hby : ∀ z ∈ zs, 0 ≤ z ∧ z ≤ 255) (h : setF zs = (l, 0)) : Right l ∧ zs = setL l := by
  unfold setF wholeF at h
  split at h
  · simp at h
  · rename_i x q hP
    split at h
    · rename_i hc
      simp only [Prod.mk.injEq, and_true] at h
      subst h
      obtain ⟨h1, h2⟩ := (setP_ok hby (by omega) hP).2 hc.2.2.1
      exact ⟨hc.2, std_all.1 ⟨h1, by omega⟩⟩
    · simp at h
theorem setF_put {l : List Sp} (hR : Right l) : setF (setL l) = (l, 0) := by
  have h1 := std_all.2 (rfl : setL l = setL l)
  have := hR.1
  refine wholeF_ok (setP_put (by omega) hR.2.1 h1.1) ?_ hR
  rw [Nat.zero_add]
theorem setF_err {zs : List Int} {l : List Sp} {e : Int} (h : setF zs = (l, e)) (he : e ≠ 0) : l = [] ∧ e = 2 := by
  unfold setF wholeF at h
  split at h
  · simp only [Prod.mk.injEq] at h
    exact ⟨h.1.symm, h.2.symm⟩
  · split at h
    · simp only [Prod.mk.injEq] at h
      exact absurd h.2.symm he
    · simp only [Prod.mk.injEq] at h
      exact ⟨h.1.symm, h.2.symm⟩
end Code
end Go.Proofs.YtegiigeelcnemaaGreat

/-
  The reader of layer 6: its block, and what taking comes to; numbers and texts.
-/
namespace Go.Proofs.YtegiigeelcnemaaGreat
namespace Code
open Go.RowKit Num Span
attribute [local go_sem ↓] Go.wp_at_zero Go.wp_at_succ

/-- Block g is the reader's: the bytes, and how far it is. -/
def Rd (g : Nat) (A : Option Addr) (c n p : Nat) (w : World) : Prop := w.heap[g]? = some (.cells #[.slice A n c, .int .i64 p] 116 (0, 0))
section
variable {w w' : World} {g n p c : Nat} {A : Option Addr}
theorem Rd.lt (h : Rd g A c n p w) : g < w.heap.size := (Array.getElem?_eq_some_iff.1 h).1
theorem Rd.c0 (h : Rd g A c n p w) : w.cell? ⟨g, 0, none⟩ = some (.slice A n c) := by simp [World.cell?, show w.heap[g]? = _ from h]
theorem Rd.c1 (h : Rd g A c n p w) : w.cell? ⟨g, 1, none⟩ = some (.int .i64 p) := by simp [World.cell?, show w.heap[g]? = _ from h]
theorem Rd.frozen (h : Rd g A c n p w) (j : Nat) : w.frozen? ⟨g, j, none⟩ = false := by simp [World.frozen?, show w.heap[g]? = _ from h]
theorem Rd.kept {row : Option Nat} (h : Rd g A c n p w) (hg : w.grownBy w' row) (hne : some g ≠ row) : Rd g A c n p w' := (hg.block g h.lt hne).trans h
theorem Rd.alloc (h : Rd g A c n p w) (o : Obj) : Rd g A c n p (w.alloc o) := h.kept (World.grownBy_alloc w o none) (by simp)
theorem Rd.below {B : Nat} (h : Rd g A c n p w) (hb : Below B w w') (hB : g < B) : Rd g A c n p w' := (hb.block g hB).trans h
theorem Rd.drew (h : Rd g A c n p w) : Rd g A c n p w.drew := h
theorem Rd.set (h : Rd g A c n p w) (q : Nat) : Rd g A c n q (w.setCell ⟨g, 1, none⟩ (.int .i64 q)) := by
  have h' : w.heap[g]? = some (.cells #[.slice A n c, .int .i64 p] 116 (0, 0)) := h
  show (w.setCell ⟨g, 1, none⟩ (.int .i64 q)).heap[g]? = _
  simp [World.setCell, Array.getElem?_modify, h']
theorem grown_set1 (w : World) (g k : Nat) (v : Value) : w.grownBy (w.setCell ⟨g, k, none⟩ v) (some g) :=
  ⟨rfl, rfl, rfl, (KeepsWalks.setCell w _ v).size, fun j _ hj => Below.heap_setCell _ _ _ j (fun e => hj (by rw [e]))⟩
theorem grown_drew {row : Option Nat} (h : w.grownBy w' row) : w.grownBy w'.drew row := ⟨h.os, h.tape, h.output, h.size, h.block⟩
theorem grown_trans {w'' : World} {row : Option Nat} (h : w.grownBy w' row) (k : w'.grownBy w'' row) : w.grownBy w'' row :=
  ⟨k.os.trans h.os, k.tape.trans h.tape, k.output.trans h.output, Nat.le_trans h.size k.size, fun j hj hne => (k.block j (Nat.lt_of_lt_of_le hj h.size) hne).trans (h.block j hj hne)⟩
theorem grown_none {row : Option Nat} (h : w.grownBy w' none) : w.grownBy w' row := ⟨h.os, h.tape, h.output, h.size, fun j hj _ => h.block j hj (by simp)⟩
end

/-- Where the reader's bytes stand: below its block. -/
def Src (g : Nat) (A : Option Addr) (c n : Nat) (zs : List Int) (w : World) : Prop :=
  Ns .u8 w g A zs ∧ (∀ z ∈ zs, 0 ≤ z ∧ z ≤ 255) ∧ zs.length = n ∧ n ≤ c ∧ n ≤ 4294967296
theorem Src.kept {w w' : World} {g n c : Nat} {A : Option Addr} {zs : List Int} (h : Src g A c n zs w) (hg : w.grownBy w' (some g)) (hlt : g < w.heap.size) : Src g A c n zs w' :=
  ⟨h.1.grown hg (by omega) (fun k hk => by injection hk with hk; omega), h.2⟩
theorem Src.drew {w : World} {g n c : Nat} {A : Option Addr} {zs : List Int} (h : Src g A c n zs w) : Src g A c n zs w.drew := h

/-- The panic of a reader that gives up. -/
def spoiltV : Value := .iface 114 (.agg #[])
/-- What taking comes to: a value, and the reader goes on; or it gives up. Nothing but the reader's block has turned. -/
def Took {α : Type} (g : Nat) (A : Option Addr) (c n : Nat) (w : World) (P : Option (α × Nat)) (V : α → Value → World → Prop) (e : Ending) (w' : World) : Prop :=
  w.grownBy w' (some g) ∧ match P with
    | some (x, q) => ∃ v, e = .returned v ∧ Rd g A c n q w' ∧ V x v w'
    | none => e = .panicked [{ v := spoiltV, recovered := false }]
theorem Took.none {α : Type} {g c n : Nat} {A : Option Addr} {w w' : World} {V : α → Value → World → Prop} {e : Ending} (h : Took g A c n w none V e w') : w.grownBy w' (some g) ∧ e = .panicked [{ v := spoiltV, recovered := false }] := h
theorem Took.some {α : Type} {g c n q : Nat} {A : Option Addr} {w w' : World} {V : α → Value → World → Prop} {e : Ending} {x : α} (h : Took g A c n w (some (x, q)) V e w') : ∃ v, e = .returned v ∧ Rd g A c n q w' ∧ V x v w' ∧ w.grownBy w' (some g) := by
  obtain ⟨h0, v, h1, h2, h3⟩ := h
  exact ⟨v, h1, h2, h3, h0⟩
theorem took_none {α : Type} {g c n : Nat} {A : Option Addr} {w w' : World} {V : α → Value → World → Prop} (h : w.grownBy w' (some g)) : Took g A c n w none V (.panicked [{ v := spoiltV, recovered := false }]) w' := ⟨h, rfl⟩
theorem took_some {α : Type} {g c n q : Nat} {A : Option Addr} {w w' : World} {V : α → Value → World → Prop} {x : α} {v : Value} (h : w.grownBy w' (some g)) (hr : Rd g A c n q w') (hv : V x v w') : Took g A c n w (some (x, q)) V (.returned v) w' := ⟨h, v, rfl, hr, hv⟩

theorem giveUp_any (p : Value) (w : World) : Calls Tryz.prog 65 #[p] w fun e w' => e = .panicked [{ v := spoiltV, recovered := false }] ∧ w' = w := by
  go_enter Tryz.func65, Tryz.ntmps65
  go_wp2
  exact ⟨rfl, rfl, rfl⟩

def intV (x : Int) (v : Value) (_ : World) : Prop := v = .int .i64 x

theorem rnum_any (g : Nat) (A : Option Addr) (c n p : Nat) (zs : List Int) (w : World) (hs : Src g A c n zs w) (hr : Rd g A c n p w) (hp : p ≤ n) :
    Calls Tryz.prog 96 #[.pointer (some ⟨g, 0, none⟩)] w (Took g A c n w (numP zs p) intV) := by
  obtain ⟨hN, hby, hn, hc, hbig⟩ := hs
  have hlt := hr.lt
  have h1 := fun W (hW : Ns .u8 W g A zs) => num_at A c n zs hn p g W hW hby (by omega) (by omega)
  have c0 := hr.c0
  have c1 := hr.c1
  have fz := hr.frozen 1
  rcases hP : numP zs p with _ | ⟨x, q⟩
  · have he := numP_none hP
    obtain ⟨⟨x, q, e⟩, hF⟩ : ∃ r, numF zs p = r := ⟨_, rfl⟩
    rw [hF] at h1 he
    simp only at he
    have he1 : (e != 0) = true := by simpa using he
    have H1 := Lib.hid h1
    have HN := Lib.hid hN
    clear h1 hN hF hP hby hr
    go_enter Tryz.func96, Tryz.ntmps96
    go_wp2_with fail
    go_region_held3 (fun V => V.cell? ⟨g, 0, none⟩ = some (.slice A n c) ∧ V.cell? ⟨g, 1, none⟩ = some (.int .i64 p) ∧ V = w.drew) (first | exact ⟨c0, c1, rfl⟩ | assumption)
      (first | (go_at_call 91; refine (H1.out _ HN.out.drew).mono ?_; rintro e w3 ⟨rfl, rfl⟩))
    all_goals
      go_wp2_with fail
      refine (giveUp_any _ _).mono ?_
      rintro e w3 ⟨rfl, rfl⟩
      exact ⟨rfl, took_none (grown_drew (World.grownBy.refl _ _))⟩
  · have hF := numP_some hP
    rw [hF] at h1
    have H1 := Lib.hid h1
    have HN := Lib.hid hN
    have HR := Lib.hid hr
    clear h1 hN hF hP hby hr
    go_enter Tryz.func96, Tryz.ntmps96
    go_wp2_with fail
    go_region_held3 (fun V => V.cell? ⟨g, 0, none⟩ = some (.slice A n c) ∧ V.cell? ⟨g, 1, none⟩ = some (.int .i64 p) ∧ V = w.drew) (first | exact ⟨c0, c1, rfl⟩ | assumption)
      (first | (go_at_call 91; refine (H1.out _ HN.out.drew).mono ?_; rintro e w3 ⟨rfl, rfl⟩))
    all_goals
      go_wp2_with fail
      go_ret
      exact took_some (grown_drew (grown_set1 _ _ _ _)) (HR.out.set q).drew rfl
theorem upTo_any (g : Nat) (A : Option Addr) (c n p : Nat) (zs : List Int) (m : Int) (w : World) (hs : Src g A c n zs w) (hr : Rd g A c n p w) (hp : p ≤ n) :
    Calls Tryz.prog 111 #[.pointer (some ⟨g, 0, none⟩), .int .i64 m] w (Took g A c n w (upP m zs p) intV) := by
  have h1 := rnum_any g A c n p zs w hs hr hp
  rcases hP : numP zs p with _ | ⟨x, q⟩
  · have hU : upP m zs p = none := by unfold upP; rw [hP]
    rw [hU]
    rw [hP] at h1
    have H1 := Lib.hid h1
    clear h1 hP hU hs hr
    go_enter Tryz.func111, Tryz.ntmps111
    go_wp2_with fail
    refine H1.out.mono ?_
    intro e w1 hT
    obtain ⟨hg, rfl⟩ := hT.none
    exact ⟨rfl, took_none hg⟩
  · rw [hP] at h1
    have hU : upP m zs p = if x ≤ m then some (x, q) else none := by unfold upP; rw [hP]
    by_cases hx : x ≤ m
    · rw [if_pos hx] at hU
      rw [hU]
      have H1 := Lib.hid h1
      clear h1 hP hU hs hr
      go_enter Tryz.func111, Tryz.ntmps111
      go_wp2_with fail
      refine H1.out.mono ?_
      intro e w1 hT
      obtain ⟨v, rfl, hr1, rfl, hg⟩ := hT.some
      clear hT
      go_wp2_with fail
      go_ret
      exact took_some hg hr1 rfl
    · rw [if_neg hx] at hU
      rw [hU]
      have hx' : m < x := by omega
      have H1 := Lib.hid h1
      clear h1 hP hU hs hr hx
      go_enter Tryz.func111, Tryz.ntmps111
      go_wp2_with fail
      refine H1.out.mono ?_
      intro e w1 hT
      obtain ⟨v, rfl, hr1, rfl, hg⟩ := hT.some
      clear hT
      go_wp2_with fail
      refine (giveUp_any _ _).mono ?_
      rintro e w3 ⟨rfl, rfl⟩
      exact ⟨rfl, took_none hg⟩

theorem whole_any (g : Nat) (A : Option Addr) (c n p : Nat) (zs : List Int) (w : World) (hs : Src g A c n zs w) (hr : Rd g A c n p w) (hp : p ≤ n) :
    Calls Tryz.prog 94 #[.pointer (some ⟨g, 0, none⟩)] w (Took g A c n w (upP 2147483647 zs p) intV) := by
  have h1 := upTo_any g A c n p zs 2147483647 w hs hr hp
  obtain ⟨P, hP⟩ : ∃ P, upP 2147483647 zs p = P := ⟨_, rfl⟩
  rw [hP] at h1 ⊢
  have H1 := Lib.hid h1
  clear h1 hP hs hr
  rcases P with _ | ⟨x, q⟩
  all_goals
    go_enter Tryz.func94, Tryz.ntmps94
    go_wp2_with fail
    refine H1.out.mono ?_
    intro e w1 hT
  · obtain ⟨hg, rfl⟩ := hT.none
    exact ⟨rfl, took_none hg⟩
  · obtain ⟨v, rfl, hr1, rfl, hg⟩ := hT.some
    clear hT
    go_wp2_with fail
    go_ret
    exact took_some hg hr1 rfl

def textV (x : List Int) (v : Value) (_ : World) : Prop := v = .string (strOfNums x)
theorem rtext_any (g : Nat) (A : Option Addr) (c n p : Nat) (zs : List Int) (m : Int) (hm : -9223372036854775808 ≤ m ∧ m ≤ 9223372036854775807) (w : World) (hs : Src g A c n zs w) (hr : Rd g A c n p w) (hp : p ≤ n) :
    Calls Tryz.prog 66 #[.pointer (some ⟨g, 0, none⟩), .int .i64 m] w (Took g A c n w (textP m zs p) textV) := by
  obtain ⟨hN, hby, hn, hc, hbig⟩ := hs
  have h1 := fun W (hW : Ns .u8 W g A zs) => text_in A c zs p m hm g W hW hby (by omega) (by omega) (by omega)
  rw [hn] at h1
  have c0 := hr.c0
  have c1 := hr.c1
  have fz := hr.frozen 1
  obtain ⟨⟨x, q, e⟩, hF⟩ : ∃ r, textF zs p m = r := ⟨_, rfl⟩
  rw [hF] at h1
  by_cases he : e = 0
  · have hP : textP m zs p = some (x, q) := by unfold textP; rw [hF]; simp only; rw [if_pos he]
    rw [hP]
    subst he
    have H1 := Lib.hid h1
    have HN := Lib.hid hN
    have HR := Lib.hid hr
    clear h1 hN hF hP hby hr
    go_enter Tryz.func66, Tryz.ntmps66
    go_wp2_with fail
    go_region_held3 (fun V => V.cell? ⟨g, 0, none⟩ = some (.slice A n c) ∧ V.cell? ⟨g, 1, none⟩ = some (.int .i64 p) ∧ V = w.drew) (first | exact ⟨c0, c1, rfl⟩ | assumption)
      (first | (go_at_call 109; refine (H1.out _ HN.out.drew).mono ?_; rintro e w3 ⟨rfl, rfl⟩))
    all_goals
      go_wp2_with fail
      go_ret
      exact took_some (grown_drew (grown_set1 _ _ _ _)) (HR.out.set q).drew rfl
  · have hP : textP m zs p = none := by unfold textP; rw [hF]; simp only; rw [if_neg he]
    rw [hP]
    have he1 : (e != 0) = true := by simpa using he
    have H1 := Lib.hid h1
    have HN := Lib.hid hN
    clear h1 hN hF hP hby hr
    go_enter Tryz.func66, Tryz.ntmps66
    go_wp2_with fail
    go_region_held3 (fun V => V.cell? ⟨g, 0, none⟩ = some (.slice A n c) ∧ V.cell? ⟨g, 1, none⟩ = some (.int .i64 p) ∧ V = w.drew) (first | exact ⟨c0, c1, rfl⟩ | assumption)
      (first | (go_at_call 109; refine (H1.out _ HN.out.drew).mono ?_; rintro e w3 ⟨rfl, rfl⟩))
    all_goals
      go_wp2_with fail
      refine (giveUp_any _ _).mono ?_
      rintro e w3 ⟨rfl, rfl⟩
      exact ⟨rfl, took_none (grown_drew (World.grownBy.refl _ _))⟩
end Code
end Go.Proofs.YtegiigeelcnemaaGreat

/-
  The reader of layer 6: spans and sets.
-/
namespace Go.Proofs.YtegiigeelcnemaaGreat
namespace Code
open Go.RowKit Num Span
attribute [local go_sem ↓] Go.wp_at_zero Go.wp_at_succ

theorem results_cell1 {fn : Func} {p : Tmp} {ty : TypeId} (h : fn.results = #[.cell p ty]) (tmps : Array Value) (P : Program) (w : World) :
    (results fn tmps).run P w = ((asAddr (tmps.getD p undef)).run P w).andThen fun a w₁ => (loadVar ty a).run P w₁ := by
  simp only [results, h]
  simp [Sem.run_bind, Result.andThen]

def spV (x : Sp) (v : Value) (_ : World) : Prop := v = .agg #[.int .i64 x.1, .int .i64 x.2.1, .int .i64 x.2.2]

/-- A new block is none of the older ones. -/
theorem grown_alloc {w w' : World} {o : Obj} {g : Nat} (h : (w.alloc o).grownBy w' (some g)) : w.grownBy w' (some g) :=
  grown_trans (World.grownBy_alloc w o _) h

/-- What is written in a new block turns no older one. -/
theorem grown_fresh {w w' w'' : World} {g B : Nat} (h : w.grownBy w' (some g)) (k : w'.grownBy w'' (some B)) (hB : w.heap.size ≤ B) : w.grownBy w'' (some g) :=
  ⟨k.os.trans h.os, k.tape.trans h.tape, k.output.trans h.output, Nat.le_trans h.size k.size, fun j hj hne => (k.block j (Nat.lt_of_lt_of_le hj h.size) (by intro e; injection e with e; omega)).trans (h.block j hj hne)⟩
/-- A block of three cells. -/
def Box3 (B : Nat) (t : TypeId) (x y z : Value) (w : World) : Prop := w.heap[B]? = some (.cells #[x, y, z] t (0, 0))
section
variable {w w' : World} {B : Nat} {t : TypeId} {x y z x' y' z' : Value}
theorem Box3.lt (h : Box3 B t x y z w) : B < w.heap.size := (Array.getElem?_eq_some_iff.1 h).1
theorem Box3.kept {row : Option Nat} (h : Box3 B t x y z w) (hg : w.grownBy w' row) (hne : some B ≠ row) : Box3 B t x y z w' := (hg.block B h.lt hne).trans h
theorem Box3.cell (h : Box3 B t x y z w) : w.cell? ⟨B, 0, none⟩ = some x ∧ w.cell? ⟨B, 1, none⟩ = some y ∧ w.cell? ⟨B, 2, none⟩ = some z := by
  have h' : w.heap[B]? = _ := h
  refine ⟨?_, ?_, ?_⟩ <;> simp [World.cell?, h']
theorem Box3.frozen (h : Box3 B t x y z w) (j : Nat) : w.frozen? ⟨B, j, none⟩ = false := by simp [World.frozen?, show w.heap[B]? = _ from h]
def set3 (w : World) (B : Nat) (x y z : Value) : World := ((w.setCell ⟨B, 0, none⟩ x).setCell ⟨B, 1, none⟩ y).setCell ⟨B, 2, none⟩ z
theorem set3_lit : ((w.setCell ⟨B, 0, none⟩ x).setCell ⟨B, 1, none⟩ y).setCell ⟨B, 2, none⟩ z = set3 w B x y z := rfl
theorem Box3.set (h : Box3 B t x y z w) : Box3 B t x' y' z' (set3 w B x' y' z') := by
  have h' : w.heap[B]? = some (.cells #[x, y, z] t (0, 0)) := h
  show (set3 w B x' y' z').heap[B]? = _
  simp [set3, World.setCell, Array.getElem?_modify, h']
theorem set3_grown : w.grownBy (set3 w B x y z) (some B) := grown_trans (grown_trans (grown_set1 _ _ _ _) (grown_set1 _ _ _ _)) (grown_set1 _ _ _ _)
end

set_option maxRecDepth 100000 in
theorem rspan_any (g : Nat) (A : Option Addr) (c n p : Nat) (zs : List Int) (w : World) (hs : Src g A c n zs w) (hr : Rd g A c n p w) (hp : p ≤ n) :
    Calls Tryz.prog 123 #[.pointer (some ⟨g, 0, none⟩)] w (Took g A c n w (spanP zs p) spV) := by
  have hlt := hr.lt
  obtain ⟨W, hW⟩ : ∃ W, w.alloc (.cells #[.int .i64 0, .int .i64 0, .int .i64 0] 70) = W := ⟨_, rfl⟩
  have hgW : w.grownBy W (some g) := by rw [← hW]; exact World.grownBy_alloc _ _ _
  have hsW := hs.kept hgW hlt
  have hrW : Rd g A c n p W := by rw [← hW]; exact hr.alloc _
  have hB : Box3 w.heap.size 70 (.int .i64 0) (.int .i64 0) (.int .i64 0) W := by rw [← hW]; exact heap_alloc_new _ _
  have hBg : w.heap.size ≠ g := by omega
  have hby := hs.2.1
  have hn := hs.2.2.1
  obtain ⟨B, hBe⟩ : ∃ B, w.heap.size = B := ⟨_, rfl⟩
  rw [hBe] at hB hBg
  have hne : some B ≠ some g := by simpa using hBg
  have hltW := hrW.lt
  have h1 := whole_any g A c n p zs W hsW hrW hp
  rcases hP1 : upP 2147483647 zs p with _ | ⟨s, q⟩
  · have hU : spanP zs p = none := by unfold spanP; rw [hP1]
    rw [hU]
    rw [hP1] at h1
    have H1 := Lib.hid h1
    have HG := Lib.hid hgW
    clear h1 hP1 hU hs hr hsW hrW hby hgW
    go_enter Tryz.func123, Tryz.ntmps123
    go_wp2_with fail
    refine H1.out.mono ?_
    intro e w1 hT
    obtain ⟨hg, rfl⟩ := hT.none
    exact ⟨rfl, took_none (grown_trans HG.out hg)⟩
  · rw [hP1] at h1
    obtain ⟨a1, a2, a3, a4, a5⟩ := upP_ok hby (by omega) hP1
    have hq := std_le a1
    have H1 := Lib.hid h1
    have HS := Lib.hid (And.intro hsW (And.intro hB (And.intro hP1 (And.intro hby (And.intro hgW hn)))))
    clear h1 hP1 hs hr hsW hrW hby hgW hB a1
    go_enter Tryz.func123, Tryz.ntmps123
    go_wp2_with fail
    refine H1.out.mono ?_
    intro e w1 hT
    obtain ⟨v, rfl, hr1, rfl, hg1⟩ := hT.some
    obtain ⟨hsW, hB, hP1, hby, hgW, hn⟩ := HS.out
    have hs1 := hsW.kept hg1 hltW
    have hB1 := hB.kept hg1 hne
    have hgW1 := grown_trans hgW hg1
    have h2 := upTo_any g A c n q zs 4611686018427387904 w1 hs1 hr1 (by omega)
    rcases hP2 : upP 4611686018427387904 zs q with _ | ⟨f, r⟩
    · have hU : spanP zs p = none := by unfold spanP; simp only [hP1, hP2]
      rw [hP2] at h2
      have H2 := Lib.hid h2
      have HU := Lib.hid (And.intro hU hgW1)
      clear h2 hP2 hP1 hU hr1 hs1 hB1 hgW1 hB hsW hby hgW hT hg1 HS H1
      go_wp2_with fail
      refine H2.out.mono ?_
      intro e w2 hT
      obtain ⟨hg, rfl⟩ := hT.none
      refine ⟨rfl, ?_⟩
      rw [HU.out.1]
      exact took_none (grown_trans HU.out.2 hg)
    · rw [hP2] at h2
      obtain ⟨b1, b2, b3, b4, b5⟩ := upP_ok hby (by omega) hP2
      have hrq := std_le b1
      have hlt1 := hr1.lt
      have H2 := Lib.hid h2
      have HS := Lib.hid (And.intro hs1 (And.intro hB1 (And.intro hP1 (And.intro hP2 (And.intro hby (And.intro hgW1 hn))))))
      clear h2 hP2 hP1 hr1 hs1 hB1 hgW1 hB hsW hby hgW hT hg1 H1 b1
      go_wp2_with fail
      refine H2.out.mono ?_
      intro e w2 hT
      obtain ⟨v, rfl, hr2, rfl, hg2⟩ := hT.some
      obtain ⟨hs1, hB1, hP1, hP2, hby, hgW1, hn⟩ := HS.out
      have hs2 := hs1.kept hg2 hlt1
      have hB2 := hB1.kept hg2 hne
      have hgW2 := grown_trans hgW1 hg2
      have h3 := upTo_any g A c n r zs (4611686018427387904 - f) w2 hs2 hr2 (by omega)
      rcases hP3 : upP (4611686018427387904 - f) zs r with _ | ⟨t, u⟩
      · have hU : spanP zs p = none := by unfold spanP; simp only [hP1, hP2, hP3]
        rw [hP3] at h3
        have H3 := Lib.hid h3
        have HU := Lib.hid (And.intro hU hgW2)
        clear h3 hP3 hP2 hP1 hU hr2 hs2 hB2 hgW2 hB1 hs1 hby hgW1 hT hg2 HS H2
        go_wp2_with fail
        refine H3.out.mono ?_
        intro e w3 hT
        obtain ⟨hg, rfl⟩ := hT.none
        refine ⟨rfl, ?_⟩
        rw [HU.out.1]
        exact took_none (grown_trans HU.out.2 hg)
      · have hU : spanP zs p = some ((s, f, f + t), u) := by unfold spanP; simp only [hP1, hP2, hP3]
        rw [hP3] at h3
        obtain ⟨c1, c2, c3, c4, c5⟩ := upP_ok hby (by omega) hP3
        have hlt2 := hr2.lt
        have H3 := Lib.hid h3
        have HS := Lib.hid (And.intro hB2 (And.intro hgW2 hU))
        clear h3 hP3 hP2 hP1 hU hr2 hs2 hB2 hgW2 hB1 hs1 hby hgW1 hT hg2 H2 c1
        go_wp2_with fail
        refine H3.out.mono ?_
        intro e w3 hT
        obtain ⟨v, rfl, hr3, rfl, hg3⟩ := hT.some
        obtain ⟨hB2, hgW2, hU⟩ := HS.out
        have hB3 := hB2.kept hg3 hne
        have hgW3 := grown_trans hgW2 hg3
        obtain ⟨k0, k1, k2⟩ := hB3.cell
        have f0 := hB3.frozen 0
        have f1 := hB3.frozen 1
        have f2 := hB3.frozen 2
        have hx : IntKind.i64.wrap (f + t) = f + t := Go.IntWalk.i64_in _ (by omega)
        obtain ⟨j0, j1, j2⟩ := (hB3.set (x' := .int .i64 s) (y' := .int .i64 f) (z' := .int .i64 (f + t))).cell
        have HF := Lib.hid (And.intro hr3 (And.intro hgW3 hU))
        clear hr3 hgW3 hU hB2 hgW2 hT hg3 hB3 HS H3
        go_wp2_with fail
        rw [set3_lit]
        obtain ⟨X, hX⟩ : ∃ X, set3 w3 B (.int .i64 s) (.int .i64 f) (.int .i64 (f + t)) = X := ⟨_, rfl⟩
        rw [hX] at j0 j1 j2 ⊢
        have hG : w.grownBy X (some g) := by rw [← hX]; exact grown_fresh HF.out.2.1 set3_grown (by omega)
        have hR : Rd g A c n u X := by rw [← hX]; exact HF.out.1.kept set3_grown (Ne.symm hne)
        have HX := Lib.hid (And.intro hG hR)
        clear hG hR hX
        refine bodyPost_ret (v := .agg #[.int .i64 s, .int .i64 f, .int .i64 (f + t)]) ?_ rfl ?_
        · rw [results_cell1 rfl]
          go_simp
        · rw [HF.out.2.2]
          exact took_some HX.out.1 HX.out.2 rfl

/-- What is taken takes a byte at least. -/
theorem spanP_goes {zs : List Int} (hby : ∀ z ∈ zs, 0 ≤ z ∧ z ≤ 255) {x : Sp} {p q : Nat} (hp : p ≤ zs.length) (h : spanP zs p = some (x, q)) : p < q ∧ q ≤ zs.length := by
  unfold spanP at h
  split at h
  · cases h
  · rename_i s r h1
    obtain ⟨a1, a2, a3, a4, a5⟩ := upP_ok hby hp h1
    have l1 := std_le a1
    have m1 := putL_len s
    split at h
    · cases h
    · rename_i f u h2
      obtain ⟨b1, b2, b3, b4, b5⟩ := upP_ok hby (by omega) h2
      have l2 := std_le b1
      split at h
      · cases h
      · rename_i t v h3
        obtain ⟨c1, c2, c3, c4, c5⟩ := upP_ok hby (by omega) h3
        have l3 := std_le c1
        simp only [Option.some.injEq, Prod.mk.injEq] at h
        omega

theorem listP_len {α : Type} {P : Nat → Option (α × Nat)} {n : Nat} (hP : ∀ x p q, p ≤ n → P p = some (x, q) → p < q ∧ q ≤ n) : ∀ (k p q : Nat) (l : List α), p ≤ n → listP P k p = some (l, q) → p + l.length ≤ q ∧ q ≤ n
  | 0, p, q, l, hp, h => by
    simp only [listP, Option.some.injEq, Prod.mk.injEq] at h
    obtain ⟨rfl, rfl⟩ := h
    exact ⟨by simp, hp⟩
  | k + 1, p, q, l, hp, h => by
    rw [listP] at h
    split at h
    · cases h
    · rename_i x r hx
      obtain ⟨y, hy, he⟩ := Option.map_eq_some_iff.1 h
      simp only [Prod.mk.injEq] at he
      obtain ⟨rfl, rfl⟩ := he
      obtain ⟨h1, h2⟩ := hP x p r hp hx
      obtain ⟨h3, h4⟩ := listP_len hP k r y.2 y.1 h2 hy
      simp only [List.length_cons]
      omega
theorem seqP_len {α : Type} {P : Nat → Option (α × Nat)} {zs : List Int} (hby : ∀ z ∈ zs, 0 ≤ z ∧ z ≤ 255) (hP : ∀ x p q, p ≤ zs.length → P p = some (x, q) → p < q ∧ q ≤ zs.length) {p q : Nat} {l : List α} (hp : p ≤ zs.length) (h : seqP P zs p = some (l, q)) : p + l.length < q ∧ q ≤ zs.length := by
  unfold seqP at h
  split at h
  · cases h
  · rename_i n r hn
    obtain ⟨g1, g2, g3, g4⟩ := numP_ok hby hp hn
    have gl := std_le g1
    have gp := putL_len n
    have := listP_len hP _ r q l (by omega) h
    omega
theorem setP_len {zs : List Int} (hby : ∀ z ∈ zs, 0 ≤ z ∧ z ≤ 255) {p q : Nat} {l : List Sp} (hp : p ≤ zs.length) (h : setP zs p = some (l, q)) : p + l.length < q ∧ q ≤ zs.length := seqP_len hby (fun _ _ _ hp h => spanP_goes hby hp h) hp h

/-- Where the loop of a list is: k are taken. -/
def Taking {α : Type} (P : Nat → Option (α × Nat)) (N : Nat) (p1 : Nat) (k : Nat) (l : List α) (q : Nat) : Prop :=
  l.length = k ∧ k ≤ N ∧ p1 + k ≤ q ∧ listP P N p1 = (listP P (N - k) q).map fun r => (l ++ r.1, r.2)
theorem taking_start {α : Type} (P : Nat → Option (α × Nat)) (N p1 : Nat) : Taking P N p1 0 [] p1 := ⟨rfl, by omega, by omega, by
  rw [Nat.sub_zero]
  rcases listP P N p1 with _ | ⟨l, q⟩ <;> simp⟩
theorem taking_none {α : Type} {P : Nat → Option (α × Nat)} {N p1 k q : Nat} {l : List α} (h : Taking P N p1 k l q) (hk : k < N) (hx : P q = none) : listP P N p1 = none := by
  obtain ⟨_, _, _, h4⟩ := h
  rw [h4, show N - k = (N - k - 1) + 1 by omega, listP_none hx]
  rfl
theorem taking_more {α : Type} {P : Nat → Option (α × Nat)} {N p1 k q r : Nat} {l : List α} {x : α} (h : Taking P N p1 k l q) (hk : k < N) (hx : P q = some (x, r)) (hq : q < r) : Taking P N p1 (k + 1) (l ++ [x]) r := by
  obtain ⟨h1, h2, h3, h4⟩ := h
  refine ⟨by simp [h1], by omega, by omega, ?_⟩
  rw [h4, show N - k = (N - (k + 1)) + 1 by omega, listP_more hx]
  rcases listP P (N - (k + 1)) r with _ | ⟨m, u⟩ <;> simp
theorem taking_end {α : Type} {P : Nat → Option (α × Nat)} {N p1 q : Nat} {l : List α} (h : Taking P N p1 N l q) : listP P N p1 = some (l, q) := by
  obtain ⟨_, _, _, h4⟩ := h
  rw [h4, Nat.sub_self, listP_zero]
  simp

/-- Spans of the call's own. -/
def ssV (B : Nat) (l : List Sp) (v : Value) (w' : World) : Prop := ∃ A' c', v = .slice A' l.length c' ∧ w'.ownsRow B 70 3 (.slice A' l.length c') l.length (sps l)

/-- A row of one's own is none of older blocks. -/
theorem own_apart {w : World} {base : Nat} {e : TypeId} {size : Nat} {v : Value} {n : Nat} {xs : List Value} (h : w.ownsRow base e size v n xs) {g : Nat} (hg : g < base) : v.ownBlock = none ∨ v.ownBlock ≠ some g := by
  rcases hv : v.ownBlock with _ | j
  · exact .inl rfl
  · refine .inr fun e => ?_
    injection e with e
    have := (h.lt j hv).1
    omega

theorem own_far {w : World} {base : Nat} {e : TypeId} {size : Nat} {v : Value} {n : Nat} {xs : List Value} (h : w.ownsRow base e size v n xs) {g : Nat} (hg : g < base) : some g ≠ v.ownBlock := by
  rcases own_apart h hg with h1 | h1
  · rw [h1]; simp
  · exact fun e => h1 e.symm
/-- An append onto a row of one's own, which is none of the older blocks. -/
theorem grown_own {w w' w0 : World} {g : Nat} {row : Option Nat} (h0 : w0.grownBy w (some g)) (h : w.grownBy w' row) (hr : ∀ k, row = some k → w0.heap.size ≤ k) : w0.grownBy w' (some g) :=
  ⟨h.os.trans h0.os, h.tape.trans h0.tape, h.output.trans h0.output, Nat.le_trans h0.size h.size, fun j hj hne => (h.block j (Nat.lt_of_lt_of_le hj h0.size) (by intro e; have := hr j e.symm; omega)).trans (h0.block j hj hne)⟩

set_option maxRecDepth 100000 in
theorem rspans_any (g : Nat) (A : Option Addr) (c n p : Nat) (zs : List Int) (w : World) (hs : Src g A c n zs w) (hr : Rd g A c n p w) (hp : p ≤ n) :
    Calls Tryz.prog 122 #[.pointer (some ⟨g, 0, none⟩), .func (.func 123) #[.pointer (some ⟨g, 0, none⟩)] #[]] w (Took g A c n w (setP zs p) (ssV w.heap.size)) := by
  obtain ⟨info, hi, hz, hsize, hbyt⟩ := info_span
  have hlt := hr.lt
  have hby := hs.2.1
  have hn := hs.2.2.1
  have hbig := hs.2.2.2.2
  have h1 := rnum_any g A c n p zs w hs hr hp
  rcases hP1 : numP zs p with _ | ⟨N, p1⟩
  · have hU : setP zs p = none := by unfold setP seqP; rw [hP1]
    rw [hU]
    rw [hP1] at h1
    have H1 := Lib.hid h1
    clear h1 hP1 hU hs hr hby
    go_enter Tryz.func122, Tryz.ntmps122
    go_wp2_with fail
    refine H1.out.mono ?_
    intro e w1 hT
    obtain ⟨hg, rfl⟩ := hT.none
    exact ⟨rfl, took_none hg⟩
  · have hU : setP zs p = listP (spanP zs) N.toNat p1 := by unfold setP seqP; rw [hP1]
    rw [hU]
    rw [hP1] at h1
    obtain ⟨a1, a2, a3, a4⟩ := numP_ok hby (by omega) hP1
    have hp1 := std_le a1
    obtain ⟨M, rfl⟩ := Int.eq_ofNat_of_zero_le a3
    rw [Int.toNat_natCast]
    have H1 := Lib.hid h1
    have HS := Lib.hid (And.intro hs hby)
    clear h1 hP1 hU hs hr hby a1
    go_enter Tryz.func122, Tryz.ntmps122
    go_wp2_with fail
    refine H1.out.mono ?_
    intro e w1 hT
    obtain ⟨v, rfl, hr1, rfl, hg1⟩ := hT.some
    have hs1 := HS.out.1.kept hg1 hlt
    have hby := HS.out.2
    have hsz1 := hg1.size
    have HX := Lib.hid (And.intro hr1 hg1)
    clear hT hr1 hs1 hby hg1 H1
    go_wp2_with fail
    go_loopw [5, 8] (fun v q wr => ∃ (k : Nat) (l : List Sp) (r : Nat), q = .int .i64 k ∧ Taking (spanP zs) M p1 k l r ∧ r ≤ n ∧ wr.ownsRow w.heap.size 70 3 v l.length (sps l) ∧ Rd g A c n r wr ∧ w.grownBy wr (some g)) (fun _ q _ => M - (intOf q).toNat)
    case atStart => exact ⟨0, [], p1, rfl, taking_start _ _ _, by omega, World.ownsRow_nil _ _ _ _, HX.out.1, HX.out.2⟩
    case round =>
      obtain ⟨k, l, r, rfl, hT, hrn, ho, hrd, hg⟩ := hrel
      obtain ⟨hlk, hkM, hkr, _⟩ := id hT
      have hsz := hg.size
      have hlt2 := hrd.lt
      by_cases hlt3 : k < M
      · have hsw : Src g A c n zs wr := HS.out.1.kept hg hlt
        have h2 := rspan_any g A c n r zs wr hsw hrd hrn
        rcases hPx : spanP zs r with _ | ⟨x, q⟩
        · have hU := taking_none hT hlt3 hPx
          rw [hPx] at h2
          have H2 := Lib.hid h2
          have HU := Lib.hid (And.intro hU hg)
          clear h2 hPx hU hT ho hrd hg hsw
          go_wp2_with fail
          refine H2.out.mono ?_
          intro e w2 hT
          obtain ⟨hg2, rfl⟩ := hT.none
          refine ⟨rfl, ?_⟩
          rw [HU.out.1]
          exact took_none (grown_trans HU.out.2 hg2)
        · rw [hPx] at h2
          obtain ⟨hqr, hqn⟩ := spanP_goes HS.out.2 (by omega) hPx
          have hT2 := taking_more hT hlt3 hPx hqr
          have H2 := Lib.hid h2
          have HU := Lib.hid (And.intro hT2 (And.intro ho hg))
          clear h2 hPx hT2 hT ho hrd hg hsw
          go_wp2_with fail
          refine H2.out.mono ?_
          intro e w2 hT
          obtain ⟨v, rfl, hr2, rfl, hg2⟩ := hT.some
          obtain ⟨hT2, ho, hg⟩ := HU.out
          have ho2 := ho.kept hg2 (own_apart ho hlt)
          have hg3 := grown_trans hg hg2
          have hsz3 := hg3.size
          obtain ⟨x0, x1, x2⟩ := x
          have HF := Lib.hid (And.intro hT2 (And.intro ho2 (And.intro hg3 hr2)))
          clear hT hT2 ho ho2 hg hg2 hg3 hr2 H2 HU
          go_wp2_with (at_builtin; refine wpList_append_sp _ rfl _ _ _ rfl w.heap.size 70 info _ 24 Tryz.underlying71 hi hz hsize hbyt rfl _ l.length l rfl HF.out.2.1 (x0, x1, x2) 1 rfl (by omega) (by omega) hsz3 ?_; intro v' w' o' g' _)
          have hgw := grown_own HF.out.2.2.1 g' (fun j hj => (HF.out.2.1.lt j hj).1)
          have hrw : Rd g A c n q w' := HF.out.2.2.2.kept g' (own_far HF.out.2.1 hlt)
          have hoo : w'.ownsRow w.heap.size 70 3 v' (l ++ [(x0, x1, x2)]).length (sps (l ++ [(x0, x1, x2)])) := by simpa using o'
          have HE := Lib.hid (And.intro HF.out.1 (And.intro hoo (And.intro hgw hrw)))
          clear HF o' g' hgw hrw hoo
          go_wp2_with fail
          go_roundw
          case rel => exact ⟨k + 1, l ++ [(x0, x1, x2)], q, rfl, HE.out.1, by omega, HE.out.2.1, HE.out.2.2.2, HE.out.2.2.1⟩
          case measure => simp only [intOf]; omega
      · have hk : k = M := by omega
        subst hk
        have hE := taking_end hT
        obtain ⟨A', c', rfl⟩ := own_form ho
        have HE := Lib.hid (And.intro hE (And.intro ho (And.intro hrd hg)))
        clear hE ho hrd hg hT hlt3
        go_wp2_with fail
        go_ret
        rw [HE.out.1]
        exact took_some HE.out.2.2.2 HE.out.2.2.1 ⟨A', c', rfl, HE.out.2.1⟩

theorem rset_any (g : Nat) (A : Option Addr) (c n p : Nat) (zs : List Int) (w : World) (hs : Src g A c n zs w) (hr : Rd g A c n p w) (hp : p ≤ n) :
    Calls Tryz.prog 110 #[.pointer (some ⟨g, 0, none⟩)] w (Took g A c n w (setP zs p) (ssV w.heap.size)) := by
  have h1 := rspans_any g A c n p zs w hs hr hp
  obtain ⟨P, hP⟩ : ∃ P, setP zs p = P := ⟨_, rfl⟩
  rw [hP] at h1 ⊢
  have hmf : ∀ (fn : Fn) (first cap : Array Value) (w : World), (Instr.makeFunc fn first cap).run Tryz.prog w = .ok (.func fn first cap) w := fun _ _ _ _ => rfl
  have H1 := Lib.hid h1
  clear h1 hP hs hr
  rcases P with _ | ⟨x, q⟩
  all_goals
    go_enter Tryz.func110, Tryz.ntmps110
    go_wp2_with fail
    refine H1.out.mono ?_
    intro e w1 hT
  · obtain ⟨hg, rfl⟩ := hT.none
    exact ⟨rfl, took_none hg⟩
  · obtain ⟨v, rfl, hr1, ⟨A', c', rfl, ho⟩, hg⟩ := hT.some
    clear hT
    have HE := Lib.hid (And.intro hg (And.intro hr1 ho))
    clear hg hr1 ho
    go_wp2_with fail
    go_ret
    exact took_some HE.out.1 HE.out.2.1 ⟨A', c', rfl, HE.out.2.2⟩
end Code
end Go.Proofs.YtegiigeelcnemaaGreat

/-
  code.Set: a set read from all of some bytes; the reader's panic is caught.
-/
namespace Go.Proofs.YtegiigeelcnemaaGreat
namespace Code
open Go.RowKit Num Span
attribute [local go_sem ↓] Go.wp_at_zero Go.wp_at_succ

/-- What a type assertion to the very type gives. -/
theorem run_typeAssert_same (v : Value) (xT : TypeId) (w : World) : (Instr.typeAssert (.iface 114 v) xT 114 true).run Tryz.prog w = .ok (.tuple #[v, .bool true]) w := by
  simp [Instr.typeAssert, run_underlying Tryz.underlying114]

end Code
end Go.Proofs.YtegiigeelcnemaaGreat

/-
  code.Set: a set read from all of some bytes.
-/
namespace Go.Proofs.YtegiigeelcnemaaGreat
namespace Code
open Go.RowKit Num Span
attribute [local go_sem ↓] Go.wp_at_zero Go.wp_at_succ

/-- A set and an error, the set in memory of the call's own. -/
def GotSet (B : Nat) (r : List Sp × Int) (w : World) (e : Ending) (w' : World) : Prop :=
  ∃ A c, e = .returned (.tuple #[.slice A r.1.length c, .int .i64 r.2]) ∧ w'.ownsRow B 70 3 (.slice A r.1.length c) r.1.length (sps r.1) ∧ Below B w w'

theorem below_of_grown {w w' W : World} {m g : Nat} (hb : Below m w W) (h : W.grownBy w' (some g)) (hm : m ≤ g) (hs : m ≤ W.heap.size) : Below m w w' := hb.grown h hs (fun k hk => by injection hk with hk; omega)

end Code
end Go.Proofs.YtegiigeelcnemaaGreat
