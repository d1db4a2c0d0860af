/-
  Plain words of layer 6: what is taken from bytes, one thing behind the other, and what is written.
-/
import Derived.Test.YtjifklojbbocfaaText
import Derived.Test.YtjifklojbbocfaaSpanPlain
namespace Go.Proofs.Ytjifklojbbocfaa
namespace Code
open Num Span

/-- The bytes e stand at the place p of zs. -/
def Std (zs : List Int) (p : Nat) (e : List Int) : Prop := p ≤ zs.length ∧ e <+: zs.drop p
theorem std_nil {zs : List Int} {p : Nat} (h : p ≤ zs.length) : Std zs p [] := ⟨h, List.nil_prefix⟩
theorem std_le {zs e : List Int} {p : Nat} (h : Std zs p e) : p + e.length ≤ zs.length := by
  have h1 := h.2.length_le
  rw [List.length_drop] at h1
  have := h.1
  omega
theorem std_append {zs a b : List Int} {p : Nat} : Std zs p (a ++ b) ↔ Std zs p a ∧ Std zs (p + a.length) b := by
  constructor
  · intro h
    have hl := std_le h
    rw [List.length_append] at hl
    obtain ⟨t, ht⟩ := h.2
    refine ⟨⟨h.1, ⟨b ++ t, by rw [← ht, List.append_assoc]⟩⟩, by omega, ⟨t, ?_⟩⟩
    rw [← List.drop_drop, ← ht, List.append_assoc, List.drop_left]
  · rintro ⟨⟨h1, t, ht⟩, h2, u, hu⟩
    refine ⟨h1, u, ?_⟩
    rw [List.append_assoc, hu, ← List.drop_drop, ← ht, List.drop_left]
theorem std_all {zs e : List Int} : Std zs 0 e ∧ e.length = zs.length ↔ zs = e := by
  constructor
  · rintro ⟨⟨_, t, ht⟩, h2⟩
    rw [List.drop_zero] at ht
    have : t = [] := List.eq_nil_of_length_eq_zero (by have := congrArg List.length ht; simp at this; omega)
    rw [← ht, this, List.append_nil]
  · rintro rfl
    exact ⟨⟨by omega, by simp⟩, rfl⟩
theorem std_take {zs e : List Int} {p : Nat} (h : Std zs p e) : (zs.drop p).take e.length = e := by
  obtain ⟨t, ht⟩ := h.2
  rw [← ht, List.take_left]

/-- A number at a place: it, and the place behind. -/
def numP (zs : List Int) (p : Nat) : Option (Int × Nat) := if (numF zs p).2.2 = 0 then some ((numF zs p).1, (numF zs p).2.1) else none
theorem numP_put {zs : List Int} {p : Nat} {n : Int} (h0 : 0 ≤ n) (h1 : n ≤ 9223372036854775807) (h : Std zs p (putL n)) : numP zs p = some (n, p + (putL n).length) := by
  obtain ⟨hp, t, ht⟩ := h
  have e : zs = zs.take p ++ putL n ++ t := by rw [List.append_assoc, ht, List.take_append_drop]
  have hl : (zs.take p).length = p := by rw [List.length_take]; omega
  have h2 := numF_put n h0 h1 (zs.take p) t
  rw [← e, hl] at h2
  unfold numP
  rw [h2]
  rfl
theorem numP_ok {zs : List Int} {p q : Nat} {n : Int} (hby : ∀ z ∈ zs, 0 ≤ z ∧ z ≤ 255) (hp : p ≤ zs.length) (h : numP zs p = some (n, q)) : Std zs p (putL n) ∧ q = p + (putL n).length ∧ 0 ≤ n ∧ n ≤ 9223372036854775807 := by
  unfold numP at h
  split at h
  · rename_i he
    obtain ⟨⟨n', q', e⟩, hF⟩ : ∃ r, numF zs p = r := ⟨_, rfl⟩
    rw [hF] at h he
    simp only [Option.some.injEq, Prod.mk.injEq] at h he
    obtain ⟨rfl, rfl⟩ := h
    subst he
    obtain ⟨h0, h1, _, _⟩ := numF_ok hby hF
    obtain ⟨m, k, g1, g2, g3, g4, g5, g6, g7, g8⟩ := numR_ok (zs.drop p) p 0 0 n' q' (fun z hz => hby z (List.mem_of_mem_drop hz)) (by omega) hF
    have hn : n' = m := by rw [g4]; simp
    subst hn
    have hk : (putL n').length = k := by
      have := congrArg List.length g8
      rw [List.length_take] at this
      unfold putL
      have e9 : 9 - 0 = 9 := rfl
      rw [e9] at this
      omega
    refine ⟨⟨hp, ?_⟩, by omega, h0, h1⟩
    show putF 9 n' <+: _
    rw [show putF 9 n' = (zs.drop p).take k from g8.symm]
    exact List.take_prefix _ _
  · cases h
theorem numP_none {zs : List Int} {p : Nat} (h : numP zs p = none) : (numF zs p).2.2 ≠ 0 := by
  unfold numP at h
  split at h
  · cases h
  · assumption
theorem numP_some {zs : List Int} {p q : Nat} {n : Int} (h : numP zs p = some (n, q)) : numF zs p = (n, q, 0) := by
  unfold numP at h
  split at h
  · rename_i he
    simp only [Option.some.injEq, Prod.mk.injEq] at h
    rw [← h.1, ← h.2, ← he]
  · cases h

/-- A number up to a greatest one. -/
def upP (m : Int) (zs : List Int) (p : Nat) : Option (Int × Nat) :=
  match numP zs p with
  | some (n, q) => if n ≤ m then some (n, q) else none
  | none => none
theorem upP_put {zs : List Int} {p : Nat} {n m : Int} (h0 : 0 ≤ n) (hm : n ≤ m) (h1 : n ≤ 9223372036854775807) (h : Std zs p (putL n)) : upP m zs p = some (n, p + (putL n).length) := by
  unfold upP
  rw [numP_put h0 h1 h]
  simp only
  rw [if_pos hm]
theorem upP_ok {zs : List Int} {p q : Nat} {n m : Int} (hby : ∀ z ∈ zs, 0 ≤ z ∧ z ≤ 255) (hp : p ≤ zs.length) (h : upP m zs p = some (n, q)) : Std zs p (putL n) ∧ q = p + (putL n).length ∧ 0 ≤ n ∧ n ≤ m ∧ n ≤ 9223372036854775807 := by
  unfold upP at h
  split at h
  · rename_i n' q' hn
    split at h
    · simp only [Option.some.injEq, Prod.mk.injEq] at h
      obtain ⟨rfl, rfl⟩ := h
      obtain ⟨h1, h2, h3, h4⟩ := numP_ok hby hp hn
      exact ⟨h1, h2, h3, by assumption, h4⟩
    · cases h
  · cases h

/-- A text of at most so many bytes. -/
def textP (most : Int) (zs : List Int) (p : Nat) : Option (List Int × Nat) := if (textF zs p most).2.2 = 0 then some ((textF zs p most).1, (textF zs p most).2.1) else none
/-- The bytes of a text. -/
def txtL (l : List Int) : List Int := putL (l.length : Int) ++ l
theorem textP_put {zs l : List Int} {p : Nat} {most : Int} (hm : (l.length : Int) ≤ most) (hb : zs.length ≤ 9223372036854775807) (h : Std zs p (txtL l)) : textP most zs p = some (l, p + (txtL l).length) := by
  obtain ⟨h1, h2⟩ := std_append.1 h
  have hl := std_le h2
  have hn := numP_some (numP_put (n := (l.length : Int)) (by omega) (by omega) h1)
  have hT : textF zs p most = (l, p + (putL (l.length : Int)).length + l.length, 0) := by
    unfold textF
    rw [hn]
    simp only
    rw [if_neg (by simp), if_neg (by omega), if_neg (by omega), Int.toNat_natCast, std_take h2]
  unfold textP
  rw [hT]
  simp only [if_true, Option.some.injEq, Prod.mk.injEq, true_and]
  unfold txtL
  rw [List.length_append]
  omega
theorem textP_ok {zs l : List Int} {p q : Nat} {most : Int} (hby : ∀ z ∈ zs, 0 ≤ z ∧ z ≤ 255) (hp : p ≤ zs.length) (h : textP most zs p = some (l, q)) :
    Std zs p (txtL l) ∧ q = p + (txtL l).length ∧ (l.length : Int) ≤ max most 0 ∧ ∀ z ∈ l, 0 ≤ z ∧ z ≤ 255 := by
  unfold textP at h
  split at h
  · rename_i he
    simp only [Option.some.injEq, Prod.mk.injEq] at h
    unfold textF at h he
    split at h
    · rename_i h1
      rw [if_pos h1] at he
      exact absurd he h1
    · rename_i h1
      rw [if_neg h1] at he
      split at h
      · rename_i h2
        rw [if_pos h2] at he
        simp at he
      · rename_i h2
        rw [if_neg h2] at he
        split at h
        · rename_i h3
          rw [if_pos h3] at he
          simp at he
        · rename_i h3
          obtain ⟨rfl, rfl⟩ := h
          obtain ⟨⟨n, r, e⟩, hF⟩ : ∃ r, numF zs p = r := ⟨_, rfl⟩
          rw [hF] at h1 h2 h3 ⊢
          simp only at h1 h2 h3 ⊢
          have he0 : e = 0 := Decidable.byContradiction h1
          subst he0
          obtain ⟨g1, g2, g3, g4⟩ := numP_ok hby hp (q := r) (n := n) (by unfold numP; rw [hF]; rfl)
          obtain ⟨m, rfl⟩ := Int.eq_ofNat_of_zero_le g3
          have hr := std_le g1
          rw [Int.toNat_natCast]
          have hlen : ((zs.drop r).take m).length = m := cut_len (by omega)
          refine ⟨?_, ?_, by rw [hlen]; omega, fun z hz => hby z (List.mem_of_mem_drop (List.mem_of_mem_take hz))⟩
          · refine std_append.2 ⟨by rw [hlen]; exact g1, ?_⟩
            rw [hlen, ← g2]
            exact ⟨by omega, List.take_prefix _ _⟩
          · unfold txtL
            rw [List.length_append, hlen]
            omega
  · cases h

/-- So many things, one behind the other. -/
def listP {α : Type} (P : Nat → Option (α × Nat)) : Nat → Nat → Option (List α × Nat)
  | 0, p => some ([], p)
  | k + 1, p =>
    match P p with
    | none => none
    | some (x, q) => (listP P k q).map fun r => (x :: r.1, r.2)
theorem listP_zero {α : Type} (P : Nat → Option (α × Nat)) (p : Nat) : listP P 0 p = some ([], p) := rfl
theorem listP_none {α : Type} {P : Nat → Option (α × Nat)} {k p : Nat} (h : P p = none) : listP P (k + 1) p = none := by rw [listP, h]
theorem listP_more {α : Type} {P : Nat → Option (α × Nat)} {k p q : Nat} {x : α} (h : P p = some (x, q)) : listP P (k + 1) p = (listP P k q).map fun r => (x :: r.1, r.2) := by rw [listP, h]
theorem listP_put {α : Type} {P : Nat → Option (α × Nat)} {enc : α → List Int} {ok : α → Prop} {zs : List Int} (hP : ∀ x p, ok x → Std zs p (enc x) → P p = some (x, p + (enc x).length)) :
    ∀ (l : List α) (p : Nat), (∀ x ∈ l, ok x) → Std zs p (l.flatMap enc) → listP P l.length p = some (l, p + (l.flatMap enc).length)
  | [], p, _, _ => by simp [listP]
  | x :: l, p, hok, h => by
    rw [List.flatMap_cons] at h
    obtain ⟨h1, h2⟩ := std_append.1 h
    rw [List.length_cons, listP_more (hP x p (hok x (by simp)) h1), listP_put hP l _ (fun y hy => hok y (by simp [hy])) h2]
    simp [Nat.add_assoc]
theorem listP_ok {α : Type} {P : Nat → Option (α × Nat)} {enc : α → List Int} {ok : α → Prop} {zs : List Int} (hP : ∀ x p q, p ≤ zs.length → P p = some (x, q) → q ≤ zs.length ∧ (ok x → Std zs p (enc x) ∧ q = p + (enc x).length)) :
    ∀ (k p q : Nat) (l : List α), p ≤ zs.length → listP P k p = some (l, q) → l.length = k ∧ q ≤ zs.length ∧ ((∀ x ∈ l, ok x) → Std zs p (l.flatMap enc) ∧ q = p + (l.flatMap enc).length)
  | 0, p, q, l, hp, h => by
    simp only [listP, Option.some.injEq, Prod.mk.injEq] at h
    obtain ⟨rfl, rfl⟩ := h
    exact ⟨rfl, hp, fun _ => ⟨std_nil hp, rfl⟩⟩
  | k + 1, p, q, l, hp, h => by
    rw [listP] at h
    split at h
    · cases h
    · rename_i x r hx
      obtain ⟨y, hy, he⟩ := Option.map_eq_some_iff.1 h
      simp only [Prod.mk.injEq] at he
      obtain ⟨rfl, rfl⟩ := he
      obtain ⟨hr, hx2⟩ := hP x p r hp hx
      obtain ⟨h1, h2, h3⟩ := listP_ok hP k r y.2 y.1 hr hy
      refine ⟨by simp [h1], h2, fun hok => ?_⟩
      obtain ⟨g1, g2⟩ := hx2 (hok x (by simp))
      obtain ⟨g3, g4⟩ := h3 (fun z hz => hok z (by simp [hz]))
      rw [List.flatMap_cons]
      refine ⟨std_append.2 ⟨g1, by rw [← g2]; exact g3⟩, ?_⟩
      rw [List.length_append]
      omega

/-- A list: how many, and they. -/
def seqP {α : Type} (P : Nat → Option (α × Nat)) (zs : List Int) (p : Nat) : Option (List α × Nat) :=
  match numP zs p with
  | none => none
  | some (n, q) => listP P n.toNat q
def seqL {α : Type} (enc : α → List Int) (l : List α) : List Int := putL (l.length : Int) ++ l.flatMap enc
theorem seqP_put {α : Type} {P : Nat → Option (α × Nat)} {enc : α → List Int} {ok : α → Prop} {zs : List Int} (hP : ∀ x p, ok x → Std zs p (enc x) → P p = some (x, p + (enc x).length))
    {l : List α} {p : Nat} (hl : l.length ≤ 9223372036854775807) (hok : ∀ x ∈ l, ok x) (h : Std zs p (seqL enc l)) : seqP P zs p = some (l, p + (seqL enc l).length) := by
  obtain ⟨h1, h2⟩ := std_append.1 h
  unfold seqP
  rw [numP_put (by omega) (by omega) h1]
  simp only [Int.toNat_natCast]
  rw [listP_put hP l _ hok h2]
  unfold seqL
  rw [List.length_append, Nat.add_assoc]
theorem seqP_ok {α : Type} {P : Nat → Option (α × Nat)} {enc : α → List Int} {ok : α → Prop} {zs : List Int} (hby : ∀ z ∈ zs, 0 ≤ z ∧ z ≤ 255) (hP : ∀ x p q, p ≤ zs.length → P p = some (x, q) → q ≤ zs.length ∧ (ok x → Std zs p (enc x) ∧ q = p + (enc x).length))
    {l : List α} {p q : Nat} (hp : p ≤ zs.length) (h : seqP P zs p = some (l, q)) : q ≤ zs.length ∧ ((∀ x ∈ l, ok x) → Std zs p (seqL enc l) ∧ q = p + (seqL enc l).length) := by
  unfold seqP at h
  split at h
  · cases h
  · rename_i n r hn
    obtain ⟨g1, g2, g3, g4⟩ := numP_ok hby hp hn
    have gl := std_le g1
    obtain ⟨h1, h2, h3⟩ := listP_ok hP _ r q l (by omega) h
    refine ⟨h2, fun hok => ?_⟩
    obtain ⟨k1, k2⟩ := h3 hok
    have e : (l.length : Int) = n := by omega
    unfold seqL
    rw [e, List.length_append]
    exact ⟨std_append.2 ⟨g1, by rw [← g2]; exact k1⟩, by omega⟩

/-! ### Spans, as the program takes them and as the document does -/
def spL (x : Sp) : List Int := putL x.1 ++ putL x.2.1 ++ putL (x.2.2 - x.2.1)
def setL (l : List Sp) : List Int := seqL spL l
def spanP (zs : List Int) (p : Nat) : Option (Sp × Nat) :=
  match upP 2147483647 zs p with
  | none => none
  | some (s, q) =>
    match upP 4611686018427387904 zs q with
    | none => none
    | some (f, r) =>
      match upP (4611686018427387904 - f) zs r with
      | none => none
      | some (t, u) => some ((s, f, f + t), u)
def setP (zs : List Int) (p : Nat) : Option (List Sp × Nat) := seqP (spanP zs) zs p
/-- As the document does: the site is whatever number, and the end may be too great. -/
def spanQ (zs : List Int) (p : Nat) : Option (Sp × Nat) :=
  match numP zs p with
  | none => none
  | some (s, q) =>
    match upP 4611686018427387904 zs q with
    | none => none
    | some (f, r) =>
      match upP 4611686018427387904 zs r with
      | none => none
      | some (t, u) => some ((s, f, Go.RowKit.wrap64 (f + t)), u)
def setQ (zs : List Int) (p : Nat) : Option (List Sp × Nat) := seqP (spanQ zs) zs p

theorem spanP_put {zs : List Int} (x : Sp) (p : Nat) (hx : okSp x) (h : Std zs p (spL x)) : spanP zs p = some (x, p + (spL x).length) := by
  obtain ⟨s, f, t⟩ := x
  obtain ⟨h12, h3⟩ := std_append.1 h
  obtain ⟨h1, h2⟩ := std_append.1 h12
  unfold okSp at hx
  simp only at h1 h2 h3 h12 hx
  unfold spanP
  rw [upP_put (by omega) (by omega) (by omega) h1]
  simp only
  rw [upP_put (by omega) (by omega) (by omega) h2]
  simp only
  rw [List.length_append, ← Nat.add_assoc] at h3
  rw [upP_put (by omega) (by omega) (by omega) h3]
  simp only [Option.some.injEq, Prod.mk.injEq, true_and]
  unfold spL
  simp only [List.length_append]
  omega
theorem spanQ_put {zs : List Int} (x : Sp) (p : Nat) (hx : okSp x) (h : Std zs p (spL x)) : spanQ zs p = some (x, p + (spL x).length) := by
  obtain ⟨s, f, t⟩ := x
  obtain ⟨h12, h3⟩ := std_append.1 h
  obtain ⟨h1, h2⟩ := std_append.1 h12
  unfold okSp at hx
  simp only at h1 h2 h3 h12 hx
  unfold spanQ
  rw [numP_put (by omega) (by omega) h1]
  simp only
  rw [upP_put (by omega) (by omega) (by omega) h2]
  simp only
  rw [List.length_append, ← Nat.add_assoc] at h3
  rw [upP_put (by omega) (by omega) (by omega) h3]
  have e : Go.RowKit.wrap64 (f + (t - f)) = t := by rw [show f + (t - f) = t by omega]; exact Go.IntWalk.wrap64_in t ⟨by omega, by omega⟩
  simp only [Option.some.injEq, Prod.mk.injEq, true_and, e]
  unfold spL
  simp only [List.length_append]
  omega
theorem spanP_ok {zs : List Int} (hby : ∀ z ∈ zs, 0 ≤ z ∧ z ≤ 255) (x : Sp) (p q : Nat) (hp : p ≤ zs.length) (h : spanP zs p = some (x, q)) : q ≤ zs.length ∧ (okSp x → Std zs p (spL x) ∧ q = p + (spL x).length) := by
  unfold spanP at h
  split at h
  · cases h
  · rename_i s r h1
    obtain ⟨a1, a2, a3, a4, a5⟩ := upP_ok hby hp h1
    have l1 := std_le a1
    split at h
    · cases h
    · rename_i f u h2
      obtain ⟨b1, b2, b3, b4, b5⟩ := upP_ok hby (by omega) h2
      have l2 := std_le b1
      split at h
      · cases h
      · rename_i t v h3
        obtain ⟨c1, c2, c3, c4, c5⟩ := upP_ok hby (by omega) h3
        have l3 := std_le c1
        simp only [Option.some.injEq, Prod.mk.injEq] at h
        obtain ⟨rfl, rfl⟩ := h
        refine ⟨by omega, fun _ => ?_⟩
        unfold spL
        simp only
        rw [show f + t - f = t by omega]
        refine ⟨std_append.2 ⟨std_append.2 ⟨a1, by rw [← a2]; exact b1⟩, ?_⟩, by simp only [List.length_append]; omega⟩
        rw [List.length_append, ← Nat.add_assoc, ← a2, ← b2]
        exact c1
theorem spanQ_ok {zs : List Int} (hby : ∀ z ∈ zs, 0 ≤ z ∧ z ≤ 255) (x : Sp) (p q : Nat) (hp : p ≤ zs.length) (h : spanQ zs p = some (x, q)) : q ≤ zs.length ∧ (okSp x → Std zs p (spL x) ∧ q = p + (spL x).length) := by
  unfold spanQ at h
  split at h
  · cases h
  · rename_i s r h1
    obtain ⟨a1, a2, a3, a4⟩ := numP_ok hby hp h1
    have l1 := std_le a1
    split at h
    · cases h
    · rename_i f u h2
      obtain ⟨b1, b2, b3, b4, b5⟩ := upP_ok hby (by omega) h2
      have l2 := std_le b1
      split at h
      · cases h
      · rename_i t v h3
        obtain ⟨c1, c2, c3, c4, c5⟩ := upP_ok hby (by omega) h3
        have l3 := std_le c1
        simp only [Option.some.injEq, Prod.mk.injEq] at h
        obtain ⟨rfl, rfl⟩ := h
        refine ⟨by omega, fun hok => ?_⟩
        unfold okSp at hok
        simp only at hok
        have e : Go.RowKit.wrap64 (f + t) = f + t := by
          rcases (by omega : f + t ≤ 9223372036854775807 ∨ f + t = 9223372036854775808) with hh | hh
          · exact Go.IntWalk.wrap64_in _ ⟨by omega, hh⟩
          · rw [hh] at hok
            exact absurd hok.2.2.2.1 (by rw [show Go.RowKit.wrap64 9223372036854775808 = -9223372036854775808 by decide +kernel]; omega)
        unfold spL
        simp only
        rw [e, show f + t - f = t by omega]
        refine ⟨std_append.2 ⟨std_append.2 ⟨a1, by rw [← a2]; exact b1⟩, ?_⟩, by simp only [List.length_append]; omega⟩
        rw [List.length_append, ← Nat.add_assoc, ← a2, ← b2]
        exact c1

/-- What comes of all bytes, where P takes from them and what is taken must be right. -/
def wholeF {α : Type} (P : Option (α × Nat)) (m : Nat) (R : α → Prop) [DecidablePred R] (x0 : α) : α × Int :=
  match P with
  | none => (x0, 2)
  | some (x, q) => if q = m ∧ R x then (x, 0) else (x0, 2)
theorem wholeF_ok {α : Type} {P : Option (α × Nat)} {m : Nat} {R : α → Prop} [DecidablePred R] {x0 x : α} {q : Nat} (h : P = some (x, q)) (hq : q = m) (hR : R x) : wholeF P m R x0 = (x, 0) := by
  unfold wholeF
  rw [h]
  simp only
  rw [if_pos ⟨hq, hR⟩]
theorem wholeF_bad {α : Type} {P : Option (α × Nat)} {m : Nat} {R : α → Prop} [DecidablePred R] {x0 : α} (h : ∀ x q, P = some (x, q) → ¬ (q = m ∧ R x)) : wholeF P m R x0 = (x0, 2) := by
  unfold wholeF
  split
  · rfl
  · rename_i x q
    rw [if_neg (h x q rfl)]
/-- Two that take the same right things from the same bytes come to the same. -/
theorem wholeF_same {α : Type} {P Q : Option (α × Nat)} {zs : List Int} {R : α → Prop} [DecidablePred R] {x0 : α} {enc : α → List Int}
    (p1 : ∀ x, R x → zs = enc x → P = some (x, zs.length)) (p2 : ∀ x q, P = some (x, q) → R x → q = zs.length → zs = enc x)
    (q1 : ∀ x, R x → zs = enc x → Q = some (x, zs.length)) (q2 : ∀ x q, Q = some (x, q) → R x → q = zs.length → zs = enc x) :
    wholeF P zs.length R x0 = wholeF Q zs.length R x0 := by
  by_cases h : ∃ x, R x ∧ zs = enc x
  · obtain ⟨x, hR, he⟩ := h
    rw [wholeF_ok (p1 x hR he) rfl hR, wholeF_ok (q1 x hR he) rfl hR]
  · rw [wholeF_bad (fun x q hP hq => h ⟨x, hq.2, p2 x q hP hq.2 hq.1⟩), wholeF_bad (fun x q hQ hq => h ⟨x, hq.2, q2 x q hQ hq.2 hq.1⟩)]

/-- What Set tells of bytes. -/
def setF (zs : List Int) : List Sp × Int := wholeF (setP zs 0) zs.length Right []
theorem setP_put {zs : List Int} {p : Nat} {l : List Sp} (hl : l.length ≤ 9223372036854775807) (hr : ∀ x ∈ l, okSp x) (h : Std zs p (setL l)) : setP zs p = some (l, p + (setL l).length) := seqP_put (ok := okSp) (fun x p => spanP_put x p) hl hr h
theorem setQ_put {zs : List Int} {p : Nat} {l : List Sp} (hl : l.length ≤ 9223372036854775807) (hr : ∀ x ∈ l, okSp x) (h : Std zs p (setL l)) : setQ zs p = some (l, p + (setL l).length) := seqP_put (ok := okSp) (fun x p => spanQ_put x p) hl hr h
theorem setP_ok {zs : List Int} (hby : ∀ z ∈ zs, 0 ≤ z ∧ z ≤ 255) {p q : Nat} {l : List Sp} (hp : p ≤ zs.length) (h : setP zs p = some (l, q)) : q ≤ zs.length ∧ ((∀ x ∈ l, okSp x) → Std zs p (setL l) ∧ q = p + (setL l).length) := seqP_ok (ok := okSp) hby (spanP_ok hby) hp h
theorem setQ_ok {zs : List Int} (hby : ∀ z ∈ zs, 0 ≤ z ∧ z ≤ 255) {p q : Nat} {l : List Sp} (hp : p ≤ zs.length) (h : setQ zs p = some (l, q)) : q ≤ zs.length ∧ ((∀ x ∈ l, okSp x) → Std zs p (setL l) ∧ q = p + (setL l).length) := seqP_ok (ok := okSp) hby (spanQ_ok hby) hp h
theorem setF_ref {zs : List Int} (hby : ∀ z ∈ zs, 0 ≤ z ∧ z ≤ 255) : wholeF (setQ zs 0) zs.length Right [] = setF zs := by
  refine wholeF_same (enc := setL) (fun x hR he => ?_) (fun x q h hR hq => ?_) (fun x hR he => ?_) (fun x q h hR hq => ?_)
  · have h1 := std_all.2 he
    have := hR.1
    rw [setQ_put (by omega) hR.2.1 h1.1]
    rw [Nat.zero_add, h1.2]
  · obtain ⟨h1, h2⟩ := (setQ_ok hby (by omega) h).2 hR.2.1
    exact std_all.1 ⟨h1, by omega⟩
  · have h1 := std_all.2 he
    have := hR.1
    rw [setP_put (by omega) hR.2.1 h1.1]
    rw [Nat.zero_add, h1.2]
  · obtain ⟨h1, h2⟩ := (setP_ok hby (by omega) h).2 hR.2.1
    exact std_all.1 ⟨h1, by omega⟩
theorem setF_right {zs : List Int} {l : List Sp} (hby : ∀ z ∈ zs, 0 ≤ z ∧ z ≤ 255) (h : setF zs = (l, 0)) : Right l ∧ zs = setL l := by
  unfold setF wholeF at h
  split at h
  · simp at h
  · rename_i x q hP
    split at h
    · rename_i hc
      simp only [Prod.mk.injEq, and_true] at h
      subst h
      obtain ⟨h1, h2⟩ := (setP_ok hby (by omega) hP).2 hc.2.2.1
      exact ⟨hc.2, std_all.1 ⟨h1, by omega⟩⟩
    · simp at h
theorem setF_put {l : List Sp} (hR : Right l) : setF (setL l) = (l, 0) := by
  have h1 := std_all.2 (rfl : setL l = setL l)
  have := hR.1
  refine wholeF_ok (setP_put (by omega) hR.2.1 h1.1) ?_ hR
  rw [Nat.zero_add]
theorem setF_err {zs : List Int} {l : List Sp} {e : Int} (h : setF zs = (l, e)) (he : e ≠ 0) : l = [] ∧ e = 2 := by
  unfold setF wholeF at h
  split at h
  · simp only [Prod.mk.injEq] at h
    exact ⟨h.1.symm, h.2.symm⟩
  · split at h
    · simp only [Prod.mk.injEq] at h
      exact absurd h.2.symm he
    · simp only [Prod.mk.injEq] at h
      exact ⟨h.1.symm, h.2.symm⟩
end Code
end Go.Proofs.Ytjifklojbbocfaa
