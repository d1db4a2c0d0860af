/-
  Plain words of layer 6: lists as the document takes them: no more than there are bytes.
-/
import Derived.Test.YtjifklojbbocfaaCodeSpans
namespace Go.Proofs.Ytjifklojbbocfaa
namespace Code
open Num Span

/-- How many: no more than there are bytes. -/
def cntP (zs : List Int) (p : Nat) : Option (Int × Nat) :=
  match numP zs p with
  | some (n, q) => if n ≤ (zs.length : Int) - q then some (n, q) else none
  | none => none
def cseqP {α : Type} (P : Nat → Option (α × Nat)) (zs : List Int) (p : Nat) : Option (List α × Nat) :=
  match cntP zs p with
  | none => none
  | some (n, q) => listP P n.toNat q
theorem flat_ge {α : Type} {enc : α → List Int} : ∀ {l : List α}, (∀ x ∈ l, 1 ≤ (enc x).length) → l.length ≤ (l.flatMap enc).length
  | [], _ => by simp
  | x :: l, h => by
    have h1 := h x (by simp)
    have h2 := flat_ge (l := l) (enc := enc) (fun y hy => h y (by simp [hy]))
    rw [List.flatMap_cons, List.length_append, List.length_cons]
    omega
theorem cseqP_put {α : Type} {P : Nat → Option (α × Nat)} {enc : α → List Int} {ok : α → Prop} {zs : List Int} (hP : ∀ x p, ok x → Std zs p (enc x) → P p = some (x, p + (enc x).length)) (h1 : ∀ x, ok x → 1 ≤ (enc x).length)
    {l : List α} {p : Nat} (hl : l.length ≤ 9223372036854775807) (hok : ∀ x ∈ l, ok x) (h : Std zs p (seqL enc l)) : cseqP P zs p = some (l, p + (seqL enc l).length) := by
  obtain ⟨g1, g2⟩ := std_append.1 h
  have hfl := flat_ge (l := l) (enc := enc) (fun x hx => h1 x (hok x hx))
  have hle := std_le g2
  unfold cseqP cntP
  rw [numP_put (by omega) (by omega) g1]
  simp only
  rw [if_pos (by omega)]
  simp only [Int.toNat_natCast]
  rw [listP_put hP l _ hok g2]
  unfold seqL
  rw [List.length_append, Nat.add_assoc]
theorem cseqP_ok {α : Type} {P : Nat → Option (α × Nat)} {enc : α → List Int} {ok : α → Prop} {zs : List Int} (hby : ∀ z ∈ zs, 0 ≤ z ∧ z ≤ 255) (hP : ∀ x p q, p ≤ zs.length → P p = some (x, q) → q ≤ zs.length ∧ (ok x → Std zs p (enc x) ∧ q = p + (enc x).length))
    {l : List α} {p q : Nat} (hp : p ≤ zs.length) (h : cseqP P zs p = some (l, q)) : q ≤ zs.length ∧ ((∀ x ∈ l, ok x) → Std zs p (seqL enc l) ∧ q = p + (seqL enc l).length) := by
  refine seqP_ok (P := P) (ok := ok) hby hP hp ?_
  unfold cseqP cntP at h
  unfold seqP
  rcases hn : numP zs p with _ | ⟨n, r⟩
  · rw [hn] at h
    cases h
  · rw [hn] at h
    simp only at h ⊢
    by_cases hle : n ≤ (zs.length : Int) - r
    · rw [if_pos hle] at h
      exact h
    · rw [if_neg hle] at h
      cases h
theorem cntP_ok {zs : List Int} {p q : Nat} {n : Int} (hby : ∀ z ∈ zs, 0 ≤ z ∧ z ≤ 255) (hp : p ≤ zs.length) (h : cntP zs p = some (n, q)) : 0 ≤ n ∧ n ≤ (zs.length : Int) - q ∧ p < q ∧ q ≤ zs.length := by
  unfold cntP at h
  rcases hn : numP zs p with _ | ⟨k, r⟩
  · rw [hn] at h
    cases h
  · rw [hn] at h
    simp only at h
    obtain ⟨g1, g2, g3, g4⟩ := numP_ok hby hp hn
    have gl := std_le g1
    have gp := putL_len k
    split at h
    · simp only [Option.some.injEq, Prod.mk.injEq] at h
      omega
    · cases h

def setR (zs : List Int) (p : Nat) : Option (List Sp × Nat) := cseqP (spanQ zs) zs p
theorem spL_pos (x : Sp) : 1 ≤ (spL x).length := by
  have := putL_len x.1
  unfold spL
  simp only [List.length_append]
  omega
theorem setR_put {zs : List Int} {p : Nat} {l : List Sp} (hl : l.length ≤ 9223372036854775807) (hr : ∀ x ∈ l, okSp x) (h : Std zs p (setL l)) : setR zs p = some (l, p + (setL l).length) := cseqP_put (ok := okSp) (fun x p => spanQ_put x p) (fun x _ => spL_pos x) hl hr h
theorem setR_ok {zs : List Int} (hby : ∀ z ∈ zs, 0 ≤ z ∧ z ≤ 255) {p q : Nat} {l : List Sp} (hp : p ≤ zs.length) (h : setR zs p = some (l, q)) : q ≤ zs.length ∧ ((∀ x ∈ l, okSp x) → Std zs p (setL l) ∧ q = p + (setL l).length) := cseqP_ok (ok := okSp) hby (spanQ_ok hby) hp h
theorem setR_ref {zs : List Int} (hby : ∀ z ∈ zs, 0 ≤ z ∧ z ≤ 255) : wholeF (setR zs 0) zs.length Right [] = setF zs := by
  refine wholeF_same (enc := setL) (fun x hR he => ?_) (fun x q h hR hq => ?_) (fun x hR he => ?_) (fun x q h hR hq => ?_)
  · have h1 := std_all.2 he
    have := hR.1
    rw [setR_put (by omega) hR.2.1 h1.1, Nat.zero_add, h1.2]
  · obtain ⟨h1, h2⟩ := (setR_ok hby (by omega) h).2 hR.2.1
    exact std_all.1 ⟨h1, by omega⟩
  · have h1 := std_all.2 he
    have := hR.1
    rw [setP_put (by omega) hR.2.1 h1.1, Nat.zero_add, h1.2]
  · obtain ⟨h1, h2⟩ := (setP_ok hby (by omega) h).2 hR.2.1
    exact std_all.1 ⟨h1, by omega⟩
theorem spanQ_goes {zs : List Int} (hby : ∀ z ∈ zs, 0 ≤ z ∧ z ≤ 255) {x : Sp} {p q : Nat} (hp : p ≤ zs.length) (h : spanQ zs p = some (x, q)) : p < q ∧ q ≤ zs.length := by
  unfold spanQ at h
  split at h
  · cases h
  · rename_i s r h1
    obtain ⟨a1, a2, a3, a4⟩ := numP_ok hby hp h1
    have l1 := std_le a1
    have m1 := putL_len s
    split at h
    · cases h
    · rename_i f u h2
      obtain ⟨b1, b2, b3, b4, b5⟩ := upP_ok hby (by omega) h2
      have l2 := std_le b1
      split at h
      · cases h
      · rename_i t v h3
        obtain ⟨c1, c2, c3, c4, c5⟩ := upP_ok hby (by omega) h3
        have l3 := std_le c1
        simp only [Option.some.injEq, Prod.mk.injEq] at h
        omega
theorem setR_len {zs : List Int} (hby : ∀ z ∈ zs, 0 ≤ z ∧ z ≤ 255) {p q : Nat} {l : List Sp} (hp : p ≤ zs.length) (h : setR zs p = some (l, q)) : p + l.length < q ∧ q ≤ zs.length := by
  unfold setR cseqP at h
  rcases hc : cntP zs p with _ | ⟨n, r⟩
  · rw [hc] at h
    cases h
  · rw [hc] at h
    obtain ⟨g1, g2, g3, g4⟩ := cntP_ok hby hp hc
    have := listP_len (fun x p q hp h => spanQ_goes hby hp h) n.toNat r q l (by omega) h
    omega
end Code
end Go.Proofs.Ytjifklojbbocfaa
