/-
  Plain words of layer 21: sessions, and the map of their asks.
-/
import Derived.Test.YtnmkhccgaedigaaBase
import Derived.Maps.OwnSet
import Derived.Maps.OwnOps
namespace Go.Proofs.Ytnmkhccgaedigaa
namespace Sess
open Go.RowKit

/-- A session: its site, its token, its ask under way (0: none). -/
abbrev Sn := Int × List Int × Int
def s0 : Sn := (0, [], 0)
/-- Whose ask it is: the number, from 1 on. -/
def IsAsk (L : List Sn) (op : Int) (i : Nat) : Prop := op ≠ 0 ∧ ∃ x, L[i]? = some x ∧ x.2.2 = op
/-- A token that may be. -/
def OkT (t : List Int) : Prop := t.length ≤ 140737488351232 ∧ ∀ z ∈ t, 0 ≤ z ∧ z ≤ 255
theorem okT_nil : OkT [] := ⟨by simp, fun z h => by cases h⟩
/-- Sessions that may be. -/
def InvS (N : Int) (L : List Sn) : Prop := (∀ x ∈ L, (1 ≤ x.1 ∧ x.1 ≤ N) ∧ (0 ≤ x.2.2 ∧ x.2.2 ≤ 9223372036854775807) ∧ OkT x.2.1) ∧ ∀ i j op, IsAsk L op i → IsAsk L op j → i = j
/-- The map of the asks under way. -/
def MapIs (D : DataW Unit) (L : List Sn) : Prop := Maps.IsMap D ∧ (∀ op, Maps.has D (.int .i64 op) = true ↔ ∃ i, IsAsk L op i) ∧ ∀ op i, IsAsk L op i → ∀ z, D.atKey (.int .i64 op) z = .lit (.int .i64 ((i : Int) + 1))
theorem inv_nil (N : Int) : InvS N [] := ⟨(fun x h => by cases h), fun i j op h => by obtain ⟨_, x, h, _⟩ := h; simp at h⟩
theorem map_nil : MapIs (.map []) [] := ⟨Maps.isMap_empty, fun op => ⟨(fun h => by simp [Maps.has] at h), fun h => by obtain ⟨i, _, x, h, _⟩ := h; simp at h⟩, fun op i h => by obtain ⟨_, x, h, _⟩ := h; simp at h⟩
theorem isAsk_append {L : List Sn} {x : Sn} (hx : x.2.2 = 0) (op : Int) (i : Nat) : IsAsk (L ++ [x]) op i ↔ IsAsk L op i := by
  unfold IsAsk
  refine and_congr_right fun h0 => ⟨fun ⟨y, h1, h2⟩ => ?_, fun ⟨y, h1, h2⟩ => ⟨y, ?_, h2⟩⟩
  · rcases Nat.lt_trichotomy i L.length with h | h | h
    · rw [List.getElem?_append_left h] at h1
      exact ⟨y, h1, h2⟩
    · subst h
      simp at h1
      subst h1
      omega
    · rw [List.getElem?_eq_none (by simp; omega)] at h1
      cases h1
  · have h : i < L.length := (List.getElem?_eq_some_iff.1 h1).1
    rw [List.getElem?_append_left h]
    exact h1
theorem inv_open {N site : Int} {L : List Sn} (h : InvS N L) (hs : 1 ≤ site ∧ site ≤ N) : InvS N (L ++ [(site, [], 0)]) := by
  refine ⟨fun x hx => ?_, fun i j op hi hj => h.2 i j op ((isAsk_append rfl op i).1 hi) ((isAsk_append rfl op j).1 hj)⟩
  rcases List.mem_append.1 hx with hx | hx
  · exact h.1 x hx
  · obtain rfl := List.mem_singleton.1 hx
    exact ⟨hs, by simp, okT_nil⟩
theorem map_open {D : DataW Unit} {L : List Sn} (h : MapIs D L) (site : Int) : MapIs D (L ++ [(site, [], 0)]) :=
  ⟨h.1, fun op => (h.2.1 op).trans ⟨fun ⟨i, hi⟩ => ⟨i, (isAsk_append rfl op i).2 hi⟩, fun ⟨i, hi⟩ => ⟨i, (isAsk_append rfl op i).1 hi⟩⟩, fun op i hi => h.2.2 op i ((isAsk_append rfl op i).1 hi)⟩
theorem isAsk_set {L : List Sn} {k : Nat} {y : Sn} (hk : k < L.length) (op : Int) (i : Nat) : IsAsk (L.set k y) op i ↔ (i = k ∧ op ≠ 0 ∧ y.2.2 = op) ∨ (i ≠ k ∧ IsAsk L op i) := by
  unfold IsAsk
  by_cases h : i = k
  · subst h
    rw [List.getElem?_set_self hk]
    simp
  · rw [List.getElem?_set_ne (fun e => h e.symm)]
    simp [h]
/-- Another site, or another token: nothing else. -/
theorem inv_turn {N : Int} {L : List Sn} {k : Nat} {x y : Sn} (h : InvS N L) (hk : L[k]? = some x) (hy : y.2.2 = x.2.2) (hs : 1 ≤ y.1 ∧ y.1 ≤ N) (ht : OkT y.2.1) : InvS N (L.set k y) := by
  have hlt : k < L.length := (List.getElem?_eq_some_iff.1 hk).1
  have hmem : x ∈ L := List.mem_of_getElem? hk
  have same : ∀ op i, IsAsk (L.set k y) op i ↔ IsAsk L op i := fun op i => by
    rw [isAsk_set hlt]
    by_cases e : i = k
    · subst e
      unfold IsAsk
      simp [hk, hy]
    · simp [e]
  refine ⟨fun z hz => ?_, fun i j op hi hj => h.2 i j op ((same op i).1 hi) ((same op j).1 hj)⟩
  rcases List.mem_or_eq_of_mem_set hz with hz | rfl
  · exact h.1 z hz
  · exact ⟨hs, hy ▸ (h.1 x hmem).2.1, ht⟩
theorem map_turn {D : DataW Unit} {L : List Sn} {k : Nat} {x y : Sn} (h : MapIs D L) (hk : L[k]? = some x) (hy : y.2.2 = x.2.2) : MapIs D (L.set k y) := by
  have hlt : k < L.length := (List.getElem?_eq_some_iff.1 hk).1
  have same : ∀ op i, IsAsk (L.set k y) op i ↔ IsAsk L op i := fun op i => by
    rw [isAsk_set hlt]
    by_cases e : i = k
    · subst e
      unfold IsAsk
      simp [hk, hy]
    · simp [e]
  exact ⟨h.1, fun op => (h.2.1 op).trans (exists_congr fun i => (same op i).symm), fun op i hi => h.2.2 op i ((same op i).1 hi)⟩
theorem lit_ne {a b : Int} (h : a ≠ b) : (Lit.int .i64 a) ≠ .int .i64 b := fun e => h (by injection e)
/-- A session begins an ask. -/
theorem inv_begin {N op : Int} {L : List Sn} {k : Nat} {x : Sn} (h : InvS N L) (hk : L[k]? = some x) (hop : 0 < op ∧ op ≤ 9223372036854775807) (hno : ∀ i, ¬ IsAsk L op i) : InvS N (L.set k (x.1, x.2.1, op)) := by
  have hlt : k < L.length := (List.getElem?_eq_some_iff.1 hk).1
  have hmem : x ∈ L := List.mem_of_getElem? hk
  refine ⟨fun z hz => ?_, fun i j o hi hj => ?_⟩
  · rcases List.mem_or_eq_of_mem_set hz with hz | rfl
    · exact h.1 z hz
    · exact ⟨(h.1 x hmem).1, by simp only; omega, (h.1 x hmem).2.2⟩
  · rcases (isAsk_set hlt o i).1 hi with ⟨rfl, _, e1⟩ | ⟨n1, a1⟩
    · rcases (isAsk_set hlt o j).1 hj with ⟨rfl, _, _⟩ | ⟨n2, a2⟩
      · rfl
      · simp only at e1
        subst e1
        exact absurd a2 (hno j)
    · rcases (isAsk_set hlt o j).1 hj with ⟨rfl, _, e2⟩ | ⟨n2, a2⟩
      · simp only at e2
        subst e2
        exact absurd a1 (hno i)
      · exact h.2 i j o a1 a2
theorem map_begin {D : DataW Unit} {op : Int} {L : List Sn} {k : Nat} {x : Sn} (h : MapIs D L) (hk : L[k]? = some x) (hx : x.2.2 = 0) (hop : 0 < op) (hno : ∀ i, ¬ IsAsk L op i) : MapIs (D.put (.int .i64 op) (.lit (.int .i64 ((k : Int) + 1)))) (L.set k (x.1, x.2.1, op)) := by
  have hlt : k < L.length := (List.getElem?_eq_some_iff.1 hk).1
  have hkey : WideAt.IsKeyLit (.int .i64 op) := trivial
  refine ⟨h.1.put _ _, fun o => ?_, fun o i hi z => ?_⟩
  · by_cases e : o = op
    · subst e
      rw [Maps.has_put_same h.1 hkey]
      exact ⟨fun _ => ⟨k, (isAsk_set hlt o k).2 (.inl ⟨rfl, by omega, rfl⟩)⟩, fun _ => rfl⟩
    · rw [Maps.has_put_other (lit_ne e), h.2.1 o]
      refine ⟨fun ⟨i, hi⟩ => ⟨i, (isAsk_set hlt o i).2 (.inr ⟨fun e2 => ?_, hi⟩)⟩, fun ⟨i, hi⟩ => ?_⟩
      · subst e2
        obtain ⟨h0, y, hy, hyo⟩ := hi
        rw [hk] at hy
        injection hy with hy
        subst hy
        exact h0 (hyo.symm.trans hx)
      · rcases (isAsk_set hlt o i).1 hi with ⟨_, _, e2⟩ | ⟨_, a⟩
        · exact absurd e2.symm e
        · exact ⟨i, a⟩
  · rcases (isAsk_set hlt o i).1 hi with ⟨rfl, _, e2⟩ | ⟨n1, a1⟩
    · simp only at e2
      subst e2
      exact Maps.atKey_put_same h.1 hkey _ _
    · have e : o ≠ op := fun e => hno i (e ▸ a1)
      rw [Maps.atKey_put_other (lit_ne e)]
      exact h.2.2 o i a1 z
/-- An ask ends. -/
theorem inv_end {N : Int} {L : List Sn} {k : Nat} {x : Sn} (h : InvS N L) (hk : L[k]? = some x) (t : List Int) (ht : OkT t) : InvS N (L.set k (x.1, t, 0)) := by
  have hlt : k < L.length := (List.getElem?_eq_some_iff.1 hk).1
  have hmem : x ∈ L := List.mem_of_getElem? hk
  refine ⟨fun z hz => ?_, fun i j o hi hj => ?_⟩
  · rcases List.mem_or_eq_of_mem_set hz with hz | rfl
    · exact h.1 z hz
    · exact ⟨(h.1 x hmem).1, by simp, ht⟩
  · rcases (isAsk_set hlt o i).1 hi with ⟨_, h0, e1⟩ | ⟨n1, a1⟩
    · exact absurd e1.symm h0
    · rcases (isAsk_set hlt o j).1 hj with ⟨_, h0, e2⟩ | ⟨n2, a2⟩
      · exact absurd e2.symm h0
      · exact h.2 i j o a1 a2
theorem map_end {D : DataW Unit} {N op : Int} {L : List Sn} {k : Nat} {x : Sn} (hI : InvS N L) (h : MapIs D L) (hk : L[k]? = some x) (hx : x.2.2 = op) (h0 : op ≠ 0) (t : List Int) : MapIs (D.del (.int .i64 op)) (L.set k (x.1, t, 0)) := by
  have hlt : k < L.length := (List.getElem?_eq_some_iff.1 hk).1
  have hask : IsAsk L op k := ⟨h0, x, hk, hx⟩
  refine ⟨h.1.del _, fun o => ?_, fun o i hi z => ?_⟩
  · by_cases e : o = op
    · subst e
      rw [Maps.has_del_same]
      refine ⟨(fun h => by cases h), fun ⟨i, hi⟩ => ?_⟩
      rcases (isAsk_set hlt o i).1 hi with ⟨_, h0, e1⟩ | ⟨n1, a1⟩
      · exact absurd e1.symm h0
      · exact absurd (hI.2 i k o a1 hask) n1
    · rw [Maps.has_del_other (lit_ne e), h.2.1 o]
      refine ⟨fun ⟨i, hi⟩ => ⟨i, (isAsk_set hlt o i).2 (.inr ⟨fun e2 => ?_, hi⟩)⟩, fun ⟨i, hi⟩ => ?_⟩
      · subst e2
        obtain ⟨_, y, hy, hyo⟩ := hi
        rw [hk] at hy
        injection hy with hy
        subst hy
        exact e (hyo.symm.trans hx)
      · rcases (isAsk_set hlt o i).1 hi with ⟨_, h0, e2⟩ | ⟨_, a⟩
        · exact absurd e2.symm h0
        · exact ⟨i, a⟩
  · rcases (isAsk_set hlt o i).1 hi with ⟨_, h0, e2⟩ | ⟨n1, a1⟩
    · exact absurd e2.symm h0
    · have e : o ≠ op := fun e => n1 (hI.2 i k op (e ▸ a1) hask)
      rw [Maps.atKey_del_other (lit_ne e)]
      exact h.2.2 o i a1 z
/-! ### What the document and the program tell -/
def askF (L : List Sn) (op : Int) : Bool := L.any fun x => op != 0 && x.2.2 == op
theorem askF_iff {L : List Sn} {op : Int} : askF L op = true ↔ ∃ i, IsAsk L op i := by
  unfold askF IsAsk
  rw [List.any_eq_true]
  constructor
  · rintro ⟨x, hx, h⟩
    obtain ⟨i, hi⟩ := List.getElem?_of_mem hx
    simp at h
    exact ⟨i, h.1, x, hi, h.2⟩
  · rintro ⟨i, h0, x, hx, h⟩
    exact ⟨x, List.mem_of_getElem? hx, by simp [h0, h]⟩
def openF (N : Int) (L : List Sn) (site : Int) : List Sn × Int × Int := if 1 ≤ site ∧ site ≤ N then (L ++ [(site, [], 0)], (L.length : Int) + 1, 0) else (L, 0, 1)
def inF (L : List Sn) (k : Int) : Prop := 1 ≤ k ∧ k ≤ L.length
instance (L : List Sn) (k : Int) : Decidable (inF L k) := by unfold inF; infer_instance
def getF (L : List Sn) (k : Int) : Sn := L.getD (k - 1).toNat s0
def beginF (L : List Sn) (k op : Int) : List Sn × Int × List Int × Int :=
  if ¬ inF L k then (L, 0, [], 210)
  else if op < 1 ∨ askF L op = true then (L, 0, [], 1)
  else if (getF L k).2.2 ≠ 0 then (L, 0, [], 202)
  else (L.set (k - 1).toNat ((getF L k).1, (getF L k).2.1, op), (getF L k).1, (getF L k).2.1, 0)
def endF (L : List Sn) (op : Int) (t : List Int) : List Sn × Int × Bool :=
  match L.findIdx? (fun x => op != 0 && x.2.2 == op) with
  | none => (L, 0, false)
  | some i => (L.set i ((L.getD i s0).1, if t.length = 0 then (L.getD i s0).2.1 else t, 0), (i : Int) + 1, true)
def goF (N : Int) (L : List Sn) (k site : Int) : List Sn × Int :=
  if ¬ inF L k then (L, 210) else if ¬ (1 ≤ site ∧ site ≤ N) then (L, 1) else if (getF L k).2.2 ≠ 0 then (L, 202) else (L.set (k - 1).toNat (site, (getF L k).2.1, (getF L k).2.2), 0)
def tokF (L : List Sn) (k : Int) : List Int := if inF L k then (getF L k).2.1 else []
def siteF (L : List Sn) (k : Int) : Int := if inF L k then (getF L k).1 else 0
theorem getF_at {L : List Sn} {k : Int} (h : inF L k) : L[(k - 1).toNat]? = some (getF L k) := by
  unfold inF at h
  have hl : (k - 1).toNat < L.length := by omega
  unfold getF
  rw [List.getD_eq_getElem?_getD, List.getElem?_eq_getElem hl]
  rfl
theorem endF_none {L : List Sn} {op : Int} (t : List Int) (h : ∀ i, ¬ IsAsk L op i) : endF L op t = (L, 0, false) := by
  unfold endF
  rw [List.findIdx?_eq_none_iff.2 fun x hx => ?_]
  obtain ⟨i, hi⟩ := List.getElem?_of_mem hx
  have := h i
  unfold IsAsk at this
  by_cases h0 : op = 0
  · simp [h0]
  · by_cases h1 : x.2.2 = op
    · exact absurd ⟨h0, x, hi, h1⟩ this
    · simp [h1]
theorem endF_some {N : Int} {L : List Sn} {op : Int} {i : Nat} {x : Sn} (hI : InvS N L) (hx : L[i]? = some x) (h : IsAsk L op i) (t : List Int) : endF L op t = (L.set i (x.1, if t.length = 0 then x.2.1 else t, 0), (i : Int) + 1, true) := by
  have hlt : i < L.length := (List.getElem?_eq_some_iff.1 hx).1
  have hg : L.getD i s0 = x := by rw [List.getD_eq_getElem?_getD, hx]; rfl
  have hf : L.findIdx? (fun x => op != 0 && x.2.2 == op) = some i := by
    rw [List.findIdx?_eq_some_iff_getElem]
    obtain ⟨h0, y, hy, hyo⟩ := h
    rw [hx] at hy
    injection hy with hy
    subst hy
    have he : L[i] = x := by
      rw [List.getElem?_eq_getElem hlt] at hx
      injection hx
    refine ⟨hlt, by rw [he]; simp [h0, hyo], fun j hj => ?_⟩
    intro hc
    simp at hc
    have := hI.2 j i op ⟨h0, L[j], List.getElem?_eq_getElem _, hc.2⟩ ⟨h0, x, hx, hyo⟩
    omega
  unfold endF
  rw [hf]
  simp only [hg]
end Sess
end Go.Proofs.Ytnmkhccgaedigaa
