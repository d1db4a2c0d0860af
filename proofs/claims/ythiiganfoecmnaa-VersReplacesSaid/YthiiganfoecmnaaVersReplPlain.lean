/-
  A write behind all versions of a set takes their place: on plain lists.
-/
import Derived.Test.YthiiganfoecmnaaVersMore
import Derived.Test.YthiiganfoecmnaaVersShown
namespace Go.Proofs.Ythiiganfoecmnaa
namespace Vers
open Span

/-- The set of all dots of the versions and all their pasts. -/
def IsPast (l : List Vr) (p : List Sp) : Prop := Fine p ∧ ∀ t n, mem p t n ↔ ∃ v ∈ l, (v.s = t ∧ v.n = n) ∨ mem v.past t n
theorem past_one {l : List Vr} {p q : List Sp} (h : IsPast l p) (k : IsPast l q) : p = q := canon h.1 k.1 fun s n => (h.2 s n).trans (k.2 s n).symm
theorem top_fold (l : List Sp) (s : Int) : ∀ m : Int, m ≤ l.foldl (fun n x => if x.1 = s then max n x.2.2 else n) m ∧ (∀ x ∈ l, x.1 = s → x.2.2 ≤ l.foldl (fun n x => if x.1 = s then max n x.2.2 else n) m) ∧ ((∀ x ∈ l, x.2.2 ≤ 4611686018427387904) → m ≤ 4611686018427387904 → l.foldl (fun n x => if x.1 = s then max n x.2.2 else n) m ≤ 4611686018427387904) := by
  induction l with
  | nil => intro m; exact ⟨Int.le_refl _, by simp, fun _ h => h⟩
  | cons y l ih =>
    intro m
    simp only [List.foldl_cons]
    obtain ⟨h1, h2, h3⟩ := ih (if y.1 = s then max m y.2.2 else m)
    refine ⟨?_, fun x hx hs => ?_, fun hb hm => h3 (fun x hx => hb x (by simp [hx])) ?_⟩
    · refine Int.le_trans ?_ h1
      split <;> omega
    · rcases List.mem_cons.1 hx with rfl | hx
      · refine Int.le_trans ?_ h1
        rw [if_pos hs]
        omega
      · exact h2 x hx hs
    · have := hb y (by simp)
      split <;> omega
theorem top_ge {l : List Sp} {s n : Int} (h : mem l s n) : n ≤ topF l s := by
  obtain ⟨x, hx, h1, h2, h3⟩ := h
  have := (top_fold l s 0).2.1 x hx h1
  unfold topF
  omega
theorem top_range {l : List Sp} (h : Fine l) (s : Int) : 0 ≤ topF l s ∧ topF l s ≤ 4611686018427387904 :=
  ⟨(top_fold l s 0).1, (top_fold l s 0).2.2 (fun x hx => (h.1 x hx).2.2.2.2) (by omega)⟩
/-- A write behind all of them. -/
theorem replaces {l : List Vr} {p : List Sp} {s : Int} {gone : Bool} {val : ByteArray} (hr : RightV l) (hp : IsPast l p) (hl : p.length ≤ 1024) (hs : 1 ≤ s ∧ s ≤ 16) (ht : topF p s ≠ 4611686018427387904) (hv : val.size ≤ 256) (hg : gone = true → val = ⟨#[]⟩) :
    RightV [⟨s, topF p s + 1, p, gone, val⟩] ∧ mergeF l [⟨s, topF p s + 1, p, gone, val⟩] = ([⟨s, topF p s + 1, p, gone, val⟩], 0) ∧ mergeF [⟨s, topF p s + 1, p, gone, val⟩] l = ([⟨s, topF p s + 1, p, gone, val⟩], 0) ∧
      lacksF [⟨s, topF p s + 1, p, gone, val⟩] l = false ∧ lacksF l [⟨s, topF p s + 1, p, gone, val⟩] = true ∧ (shownF [⟨s, topF p s + 1, p, gone, val⟩]).length = if gone then 0 else 1 := by
  have htr := top_range hp.1 s
  obtain ⟨v, hvv⟩ : ∃ v : Vr, v = ⟨s, topF p s + 1, p, gone, val⟩ := ⟨_, rfl⟩
  have e1 : v.s = s := by rw [hvv]
  have e2 : v.n = topF p s + 1 := by rw [hvv]
  have e3 : v.past = p := by rw [hvv]
  have hok : okV v := by
    rw [hvv]
    exact ⟨⟨hs.1, hs.2, by show 1 ≤ topF p s + 1; omega, by show topF p s + 1 ≤ _; omega⟩, ⟨hl, hp.1⟩, by show topF p s < topF p s + 1; omega, hv, hg⟩
  have hnp : ∀ n, n = topF p s + 1 → ¬ mem p s n := fun n hn h => by have := top_ge h; omega
  have hnb : ¬ behind [v] v.s v.n := by
    rintro ⟨u, hu, h⟩
    rw [List.mem_singleton.1 hu, e1, e3] at h
    exact hnp _ e2 h
  have hR : RightV [v] := ⟨by simp, ⟨by simpa using hok, by simp⟩, by simpa using hnb⟩
  have hdot : ∀ x ∈ l, mem p x.s x.n := fun x hx => (hp.2 _ _).2 ⟨x, hx, .inl ⟨rfl, rfl⟩⟩
  have hTw : ¬ Twin l [v] := by
    rintro ⟨x, hx, y, hy, hsm, _⟩
    rw [List.mem_singleton.1 hy] at hsm
    have h := hdot x hx
    rw [hsm.1, hsm.2, e1] at h
    exact hnp _ e2 h
  have hbl : ¬ behind l v.s v.n := by
    rintro ⟨u, hu, h⟩
    have h2 := (hp.2 _ _).2 ⟨u, hu, .inr h⟩
    rw [e1] at h2
    exact hnp _ e2 h2
  have hst : IsStay l [v] [v] := by
    refine ⟨by simp, fun u => ⟨fun hu => ?_, fun ⟨hu, h1, h2⟩ => ?_⟩⟩
    · rw [List.mem_singleton.1 hu]
      exact ⟨.inr (by simp), hbl, hnb⟩
    · rcases hu with hu | hu
      · exact absurd ⟨v, by simp, by rw [e3]; exact hdot u hu⟩ h2
      · exact hu
  have hsf := stay_one hr hR hTw hst
  have hm : mergeF l [v] = ([v], 0) := by
    rw [merge_ok hr hR hTw (by rw [← hsf]; simp), ← hsf]
  have hm2 : mergeF [v] l = ([v], 0) := by rw [merge_comm, hm]
  rw [← hvv]
  refine ⟨hR, hm, hm2, by unfold lacksF; rw [hm2]; simp, ?_, ?_⟩
  · unfold lacksF
    rw [hm]
    refine decide_eq_true ⟨rfl, fun h => ?_⟩
    have hvl : v ∈ l := by
      have h' : [v] = l := h
      rw [← h']; simp
    have hd := hdot v hvl
    rw [e1] at hd
    exact hnp _ e2 hd
  · rw [hvv]
    cases gone <;> simp [shownF]
end Vers
end Go.Proofs.Ythiiganfoecmnaa
