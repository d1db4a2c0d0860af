/-
  Versions and sets of versions, on plain lists: which are right, and what comes of two sets.
-/
import Derived.Test.YtbhidndgnldheaaSpanPlain
namespace Go.Proofs.Ytbhidndgnldheaa
namespace Vers
open Span

/-- A version: its dot's site and count, its past, whether it is a taking away, its value. -/
structure Vr where
  (s n : Int) (past : List Sp) (gone : Bool) (val : ByteArray)
instance : DecidableEq Vr := fun a b => decidable_of_iff (a.s = b.s ∧ a.n = b.n ∧ a.past = b.past ∧ a.gone = b.gone ∧ a.val = b.val) (by
  cases a; cases b; simp)
def v0 : Vr := ⟨0, 0, [], false, ⟨#[]⟩⟩

def okD (s n : Int) : Prop := 1 ≤ s ∧ s ≤ 16 ∧ 1 ≤ n ∧ n ≤ 4611686018427387904
instance (s n : Int) : Decidable (okD s n) := by unfold okD; infer_instance
def okV (v : Vr) : Prop := okD v.s v.n ∧ Right v.past ∧ topF v.past v.s < v.n ∧ v.val.size ≤ 256 ∧ (v.gone = true → v.val = ⟨#[]⟩)
instance (v : Vr) : Decidable (okV v) := by unfold okV; infer_instance
def dlt (a b : Vr) : Prop := a.s < b.s ∨ (a.s = b.s ∧ a.n < b.n)
instance (a b : Vr) : Decidable (dlt a b) := by unfold dlt; infer_instance
def same (a b : Vr) : Prop := a.s = b.s ∧ a.n = b.n
instance (a b : Vr) : Decidable (same a b) := by unfold same; infer_instance
/-- One of these came behind the dot. -/
def behind (l : List Vr) (s n : Int) : Prop := ∃ v ∈ l, mem v.past s n
instance (l : List Vr) (s n : Int) : Decidable (behind l s n) := by unfold behind; infer_instance
/-- Right ones, by rising dots. -/
def FineV (l : List Vr) : Prop := (∀ v ∈ l, okV v) ∧ l.Pairwise dlt
instance (l : List Vr) : Decidable (FineV l) := by unfold FineV; infer_instance
def RightV (l : List Vr) : Prop := l.length ≤ 512 ∧ FineV l ∧ ∀ v ∈ l, ¬ behind l v.s v.n
instance (l : List Vr) : Decidable (RightV l) := by unfold RightV; infer_instance

theorem dlt_trans {a b c : Vr} (h : dlt a b) (k : dlt b c) : dlt a c := by unfold dlt at *; omega
theorem dlt_irrefl {a b : Vr} (h : dlt a b) (k : same a b) : False := by unfold dlt same at *; omega
theorem dlt_cases (a b : Vr) : dlt a b ∨ same a b ∨ dlt b a := by unfold dlt same; omega
theorem same_symm {a b : Vr} (h : same a b) : same b a := ⟨h.1.symm, h.2.symm⟩

/-- Of rising ones two with one dot are the same. -/
theorem rising_same {l : List Vr} (h : l.Pairwise dlt) {a b : Vr} (ha : a ∈ l) (hb : b ∈ l) (hs : same a b) : a = b := by
  induction l with
  | nil => simp at ha
  | cons x l ih =>
    rw [List.pairwise_cons] at h
    rcases List.mem_cons.1 ha with e | ha'
    · rcases List.mem_cons.1 hb with e' | hb'
      · rw [e, e']
      · exact (dlt_irrefl (h.1 b hb') (e ▸ hs)).elim
    · rcases List.mem_cons.1 hb with e' | hb'
      · exact (dlt_irrefl (h.1 a ha') (same_symm (e' ▸ hs))).elim
      · exact ih h.2 ha' hb'

/-- TWO RISING LISTS OF THE SAME VERSIONS ARE THE SAME. -/
theorem canonV : ∀ {l m : List Vr}, l.Pairwise dlt → m.Pairwise dlt → (∀ v, v ∈ l ↔ v ∈ m) → l = m
  | [], [], _, _, _ => rfl
  | [], y :: m, _, _, h => absurd ((h y).2 (by simp)) (by simp)
  | x :: l, [], _, _, h => absurd ((h x).1 (by simp)) (by simp)
  | x :: l, y :: m, hl, hm, h => by
    rw [List.pairwise_cons] at hl hm
    have hxy : x = y := by
      rcases List.mem_cons.1 ((h x).1 (by simp)) with e | hx
      · exact e
      · rcases List.mem_cons.1 ((h y).2 (by simp)) with e | hy
        · exact e.symm
        · have h1 := hm.1 x hx
          have h2 := hl.1 y hy
          unfold dlt at h1 h2
          omega
    subst hxy
    have key : ∀ v, v ∈ l ↔ v ∈ m := by
      intro v
      have hv := h v
      rw [List.mem_cons, List.mem_cons] at hv
      constructor
      · intro hq
        rcases hv.1 (.inr hq) with rfl | h5
        · exact (dlt_irrefl (hl.1 v hq) ⟨rfl, rfl⟩).elim
        · exact h5
      · intro hq
        rcases hv.2 (.inr hq) with rfl | h5
        · exact (dlt_irrefl (hm.1 v hq) ⟨rfl, rfl⟩).elim
        · exact h5
    rw [canonV hl.2 hm.2 key]

theorem behind_append (l m : List Vr) (s n : Int) : behind (l ++ m) s n ↔ behind l s n ∨ behind m s n := by
  unfold behind
  constructor
  · rintro ⟨v, hv, h⟩
    rcases List.mem_append.1 hv with hv | hv
    · exact .inl ⟨v, hv, h⟩
    · exact .inr ⟨v, hv, h⟩
  · rintro (⟨v, hv, h⟩ | ⟨v, hv, h⟩)
    · exact ⟨v, by simp [hv], h⟩
    · exact ⟨v, by simp [hv], h⟩

/-- Two unlike versions with one dot. -/
def Twin (a b : List Vr) : Prop := ∃ x ∈ a, ∃ y ∈ b, same x y ∧ x ≠ y
instance (a b : List Vr) : Decidable (Twin a b) := by unfold Twin; infer_instance

/-- A version laid where its dot belongs, unless it is there. -/
def putV : List Vr → Vr → List Vr
  | [], v => [v]
  | x :: l, v => if dlt x v then x :: putV l v else if same x v then x :: l else v :: x :: l

theorem putV_mem {l : List Vr} (hl : l.Pairwise dlt) (v : Vr) (hv : ∀ x ∈ l, same x v → x = v) : ∀ y, y ∈ putV l v ↔ y ∈ l ∨ y = v := by
  induction l with
  | nil => intro y; simp [putV]
  | cons x l ih =>
    intro y
    rw [List.pairwise_cons] at hl
    unfold putV
    split
    · rw [List.mem_cons, ih hl.2 (fun z hz => hv z (by simp [hz])) y, List.mem_cons, or_assoc]
    · split
      · rename_i h
        have := hv x (by simp) h
        subst this
        constructor
        · exact fun h => .inl h
        · rintro (h | rfl)
          · exact h
          · simp
      · rw [List.mem_cons, List.mem_cons]
        constructor
        · rintro (rfl | h)
          · exact .inr rfl
          · exact .inl h
        · rintro (h | rfl)
          · exact .inr h
          · exact .inl rfl
theorem putV_head {l : List Vr} {x v : Vr} (h : ∀ y ∈ l, dlt x y) (hx : dlt x v) : ∀ y ∈ putV l v, dlt x y := by
  induction l with
  | nil => intro y hy; simp [putV] at hy; subst hy; exact hx
  | cons z l ih =>
    intro y hy
    unfold putV at hy
    split at hy
    · rcases List.mem_cons.1 hy with rfl | hy
      · exact h y (by simp)
      · exact ih (fun w hw => h w (by simp [hw])) y hy
    · split at hy
      · exact h y hy
      · rcases List.mem_cons.1 hy with rfl | hy
        · exact hx
        · exact h y hy
theorem putV_rising {l : List Vr} (hl : l.Pairwise dlt) (v : Vr) : (putV l v).Pairwise dlt := by
  induction l with
  | nil => simp [putV]
  | cons x l ih =>
    rw [List.pairwise_cons] at hl
    unfold putV
    split
    · rename_i h
      exact List.pairwise_cons.2 ⟨putV_head hl.1 h, ih hl.2⟩
    · split
      · exact List.pairwise_cons.2 hl
      · rename_i h1 h2
        refine List.pairwise_cons.2 ⟨fun y hy => ?_, List.pairwise_cons.2 hl⟩
        have h3 : dlt v x := by
          rcases dlt_cases x v with h | h | h
          · exact absurd h h1
          · exact absurd h h2
          · exact h
        rcases List.mem_cons.1 hy with rfl | hy
        · exact h3
        · exact dlt_trans h3 (hl.1 y hy)

/-- Versions laid one after the other, those that some of d came behind left out. -/
def laidV (d : List Vr) (l out : List Vr) : List Vr := (l.filter fun v => !decide (behind d v.s v.n)).foldl putV out
theorem laidV_nil (d out : List Vr) : laidV d [] out = out := rfl
theorem laidV_snoc (d l out : List Vr) (v : Vr) : laidV d (l ++ [v]) out = if behind d v.s v.n then laidV d l out else putV (laidV d l out) v := by
  unfold laidV
  rw [List.filter_append, List.foldl_append]
  by_cases h : behind d v.s v.n
  · simp [h]
  · simp [h]
theorem foldV {l : List Vr} : ∀ {out : List Vr}, out.Pairwise dlt → (∀ x ∈ out ++ l, ∀ y ∈ out ++ l, same x y → x = y) → (l.foldl putV out).Pairwise dlt ∧ ∀ y, y ∈ l.foldl putV out ↔ y ∈ out ∨ y ∈ l := by
  induction l with
  | nil => intro out h _; exact ⟨h, by simp⟩
  | cons v l ih =>
    intro out h hs
    have hm := putV_mem h v (fun x hx hxv => hs x (by simp [hx]) v (by simp) hxv)
    have h2 := ih (out := putV out v) (putV_rising h v) (by
      intro x hx y hy hxy
      have key : ∀ z, z ∈ putV out v ++ l → z ∈ out ++ v :: l := by
        intro z hz
        rcases List.mem_append.1 hz with hz | hz
        · rcases (hm z).1 hz with hz | rfl
          · simp [hz]
          · simp
        · simp [hz]
      exact hs x (key x hx) y (key y hy) hxy)
    rw [List.foldl_cons]
    refine ⟨h2.1, fun y => ?_⟩
    rw [h2.2 y, hm y, List.mem_cons, or_assoc]

/-- Those of both behind which none of both came. -/
def stayF (a b : List Vr) : List Vr := laidV a b (laidV b a [])
def IsStay (a b r : List Vr) : Prop := r.Pairwise dlt ∧ ∀ v, v ∈ r ↔ (v ∈ a ∨ v ∈ b) ∧ ¬ behind a v.s v.n ∧ ¬ behind b v.s v.n
theorem stay_is {a b : List Vr} (ha : RightV a) (hb : RightV b) (ht : ¬ Twin a b) : IsStay a b (stayF a b) := by
  have hs : ∀ x, (x ∈ a ∨ x ∈ b) → ∀ y, (y ∈ a ∨ y ∈ b) → same x y → x = y := by
    intro x hx y hy hxy
    rcases hx with hx | hx
    · rcases hy with hy | hy
      · exact rising_same ha.2.1.2 hx hy hxy
      · exact Decidable.byContradiction fun h => ht ⟨x, hx, y, hy, hxy, h⟩
    · rcases hy with hy | hy
      · exact Decidable.byContradiction fun h => ht ⟨y, hy, x, hx, same_symm hxy, fun e => h e.symm⟩
      · exact rising_same hb.2.1.2 hx hy hxy
  have h1 := foldV (l := a.filter fun v => !decide (behind b v.s v.n)) (out := []) (by simp) (by
    intro x hx y hy hxy
    simp only [List.nil_append, List.mem_filter] at hx hy
    exact hs x (.inl hx.1) y (.inl hy.1) hxy)
  have h2 := foldV (l := b.filter fun v => !decide (behind a v.s v.n)) (out := laidV b a []) h1.1 (by
    intro x hx y hy hxy
    have key : ∀ z, z ∈ laidV b a [] ++ b.filter (fun v => !decide (behind a v.s v.n)) → z ∈ a ∨ z ∈ b := by
      intro z hz
      rcases List.mem_append.1 hz with hz | hz
      · have := (h1.2 z).1 hz
        simp only [List.not_mem_nil, false_or, List.mem_filter] at this
        exact .inl this.1
      · exact .inr (List.mem_filter.1 hz).1
    exact hs x (key x hx) y (key y hy) hxy)
  refine ⟨h2.1, fun v => ?_⟩
  have e2 := h2.2 v
  have e1 := h1.2 v
  simp only [List.not_mem_nil, false_or, List.mem_filter, Bool.not_eq_true', decide_eq_false_iff_not] at e1 e2
  have e : v ∈ stayF a b ↔ v ∈ laidV b a [] ∨ v ∈ b ∧ ¬ behind a v.s v.n := e2
  have e' : v ∈ laidV b a [] ↔ v ∈ a ∧ ¬ behind b v.s v.n := e1
  rw [e, e']
  constructor
  · rintro (⟨h, k⟩ | ⟨h, k⟩)
    · exact ⟨.inl h, ha.2.2 v h, k⟩
    · exact ⟨.inr h, k, hb.2.2 v h⟩
  · rintro ⟨h | h, k, k'⟩
    · exact .inl ⟨h, k'⟩
    · exact .inr ⟨h, k⟩
theorem stay_one {a b r : List Vr} (ha : RightV a) (hb : RightV b) (ht : ¬ Twin a b) (h : IsStay a b r) : r = stayF a b :=
  canonV h.1 (stay_is ha hb ht).1 fun v => by rw [h.2 v, (stay_is ha hb ht).2 v]

/-- What Merge tells: the set, the error. -/
def mergeF (a b : List Vr) : List Vr × Int :=
  if ¬ RightV a ∨ ¬ RightV b then ([], 1) else if Twin a b then ([], 50) else if 512 < (stayF a b).length then ([], 3) else (stayF a b, 0)
theorem merge_arg {a b : List Vr} (h : ¬ RightV a ∨ ¬ RightV b) : mergeF a b = ([], 1) := by unfold mergeF; rw [if_pos h]
theorem merge_twin {a b : List Vr} (ha : RightV a) (hb : RightV b) (h : Twin a b) : mergeF a b = ([], 50) := by
  unfold mergeF; rw [if_neg (by simp [ha, hb]), if_pos h]
theorem merge_long {a b : List Vr} (ha : RightV a) (hb : RightV b) (h : ¬ Twin a b) (hl : 512 < (stayF a b).length) : mergeF a b = ([], 3) := by
  unfold mergeF; rw [if_neg (by simp [ha, hb]), if_neg h, if_pos hl]
theorem merge_ok {a b : List Vr} (ha : RightV a) (hb : RightV b) (h : ¬ Twin a b) (hl : ¬ 512 < (stayF a b).length) : mergeF a b = (stayF a b, 0) := by
  unfold mergeF; rw [if_neg (by simp [ha, hb]), if_neg h, if_neg hl]
def lacksF (a b : List Vr) : Bool := decide ((mergeF a b).2 = 0 ∧ (mergeF a b).1 ≠ a)
/-- The set of those that stay is right. -/
theorem merge_right {a b r : List Vr} (h : mergeF a b = (r, 0)) : RightV a ∧ RightV b ∧ ¬ Twin a b ∧ r = stayF a b ∧ RightV r := by
  unfold mergeF at h
  split at h
  · simp at h
  · rename_i h1
    have ha : RightV a := Decidable.byContradiction fun k => h1 (.inl k)
    have hb : RightV b := Decidable.byContradiction fun k => h1 (.inr k)
    split at h
    · simp at h
    · rename_i h2
      split at h
      · simp at h
      · rename_i h3
        simp only [Prod.mk.injEq, and_true] at h
        subst h
        have hs := stay_is ha hb h2
        refine ⟨ha, hb, h2, rfl, by omega, ⟨fun v hv => ?_, hs.1⟩, fun v hv => ?_⟩
        · rcases ((hs.2 v).1 hv).1 with h | h
          · exact ha.2.1.1 v h
          · exact hb.2.1.1 v h
        · rintro ⟨x, hx, hm⟩
          have h4 := ((hs.2 v).1 hv).2
          rcases ((hs.2 x).1 hx).1 with h | h
          · exact h4.1 ⟨x, h, hm⟩
          · exact h4.2 ⟨x, h, hm⟩
end Vers
end Go.Proofs.Ytbhidndgnldheaa
