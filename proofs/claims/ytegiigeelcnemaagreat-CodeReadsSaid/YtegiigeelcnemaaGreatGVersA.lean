/-
  Several texts of this family in one: VersPlain, VersBase, VersCmp.
-/
import Derived.Test.YtegiigeelcnemaaGreatGSpanA
import Derived.Deep.RegionHeld3
import Derived.Deep.DrawnRows
import Derived.IntWalk
/-
  Versions and sets of versions, on plain lists: which are right, and what comes of two sets.
-/
namespace Go.Proofs.YtegiigeelcnemaaGreat
namespace Vers
open Span

/-- A version: its dot's site and count, its past, whether it is a taking away, its value. -/
structure Vr where
  (s n : Int) (past : List Sp) (gone : Bool) (val : ByteArray)
instance : DecidableEq Vr := fun a b => decidable_of_iff (a.s = b.s ∧ a.n = b.n ∧ a.past = b.past ∧ a.gone = b.gone ∧ a.val = b.val) (by
  cases a; cases b; simp)
def v0 : Vr := ⟨0, 0, [], false, ⟨#[]⟩⟩

def okD (s n : Int) : Prop := 1 ≤ s ∧ s ≤ 16 ∧ 1 ≤ n ∧ n ≤ 4611686018427387904
instance (s n : Int) : Decidable (okD s n) := by unfold okD; infer_instance
def okV (v : Vr) : Prop := okD v.s v.n ∧ Right v.past ∧ topF v.past v.s < v.n ∧ v.val.size ≤ 256 ∧ (v.gone = true → v.val = ⟨#[]⟩)
instance (v : Vr) : Decidable (okV v) := by unfold okV; infer_instance
def dlt (a b : Vr) : Prop := a.s < b.s ∨ (a.s = b.s ∧ a.n < b.n)
instance (a b : Vr) : Decidable (dlt a b) := by unfold dlt; infer_instance
def same (a b : Vr) : Prop := a.s = b.s ∧ a.n = b.n
instance (a b : Vr) : Decidable (same a b) := by unfold same; infer_instance
/-- One of these came behind the dot. -/
def behind (l : List Vr) (s n : Int) : Prop := ∃ v ∈ l, mem v.past s n
instance (l : List Vr) (s n : Int) : Decidable (behind l s n) := by unfold behind; infer_instance
/-- Right ones, by rising dots. -/
def FineV (l : List Vr) : Prop := (∀ v ∈ l, okV v) ∧ l.Pairwise dlt
instance (l : List Vr) : Decidable (FineV l) := by unfold FineV; infer_instance
def RightV (l : List Vr) : Prop := l.length ≤ 512 ∧ FineV l ∧ ∀ v ∈ l, ¬ behind l v.s v.n
instance (l : List Vr) : Decidable (RightV l) := by unfold RightV; infer_instance

theorem dlt_trans {a b c : Vr} (h : dlt a b) (k : dlt b c) : dlt a c := by unfold dlt at *; omega
theorem dlt_irrefl {a b : Vr} (h : dlt a b) (k : same a b) : False := by unfold dlt same at *; omega
theorem dlt_cases (a b : Vr) : dlt a b ∨ same a b ∨ dlt b a := by unfold dlt same; omega
theorem same_symm {a b : Vr} (h : same a b) : same b a := ⟨h.1.symm, h.2.symm⟩

/-- Of rising ones two with one dot are the same. -/
theorem rising_same {l : List Vr} (h : l.Pairwise dlt) {a b : Vr} (ha : a ∈ l) (hb : b ∈ l) (hs : same a b) : a = b := by
  induction l with
  | nil => simp at ha
  | cons x l ih =>
    rw [List.pairwise_cons] at h
    rcases List.mem_cons.1 ha with e | ha'
    · rcases List.mem_cons.1 hb with e' | hb'
      · rw [e, e']
      · exact (dlt_irrefl (h.1 b hb') (e ▸ hs)).elim
    · rcases List.mem_cons.1 hb with e' | hb'
      · exact (dlt_irrefl (h.1 a ha') (same_symm (e' ▸ hs))).elim
      · exact ih h.2 ha' hb'

/-- TWO RISING LISTS OF THE SAME VERSIONS ARE THE SAME. -/
theorem canonV : ∀ {l m : List Vr}, l.Pairwise dlt → m.Pairwise dlt → (∀ v, v ∈ l ↔ v ∈ m) → l = m
  | [], [], _, _, _ => rfl
  | [], y :: m, _, _, h => absurd ((h y).2 (by simp)) (by simp)
  | x :: l, [], _, _, h => absurd ((h x).1 (by simp)) (by simp)
  | x :: l, y :: m, hl, hm, h => by
    rw [List.pairwise_cons] at hl hm
    have hxy : x = y := by
      rcases List.mem_cons.1 ((h x).1 (by simp)) with e | hx
      · exact e
      · rcases List.mem_cons.1 ((h y).2 (by simp)) with e | hy
        · exact e.symm
        · have h1 := hm.1 x hx
          have h2 := hl.1 y hy
          unfold dlt at h1 h2
          omega
    subst hxy
    have key : ∀ v, v ∈ l ↔ v ∈ m := by
      intro v
      have hv := h v
      rw [List.mem_cons, List.mem_cons] at hv
      constructor
      · intro hq
        rcases hv.1 (.inr hq) with rfl | h5
        · exact (dlt_irrefl (hl.1 v hq) ⟨rfl, rfl⟩).elim
        · exact h5
      · intro hq
        rcases hv.2 (.inr hq) with rfl | h5
        · exact (dlt_irrefl (hm.1 v hq) ⟨rfl, rfl⟩).elim
        · exact h5
    rw [canonV hl.2 hm.2 key]

theorem behind_append (l m : List Vr) (s n : Int) : behind (l ++ m) s n ↔ behind l s n ∨ behind m s n := by
  unfold behind
  constructor
  · rintro ⟨v, hv, h⟩
    rcases List.mem_append.1 hv with hv | hv
    · exact .inl ⟨v, hv, h⟩
    · exact .inr ⟨v, hv, h⟩
  · rintro (⟨v, hv, h⟩ | ⟨v, hv, h⟩)
    · exact ⟨v, by simp [hv], h⟩
    · exact ⟨v, by simp [hv], h⟩

/-- Two unlike versions with one dot. -/
def Twin (a b : List Vr) : Prop := ∃ x ∈ a, ∃ y ∈ b, same x y ∧ x ≠ y
instance (a b : List Vr) : Decidable (Twin a b) := by unfold Twin; infer_instance

/-- A version laid where its dot belongs, unless it is there. -/
def putV : List Vr → Vr → List Vr
  | [], v => [v]
  | x :: l, v => if dlt x v then x :: putV l v else if same x v then x :: l else v :: x :: l

theorem putV_mem {l : List Vr} (hl : l.Pairwise dlt) (v : Vr) (hv : ∀ x ∈ l, same x v → x = v) : ∀ y, y ∈ putV l v ↔ y ∈ l ∨ y = v := by
  induction l with
  | nil => intro y; simp [putV]
  | cons x l ih =>
    intro y
    rw [List.pairwise_cons] at hl
    unfold putV
    split
    · rw [List.mem_cons, ih hl.2 (fun z hz => hv z (by simp [hz])) y, List.mem_cons, or_assoc]
    · split
      · rename_i h
        have := hv x (by simp) h
        subst this
        constructor
        · exact fun h => .inl h
        · rintro (h | rfl)
          · exact h
          · simp
      · rw [List.mem_cons, List.mem_cons]
        constructor
        · rintro (rfl | h)
          · exact .inr rfl
          · exact .inl h
        · rintro (h | rfl)
          · exact .inr h
          · exact .inl rfl
theorem putV_head {l : List Vr} {x v : Vr} (h : ∀ y ∈ l, dlt x y) (hx : dlt x v) : ∀ y ∈ putV l v, dlt x y := by
  induction l with
  | nil => intro y hy; simp [putV] at hy; subst hy; exact hx
  | cons z l ih =>
    intro y hy
    unfold putV at hy
    split at hy
    · rcases List.mem_cons.1 hy with rfl | hy
      · exact h y (by simp)
      · exact ih (fun w hw => h w (by simp [hw])) y hy
    · split at hy
      · exact h y hy
      · rcases List.mem_cons.1 hy with rfl | hy
        · exact hx
        · exact h y hy
theorem putV_rising {l : List Vr} (hl : l.Pairwise dlt) (v : Vr) : (putV l v).Pairwise dlt := by
  induction l with
  | nil => simp [putV]
  | cons x l ih =>
    rw [List.pairwise_cons] at hl
    unfold putV
    split
    · rename_i h
      exact List.pairwise_cons.2 ⟨putV_head hl.1 h, ih hl.2⟩
    · split
      · exact List.pairwise_cons.2 hl
      · rename_i h1 h2
        refine List.pairwise_cons.2 ⟨fun y hy => ?_, List.pairwise_cons.2 hl⟩
        have h3 : dlt v x := by
          rcases dlt_cases x v with h | h | h
          · exact absurd h h1
          · exact absurd h h2
          · exact h
        rcases List.mem_cons.1 hy with rfl | hy
        · exact h3
        · exact dlt_trans h3 (hl.1 y hy)

/-- Versions laid one after the other, those that some of d came behind left out. -/
def laidV (d : List Vr) (l out : List Vr) : List Vr := (l.filter fun v => !decide (behind d v.s v.n)).foldl putV out
theorem laidV_nil (d out : List Vr) : laidV d [] out = out := rfl
theorem laidV_snoc (d l out : List Vr) (v : Vr) : laidV d (l ++ [v]) out = if behind d v.s v.n then laidV d l out else putV (laidV d l out) v := by
  unfold laidV
  rw [List.filter_append, List.foldl_append]
  by_cases h : behind d v.s v.n
  · simp [h]
  · simp [h]
theorem foldV {l : List Vr} : ∀ {out : List Vr}, out.Pairwise dlt → (∀ x ∈ out ++ l, ∀ y ∈ out ++ l, same x y → x = y) → (l.foldl putV out).Pairwise dlt ∧ ∀ y, y ∈ l.foldl putV out ↔ y ∈ out ∨ y ∈ l := by
  induction l with
  | nil => intro out h _; exact ⟨h, by simp⟩
  | cons v l ih =>
    intro out h hs
    have hm := putV_mem h v (fun x hx hxv => hs x (by simp [hx]) v (by simp) hxv)
    have h2 := ih (out := putV out v) (putV_rising h v) (by
      intro x hx y hy hxy
      have key : ∀ z, z ∈ putV out v ++ l → z ∈ out ++ v :: l := by
        intro z hz
        rcases List.mem_append.1 hz with hz | hz
        · rcases (hm z).1 hz with hz | rfl
          · simp [hz]
          · simp
        · simp [hz]
      exact hs x (key x hx) y (key y hy) hxy)
    rw [List.foldl_cons]
    refine ⟨h2.1, fun y => ?_⟩
    rw [h2.2 y, hm y, List.mem_cons, or_assoc]

/-- Those of both behind which none of both came. -/
def stayF (a b : List Vr) : List Vr := laidV a b (laidV b a [])
def IsStay (a b r : List Vr) : Prop := r.Pairwise dlt ∧ ∀ v, v ∈ r ↔ (v ∈ a ∨ v ∈ b) ∧ ¬ behind a v.s v.n ∧ ¬ behind b v.s v.n
theorem stay_is {a b : List Vr} (ha : RightV a) (hb : RightV b) (ht : ¬ Twin a b) : IsStay a b (stayF a b) := by
  have hs : ∀ x, (x ∈ a ∨ x ∈ b) → ∀ y, (y ∈ a ∨ y ∈ b) → same x y → x = y := by
    intro x hx y hy hxy
    rcases hx with hx | hx
    · rcases hy with hy | hy
      · exact rising_same ha.2.1.2 hx hy hxy
      · exact Decidable.byContradiction fun h => ht ⟨x, hx, y, hy, hxy, h⟩
    · rcases hy with hy | hy
      · exact Decidable.byContradiction fun h => ht ⟨y, hy, x, hx, same_symm hxy, fun e => h e.symm⟩
      · exact rising_same hb.2.1.2 hx hy hxy
  have h1 := foldV (l := a.filter fun v => !decide (behind b v.s v.n)) (out := []) (by simp) (by
    intro x hx y hy hxy
    simp only [List.nil_append, List.mem_filter] at hx hy
    exact hs x (.inl hx.1) y (.inl hy.1) hxy)
  have h2 := foldV (l := b.filter fun v => !decide (behind a v.s v.n)) (out := laidV b a []) h1.1 (by
    intro x hx y hy hxy
    have key : ∀ z, z ∈ laidV b a [] ++ b.filter (fun v => !decide (behind a v.s v.n)) → z ∈ a ∨ z ∈ b := by
      intro z hz
      rcases List.mem_append.1 hz with hz | hz
      · have := (h1.2 z).1 hz
        simp only [List.not_mem_nil, false_or, List.mem_filter] at this
        exact .inl this.1
      · exact .inr (List.mem_filter.1 hz).1
    exact hs x (key x hx) y (key y hy) hxy)
  refine ⟨h2.1, fun v => ?_⟩
  have e2 := h2.2 v
  have e1 := h1.2 v
  simp only [List.not_mem_nil, false_or, List.mem_filter, Bool.not_eq_true', decide_eq_false_iff_not] at e1 e2
  have e : v ∈ stayF a b ↔ v ∈ laidV b a [] ∨ v ∈ b ∧ ¬ behind a v.s v.n := e2
  have e' : v ∈ laidV b a [] ↔ v ∈ a ∧ ¬ behind b v.s v.n := e1
  rw [e, e']
  constructor
  · rintro (⟨h, k⟩ | ⟨h, k⟩)
    · exact ⟨.inl h, ha.2.2 v h, k⟩
    · exact ⟨.inr h, k, hb.2.2 v h⟩
  · rintro ⟨h | h, k, k'⟩
    · exact .inl ⟨h, k'⟩
    · exact .inr ⟨h, k⟩
theorem stay_one {a b r : List Vr} (ha : RightV a) (hb : RightV b) (ht : ¬ Twin a b) (h : IsStay a b r) : r = stayF a b :=
  canonV h.1 (stay_is ha hb ht).1 fun v => by rw [h.2 v, (stay_is ha hb ht).2 v]

/-- What Merge tells: the set, the error. -/
def mergeF (a b : List Vr) : List Vr × Int :=
  if ¬ RightV a ∨ ¬ RightV b then ([], 1) else if Twin a b then ([], 50) else if 512 < (stayF a b).length then ([], 3) else (stayF a b, 0)
theorem merge_arg {a b : List Vr} (h : ¬ RightV a ∨ ¬ RightV b) : mergeF a b = ([], 1) := by unfold mergeF; rw [if_pos h]
theorem merge_twin {a b : List Vr} (ha : RightV a) (hb : RightV b) (h : Twin a b) : mergeF a b = ([], 50) := by
  unfold mergeF; rw [if_neg (by simp [ha, hb]), if_pos h]
theorem merge_long {a b : List Vr} (ha : RightV a) (hb : RightV b) (h : ¬ Twin a b) (hl : 512 < (stayF a b).length) : mergeF a b = ([], 3) := by
  unfold mergeF; rw [if_neg (by simp [ha, hb]), if_neg h, if_pos hl]
theorem merge_ok {a b : List Vr} (ha : RightV a) (hb : RightV b) (h : ¬ Twin a b) (hl : ¬ 512 < (stayF a b).length) : mergeF a b = (stayF a b, 0) := by
  unfold mergeF; rw [if_neg (by simp [ha, hb]), if_neg h, if_neg hl]
def lacksF (a b : List Vr) : Bool := decide ((mergeF a b).2 = 0 ∧ (mergeF a b).1 ≠ a)
/-- The set of those that stay is right. -/
theorem merge_right {a b r : List Vr} (h : mergeF a b = (r, 0)) : RightV a ∧ RightV b ∧ ¬ Twin a b ∧ r = stayF a b ∧ RightV r := by
  unfold mergeF at h
  split at h
  · simp at h
  · rename_i h1
    have ha : RightV a := Decidable.byContradiction fun k => h1 (.inl k)
    have hb : RightV b := Decidable.byContradiction fun k => h1 (.inr k)
    split at h
    · simp at h
    · rename_i h2
      split at h
      · simp at h
      · rename_i h3
        simp only [Prod.mk.injEq, and_true] at h
        subst h
        have hs := stay_is ha hb h2
        refine ⟨ha, hb, h2, rfl, by omega, ⟨fun v hv => ?_, hs.1⟩, fun v hv => ?_⟩
        · rcases ((hs.2 v).1 hv).1 with h | h
          · exact ha.2.1.1 v h
          · exact hb.2.1.1 v h
        · rintro ⟨x, hx, hm⟩
          have h4 := ((hs.2 v).1 hv).2
          rcases ((hs.2 x).1 hx).1 with h | h
          · exact h4.1 ⟨x, h, hm⟩
          · exact h4.2 ⟨x, h, hm⟩
end Vers
end Go.Proofs.YtegiigeelcnemaaGreat

/-
  A slice of versions read as a list: five cells each, of which one is the slice of the spans of its past.
-/
namespace Go.Proofs.YtegiigeelcnemaaGreat
namespace Vers
open Go.RowKit Span

/-- A version's value: the past stands at A. -/
def vv (A : Option Addr) (c : Nat) (v : Vr) : Value := .agg #[.int .i64 v.s, .int .i64 v.n, .slice A v.past.length c, .bool v.gone, .string v.val]
/-- The past of a version stands at A, between the blocks L and B. -/
def Pa (w : World) (L B : Nat) (A : Option Addr) (c : Nat) (v : Vr) : Prop :=
  Ss w B A v.past ∧ v.past.length ≤ c ∧ v.past.length ≤ 140737488355328 ∧ v.val.size ≤ 140737488355328 ∧ (0 < v.past.length → ∀ a, A = some a → L ≤ a.block)
/-- A version stands at a place. -/
def Vat (w : World) (L B b off : Nat) (v : Vr) (A : Option Addr) (c : Nat) : Prop :=
  w.cell? ⟨b, off, none⟩ = some (.int .i64 v.s) ∧ w.cell? ⟨b, off + 1, none⟩ = some (.int .i64 v.n) ∧ w.cell? ⟨b, off + 2, none⟩ = some (.slice A v.past.length c) ∧
  w.cell? ⟨b, off + 3, none⟩ = some (.bool v.gone) ∧ w.cell? ⟨b, off + 4, none⟩ = some (.string v.val) ∧ Pa w L B A c v
/-- From the address A on stand the versions l, they and their pasts in blocks from L on and below B. -/
def Vs (w : World) (L B : Nat) (A : Option Addr) (l : List Vr) : Prop :=
  0 < l.length → ∃ b off, A = some ⟨b, off, none⟩ ∧ L ≤ b ∧ b < B ∧ ∀ j, j < l.length → ∃ A' c', Vat w L B b (off + j * 5) (l.getD j v0) A' c'

section
variable {w w' : World} {L L' B B' b off c : Nat} {A : Option Addr} {l : List Vr} {l' : List Sp} {v : Vr}
theorem Ss.high (h : Ss w B A l') (hl : 0 < l'.length → ∀ a, A = some a → L ≤ a.block) (hk : ∀ p : Addr, L ≤ p.block → p.block < B → w'.cell? p = w.cell? p) : Ss w' B A l' := fun hp => by
  obtain ⟨b, off, e, hb, hc⟩ := h hp
  have hL : L ≤ b := hl hp _ e
  exact ⟨b, off, e, hb, fun j hj => ⟨(hk ⟨b, _, none⟩ hL hb).trans (hc j hj).1, (hk ⟨b, _, none⟩ hL hb).trans (hc j hj).2.1, (hk ⟨b, _, none⟩ hL hb).trans (hc j hj).2.2⟩⟩
theorem Pa.keep (h : Pa w L B A c v) (hk : ∀ p : Addr, L ≤ p.block → p.block < B → w'.cell? p = w.cell? p) : Pa w' L B A c v := ⟨Ss.high h.1 h.2.2.2.2 hk, h.2⟩
theorem Pa.more (h : Pa w L B A c v) (hB : B ≤ B') : Pa w L B' A c v := ⟨h.1.more hB, h.2⟩
theorem Pa.less (h : Pa w L B A c v) (hL : L' ≤ L) : Pa w L' B A c v := ⟨h.1, h.2.1, h.2.2.1, h.2.2.2.1, fun hp a ha => Nat.le_trans hL (h.2.2.2.2 hp a ha)⟩
theorem Pa.below (h : Pa w L B A c v) (hb : Below B w w') : Pa w' L B A c v := h.keep fun _ _ hp => hb.cell hp
theorem Pa.alloc (h : Pa w L B A c v) (hB : B ≤ w.heap.size) (o : Obj) : Pa (w.alloc o) L B A c v := h.keep fun p _ hp => World.cell?_alloc_lt w o p (by omega)
theorem Vat.keep (h : Vat w L B b off v A c) (hL : L ≤ b) (hb : b < B) (hk : ∀ p : Addr, L ≤ p.block → p.block < B → w'.cell? p = w.cell? p) : Vat w' L B b off v A c := by
  obtain ⟨h0, h1, h2, h3, h4, h5⟩ := h
  exact ⟨(hk ⟨b, _, none⟩ hL hb).trans h0, (hk ⟨b, _, none⟩ hL hb).trans h1, (hk ⟨b, _, none⟩ hL hb).trans h2, (hk ⟨b, _, none⟩ hL hb).trans h3, (hk ⟨b, _, none⟩ hL hb).trans h4, h5.keep hk⟩
theorem Vs.nil (A : Option Addr) : Vs w L B A [] := fun h => absurd h (by simp)
theorem Vs.keep (h : Vs w L B A l) (hk : ∀ p : Addr, L ≤ p.block → p.block < B → w'.cell? p = w.cell? p) : Vs w' L B A l := fun hp => by
  obtain ⟨b, off, e, hL, hb, hc⟩ := h hp
  refine ⟨b, off, e, hL, hb, fun j hj => ?_⟩
  obtain ⟨A', c', h1⟩ := hc j hj
  exact ⟨A', c', h1.keep hL hb hk⟩
theorem Vs.more (h : Vs w L B A l) (hB : B ≤ B') : Vs w L B' A l := fun hp => by
  obtain ⟨b, off, e, hL, hb, hc⟩ := h hp
  refine ⟨b, off, e, hL, by omega, fun j hj => ?_⟩
  obtain ⟨A', c', h0, h1, h2, h3, h4, h5⟩ := hc j hj
  exact ⟨A', c', h0, h1, h2, h3, h4, h5.more hB⟩
theorem Vs.less (h : Vs w L B A l) (hL : L' ≤ L) : Vs w L' B A l := fun hp => by
  obtain ⟨b, off, e, hLb, hb, hc⟩ := h hp
  refine ⟨b, off, e, by omega, hb, fun j hj => ?_⟩
  obtain ⟨A', c', h0, h1, h2, h3, h4, h5⟩ := hc j hj
  exact ⟨A', c', h0, h1, h2, h3, h4, h5.less hL⟩
theorem Vs.below (h : Vs w L B A l) (hb : Below B w w') : Vs w' L B A l := h.keep fun _ _ hp => hb.cell hp
theorem Vs.drewN (h : Vs w L B A l) (n : Nat) : Vs (w.drewN n) L B A l := h.keep fun _ _ _ => rfl
theorem Vs.alloc (h : Vs w L B A l) (hB : B ≤ w.heap.size) (o : Obj) : Vs (w.alloc o) L B A l := h.keep fun p _ hp => World.cell?_alloc_lt w o p (by omega)
/-- One of them, in a later world. -/
theorem Vs.at {n k : Nat} (h : Vs w L B A l) (hn : l.length = n) (hb : Below B w w') (hk : k < n) (hv : l.getD k v0 = v) : ∃ b off A' c', A = some ⟨b, off, none⟩ ∧ L ≤ b ∧ b < B ∧ Vat w' L B b (off + k * 5) v A' c' := by
  obtain ⟨b, off, e, hL, hbB, hc⟩ := (h.below hb) (by omega)
  obtain ⟨A', c', h1⟩ := hc k (by omega)
  rw [hv] at h1
  exact ⟨b, off, A', c', e, hL, hbB, h1⟩
end
end Vers
end Go.Proofs.YtegiigeelcnemaaGreat

/-
  How dots are compared: vers.compare, firthref05.Less; the list of one dot.
-/
namespace Go.Proofs.YtegiigeelcnemaaGreat
namespace Vers
open Go.RowKit Span
attribute [local go_sem ↓] Go.wp_at_zero Go.wp_at_succ

def cmpI (x y : Int) : Int := if x < y then -1 else if y < x then 1 else 0
def cmpD (s n s' n' : Int) : Int := if cmpI s s' = 0 then cmpI n n' else cmpI s s'
theorem cmpD_lt (s n s' n' : Int) : cmpD s n s' n' < 0 ↔ s < s' ∨ (s = s' ∧ n < n') := by
  unfold cmpD cmpI
  repeat' split
  all_goals omega
theorem cmpD_le (s n s' n' : Int) : cmpD s n s' n' ≤ 0 ↔ s < s' ∨ (s = s' ∧ n ≤ n') := by
  unfold cmpD cmpI
  repeat' split
  all_goals omega

theorem cmp_int (x y : Int) (w : World) : Calls Tryz.prog 116 #[.int .i64 x, .int .i64 y] w fun e w' => e = .returned (.int .i64 (cmpI x y)) ∧ w = w' := by
  have hN : ∀ (z : Int) (W : World), Calls Tryz.prog 124 #[.int .i64 z] W fun e w' => e = .returned (.bool false) ∧ W = w' := by
    intro z W
    go_enter Tryz.func124, Tryz.ntmps124
    go_wp2
    go_ret
    exact ⟨by simp, rfl⟩
  have H := Lib.hid hN
  clear hN
  rcases Int.lt_trichotomy x y with h | rfl | h
  · have h1 : decide (x < y) = true := decide_eq_true h
    have hr : cmpI x y = -1 := by unfold cmpI; rw [if_pos h]
    have HR := Lib.hid hr
    clear hr h
    go_enter Tryz.func116, Tryz.ntmps116
    go_wp2_with (go_at_call 124; refine (H.out _ _).mono ?_; rintro e w' ⟨rfl, rfl⟩)
    go_ret
    exact ⟨by rw [HR.out]; rfl, rfl⟩
  · have h1 : decide (x < x) = false := decide_eq_false (by omega)
    have hr : cmpI x x = 0 := by unfold cmpI; rw [if_neg (by omega), if_neg (by omega)]
    have HR := Lib.hid hr
    clear hr
    go_enter Tryz.func116, Tryz.ntmps116
    go_wp2_with (go_at_call 124; refine (H.out _ _).mono ?_; rintro e w' ⟨rfl, rfl⟩)
    go_ret
    exact ⟨by rw [HR.out]; rfl, rfl⟩
  · have h1 : decide (x < y) = false := decide_eq_false (by omega)
    have h2 : decide (y < x) = true := decide_eq_true h
    have hr : cmpI x y = 1 := by unfold cmpI; rw [if_neg (by omega), if_pos h]
    have HR := Lib.hid hr
    clear hr h
    go_enter Tryz.func116, Tryz.ntmps116
    go_wp2_with (go_at_call 124; refine (H.out _ _).mono ?_; rintro e w' ⟨rfl, rfl⟩)
    go_ret
    exact ⟨by rw [HR.out]; rfl, rfl⟩

theorem cmp_int64 (x y : Int) (w : World) : Calls Tryz.prog 117 #[.int .i64 x, .int .i64 y] w fun e w' => e = .returned (.int .i64 (cmpI x y)) ∧ w = w' := by
  have hN : ∀ (z : Int) (W : World), Calls Tryz.prog 125 #[.int .i64 z] W fun e w' => e = .returned (.bool false) ∧ W = w' := by
    intro z W
    go_enter Tryz.func125, Tryz.ntmps125
    go_wp2
    go_ret
    exact ⟨by simp, rfl⟩
  have H := Lib.hid hN
  clear hN
  rcases Int.lt_trichotomy x y with h | rfl | h
  · have h1 : decide (x < y) = true := decide_eq_true h
    have hr : cmpI x y = -1 := by unfold cmpI; rw [if_pos h]
    have HR := Lib.hid hr
    clear hr h
    go_enter Tryz.func117, Tryz.ntmps117
    go_wp2_with (go_at_call 125; refine (H.out _ _).mono ?_; rintro e w' ⟨rfl, rfl⟩)
    go_ret
    exact ⟨by rw [HR.out]; rfl, rfl⟩
  · have h1 : decide (x < x) = false := decide_eq_false (by omega)
    have hr : cmpI x x = 0 := by unfold cmpI; rw [if_neg (by omega), if_neg (by omega)]
    have HR := Lib.hid hr
    clear hr
    go_enter Tryz.func117, Tryz.ntmps117
    go_wp2_with (go_at_call 125; refine (H.out _ _).mono ?_; rintro e w' ⟨rfl, rfl⟩)
    go_ret
    exact ⟨by rw [HR.out]; rfl, rfl⟩
  · have h1 : decide (x < y) = false := decide_eq_false (by omega)
    have h2 : decide (y < x) = true := decide_eq_true h
    have hr : cmpI x y = 1 := by unfold cmpI; rw [if_neg (by omega), if_pos h]
    have HR := Lib.hid hr
    clear hr h
    go_enter Tryz.func117, Tryz.ntmps117
    go_wp2_with (go_at_call 125; refine (H.out _ _).mono ?_; rintro e w' ⟨rfl, rfl⟩)
    go_ret
    exact ⟨by rw [HR.out]; rfl, rfl⟩

/-- cmp.Or of two numbers that lie in a block. -/
theorem or_two (p q : Int) (b : Nat) (w : World) (h0 : w.cell? ⟨b, 0, none⟩ = some (.int .i64 p)) (h1 : w.cell? ⟨b, 1, none⟩ = some (.int .i64 q)) :
    Calls Tryz.prog 115 #[.slice (some ⟨b, 0, none⟩) 2 2] w fun e w' => e = .returned (.int .i64 (if p = 0 then q else p)) ∧ w = w' := by
  by_cases hp : p = 0
  · subst hp
    rw [if_pos rfl]
    by_cases hq : q = 0
    · subst hq
      go_enter Tryz.func115, Tryz.ntmps115
      go_wp2
      go_loopw [5, 8] (fun _ q wr => ∃ k : Nat, q = .int .i64 k ∧ k ≤ 2 ∧ w = wr) (fun _ q _ => 2 - (intOf q).toNat)
      case atStart => exact ⟨0, rfl, by omega, rfl⟩
      case round =>
        obtain ⟨k, rfl, hk, rfl⟩ := hrel
        match k, hk with
        | 0, _ =>
          go_wp2
          exact ⟨⟨1, rfl, by omega, trivial⟩, by simp only [intOf]; omega⟩
        | 1, _ =>
          go_wp2
          exact ⟨⟨2, rfl, by omega, trivial⟩, by simp only [intOf]; omega⟩
        | 2, _ =>
          go_wp2
          go_ret
          exact ⟨rfl, rfl⟩
    · have g1 : (q == 0) = false := by simpa using hq
      have g2 : ¬ (q = 0) := hq
      go_enter Tryz.func115, Tryz.ntmps115
      go_wp2
      go_loopw [5, 8] (fun _ q wr => ∃ k : Nat, q = .int .i64 k ∧ k ≤ 1 ∧ w = wr) (fun _ q _ => 2 - (intOf q).toNat)
      case atStart => exact ⟨0, rfl, by omega, rfl⟩
      case round =>
        obtain ⟨k, rfl, hk, rfl⟩ := hrel
        match k, hk with
        | 0, _ =>
          go_wp2
          exact ⟨⟨1, rfl, by omega, trivial⟩, by simp only [intOf]; omega⟩
        | 1, _ =>
          go_wp2
          go_ret
          exact ⟨rfl, rfl⟩
  · rw [if_neg hp]
    have g1 : (p == 0) = false := by simpa using hp
    go_enter Tryz.func115, Tryz.ntmps115
    go_wp2
    go_loopw [5, 8] (fun _ q wr => q = .int .i64 0 ∧ w = wr) (fun _ q _ => 2 - (intOf q).toNat)
    case atStart => exact ⟨rfl, rfl⟩
    case round =>
      obtain ⟨rfl, rfl⟩ := hrel
      go_wp2
      go_ret
      exact ⟨rfl, rfl⟩

set_option maxHeartbeats 1000000 in
theorem compare_any (s n s' n' : Int) (w : World) : Calls Tryz.prog 74 #[.agg #[.int .i64 s, .int .i64 n], .agg #[.int .i64 s', .int .i64 n']] w fun e w' => e = .returned (.int .i64 (cmpD s n s' n')) ∧ Below w.heap.size w w' := by
  have H1 := Lib.hid (fun W => cmp_int s s' W)
  have H2 := Lib.hid (fun W => cmp_int64 n n' W)
  have hr : (if cmpI s s' = 0 then cmpI n n' else cmpI s s') = cmpD s n s' n' := rfl
  obtain ⟨p, hp⟩ : ∃ p, cmpI s s' = p := ⟨_, rfl⟩
  obtain ⟨q, hq⟩ : ∃ q, cmpI n n' = q := ⟨_, rfl⟩
  rw [hp, hq] at hr
  have H1' : Hid (∀ W, Calls Tryz.prog 116 #[.int .i64 s, .int .i64 s'] W fun e w' => e = .returned (.int .i64 p) ∧ W = w') := by rw [← hp]; exact H1
  have H2' : Hid (∀ W, Calls Tryz.prog 117 #[.int .i64 n, .int .i64 n'] W fun e w' => e = .returned (.int .i64 q) ∧ W = w') := by rw [← hq]; exact H2
  obtain ⟨r, hr'⟩ : ∃ r, (if p = 0 then q else p) = r := ⟨_, rfl⟩
  have H3 := Lib.hid (fun b W h0 h1 => hr' ▸ or_two p q b W h0 h1)
  have HR := Lib.hid (hr'.symm.trans hr)
  clear H1 H2 hp hq hr hr'
  go_enter Tryz.func74, Tryz.ntmps74
  go_wp2
  obtain ⟨W, hW⟩ : ∃ W, (w.alloc (.cells #[.int .i64 s, .int .i64 n] 103)).alloc (.cells #[.int .i64 s', .int .i64 n'] 103) = W := ⟨_, rfl⟩
  have a0 : W.cell? ⟨w.heap.size, 0, none⟩ = some (.int .i64 s) := by rw [← hW]; simp
  have a1 : W.cell? ⟨w.heap.size, 1, none⟩ = some (.int .i64 n) := by rw [← hW]; simp
  have a2 : W.cell? ⟨w.heap.size + 1, 0, none⟩ = some (.int .i64 s') := by rw [← hW]; simp
  have a3 : W.cell? ⟨w.heap.size + 1, 1, none⟩ = some (.int .i64 n') := by rw [← hW]; simp
  have b0 : Below w.heap.size w W := by rw [← hW]; exact ((Below.refl _ w).alloc (Nat.le_refl _) _).alloc (by simp) _
  have hs : W.heap.size = w.heap.size + 2 := by rw [← hW]; simp
  rw [hW]
  clear hW
  have HB := Lib.hid (b0.alloc (by rw [hs]; omega) (.cells #[.int .i64 p, .int .i64 q] 3))
  obtain ⟨m, hm⟩ : ∃ m, w.heap.size = m := ⟨_, rfl⟩
  rw [hm] at a0 a1 a2 a3 hs ⊢
  clear hm b0
  have l0 : m < W.heap.size := by omega
  have l1 : m + 1 < W.heap.size := by omega
  clear hs
  go_region_held3 (fun V => V.cell? ⟨m, 0, none⟩ = some (.int .i64 s) ∧ V.cell? ⟨m, 1, none⟩ = some (.int .i64 n) ∧ V.cell? ⟨m + 1, 0, none⟩ = some (.int .i64 s') ∧ V.cell? ⟨m + 1, 1, none⟩ = some (.int .i64 n'))
    (first | exact ⟨a0, a1, a2, a3⟩ | exact ⟨(World.cell?_alloc_lt _ _ _ l0).trans a0, (World.cell?_alloc_lt _ _ _ l0).trans a1, (World.cell?_alloc_lt _ _ _ l1).trans a2, (World.cell?_alloc_lt _ _ _ l1).trans a3⟩)
    (first
      | (go_at_call 116; refine (H1'.out _).mono ?_; rintro e w1 ⟨rfl, rfl⟩)
      | (go_at_call 117; refine (H2'.out _).mono ?_; rintro e w1 ⟨rfl, rfl⟩)
      | (go_at_call 115; refine (H3.out _ _ (by simp) (by simp)).mono ?_; rintro e w1 ⟨rfl, rfl⟩))
  all_goals
    go_wp2
    go_ret
    exact ⟨by rw [HR.out]; rfl, HB.out.drew⟩

theorem less_any (s n s' n' : Int) (w : World) : Calls Tryz.prog 60 #[.agg #[.int .i64 s, .int .i64 n], .agg #[.int .i64 s', .int .i64 n']] w fun e w' => e = .returned (.bool (decide (s < s' ∨ (s = s' ∧ n < n')))) ∧ Below w.heap.size w w' := by
  obtain ⟨R, hR⟩ : ∃ R, decide (s < s' ∨ (s = s' ∧ n < n')) = R := ⟨_, rfl⟩
  rw [hR]
  by_cases h : s = s'
  · have HR := Lib.hid (show R = decide (n < n') by rw [← hR]; simp [h])
    subst h
    have g : (s == s) = true := by simp
    clear hR
    go_enter Tryz.func60, Tryz.ntmps60
    go_wp2
    go_ret
    exact ⟨by rw [HR.out]; rfl, ((Below.refl _ w).alloc (Nat.le_refl _) _).alloc (by simp) _⟩
  · have HR := Lib.hid (show R = decide (s < s') by rw [← hR]; simp [h])
    have g : (s == s') = false := by simp [h]
    clear h hR
    go_enter Tryz.func60, Tryz.ntmps60
    go_wp2
    go_ret
    exact ⟨by rw [HR.out]; rfl, ((Below.refl _ w).alloc (Nat.le_refl _) _).alloc (by simp) _⟩

/-- The list of one dot. -/
def DotList (s n : Int) (w : World) (e : Ending) (w' : World) : Prop := ∃ A, e = .returned (.slice A 1 1) ∧ Ss w' w'.heap.size A [(s, n, n)] ∧ Below w.heap.size w w'
theorem dotlist_any (s n : Int) (w : World) : Calls Tryz.prog 113 #[.agg #[.int .i64 s, .int .i64 n]] w (DotList s n w) := by
  go_enter Tryz.func113, Tryz.ntmps113
  go_wp2
  go_ret
  refine ⟨_, rfl, fun _ => ⟨_, _, rfl, by simp, fun j hj => ?_⟩, ((Below.refl _ w).alloc (Nat.le_refl _) _).alloc (by simp) _⟩
  match j, hj with
  | 0, _ => simp
end Vers
end Go.Proofs.YtegiigeelcnemaaGreat
