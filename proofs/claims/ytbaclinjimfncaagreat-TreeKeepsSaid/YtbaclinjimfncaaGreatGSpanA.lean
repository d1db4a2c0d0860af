/-
  Several texts of this family in one: SpanBase, SpanPlain, SpanRow, VersPlain, SpanOwn, SpanRight.
-/
import Derived.Test.YtbaclinjimfncaaGreatGBase
import Derived.Deep.Slices
import Derived.Deep.Fields
import Derived.Lib.SmallJoins
import Derived.Test.YtbaclinjimfncaaGreatRows
import Derived.Deep.RegionHeld3
import Derived.Deep.DrawnRows
import Derived.IntWalk
/-
  A slice of spans read as a list of triples: site, from, to.
-/
namespace Go.Proofs.YtbaclinjimfncaaGreat
open Go.RowKit

/-- A span: site, from, to. -/
abbrev Sp := Int × Int × Int
/-- From the address A on stand the spans l, in a block below B. -/
def Ss (w : World) (B : Nat) (A : Option Addr) (l : List Sp) : Prop :=
  0 < l.length → ∃ b off, A = some ⟨b, off, none⟩ ∧ b < B ∧ ∀ j, j < l.length →
    w.cell? ⟨b, off + j * 3, none⟩ = some (.int .i64 (l.getD j (0, 0, 0)).1) ∧ w.cell? ⟨b, off + j * 3 + 1, none⟩ = some (.int .i64 (l.getD j (0, 0, 0)).2.1) ∧ w.cell? ⟨b, off + j * 3 + 2, none⟩ = some (.int .i64 (l.getD j (0, 0, 0)).2.2)
section
variable {w w' : World} {B B' : Nat} {A : Option Addr} {l : List Sp}
theorem Ss.nil (A : Option Addr) : Ss w B A [] := fun h => absurd h (by simp)
theorem Ss.keep (h : Ss w B A l) (hk : ∀ p : Addr, p.block < B → w'.cell? p = w.cell? p) : Ss w' B A l := fun hp => by
  obtain ⟨b, off, e, hb, hc⟩ := h hp
  exact ⟨b, off, e, hb, fun j hj => ⟨(hk _ hb).trans (hc j hj).1, (hk _ hb).trans (hc j hj).2.1, (hk _ hb).trans (hc j hj).2.2⟩⟩
theorem Ss.more (h : Ss w B A l) (hB : B ≤ B') : Ss w B' A l := fun hp => by
  obtain ⟨b, off, e, hb, hc⟩ := h hp
  exact ⟨b, off, e, by omega, hc⟩
theorem Ss.below (h : Ss w B A l) (hb : Below B w w') : Ss w' B A l := h.keep fun _ hp => hb.cell hp
theorem Ss.drew (h : Ss w B A l) : Ss w.drew B A l := h
theorem Ss.drewN (h : Ss w B A l) (n : Nat) : Ss (w.drewN n) B A l := h
theorem Ss.alloc (h : Ss w B A l) (hB : B ≤ w.heap.size) (o : Obj) : Ss (w.alloc o) B A l := h.keep fun p hp => World.cell?_alloc_lt w o p (by omega)
end
end Go.Proofs.YtbaclinjimfncaaGreat

/-
  Spans as sets of dots, on plain lists: which lists are right, and that two right lists of the same dots are the same.
-/
namespace Go.Proofs.YtbaclinjimfncaaGreat
namespace Span

def okSp (x : Sp) : Prop := 1 ≤ x.1 ∧ x.1 ≤ 16 ∧ 1 ≤ x.2.1 ∧ x.2.1 ≤ x.2.2 ∧ x.2.2 ≤ 4611686018427387904
def apart (a b : Sp) : Prop := a.1 < b.1 ∨ (a.1 = b.1 ∧ a.2.2 + 1 < b.2.1)
def inSp (x : Sp) (s n : Int) : Prop := x.1 = s ∧ x.2.1 ≤ n ∧ n ≤ x.2.2
def mem (l : List Sp) (s n : Int) : Prop := ∃ x ∈ l, inSp x s n
def Fine (l : List Sp) : Prop := (∀ x ∈ l, okSp x) ∧ l.Pairwise apart
instance (x : Sp) : Decidable (okSp x) := by unfold okSp; infer_instance
instance (a b : Sp) : Decidable (apart a b) := by unfold apart; infer_instance
instance (x : Sp) (s n : Int) : Decidable (inSp x s n) := by unfold inSp; infer_instance
instance (l : List Sp) (s n : Int) : Decidable (mem l s n) := by unfold mem; infer_instance
instance (l : List Sp) : Decidable (Fine l) := by unfold Fine; infer_instance
def Right (l : List Sp) : Prop := l.length ≤ 1024 ∧ Fine l
instance (l : List Sp) : Decidable (Right l) := by unfold Right; infer_instance

theorem apart_trans {a b c : Sp} (hb : okSp b) (h1 : apart a b) (h2 : apart b c) : apart a c := by
  unfold apart okSp at *
  omega
theorem fine_nil : Fine [] := ⟨by simp, List.Pairwise.nil⟩
theorem fine_one {x : Sp} (h : okSp x) : Fine [x] := ⟨by simpa using h, by simp⟩
theorem fine_cons {x : Sp} {l : List Sp} : Fine (x :: l) ↔ okSp x ∧ (∀ y ∈ l, apart x y) ∧ Fine l := by
  unfold Fine
  rw [List.pairwise_cons]
  constructor
  · rintro ⟨h1, h2, h3⟩
    exact ⟨h1 x (by simp), h2, fun y hy => h1 y (by simp [hy]), h3⟩
  · rintro ⟨h1, h2, h3, h4⟩
    refine ⟨fun y hy => ?_, h2, h4⟩
    rcases List.mem_cons.1 hy with rfl | hy
    · exact h1
    · exact h3 y hy
theorem fine_snoc {x : Sp} {l : List Sp} : Fine (l ++ [x]) ↔ Fine l ∧ okSp x ∧ ∀ y ∈ l, apart y x := by
  unfold Fine
  rw [List.pairwise_append]
  constructor
  · rintro ⟨h1, h2, _, h4⟩
    exact ⟨⟨fun y hy => h1 y (by simp [hy]), h2⟩, h1 x (by simp), fun y hy => h4 y hy x (by simp)⟩
  · rintro ⟨⟨h1, h2⟩, h3, h4⟩
    refine ⟨fun y hy => ?_, h2, by simp, fun y hy z hz => ?_⟩
    · rcases List.mem_append.1 hy with hy | hy
      · exact h1 y hy
      · rw [List.mem_singleton.1 hy]; exact h3
    · rw [List.mem_singleton.1 hz]; exact h4 y hy
theorem fine_left {l m : List Sp} (h : Fine (l ++ m)) : Fine l := ⟨fun x hx => h.1 x (by simp [hx]), (List.pairwise_append.1 h.2).1⟩
theorem fine_next {x z : Sp} {l : List Sp} (h : Fine (l ++ [z])) (hx : okSp x) (ha : apart z x) : Fine (l ++ [z] ++ [x]) := by
  rw [fine_snoc]
  have h' := fine_snoc.1 h
  refine ⟨h, hx, fun y hy => ?_⟩
  rcases List.mem_append.1 hy with hy | hy
  · exact apart_trans h'.2.1 (h'.2.2 y hy) ha
  · rw [List.mem_singleton.1 hy]; exact ha
/-- Two spans of a right list are the same, or apart. -/
theorem fine_two {l : List Sp} (h : Fine l) {y z : Sp} (hy : y ∈ l) (hz : z ∈ l) : y = z ∨ apart y z ∨ apart z y := by
  induction l with
  | nil => simp at hy
  | cons x l ih =>
    have h' := fine_cons.1 h
    rcases List.mem_cons.1 hy with e1 | hy'
    · rcases List.mem_cons.1 hz with e2 | hz'
      · exact .inl (e1.trans e2.symm)
      · exact .inr (.inl (e1 ▸ h'.2.1 z hz'))
    · rcases List.mem_cons.1 hz with e2 | hz'
      · exact .inr (.inr (e2 ▸ h'.2.1 y hy'))
      · exact ih h'.2.2 hy' hz'

theorem mem_nil (s n : Int) : ¬ mem [] s n := by simp [mem]
theorem mem_cons (x : Sp) (l : List Sp) (s n : Int) : mem (x :: l) s n ↔ inSp x s n ∨ mem l s n := by simp [mem]
theorem mem_append (l m : List Sp) (s n : Int) : mem (l ++ m) s n ↔ mem l s n ∨ mem m s n := by
  unfold mem
  constructor
  · rintro ⟨x, hx, h⟩
    rcases List.mem_append.1 hx with hx | hx
    · exact .inl ⟨x, hx, h⟩
    · exact .inr ⟨x, hx, h⟩
  · rintro (⟨x, hx, h⟩ | ⟨x, hx, h⟩)
    · exact ⟨x, by simp [hx], h⟩
    · exact ⟨x, by simp [hx], h⟩
theorem mem_one (x : Sp) (s n : Int) : mem [x] s n ↔ inSp x s n := by simp [mem]

/-- All dots of what stands behind x begin behind x. -/
theorem behind {x : Sp} {l : List Sp} (h : ∀ y ∈ l, apart x y) {s n : Int} (hm : mem l s n) : x.1 < s ∨ (x.1 = s ∧ x.2.2 + 1 < n) := by
  obtain ⟨y, hy, h1, h2, h3⟩ := hm
  have := h y hy
  unfold apart at this
  omega

/-- TWO RIGHT LISTS OF THE SAME DOTS ARE THE SAME. -/
theorem canon : ∀ {l m : List Sp}, Fine l → Fine m → (∀ s n, mem l s n ↔ mem m s n) → l = m
  | [], [], _, _, _ => rfl
  | [], y :: m, _, hm, h => by
    have h1 := (fine_cons.1 hm).1
    exact absurd ((h y.1 y.2.1).2 ((mem_cons _ _ _ _).2 (.inl ⟨rfl, by omega, h1.2.2.2.1⟩))) (mem_nil _ _)
  | x :: l, [], hl, _, h => by
    have h1 := (fine_cons.1 hl).1
    exact absurd ((h x.1 x.2.1).1 ((mem_cons _ _ _ _).2 (.inl ⟨rfl, by omega, h1.2.2.2.1⟩))) (mem_nil _ _)
  | x :: l, y :: m, hl, hm, h => by
    obtain ⟨hx, hxl, hl'⟩ := fine_cons.1 hl
    obtain ⟨hy, hym, hm'⟩ := fine_cons.1 hm
    have hx4 := hx.2.2.2.1
    have hy4 := hy.2.2.2.1
    have e1 := (mem_cons _ _ _ _).1 ((h x.1 x.2.1).1 ((mem_cons _ _ _ _).2 (.inl ⟨rfl, by omega, hx4⟩)))
    have e2 := (mem_cons _ _ _ _).1 ((h y.1 y.2.1).2 ((mem_cons _ _ _ _).2 (.inl ⟨rfl, by omega, hy4⟩)))
    have b1 : (y.1 = x.1 ∧ y.2.1 ≤ x.2.1 ∧ x.2.1 ≤ y.2.2) ∨ (y.1 < x.1 ∨ (y.1 = x.1 ∧ y.2.2 + 1 < x.2.1)) := e1.imp id (behind hym)
    have b2 : (x.1 = y.1 ∧ x.2.1 ≤ y.2.1 ∧ y.2.1 ≤ x.2.2) ∨ (x.1 < y.1 ∨ (x.1 = y.1 ∧ x.2.2 + 1 < y.2.1)) := e2.imp id (behind hxl)
    have h1 : x.1 = y.1 := by omega
    have h2 : x.2.1 = y.2.1 := by omega
    have h3 : x.2.2 = y.2.2 := by
      rcases Int.lt_trichotomy x.2.2 y.2.2 with hlt | he | hgt
      · exfalso
        have e3 := (mem_cons _ _ _ _).1 ((h x.1 (x.2.2 + 1)).2 ((mem_cons _ _ _ _).2 (.inl ⟨h1.symm, by omega, by omega⟩)))
        have b3 : (x.1 = x.1 ∧ x.2.1 ≤ x.2.2 + 1 ∧ x.2.2 + 1 ≤ x.2.2) ∨ (x.1 < x.1 ∨ (x.1 = x.1 ∧ x.2.2 + 1 < x.2.2 + 1)) := e3.imp id (behind hxl)
        omega
      · exact he
      · exfalso
        have e3 := (mem_cons _ _ _ _).1 ((h y.1 (y.2.2 + 1)).1 ((mem_cons _ _ _ _).2 (.inl ⟨h1, by omega, by omega⟩)))
        have b3 : (y.1 = y.1 ∧ y.2.1 ≤ y.2.2 + 1 ∧ y.2.2 + 1 ≤ y.2.2) ∨ (y.1 < y.1 ∨ (y.1 = y.1 ∧ y.2.2 + 1 < y.2.2 + 1)) := e3.imp id (behind hym)
        omega
    have hxy : x = y := Prod.ext h1 (Prod.ext h2 h3)
    subst hxy
    have key : ∀ s n, mem l s n ↔ mem m s n := by
      intro s n
      have ho := h s n
      rw [mem_cons, mem_cons] at ho
      constructor
      · intro hq
        rcases ho.1 (.inr hq) with h5 | h5
        · have b := behind hxl hq
          have h5' : x.1 = s ∧ x.2.1 ≤ n ∧ n ≤ x.2.2 := h5
          omega
        · exact h5
      · intro hq
        rcases ho.2 (.inr hq) with h5 | h5
        · have b := behind hym hq
          have h5' : x.1 = s ∧ x.2.1 ≤ n ∧ n ≤ x.2.2 := h5
          omega
        · exact h5
    rw [canon hl' hm' key]

/-- A row of dots of one site, all in a right list, is in one span of it. -/
theorem within_one {b : List Sp} (h : Fine b) {x : Sp} (hx : okSp x) (hs : ∀ n, x.2.1 ≤ n → n ≤ x.2.2 → mem b x.1 n) : ∃ y ∈ b, y.1 = x.1 ∧ y.2.1 ≤ x.2.1 ∧ x.2.2 ≤ y.2.2 := by
  have hx4 := hx.2.2.2.1
  obtain ⟨y, hy, y1, y2, y3⟩ := hs x.2.1 (by omega) hx4
  rcases Int.lt_or_le y.2.2 x.2.2 with hlt | hle
  · exfalso
    obtain ⟨z, hz, z1, z2, z3⟩ := hs (y.2.2 + 1) (by omega) (by omega)
    rcases fine_two h hy hz with rfl | h1 | h1
    · omega
    · unfold apart at h1; omega
    · unfold apart at h1; omega
  · exact ⟨y, hy, y1, y2, hle⟩

/-! ### What comes of two sets -/
def IsJoin (a b r : List Sp) : Prop := Fine r ∧ ∀ s n, mem r s n ↔ mem a s n ∨ mem b s n
theorem IsJoin.same {a b r r' : List Sp} (h : IsJoin a b r) (h' : IsJoin a b r') : r = r' := canon h.1 h'.1 fun s n => (h.2 s n).trans (h'.2 s n).symm
def Sub (a b : List Sp) : Prop := ∀ s n, mem a s n → mem b s n

/-- A span laid behind those laid. -/
def layF (out : List Sp) (s : Sp) : List Sp :=
  match out.getLast? with
  | none => [s]
  | some z => if apart z s then out ++ [s] else out.dropLast ++ [(z.1, z.2.1, max z.2.2 s.2.2)]
def starts (z s : Sp) : Prop := z.1 < s.1 ∨ (z.1 = s.1 ∧ z.2.1 ≤ s.2.1)
theorem starts_trans {a b c : Sp} (h1 : starts a b) (h2 : starts b c) : starts a c := by unfold starts at *; omega
theorem apart_starts {a b : Sp} (ha : okSp a) (h : apart a b) : starts a b := by unfold apart okSp starts at *; omega

theorem lay_nil (s : Sp) : layF [] s = [s] := rfl
theorem lay_snoc (l : List Sp) (z s : Sp) : layF (l ++ [z]) s = if apart z s then l ++ [z] ++ [s] else l ++ [(z.1, z.2.1, max z.2.2 s.2.2)] := by simp [layF]
theorem lay_fine {out : List Sp} {s : Sp} (hf : Fine out) (hs : okSp s) (hst : ∀ z ∈ out, starts z s) :
    Fine (layF out s) ∧ (∀ t n, mem (layF out s) t n ↔ mem out t n ∨ inSp s t n) ∧ (layF out s).length ≤ out.length + 1 ∧ ∀ u, (∀ z ∈ out, starts z u) → starts s u → ∀ z ∈ layF out s, starts z u := by
  rcases List.eq_nil_or_concat out with rfl | ⟨l, z, rfl⟩
  · refine ⟨fine_one hs, fun t n => ?_, by simp [layF], fun u _ hu z hz => ?_⟩
    · rw [lay_nil, mem_one]; simp [mem]
    · rw [lay_nil, List.mem_singleton] at hz
      rw [hz]; exact hu
  · rw [List.concat_eq_append] at hf hst ⊢
    rw [lay_snoc]
    have hf' := fine_snoc.1 hf
    split
    case isTrue ha =>
      refine ⟨fine_next hf hs ha, fun t n => ?_, by simp, fun u h1 h2 y hy => ?_⟩
      · rw [mem_append _ [s], mem_one]
      · rcases List.mem_append.1 hy with hy | hy
        · exact h1 y hy
        · rw [List.mem_singleton.1 hy]; exact h2
    case isFalse ha =>
      have hz := hst z (by simp)
      have hzo := hf'.2.1
      unfold apart at ha
      unfold starts at hz
      unfold okSp at hzo hs
      have e1 : z.1 = s.1 := by omega
      refine ⟨fine_snoc.2 ⟨hf'.1, ?_, fun y hy => ?_⟩, fun t n => ?_, by simp, fun u h1 h2 y hy => ?_⟩
      · unfold okSp
        show 1 ≤ z.1 ∧ z.1 ≤ 16 ∧ 1 ≤ z.2.1 ∧ z.2.1 ≤ max z.2.2 s.2.2 ∧ max z.2.2 s.2.2 ≤ 4611686018427387904
        omega
      · exact hf'.2.2 y hy
      · rw [mem_append, mem_append, mem_one, mem_one]
        unfold inSp
        show mem l t n ∨ (z.1 = t ∧ z.2.1 ≤ n ∧ n ≤ max z.2.2 s.2.2) ↔ (mem l t n ∨ (z.1 = t ∧ z.2.1 ≤ n ∧ n ≤ z.2.2)) ∨ (s.1 = t ∧ s.2.1 ≤ n ∧ n ≤ s.2.2)
        rw [or_assoc]
        refine or_congr Iff.rfl ?_
        omega
      · rcases List.mem_append.1 hy with hy | hy
        · exact h1 y (by simp [hy])
        · rw [List.mem_singleton.1 hy]
          exact h1 z (by simp)

/-! ### One span put into a right list, as the document does it -/
def touch (y x : Sp) : Prop := y.1 = x.1 ∧ y.2.1 ≤ x.2.2 + 1 ∧ x.2.1 ≤ y.2.2 + 1
def hull (x y : Sp) : Sp := (x.1, min x.2.1 y.2.1, max x.2.2 y.2.2)
theorem hull_ok {x y : Sp} (hx : okSp x) (hy : okSp y) : okSp (hull x y) := by
  unfold okSp hull at *
  show 1 ≤ x.1 ∧ x.1 ≤ 16 ∧ 1 ≤ min x.2.1 y.2.1 ∧ min x.2.1 y.2.1 ≤ max x.2.2 y.2.2 ∧ max x.2.2 y.2.2 ≤ _
  omega
theorem hull_in {x y : Sp} (ht : touch y x) (s n : Int) : inSp (hull x y) s n ↔ inSp y s n ∨ inSp x s n := by
  unfold touch at ht
  unfold inSp hull
  show (x.1 = s ∧ min x.2.1 y.2.1 ≤ n ∧ n ≤ max x.2.2 y.2.2) ↔ _
  omega
theorem apart_no_touch {x y : Sp} (h : apart x y) : ¬ touch y x := by unfold apart at h; unfold touch; omega

/-- Behind i rounds: x is what is to be laid, out what is laid of l; laid or not yet. -/
def Putting (l : List Sp) (x0 : Sp) (i : Nat) (x : Sp) (out : List Sp) (laid : Bool) : Prop :=
  (laid = false → (∀ z ∈ out, z ∈ l.take i) ∧ Fine (out ++ [x]) ∧ (∀ s n, mem (out ++ [x]) s n ↔ mem (l.take i) s n ∨ inSp x0 s n) ∧ out.length ≤ i) ∧
  (laid = true → okSp x ∧ Fine out ∧ (∀ s n, mem out s n ↔ mem (l.take i) s n ∨ inSp x0 s n) ∧ out.length ≤ i + 1 ∧ ∀ y ∈ l.drop i, apart x y ∧ ∀ z ∈ out, apart z y)

theorem putting_start (l : List Sp) {x0 : Sp} (h : okSp x0) : Putting l x0 0 x0 [] false :=
  ⟨fun _ => ⟨by simp, fine_one h, fun s n => by simp [mem], by simp⟩, fun e => by cases e⟩

theorem take_one {l : List Sp} {i : Nat} {y : Sp} (hi : i < l.length) (hy : l.getD i (0, 0, 0) = y) : l.take (i + 1) = l.take i ++ [y] := by
  rw [List.take_succ_eq_append_getElem hi]
  rw [List.getD_eq_getElem?_getD, List.getElem?_eq_getElem hi, Option.getD_some] at hy
  rw [hy]
theorem drop_one {l : List Sp} {i : Nat} {y : Sp} (hi : i < l.length) (hy : l.getD i (0, 0, 0) = y) : l.drop i = y :: l.drop (i + 1) := by
  rw [List.drop_eq_getElem_cons hi]
  rw [List.getD_eq_getElem?_getD, List.getElem?_eq_getElem hi, Option.getD_some] at hy
  rw [hy]
theorem getD_mem {l : List Sp} {i : Nat} {y : Sp} (hi : i < l.length) (hy : l.getD i (0, 0, 0) = y) : y ∈ l := by
  rw [List.getD_eq_getElem?_getD, List.getElem?_eq_getElem hi, Option.getD_some] at hy
  exact hy ▸ List.getElem_mem hi
theorem fine_at {l : List Sp} (hf : Fine l) {i : Nat} {y : Sp} (hi : i < l.length) (hy : l.getD i (0, 0, 0) = y) :
    okSp y ∧ (∀ z ∈ l.take i, apart z y) ∧ (∀ z ∈ l.drop (i + 1), apart y z) ∧ (∀ u ∈ l.take i, ∀ z ∈ l.drop (i + 1), apart u z) := by
  have h : l = l.take i ++ (y :: l.drop (i + 1)) := by rw [← drop_one hi hy, List.take_append_drop]
  refine ⟨hf.1 y (getD_mem hi hy), ?_⟩
  have hp := hf.2
  rw [h] at hp
  obtain ⟨_, h2, h3⟩ := List.pairwise_append.1 hp
  exact ⟨fun z hz => h3 z hz y (by simp), (List.pairwise_cons.1 h2).1, fun u hu z hz => h3 u hu z (by simp [hz])⟩

theorem putting_touch {l : List Sp} {x0 x y : Sp} {i : Nat} {out : List Sp} (hf : Fine l) (hi : i < l.length) (hy : l.getD i (0, 0, 0) = y) (h : Putting l x0 i x out false) (ht : touch y x) :
    Putting l x0 (i + 1) (hull x y) out false := by
  obtain ⟨h1, h2, h3, h4⟩ := h.1 rfl
  obtain ⟨hyo, hb, _, _⟩ := fine_at hf hi hy
  obtain ⟨f1, f2, f3⟩ := fine_snoc.1 h2
  refine ⟨fun _ => ⟨fun z hz => ?_, fine_snoc.2 ⟨f1, hull_ok f2 hyo, fun z hz => ?_⟩, fun s n => ?_, by omega⟩, fun e => by cases e⟩
  · rw [take_one hi hy]; simp [h1 z hz]
  · have a1 := f3 z hz
    have a2 := hb z (h1 z hz)
    unfold apart at a1 a2 ⊢
    show z.1 < x.1 ∨ (z.1 = x.1 ∧ z.2.2 + 1 < min x.2.1 y.2.1)
    unfold touch at ht
    omega
  · have h3' := h3 s n
    rw [mem_append, mem_one] at h3' ⊢
    rw [take_one hi hy, mem_append, mem_one, hull_in ht]
    rw [or_left_comm, h3', or_left_comm, ← or_assoc]
theorem putting_ahead {l : List Sp} {x0 x y : Sp} {i : Nat} {out : List Sp} (hf : Fine l) (hi : i < l.length) (hy : l.getD i (0, 0, 0) = y) (h : Putting l x0 i x out false) (ht : apart y x) :
    Putting l x0 (i + 1) x (out ++ [y]) false := by
  obtain ⟨h1, h2, h3, h4⟩ := h.1 rfl
  obtain ⟨hyo, hb, _, _⟩ := fine_at hf hi hy
  obtain ⟨f1, f2, f3⟩ := fine_snoc.1 h2
  refine ⟨fun _ => ⟨fun z hz => ?_, fine_next (fine_snoc.2 ⟨f1, hyo, fun z hz => hb z (h1 z hz)⟩) f2 ht, fun s n => ?_, by simp; omega⟩, fun e => by cases e⟩
  · rw [take_one hi hy]
    rcases List.mem_append.1 hz with hz | hz
    · simp [h1 z hz]
    · simp [List.mem_singleton.1 hz]
  · have h3' := h3 s n
    rw [mem_append, mem_one] at h3'
    rw [take_one hi hy, mem_append, mem_append, mem_append, mem_one, mem_one, or_right_comm, h3', or_right_comm]
theorem putting_lay {l : List Sp} {x0 x y : Sp} {i : Nat} {out : List Sp} (hf : Fine l) (hi : i < l.length) (hy : l.getD i (0, 0, 0) = y) (h : Putting l x0 i x out false) (ht : apart x y) :
    Putting l x0 (i + 1) x (out ++ [x] ++ [y]) true := by
  obtain ⟨h1, h2, h3, h4⟩ := h.1 rfl
  obtain ⟨hyo, hb, hd, hbd⟩ := fine_at hf hi hy
  obtain ⟨f1, f2, f3⟩ := fine_snoc.1 h2
  refine ⟨fun e => (by cases e), fun _ => ⟨f2, fine_next h2 hyo ht, fun s n => ?_, by simp; omega, fun u hu => ?_⟩⟩
  · rw [take_one hi hy, mem_append, h3 s n, mem_append, or_right_comm]
  · have hxu := apart_trans hyo ht (hd u hu)
    refine ⟨hxu, fun z hz => ?_⟩
    rcases List.mem_append.1 hz with hz | hz
    · rcases List.mem_append.1 hz with hz | hz
      · exact hbd z (h1 z hz) u hu
      · rw [List.mem_singleton.1 hz]; exact hxu
    · rw [List.mem_singleton.1 hz]; exact hd u hu
theorem putting_on {l : List Sp} {x0 x y : Sp} {i : Nat} {out : List Sp} (hf : Fine l) (hi : i < l.length) (hy : l.getD i (0, 0, 0) = y) (h : Putting l x0 i x out true) :
    ¬ touch y x ∧ Putting l x0 (i + 1) x (out ++ [y]) true := by
  obtain ⟨h0, h1, h2, h3, h4⟩ := h.2 rfl
  obtain ⟨hyo, hb, hd, hbd⟩ := fine_at hf hi hy
  have h5 := h4 y (by rw [drop_one hi hy]; simp)
  refine ⟨apart_no_touch h5.1, fun e => (by cases e), fun _ => ⟨h0, fine_snoc.2 ⟨h1, hyo, h5.2⟩, fun s n => ?_, by simp; omega, fun u hu => ?_⟩⟩
  · rw [take_one hi hy, mem_append, h2 s n, mem_append, or_right_comm]
  · have h6 := h4 u (by rw [drop_one hi hy]; simp [hu])
    refine ⟨h6.1, fun z hz => ?_⟩
    rcases List.mem_append.1 hz with hz | hz
    · exact h6.2 z hz
    · rw [List.mem_singleton.1 hz]; exact hd u hu
theorem putting_end {l : List Sp} {x0 x : Sp} {out : List Sp} {laid : Bool} (h : Putting l x0 l.length x out laid) : IsJoin l [x0] (if laid then out else out ++ [x]) ∧ (if laid then out else out ++ [x]).length ≤ l.length + 1 := by
  cases laid
  · obtain ⟨h1, h2, h3, h4⟩ := h.1 rfl
    rw [List.take_length] at h3
    refine ⟨⟨h2, fun s n => ?_⟩, by simp; omega⟩
    rw [mem_one]; exact h3 s n
  · obtain ⟨h0, h1, h2, h3, _⟩ := h.2 rfl
    rw [List.take_length] at h2
    refine ⟨⟨h1, fun s n => ?_⟩, by simpa using h3⟩
    rw [mem_one]; exact h2 s n
/-! ### Step by step -/
theorem take_last {l : List Sp} {k : Nat} {z : Sp} (h0 : 0 < k) (hk : k ≤ l.length) (hz : l.getD (k - 1) (0, 0, 0) = z) : l.take k = l.take (k - 1) ++ [z] := by
  have := take_one (i := k - 1) (by omega) hz
  rwa [show k - 1 + 1 = k by omega] at this
theorem fine_step {l : List Sp} {k : Nat} {y : Sp} (hk : k < l.length) (hy : l.getD k (0, 0, 0) = y) (hf : Fine (l.take k)) (ho : okSp y) (ha : 0 < k → apart (l.getD (k - 1) (0, 0, 0)) y) : Fine (l.take (k + 1)) := by
  rw [take_one hk hy]
  rcases Nat.eq_zero_or_pos k with rfl | h0
  · exact fine_one ho
  · rw [take_last h0 (by omega) rfl] at hf ⊢
    exact fine_next hf ho (ha h0)
theorem fine_not_ok {l : List Sp} {k : Nat} {y : Sp} (hk : k < l.length) (hy : l.getD k (0, 0, 0) = y) (ho : ¬ okSp y) : ¬ Fine l := fun h => ho (h.1 y (getD_mem hk hy))
theorem fine_not_apart {l : List Sp} {k : Nat} {y : Sp} (hk : k < l.length) (hy : l.getD k (0, 0, 0) = y) (h0 : 0 < k) (ha : ¬ apart (l.getD (k - 1) (0, 0, 0)) y) : ¬ Fine l := by
  intro h
  have h1 := (fine_at h hk hy).2.1
  rw [take_last h0 (by omega) rfl] at h1
  exact ha (h1 _ (by simp))
theorem fine_getD {l : List Sp} (h : Fine l) {k : Nat} {y : Sp} (hk : k < l.length) (hy : l.getD k (0, 0, 0) = y) : okSp y := h.1 y (getD_mem hk hy)
theorem mem_take_one {l : List Sp} {i : Nat} {y : Sp} (hi : i < l.length) (hy : l.getD i (0, 0, 0) = y) (s n : Int) : mem (l.take (i + 1)) s n ↔ mem (l.take i) s n ∨ inSp y s n := by
  rw [take_one hi hy, mem_append, mem_one]

/-! How many dots -/
def total (l : List Sp) : Int := (l.map fun x => x.2.2 - x.2.1 + 1).sum
theorem total_snoc (l : List Sp) (x : Sp) : total (l ++ [x]) = total l + (x.2.2 - x.2.1 + 1) := by simp [total]
theorem total_append (l m : List Sp) : total (l ++ m) = total l + total m := by simp [total]
theorem total_pos : ∀ {l : List Sp}, (∀ x ∈ l, okSp x) → 0 ≤ total l
  | [], _ => by simp [total]
  | x :: l, h => by
    have h1 := h x (by simp)
    have h2 := total_pos (l := l) fun y hy => h y (by simp [hy])
    have h3 : total (x :: l) = (x.2.2 - x.2.1 + 1) + total l := by simp [total]
    unfold okSp at h1
    omega
def sizeF (l : List Sp) : Int := if Right l then min 4611686018427387904 (total l) else 0
theorem total_take {l : List Sp} (h : Fine l) {k : Nat} {y : Sp} (hk : k < l.length) (hy : l.getD k (0, 0, 0) = y) : total (l.take (k + 1)) = total (l.take k) + (y.2.2 - y.2.1 + 1) ∧ total (l.take (k + 1)) ≤ total l := by
  refine ⟨by rw [take_one hk hy, total_snoc], ?_⟩
  have h1 : total l = total (l.take (k + 1)) + total (l.drop (k + 1)) := by rw [← total_append, List.take_append_drop]
  have h2 := total_pos (l := l.drop (k + 1)) fun x hx => h.1 x (List.mem_of_mem_drop hx)
  omega

/-! The greatest count -/
def topF (l : List Sp) (s : Int) : Int := l.foldl (fun n x => if x.1 = s then max n x.2.2 else n) 0
theorem topF_snoc (l : List Sp) (x : Sp) (s : Int) : topF (l ++ [x]) s = if x.1 = s then max (topF l s) x.2.2 else topF l s := by simp [topF]
theorem topF_take {l : List Sp} {k : Nat} {y : Sp} (hk : k < l.length) (hy : l.getD k (0, 0, 0) = y) (s : Int) : topF (l.take (k + 1)) s = if y.1 = s then max (topF (l.take k) s) y.2.2 else topF (l.take k) s := by
  rw [take_one hk hy, topF_snoc]

def hasL (l : List Sp) (s n : Int) : Bool := l.any fun x => x.1 == s && decide (x.2.1 ≤ n) && decide (n ≤ x.2.2)

theorem hasL_at (l : List Sp) (k : Nat) (s n : Int) (x : Sp) (h : k < l.length) (hx : l.getD k (0, 0, 0) = x) :
    hasL (l.drop k) s n = ((x.1 == s && decide (x.2.1 ≤ n) && decide (n ≤ x.2.2)) || hasL (l.drop (k + 1)) s n) := by
  rw [List.drop_eq_getElem_cons h]
  rw [List.getD_eq_getElem?_getD, List.getElem?_eq_getElem h, Option.getD_some] at hx
  unfold hasL
  rw [List.any_cons, hx]
theorem hasL_hit {l : List Sp} {k : Nat} {s n : Int} {x : Sp} (h : k < l.length) (hx : l.getD k (0, 0, 0) = x) (h1 : x.1 = s) (h2 : x.2.1 ≤ n) (h3 : n ≤ x.2.2) : hasL (l.drop k) s n = true := by
  rw [hasL_at l k s n x h hx]
  simp [h1, h2, h3]
theorem hasL_miss {l : List Sp} {k : Nat} {s n : Int} {x : Sp} (h : k < l.length) (hx : l.getD k (0, 0, 0) = x) (hm : ¬ (x.1 = s ∧ x.2.1 ≤ n ∧ n ≤ x.2.2)) : hasL (l.drop k) s n = hasL (l.drop (k + 1)) s n := by
  rw [hasL_at l k s n x h hx]
  have e : (x.1 == s && decide (x.2.1 ≤ n) && decide (n ≤ x.2.2)) = false := by
    rw [Bool.eq_false_iff]
    intro h'
    simp only [Bool.and_eq_true, beq_iff_eq, decide_eq_true_eq] at h'
    exact hm ⟨h'.1.1, h'.1.2, h'.2⟩
  rw [e, Bool.false_or]

theorem hasL_mem (l : List Sp) (s n : Int) : hasL l s n = decide (mem l s n) := by
  rw [Bool.eq_iff_iff, decide_eq_true_iff]
  unfold hasL mem inSp
  rw [List.any_eq_true]
  simp only [Bool.and_eq_true, beq_iff_eq, decide_eq_true_eq, and_assoc]

/-! Within -/
def inOne (b : List Sp) (x : Sp) : Prop := ∃ y ∈ b, y.1 = x.1 ∧ y.2.1 ≤ x.2.1 ∧ x.2.2 ≤ y.2.2
theorem sub_iff {a b : List Sp} (ha : Fine a) (hb : Fine b) : Sub a b ↔ ∀ x ∈ a, inOne b x := by
  constructor
  · intro h x hx
    exact within_one hb (ha.1 x hx) fun n h1 h2 => h _ _ ⟨x, hx, rfl, h1, h2⟩
  · rintro h s n ⟨x, hx, h1, h2, h3⟩
    obtain ⟨y, hy, h4, h5, h6⟩ := h x hx
    exact ⟨y, hy, by omega, by omega, by omega⟩
/-- A span put into a right list changes nothing just where one of its spans has it. -/
theorem put_same {b r : List Sp} {x : Sp} (hx : okSp x) (hb : Fine b) (hr : IsJoin b [x] r) : r = b ↔ inOne b x := by
  constructor
  · rintro rfl
    exact within_one hb hx fun n h1 h2 => (hr.2 _ _).2 (.inr ((mem_one _ _ _).2 ⟨rfl, h1, h2⟩))
  · rintro ⟨y, hy, h4, h5, h6⟩
    refine canon hr.1 hb fun s n => ?_
    rw [hr.2, mem_one]
    refine ⟨fun h => ?_, .inl⟩
    rcases h with h | ⟨h1, h2, h3⟩
    · exact h
    · exact ⟨y, hy, by omega, by omega, by omega⟩
def has1 (y x : Sp) : Prop := y.1 = x.1 ∧ y.2.1 ≤ x.2.1 ∧ x.2.2 ≤ y.2.2
/-- What is passed over ahead of the span that has one has no later one either. -/
theorem passed {a b : List Sp} (ha : Fine a) (hb : Fine b) {i j : Nat} {x y : Sp} (hi : i < a.length) (hx : a.getD i (0, 0, 0) = x) (hj : j < b.length) (hy : b.getD j (0, 0, 0) = y) (h : has1 y x) :
    ∀ z ∈ b.take j, ∀ u ∈ a.drop (i + 1), ¬ has1 z u := by
  intro z hz u hu
  obtain ⟨hxo, _, h1, _⟩ := fine_at ha hi hx
  have h2 := h1 u hu
  have h3 := (fine_at hb hj hy).2.1 z hz
  have h4 := ha.1 u (List.mem_of_mem_drop hu)
  unfold has1 at h ⊢
  unfold apart at h2 h3
  unfold okSp at h4 hxo
  omega
theorem in_none {b : List Sp} {x : Sp} (h : ∀ z ∈ b, ¬ has1 z x) : ¬ inOne b x := fun ⟨y, hy, hh⟩ => h y hy hh
/-! ### Existence, and the answers of Join -/
theorem exists_putting {l : List Sp} (hf : Fine l) {x0 : Sp} (hx : okSp x0) : ∀ i, i ≤ l.length → ∃ x out laid, Putting l x0 i x out laid := by
  intro i
  induction i with
  | zero => intro _; exact ⟨x0, [], false, putting_start l hx⟩
  | succ i ih =>
    intro hi
    obtain ⟨x, out, laid, h⟩ := ih (by omega)
    obtain ⟨y, hy⟩ : ∃ y, l.getD i (0, 0, 0) = y := ⟨_, rfl⟩
    cases laid
    · by_cases ht : touch y x
      · exact ⟨_, _, _, putting_touch hf (by omega) hy h ht⟩
      · by_cases ha : apart x y
        · exact ⟨_, _, _, putting_lay hf (by omega) hy h ha⟩
        · have hb : apart y x := by
            unfold touch at ht
            unfold apart at ha ⊢
            omega
          exact ⟨_, _, _, putting_ahead hf (by omega) hy h hb⟩
    · exact ⟨_, _, _, (putting_on hf (by omega) hy h).2⟩
theorem exists_put {l : List Sp} (hf : Fine l) {x0 : Sp} (hx : okSp x0) : ∃ r, IsJoin l [x0] r ∧ r.length ≤ l.length + 1 := by
  obtain ⟨x, out, laid, h⟩ := exists_putting hf hx l.length (Nat.le_refl _)
  exact ⟨_, putting_end h⟩
theorem join_nil {a : List Sp} (h : Fine a) : IsJoin a [] a := ⟨h, fun s n => by simp [mem_nil]⟩
theorem join_snoc {a b r r' : List Sp} {x : Sp} (h : IsJoin a b r) (h' : IsJoin r [x] r') : IsJoin a (b ++ [x]) r' := ⟨h'.1, fun s n => by rw [h'.2, h.2, mem_append, or_assoc]⟩
theorem exists_join {a : List Sp} (ha : Fine a) : ∀ k (b : List Sp), (∀ x ∈ b, okSp x) → k ≤ b.length → ∃ r, IsJoin a (b.take k) r ∧ r.length ≤ a.length + k := by
  intro k
  induction k with
  | zero => intro b _ _; exact ⟨a, by rw [List.take_zero]; exact join_nil ha, by omega⟩
  | succ k ih =>
    intro b hb hk
    obtain ⟨r, h1, h2⟩ := ih b hb (by omega)
    obtain ⟨r', h3, h4⟩ := exists_put h1.1 (hb _ (getD_mem (i := k) (by omega) rfl))
    exact ⟨r', by rw [take_one (by omega) rfl]; exact join_snoc h1 h3, by omega⟩
theorem exists_all {a b : List Sp} (ha : Fine a) (hb : ∀ x ∈ b, okSp x) : ∃ r, IsJoin a b r ∧ r.length ≤ a.length + b.length := by
  obtain ⟨r, h1, h2⟩ := exists_join ha b.length b hb (Nat.le_refl _)
  rw [List.take_length] at h1
  exact ⟨r, h1, h2⟩
open Classical in
noncomputable def joinOf (a b : List Sp) : List Sp := if h : ∃ r, IsJoin a b r then h.choose else []
theorem joinOf_eq {a b r : List Sp} (h : IsJoin a b r) : joinOf a b = r := by
  have he : ∃ r, IsJoin a b r := ⟨r, h⟩
  unfold joinOf
  rw [dif_pos he]
  exact he.choose_spec.same h
theorem joinOf_is {a b : List Sp} (ha : Fine a) (hb : ∀ x ∈ b, okSp x) : IsJoin a b (joinOf a b) ∧ (joinOf a b).length ≤ a.length + b.length := by
  obtain ⟨r, h, h2⟩ := exists_all ha hb
  rw [joinOf_eq h]
  exact ⟨h, h2⟩
open Classical in
noncomputable def joinE (a b : List Sp) : Int := if Right a ∧ Right b then (if (joinOf a b).length ≤ 1024 then 0 else 30) else 1
open Classical in
noncomputable def joinL (a b : List Sp) : List Sp := if joinE a b = 0 then joinOf a b else []
theorem join_wrong {a b : List Sp} (h : ¬ (Right a ∧ Right b)) : joinE a b = 1 ∧ joinL a b = [] := by
  have : joinE a b = 1 := if_neg h
  exact ⟨this, by unfold joinL; rw [if_neg (by omega)]⟩
theorem join_long {a b r : List Sp} (ha : Right a) (hb : Right b) (h : IsJoin a b r) (hl : 1024 < r.length) : joinE a b = 30 ∧ joinL a b = [] := by
  have : joinE a b = 30 := by unfold joinE; rw [if_pos ⟨ha, hb⟩, joinOf_eq h, if_neg (by omega)]
  exact ⟨this, by unfold joinL; rw [if_neg (by omega)]⟩
theorem join_good {a b r : List Sp} (ha : Right a) (hb : Right b) (h : IsJoin a b r) (hl : r.length ≤ 1024) : joinE a b = 0 ∧ joinL a b = r := by
  have : joinE a b = 0 := by unfold joinE; rw [if_pos ⟨ha, hb⟩, joinOf_eq h, if_pos hl]
  exact ⟨this, by unfold joinL; rw [if_pos this, joinOf_eq h]⟩
theorem joinE_range (a b : List Sp) : joinE a b = 0 ∨ joinE a b = 1 ∨ joinE a b = 30 := by
  unfold joinE
  split
  · split
    · exact .inl rfl
    · exact .inr (.inr rfl)
  · exact .inr (.inl rfl)
/-- Where Join is well its answer is the join of two right lists. -/
theorem joinE_zero {a b : List Sp} (h : joinE a b = 0) : Right a ∧ Right b ∧ IsJoin a b (joinL a b) ∧ Right (joinL a b) := by
  have hL : joinL a b = joinOf a b := by unfold joinL; rw [if_pos h]
  unfold joinE at h
  split at h
  case isTrue hR =>
    split at h
    case isTrue hl =>
      have hj := joinOf_is hR.1.2 hR.2.2.1
      rw [hL]
      exact ⟨hR.1, hR.2, hj.1, hl, hj.1.1⟩
    case isFalse => omega
  case isFalse => omega
theorem joinL_len (a b : List Sp) : (joinL a b).length ≤ 1024 := by
  by_cases h : joinE a b = 0
  · exact (joinE_zero h).2.2.2.1
  · unfold joinL; rw [if_neg h]; simp

/-! ### Two right lists merged -/
def Merging (a b : List Sp) (i j : Nat) (out : List Sp) : Prop :=
  Fine out ∧ (∀ s n, mem out s n ↔ mem (a.take i) s n ∨ mem (b.take j) s n) ∧ out.length ≤ i + j ∧ ∀ z ∈ out, (∀ s ∈ a.drop i, starts z s) ∧ ∀ s ∈ b.drop j, starts z s
theorem merging_start (a b : List Sp) : Merging a b 0 0 [] := ⟨fine_nil, fun s n => by simp [mem_nil], by simp, by simp⟩
theorem merging_left {a b out : List Sp} {i j : Nat} {x : Sp} (ha : Fine a) (hb : Fine b) (hi : i < a.length) (hx : a.getD i (0, 0, 0) = x) (h : Merging a b i j out)
    (hj : j = b.length ∨ ∃ y, j < b.length ∧ b.getD j (0, 0, 0) = y ∧ starts x y) : Merging a b (i + 1) j (layF out x) := by
  obtain ⟨h1, h2, h3, h4⟩ := h
  obtain ⟨hxo, _, hxa, _⟩ := fine_at ha hi hx
  have hd := drop_one hi hx
  obtain ⟨f1, f2, f3, f4⟩ := lay_fine h1 hxo fun z hz => (h4 z hz).1 x (by rw [hd]; simp)
  have hxb : ∀ u ∈ b.drop j, starts x u := by
    rcases hj with rfl | ⟨y, hj, hy, hs⟩
    · simp
    · intro u hu
      rw [drop_one hj hy] at hu
      rcases List.mem_cons.1 hu with rfl | hu
      · exact hs
      · obtain ⟨hyo, _, hya, _⟩ := fine_at hb hj hy
        exact starts_trans hs (apart_starts hyo (hya u hu))
  refine ⟨f1, fun s n => ?_, by omega, fun z hz => ⟨fun u hu => ?_, fun u hu => ?_⟩⟩
  · rw [f2, h2, mem_take_one hi hx, or_right_comm]
  · exact f4 u (fun z hz => (h4 z hz).1 u (by rw [hd]; simp [hu])) (apart_starts hxo (hxa u hu)) z hz
  · exact f4 u (fun z hz => (h4 z hz).2 u hu) (hxb u hu) z hz
theorem merging_swap {a b out : List Sp} {i j : Nat} (h : Merging a b i j out) : Merging b a j i out :=
  ⟨h.1, fun s n => by rw [h.2.1, or_comm], by have := h.2.2.1; omega, fun z hz => ⟨(h.2.2.2 z hz).2, (h.2.2.2 z hz).1⟩⟩
theorem merging_right {a b out : List Sp} {i j : Nat} {y : Sp} (ha : Fine a) (hb : Fine b) (hj : j < b.length) (hy : b.getD j (0, 0, 0) = y) (h : Merging a b i j out)
    (hi : i = a.length ∨ ∃ x, i < a.length ∧ a.getD i (0, 0, 0) = x ∧ ¬ starts x y) : Merging a b i (j + 1) (layF out y) := by
  refine merging_swap (merging_left hb ha hj hy (merging_swap h) ?_)
  rcases hi with rfl | ⟨x, h1, h2, h3⟩
  · exact .inl rfl
  · refine .inr ⟨x, h1, h2, ?_⟩
    unfold starts at h3 ⊢
    omega
theorem merging_end {a b out : List Sp} (h : Merging a b a.length b.length out) : IsJoin a b out ∧ out.length ≤ a.length + b.length := by
  obtain ⟨h1, h2, h3, _⟩ := h
  rw [List.take_length, List.take_length] at h2
  exact ⟨⟨h1, h2⟩, h3⟩
end Span
end Go.Proofs.YtbaclinjimfncaaGreat

/-
  Slices of spans and of dots, and dots, among a law's arguments.
-/
namespace Go.Proofs.YtbaclinjimfncaaGreat
namespace Span
open Go.ChangeShapes Go.WideShapes Go.ChangeAt Go.RowKit Go.Joins Go.Deep

theorem cells_span : Tryz.prog.cellsOf 60 = 3 := by kernel_rfl
theorem bytes_span : Tryz.prog.bytesOf 60 = 24 := by kernel_rfl
theorem cells_dot : Tryz.prog.cellsOf 55 = 2 := by kernel_rfl
theorem bytes_dot : Tryz.prog.bytesOf 55 = 16 := by kernel_rfl

section
variable {H : Type} {enc : TypeId × Value → H} {P : Program} {W : World}

theorem one_at {cs : List Value} {k : Nat} {v : Value} (h : (cs.drop k).take 1 = [v]) : cs[k]? = some v := by
  rcases Nat.lt_or_ge k cs.length with hk | hk
  · rw [List.drop_eq_getElem_cons hk] at h
    simp only [List.take_succ_cons, List.take_zero, List.cons.injEq, and_true] at h
    rw [List.getElem?_eq_getElem hk, h]
  · rw [List.drop_eq_nil_of_le hk] at h
    simp at h

/-- The cells of one span, as they are read. -/
theorem span_at {e : TypeId} {f0 f1 f2 : Field} {base : Nat} {spare : Nat → Bool} {held : Bool} {n : Nat} {cs : List Value} {x : DataW H × List MemPlace} (he : P.underlying e = some (.struct #[f0, f1, f2])) (hone : oneCellFields P #[f0, f1, f2] = true)
    (i0 : P.underlying f0.type = some (.int .i64)) (i1 : P.underlying f1.type = some (.int .i64)) (i2 : P.underlying f2.type = some (.int .i64)) (h : DataW.trod enc P W base spare held n e cs = some x) :
    ∃ z : Sp, cs[0]? = some (.int .i64 z.1) ∧ cs[1]? = some (.int .i64 z.2.1) ∧ cs[2]? = some (.int .i64 z.2.2) := by
  obtain ⟨y0, y1, y2, m, _, _, h0, h1, h2⟩ := trod_struct3 he h
  obtain ⟨o0, k0⟩ := hone_of hone 0 f0 rfl
  obtain ⟨o1, k1⟩ := hone_of hone 1 f1 rfl
  obtain ⟨o2, k2⟩ := hone_of hone 2 f2 rfl
  rw [o0, k0] at h0
  rw [o1, k1] at h1
  rw [o2, k2] at h2
  obtain ⟨z0, e0, _, _⟩ := DataW.trod_int i0 h0
  obtain ⟨z1, e1, _, _⟩ := DataW.trod_int i1 h1
  obtain ⟨z2, e2, _, _⟩ := DataW.trod_int i2 h2
  exact ⟨(z0, z1, z2), one_at e0, one_at e1, one_at e2⟩
theorem dot_at {e : TypeId} {f0 f1 : Field} {base : Nat} {spare : Nat → Bool} {held : Bool} {n : Nat} {cs : List Value} {x : DataW H × List MemPlace} (he : P.underlying e = some (.struct #[f0, f1])) (hone : oneCellFields P #[f0, f1] = true)
    (i0 : P.underlying f0.type = some (.int .i64)) (i1 : P.underlying f1.type = some (.int .i64)) (h : DataW.trod enc P W base spare held n e cs = some x) :
    ∃ z : Int × Int, cs[0]? = some (.int .i64 z.1) ∧ cs[1]? = some (.int .i64 z.2) := by
  obtain ⟨y0, y1, m, _, _, h0, h1⟩ := trod_struct2 he h
  obtain ⟨o0, k0⟩ := hone_of hone 0 f0 rfl
  obtain ⟨o1, k1⟩ := hone_of hone 1 f1 rfl
  rw [o0, k0] at h0
  rw [o1, k1] at h1
  obtain ⟨z0, e0, _, _⟩ := DataW.trod_int i0 h0
  obtain ⟨z1, e1, _, _⟩ := DataW.trod_int i1 h1
  exact ⟨(z0, z1), one_at e0, one_at e1⟩

/-- A slice of spans among the arguments, nil and empty ones too. -/
theorem open_ss {t e : TypeId} {f0 f1 f2 : Field} {v : Value} {d : DataW H} {p : List MemPlace} {r : Reach} {b0 : Nat} (ht : P.underlying t = some (.slice e)) (he : P.underlying e = some (.struct #[f0, f1, f2])) (hone : oneCellFields P #[f0, f1, f2] = true) (hC : P.cellsOf e = 3)
    (i0 : P.underlying f0.type = some (.int .i64)) (i1 : P.underlying f1.type = some (.int .i64)) (i2 : P.underlying f2.type = some (.int .i64))
    (hv : Value.okWide P W r b0 t v) (h : DataW.Trod enc P W 0 (fun _ => true) true t v d p) :
    ∃ (A : Option Addr) (c : Nat) (l : List Sp), v = .slice A l.length c ∧ Ss W W.heap.size A l ∧ l.length ≤ c ∧ ((d = .nil ∧ l = [] ∧ c = 0) ∨ ∃ el sp, d = .slice el sp ∧ c = el.length + sp.length) := by
  obtain ⟨A, len, c, rfl⟩ := okWide_slice ht hv
  obtain ⟨fuel, hf⟩ := h
  rcases open_slice ht hf with ⟨hcs, hx⟩ | ⟨a, len', cap', m, n, D, Pl, hcs, _, hl, hm, hmm, hx, hi⟩
  · simp [Value.cells] at hcs
    obtain ⟨rfl, rfl, rfl⟩ := hcs
    simp only [Prod.mk.injEq] at hx
    exact ⟨none, 0, [], rfl, Ss.nil _, by simp, .inl ⟨hx.1, rfl, rfl⟩⟩
  · simp [Value.cells] at hcs
    obtain ⟨rfl, rfl, rfl⟩ := hcs
    simp only [Prod.mk.injEq] at hx
    simp only [if_true] at hmm
    subst hmm
    have hz : ∀ i, i < len → ∃ z : Sp, W.cell? (a.add (i * 3)) = some (.int .i64 z.1) ∧ W.cell? (a.add (i * 3 + 1)) = some (.int .i64 z.2.1) ∧ W.cell? (a.add (i * 3 + 2)) = some (.int .i64 z.2.2) := by
      intro i hil
      obtain ⟨cs', hc, ht'⟩ := hi i (by omega)
      rw [hC] at hc
      obtain ⟨_, hcl, hat⟩ := World.cells?_some hc
      obtain ⟨z, z0, z1, z2⟩ := span_at he hone i0 i1 i2 ht'
      have q0 := (hat 0 (by omega)).trans z0
      have q1 := (hat 1 (by omega)).trans z1
      have q2 := (hat 2 (by omega)).trans z2
      rw [Go.Deep.add_add] at q0 q1 q2
      exact ⟨z, q0, q1, q2⟩
    obtain ⟨f, hfz⟩ : ∃ f : Nat → Sp, ∀ i, i < len → W.cell? (a.add (i * 3)) = some (.int .i64 (f i).1) ∧ W.cell? (a.add (i * 3 + 1)) = some (.int .i64 (f i).2.1) ∧ W.cell? (a.add (i * 3 + 2)) = some (.int .i64 (f i).2.2) :=
      ⟨fun i => if h : i < len then (hz i h).choose else (0, 0, 0), fun i h => by simp only [dif_pos h]; exact (hz i h).choose_spec⟩
    have hlen : ((List.range len).map f).length = len := by simp
    refine ⟨some a, _, (List.range len).map f, by rw [hlen], fun hp => ?_, by rw [hlen]; exact hl, .inr ⟨_, _, hx.1, by simp; omega⟩⟩
    rw [hlen] at hp
    obtain ⟨b, off, spot⟩ := a
    have hspot : spot = none := by simpa [Addr.add] using World.cell?_spot (hfz 0 hp).1
    subst hspot
    have hadd : ∀ k, (⟨b, off, none⟩ : Addr).add k = ⟨b, off + k, none⟩ := Go.WideShapes.add_plain b off
    have h0 := (hfz 0 hp).1
    refine ⟨b, off, rfl, by have := World.block_lt_of_cell? W _ h0; rwa [hadd] at this, fun j hj => ?_⟩
    rw [hlen] at hj
    have hg : ((List.range len).map f).getD j (0, 0, 0) = f j := by simp [List.getD_eq_getElem?_getD, hj]
    rw [hg]
    obtain ⟨c0, c1, c2⟩ := hfz j hj
    rw [hadd] at c0 c1 c2
    exact ⟨c0, by rw [Nat.add_assoc]; exact c1, by rw [Nat.add_assoc]; exact c2⟩

/-- How long it may be, by the form's own reach. -/
theorem reach_ss {ts : List TypeId} {ds : List (DataW H)} {j : Nat} {t e : TypeId} {d : DataW H} {l : List Sp} {c nb : Nat} (h : (DataW.weightsEach P ts ds).all (· ≤ reachBytes) = true)
    (ht : ts[j]? = some t) (hd : ds[j]? = some d) (hu : P.underlying t = some (.slice e)) (hb : P.bytesOf e = nb) (hlc : l.length ≤ c)
    (ho : (d = .nil ∧ l = [] ∧ c = 0) ∨ ∃ el sp, d = .slice el sp ∧ c = el.length + sp.length) : l.length * nb ≤ 140737488351232 := by
  rcases ho with ⟨_, rfl, _⟩ | ⟨el, sp, rfl, hc⟩
  · simp
  · have := sized_slice h ht hd hu
    rw [hb] at this
    have h2 : l.length * nb ≤ (el.length + sp.length) * nb := Nat.mul_le_mul_right _ (by omega)
    have h3 : reachBytes = 140737488351232 := by decide
    omega

/-- A dot among the arguments. -/
theorem open_dot {t : TypeId} {f0 f1 : Field} {v : Value} {d : DataW H} {p : List MemPlace} {r : Reach} {b0 : Nat} (hs : P.underlying t = some (.struct #[f0, f1])) (hone : oneCellFields P #[f0, f1] = true) (hC : P.cellsOf t = 2)
    (i0 : P.underlying f0.type = some (.int .i64)) (i1 : P.underlying f1.type = some (.int .i64))
    (hv : Value.okWide P W r b0 t v) (h : DataW.Trod enc P W 0 (fun _ => true) true t v d p) :
    ∃ s n : Int, v = .agg #[.int .i64 s, .int .i64 n] ∧ (Lit.int .i64 s).wf = true ∧ (Lit.int .i64 n).wf = true := by
  obtain ⟨v0, v1, y0, y1, n, rfl, rfl, rfl, h0, h1⟩ := open_agg2 hs hone hC hv h
  obtain ⟨z0, e0, _, w0⟩ := DataW.trod_int i0 h0
  obtain ⟨z1, e1, _, w1⟩ := DataW.trod_int i1 h1
  simp at e0 e1
  subst e0 e1
  exact ⟨z0, z1, rfl, w0, w1⟩
end
end Span
end Go.Proofs.YtbaclinjimfncaaGreat

/-
  Versions and sets of versions, on plain lists: which are right, and what comes of two sets.
-/
namespace Go.Proofs.YtbaclinjimfncaaGreat
namespace Vers
open Span

/-- A version: its dot's site and count, its past, whether it is a taking away, its value. -/
structure Vr where
  (s n : Int) (past : List Sp) (gone : Bool) (val : ByteArray)
instance : DecidableEq Vr := fun a b => decidable_of_iff (a.s = b.s ∧ a.n = b.n ∧ a.past = b.past ∧ a.gone = b.gone ∧ a.val = b.val) (by
  cases a; cases b; simp)
def v0 : Vr := ⟨0, 0, [], false, ⟨#[]⟩⟩

def okD (s n : Int) : Prop := 1 ≤ s ∧ s ≤ 16 ∧ 1 ≤ n ∧ n ≤ 4611686018427387904
instance (s n : Int) : Decidable (okD s n) := by unfold okD; infer_instance
def okV (v : Vr) : Prop := okD v.s v.n ∧ Right v.past ∧ topF v.past v.s < v.n ∧ v.val.size ≤ 256 ∧ (v.gone = true → v.val = ⟨#[]⟩)
instance (v : Vr) : Decidable (okV v) := by unfold okV; infer_instance
def dlt (a b : Vr) : Prop := a.s < b.s ∨ (a.s = b.s ∧ a.n < b.n)
instance (a b : Vr) : Decidable (dlt a b) := by unfold dlt; infer_instance
def same (a b : Vr) : Prop := a.s = b.s ∧ a.n = b.n
instance (a b : Vr) : Decidable (same a b) := by unfold same; infer_instance
/-- One of these came behind the dot. -/
def behind (l : List Vr) (s n : Int) : Prop := ∃ v ∈ l, mem v.past s n
instance (l : List Vr) (s n : Int) : Decidable (behind l s n) := by unfold behind; infer_instance
/-- Right ones, by rising dots. -/
def FineV (l : List Vr) : Prop := (∀ v ∈ l, okV v) ∧ l.Pairwise dlt
instance (l : List Vr) : Decidable (FineV l) := by unfold FineV; infer_instance
def RightV (l : List Vr) : Prop := l.length ≤ 512 ∧ FineV l ∧ ∀ v ∈ l, ¬ behind l v.s v.n
instance (l : List Vr) : Decidable (RightV l) := by unfold RightV; infer_instance

theorem dlt_trans {a b c : Vr} (h : dlt a b) (k : dlt b c) : dlt a c := by unfold dlt at *; omega
theorem dlt_irrefl {a b : Vr} (h : dlt a b) (k : same a b) : False := by unfold dlt same at *; omega
theorem dlt_cases (a b : Vr) : dlt a b ∨ same a b ∨ dlt b a := by unfold dlt same; omega
theorem same_symm {a b : Vr} (h : same a b) : same b a := ⟨h.1.symm, h.2.symm⟩

/-- Of rising ones two with one dot are the same. -/
theorem rising_same {l : List Vr} (h : l.Pairwise dlt) {a b : Vr} (ha : a ∈ l) (hb : b ∈ l) (hs : same a b) : a = b := by
  induction l with
  | nil => simp at ha
  | cons x l ih =>
    rw [List.pairwise_cons] at h
    rcases List.mem_cons.1 ha with e | ha'
    · rcases List.mem_cons.1 hb with e' | hb'
      · rw [e, e']
      · exact (dlt_irrefl (h.1 b hb') (e ▸ hs)).elim
    · rcases List.mem_cons.1 hb with e' | hb'
      · exact (dlt_irrefl (h.1 a ha') (same_symm (e' ▸ hs))).elim
      · exact ih h.2 ha' hb'

/-- TWO RISING LISTS OF THE SAME VERSIONS ARE THE SAME. -/
theorem canonV : ∀ {l m : List Vr}, l.Pairwise dlt → m.Pairwise dlt → (∀ v, v ∈ l ↔ v ∈ m) → l = m
  | [], [], _, _, _ => rfl
  | [], y :: m, _, _, h => absurd ((h y).2 (by simp)) (by simp)
  | x :: l, [], _, _, h => absurd ((h x).1 (by simp)) (by simp)
  | x :: l, y :: m, hl, hm, h => by
    rw [List.pairwise_cons] at hl hm
    have hxy : x = y := by
      rcases List.mem_cons.1 ((h x).1 (by simp)) with e | hx
      · exact e
      · rcases List.mem_cons.1 ((h y).2 (by simp)) with e | hy
        · exact e.symm
        · have h1 := hm.1 x hx
          have h2 := hl.1 y hy
          unfold dlt at h1 h2
          omega
    subst hxy
    have key : ∀ v, v ∈ l ↔ v ∈ m := by
      intro v
      have hv := h v
      rw [List.mem_cons, List.mem_cons] at hv
      constructor
      · intro hq
        rcases hv.1 (.inr hq) with rfl | h5
        · exact (dlt_irrefl (hl.1 v hq) ⟨rfl, rfl⟩).elim
        · exact h5
      · intro hq
        rcases hv.2 (.inr hq) with rfl | h5
        · exact (dlt_irrefl (hm.1 v hq) ⟨rfl, rfl⟩).elim
        · exact h5
    rw [canonV hl.2 hm.2 key]

theorem behind_append (l m : List Vr) (s n : Int) : behind (l ++ m) s n ↔ behind l s n ∨ behind m s n := by
  unfold behind
  constructor
  · rintro ⟨v, hv, h⟩
    rcases List.mem_append.1 hv with hv | hv
    · exact .inl ⟨v, hv, h⟩
    · exact .inr ⟨v, hv, h⟩
  · rintro (⟨v, hv, h⟩ | ⟨v, hv, h⟩)
    · exact ⟨v, by simp [hv], h⟩
    · exact ⟨v, by simp [hv], h⟩

/-- Two unlike versions with one dot. -/
def Twin (a b : List Vr) : Prop := ∃ x ∈ a, ∃ y ∈ b, same x y ∧ x ≠ y
instance (a b : List Vr) : Decidable (Twin a b) := by unfold Twin; infer_instance

/-- A version laid where its dot belongs, unless it is there. -/
def putV : List Vr → Vr → List Vr
  | [], v => [v]
  | x :: l, v => if dlt x v then x :: putV l v else if same x v then x :: l else v :: x :: l

theorem putV_mem {l : List Vr} (hl : l.Pairwise dlt) (v : Vr) (hv : ∀ x ∈ l, same x v → x = v) : ∀ y, y ∈ putV l v ↔ y ∈ l ∨ y = v := by
  induction l with
  | nil => intro y; simp [putV]
  | cons x l ih =>
    intro y
    rw [List.pairwise_cons] at hl
    unfold putV
    split
    · rw [List.mem_cons, ih hl.2 (fun z hz => hv z (by simp [hz])) y, List.mem_cons, or_assoc]
    · split
      · rename_i h
        have := hv x (by simp) h
        subst this
        constructor
        · exact fun h => .inl h
        · rintro (h | rfl)
          · exact h
          · simp
      · rw [List.mem_cons, List.mem_cons]
        constructor
        · rintro (rfl | h)
          · exact .inr rfl
          · exact .inl h
        · rintro (h | rfl)
          · exact .inr h
          · exact .inl rfl
theorem putV_head {l : List Vr} {x v : Vr} (h : ∀ y ∈ l, dlt x y) (hx : dlt x v) : ∀ y ∈ putV l v, dlt x y := by
  induction l with
  | nil => intro y hy; simp [putV] at hy; subst hy; exact hx
  | cons z l ih =>
    intro y hy
    unfold putV at hy
    split at hy
    · rcases List.mem_cons.1 hy with rfl | hy
      · exact h y (by simp)
      · exact ih (fun w hw => h w (by simp [hw])) y hy
    · split at hy
      · exact h y hy
      · rcases List.mem_cons.1 hy with rfl | hy
        · exact hx
        · exact h y hy
theorem putV_rising {l : List Vr} (hl : l.Pairwise dlt) (v : Vr) : (putV l v).Pairwise dlt := by
  induction l with
  | nil => simp [putV]
  | cons x l ih =>
    rw [List.pairwise_cons] at hl
    unfold putV
    split
    · rename_i h
      exact List.pairwise_cons.2 ⟨putV_head hl.1 h, ih hl.2⟩
    · split
      · exact List.pairwise_cons.2 hl
      · rename_i h1 h2
        refine List.pairwise_cons.2 ⟨fun y hy => ?_, List.pairwise_cons.2 hl⟩
        have h3 : dlt v x := by
          rcases dlt_cases x v with h | h | h
          · exact absurd h h1
          · exact absurd h h2
          · exact h
        rcases List.mem_cons.1 hy with rfl | hy
        · exact h3
        · exact dlt_trans h3 (hl.1 y hy)

/-- Versions laid one after the other, those that some of d came behind left out. -/
def laidV (d : List Vr) (l out : List Vr) : List Vr := (l.filter fun v => !decide (behind d v.s v.n)).foldl putV out
theorem laidV_nil (d out : List Vr) : laidV d [] out = out := rfl
theorem laidV_snoc (d l out : List Vr) (v : Vr) : laidV d (l ++ [v]) out = if behind d v.s v.n then laidV d l out else putV (laidV d l out) v := by
  unfold laidV
  rw [List.filter_append, List.foldl_append]
  by_cases h : behind d v.s v.n
  · simp [h]
  · simp [h]
theorem foldV {l : List Vr} : ∀ {out : List Vr}, out.Pairwise dlt → (∀ x ∈ out ++ l, ∀ y ∈ out ++ l, same x y → x = y) → (l.foldl putV out).Pairwise dlt ∧ ∀ y, y ∈ l.foldl putV out ↔ y ∈ out ∨ y ∈ l := by
  induction l with
  | nil => intro out h _; exact ⟨h, by simp⟩
  | cons v l ih =>
    intro out h hs
    have hm := putV_mem h v (fun x hx hxv => hs x (by simp [hx]) v (by simp) hxv)
    have h2 := ih (out := putV out v) (putV_rising h v) (by
      intro x hx y hy hxy
      have key : ∀ z, z ∈ putV out v ++ l → z ∈ out ++ v :: l := by
        intro z hz
        rcases List.mem_append.1 hz with hz | hz
        · rcases (hm z).1 hz with hz | rfl
          · simp [hz]
          · simp
        · simp [hz]
      exact hs x (key x hx) y (key y hy) hxy)
    rw [List.foldl_cons]
    refine ⟨h2.1, fun y => ?_⟩
    rw [h2.2 y, hm y, List.mem_cons, or_assoc]

/-- Those of both behind which none of both came. -/
def stayF (a b : List Vr) : List Vr := laidV a b (laidV b a [])
def IsStay (a b r : List Vr) : Prop := r.Pairwise dlt ∧ ∀ v, v ∈ r ↔ (v ∈ a ∨ v ∈ b) ∧ ¬ behind a v.s v.n ∧ ¬ behind b v.s v.n
theorem stay_is {a b : List Vr} (ha : RightV a) (hb : RightV b) (ht : ¬ Twin a b) : IsStay a b (stayF a b) := by
  have hs : ∀ x, (x ∈ a ∨ x ∈ b) → ∀ y, (y ∈ a ∨ y ∈ b) → same x y → x = y := by
    intro x hx y hy hxy
    rcases hx with hx | hx
    · rcases hy with hy | hy
      · exact rising_same ha.2.1.2 hx hy hxy
      · exact Decidable.byContradiction fun h => ht ⟨x, hx, y, hy, hxy, h⟩
    · rcases hy with hy | hy
      · exact Decidable.byContradiction fun h => ht ⟨y, hy, x, hx, same_symm hxy, fun e => h e.symm⟩
      · exact rising_same hb.2.1.2 hx hy hxy
  have h1 := foldV (l := a.filter fun v => !decide (behind b v.s v.n)) (out := []) (by simp) (by
    intro x hx y hy hxy
    simp only [List.nil_append, List.mem_filter] at hx hy
    exact hs x (.inl hx.1) y (.inl hy.1) hxy)
  have h2 := foldV (l := b.filter fun v => !decide (behind a v.s v.n)) (out := laidV b a []) h1.1 (by
    intro x hx y hy hxy
    have key : ∀ z, z ∈ laidV b a [] ++ b.filter (fun v => !decide (behind a v.s v.n)) → z ∈ a ∨ z ∈ b := by
      intro z hz
      rcases List.mem_append.1 hz with hz | hz
      · have := (h1.2 z).1 hz
        simp only [List.not_mem_nil, false_or, List.mem_filter] at this
        exact .inl this.1
      · exact .inr (List.mem_filter.1 hz).1
    exact hs x (key x hx) y (key y hy) hxy)
  refine ⟨h2.1, fun v => ?_⟩
  have e2 := h2.2 v
  have e1 := h1.2 v
  simp only [List.not_mem_nil, false_or, List.mem_filter, Bool.not_eq_true', decide_eq_false_iff_not] at e1 e2
  have e : v ∈ stayF a b ↔ v ∈ laidV b a [] ∨ v ∈ b ∧ ¬ behind a v.s v.n := e2
  have e' : v ∈ laidV b a [] ↔ v ∈ a ∧ ¬ behind b v.s v.n := e1
  rw [e, e']
  constructor
  · rintro (⟨h, k⟩ | ⟨h, k⟩)
    · exact ⟨.inl h, ha.2.2 v h, k⟩
    · exact ⟨.inr h, k, hb.2.2 v h⟩
  · rintro ⟨h | h, k, k'⟩
    · exact .inl ⟨h, k'⟩
    · exact .inr ⟨h, k⟩
theorem stay_one {a b r : List Vr} (ha : RightV a) (hb : RightV b) (ht : ¬ Twin a b) (h : IsStay a b r) : r = stayF a b :=
  canonV h.1 (stay_is ha hb ht).1 fun v => by rw [h.2 v, (stay_is ha hb ht).2 v]

/-- What Merge tells: the set, the error. -/
def mergeF (a b : List Vr) : List Vr × Int :=
  if ¬ RightV a ∨ ¬ RightV b then ([], 1) else if Twin a b then ([], 50) else if 512 < (stayF a b).length then ([], 3) else (stayF a b, 0)
theorem merge_arg {a b : List Vr} (h : ¬ RightV a ∨ ¬ RightV b) : mergeF a b = ([], 1) := by unfold mergeF; rw [if_pos h]
theorem merge_twin {a b : List Vr} (ha : RightV a) (hb : RightV b) (h : Twin a b) : mergeF a b = ([], 50) := by
  unfold mergeF; rw [if_neg (by simp [ha, hb]), if_pos h]
theorem merge_long {a b : List Vr} (ha : RightV a) (hb : RightV b) (h : ¬ Twin a b) (hl : 512 < (stayF a b).length) : mergeF a b = ([], 3) := by
  unfold mergeF; rw [if_neg (by simp [ha, hb]), if_neg h, if_pos hl]
theorem merge_ok {a b : List Vr} (ha : RightV a) (hb : RightV b) (h : ¬ Twin a b) (hl : ¬ 512 < (stayF a b).length) : mergeF a b = (stayF a b, 0) := by
  unfold mergeF; rw [if_neg (by simp [ha, hb]), if_neg h, if_neg hl]
def lacksF (a b : List Vr) : Bool := decide ((mergeF a b).2 = 0 ∧ (mergeF a b).1 ≠ a)
/-- The set of those that stay is right. -/
theorem merge_right {a b r : List Vr} (h : mergeF a b = (r, 0)) : RightV a ∧ RightV b ∧ ¬ Twin a b ∧ r = stayF a b ∧ RightV r := by
  unfold mergeF at h
  split at h
  · simp at h
  · rename_i h1
    have ha : RightV a := Decidable.byContradiction fun k => h1 (.inl k)
    have hb : RightV b := Decidable.byContradiction fun k => h1 (.inr k)
    split at h
    · simp at h
    · rename_i h2
      split at h
      · simp at h
      · rename_i h3
        simp only [Prod.mk.injEq, and_true] at h
        subst h
        have hs := stay_is ha hb h2
        refine ⟨ha, hb, h2, rfl, by omega, ⟨fun v hv => ?_, hs.1⟩, fun v hv => ?_⟩
        · rcases ((hs.2 v).1 hv).1 with h | h
          · exact ha.2.1.1 v h
          · exact hb.2.1.1 v h
        · rintro ⟨x, hx, hm⟩
          have h4 := ((hs.2 v).1 hv).2
          rcases ((hs.2 x).1 hx).1 with h | h
          · exact h4.1 ⟨x, h, hm⟩
          · exact h4.2 ⟨x, h, hm⟩
end Vers
end Go.Proofs.YtbaclinjimfncaaGreat

/-
  Spans that a call has made: a row of its own, three cells to a span; and the small functions on spans.
-/
namespace Go.Proofs.YtbaclinjimfncaaGreat
namespace Span
open Go.RowKit

def spv (x : Sp) : Value := .agg #[.int .i64 x.1, .int .i64 x.2.1, .int .i64 x.2.2]
def spc (x : Sp) : List Value := [.int .i64 x.1, .int .i64 x.2.1, .int .i64 x.2.2]
def sps (l : List Sp) : List Value := l.flatMap spc
theorem sps_nil : sps [] = [] := rfl
theorem sps_one (x : Sp) : sps [x] = spc x := by simp [sps]
theorem sps_append (l m : List Sp) : sps (l ++ m) = sps l ++ sps m := by simp [sps]
theorem sps_length (l : List Sp) : (sps l).length = l.length * 3 := by
  induction l with
  | nil => rfl
  | cons x l ih =>
    have : sps (x :: l) = spc x ++ sps l := by simp [sps]
    rw [this, List.length_append, ih]
    simp [spc]
    omega
theorem sps_at (l : List Sp) : ∀ j, j < l.length → (sps l)[j * 3]? = some (.int .i64 (l.getD j (0, 0, 0)).1) ∧ (sps l)[j * 3 + 1]? = some (.int .i64 (l.getD j (0, 0, 0)).2.1) ∧ (sps l)[j * 3 + 2]? = some (.int .i64 (l.getD j (0, 0, 0)).2.2) := by
  induction l with
  | nil => intro j h; simp at h
  | cons x l ih =>
    intro j hj
    have h0 : sps (x :: l) = spc x ++ sps l := by simp [sps]
    rw [h0]
    rcases j with _ | j
    · simp [spc]
    · have := ih j (by simpa using hj)
      simp only [List.getD_cons_succ]
      rw [show (j + 1) * 3 = 3 + j * 3 by omega]
      refine ⟨?_, ?_, ?_⟩
      · rw [List.getElem?_append_right (by simp [spc])]; simpa [spc] using this.1
      · rw [List.getElem?_append_right (by simp [spc]; omega)]
        rw [show 3 + j * 3 + 1 - (spc x).length = j * 3 + 1 by simp [spc]; omega]
        exact this.2.1
      · rw [List.getElem?_append_right (by simp [spc]; omega)]
        rw [show 3 + j * 3 + 2 - (spc x).length = j * 3 + 2 by simp [spc]; omega]
        exact this.2.2
theorem sps_cell (l : List Sp) : ∀ u ∈ sps l, ∃ z, u = .int .i64 z := by
  intro u hu
  obtain ⟨x, _, hx⟩ := List.mem_flatMap.1 hu
  simp [spc] at hx
  rcases hx with rfl | rfl | rfl <;> exact ⟨_, rfl⟩

/-- The call has made the slice of the spans l, and has turned nothing that was there. -/
def MadeSs (l : List Sp) (w : World) (r : Ending) (w' : World) : Prop :=
  ∃ A c, r = .returned (.slice A l.length c) ∧ w'.ownsRow w.heap.size 60 3 (.slice A l.length c) l.length (sps l) ∧ Below w.heap.size w w'

theorem own_ss {w : World} {base : Nat} {e : TypeId} {A : Option Addr} {c n : Nat} {l : List Sp} (h : w.ownsRow base e 3 (.slice A n c) l.length (sps l)) : Ss w w.heap.size A l := by
  intro hp
  rcases h.2 with ⟨_, h0⟩ | ⟨g, cap, cur, hv, hbg, hg, hn, hcm, hcs, htake⟩
  · omega
  · injection hv with h1 h2 h3
    subst h1
    have hat : ∀ j u, (sps l)[j]? = some u → w.cell? ⟨g, 0 + j, none⟩ = some u := by
      intro j u hu
      have hc := h.cells (g := g) rfl j u hu
      have hadd : (⟨g, 0, none⟩ : Addr).add j = ⟨g, 0 + j, none⟩ := by unfold Addr.add; split <;> simp_all
      rwa [hadd] at hc
    refine ⟨g, 0, rfl, (Array.getElem?_eq_some_iff.1 hg).1, fun j hj => ?_⟩
    obtain ⟨h1, h2, h3⟩ := sps_at l j hj
    exact ⟨hat _ _ h1, hat _ _ h2, hat _ _ h3⟩

/-- What stands in a slice of spans, cell by cell. -/
theorem Ss.cells {w : World} {B : Nat} {b off : Nat} {l : List Sp} (h : Ss w B (some ⟨b, off, none⟩) l) : ∀ j u, (sps l)[j]? = some u → w.cell? ((⟨b, off, none⟩ : Addr).add j) = some u := by
  intro j u hu
  have hj : j < (sps l).length := by
    rcases Nat.lt_or_ge j (sps l).length with h | h
    · exact h
    · rw [List.getElem?_eq_none h] at hu; cases hu
  rw [sps_length] at hj
  obtain ⟨b', off', e, _, hc⟩ := h (by omega)
  injection e with e
  injection e with e1 e2
  subst e1
  subst e2
  have hadd : (⟨b, off, none⟩ : Addr).add j = ⟨b, off + j, none⟩ := by unfold Addr.add; split <;> simp_all
  rw [hadd]
  have hq : j / 3 < l.length := by omega
  obtain ⟨s0, s1, s2⟩ := sps_at l (j / 3) hq
  obtain ⟨c0, c1, c2⟩ := hc (j / 3) hq
  have hm : j = j / 3 * 3 ∨ j = j / 3 * 3 + 1 ∨ j = j / 3 * 3 + 2 := by omega
  rcases hm with hm | hm | hm
  · rw [hm] at hu ⊢
    rw [s0] at hu
    rw [c0, ← hu]
  · rw [hm] at hu ⊢
    rw [s1] at hu
    rw [← Nat.add_assoc, c1, ← hu]
  · rw [hm] at hu ⊢
    rw [s2] at hu
    rw [← Nat.add_assoc, c2, ← hu]

section
variable {P : Program} (w : World)
/-- append of one span that was just laid in a block of its own, onto a row of the call's own. -/
theorem wpList_append_sp {ops : Array Oper} {rest : List Oper} {o : Oper} {a : Act} {Q : Exit → Act → World → Prop} (hgd : o.guard = none) (s x : Operand) (t : TypeId)
    (ho : o.op = .call { callee := .builtin .append, args := #[s, x], argTypes := #[t, t] })
    (base : Nat) (e : TypeId) (i : TypeInfo) (z : Value) (bytes : Nat) (ht : P.underlying t = some (.slice e)) (hi : P.info? e = some i) (hz : i.zero = some z)
    (hsize : i.size = 3) (hby : i.bytes = bytes) (hzs : z.cells.size = 3)
    (v : Value) (n : Nat) (l : List Sp) (hs : a.eval s = v) (hown : w.ownsRow base e 3 v n (sps l)) (y : Sp) (c : Nat)
    (hx : a.eval x = .slice (some ⟨w.heap.size, 0, none⟩) 1 c)
    (hbytes : (n + 1) * bytes ≤ 140737488355328) (hn : n + 1 ≤ 140737488355328) (hbase : base ≤ w.heap.size)
    (h : ∀ v' w', w'.ownsRow base e 3 v' (n + 1) (sps (l ++ [y])) → w.grownBy w' v.ownBlock → (v'.ownBlock = v.ownBlock ∨ ∃ g, v'.ownBlock = some g ∧ w.heap.size ≤ g) → wpList P ops Q rest (a.put o.dst v') w') :
    wpList P ops Q (o :: rest) a (w.alloc (.cells #[.int .i64 y.1, .int .i64 y.2.1, .int .i64 y.2.2] e)) := by
  refine wpList_append_own_at _ hgd s x t ho base e i z 3 bytes ht hi hz hsize hby hzs (by omega) v n (sps l) hs (hown.alloc _) ⟨w.heap.size, 0, none⟩ 1 c (spc y) hx rfl ?_ ?_ (by unfold maxLen; omega) hbytes (by simp; omega) ?_
  · intro j u' hj
    match j, hj with
    | 0, hj => simp [spc] at hj; subst hj; simp [Addr.add]
    | 1, hj => simp [spc] at hj; subst hj; simp [Addr.add]
    | 2, hj => simp [spc] at hj; subst hj; simp [Addr.add]
  · intro u' hu
    simp [spc] at hu
    rcases hu with rfl | rfl | rfl <;> rfl
  · intro v' w' hown' hg _ hat
    refine h v' w' ?_ ?_ ?_
    · rw [sps_append, sps_one]; exact hown'
    · exact ⟨hg.os, hg.tape, hg.output, Nat.le_trans (by simp) hg.size, fun k hk hne => (hg.block k (by simp; omega) hne).trans (Below.heap_alloc w _ k hk)⟩
    · rcases hat with h1 | h1
      · exact .inl h1
      · exact .inr ⟨_, h1, by simp⟩
end

/-! ### The small functions -/
/-- A dot that is right. -/
def okDot (d : Int × Int) : Prop := 1 ≤ d.1 ∧ d.1 ≤ 16 ∧ 1 ≤ d.2 ∧ d.2 ≤ 4611686018427387904
instance (d : Int × Int) : Decidable (okDot d) := by unfold okDot; infer_instance
instance (a b : Sp) : Decidable (starts a b) := by unfold starts; infer_instance
theorem apart_is (a b : Sp) (w : World) (hb : 1 ≤ b.2.1 ∧ b.2.1 ≤ 9223372036854775807) :
    Calls Tryz.prog 121 #[.agg #[.int .i64 a.1, .int .i64 a.2.1, .int .i64 a.2.2], .agg #[.int .i64 b.1, .int .i64 b.2.1, .int .i64 b.2.2]] w fun e w' => e = .returned (.bool (decide (apart a b))) ∧ Below w.heap.size w w' := by
  obtain ⟨a0, a1, a2⟩ := a
  obtain ⟨b0, b1, b2⟩ := b
  obtain ⟨q, hq⟩ : ∃ q : Bool, decide (apart (a0, a1, a2) (b0, b1, b2)) = q := ⟨_, rfl⟩
  rw [hq]
  have H := Lib.hid ((decide_eq_true_iff (p := apart (a0, a1, a2) (b0, b1, b2))).symm.trans (by rw [hq]))
  simp only at hb ⊢
  clear hq
  go_enter Tryz.func121, Tryz.ntmps121
  go_wp2
  all_goals go_ret
  all_goals refine ⟨?_, ((Below.refl _ _).alloc (Nat.le_refl _) _).alloc (by simp) _⟩
  all_goals refine congrArg (fun b => Ending.returned (Value.bool b)) ?_
  all_goals rw [Bool.eq_iff_iff, ← H.out]
  all_goals unfold apart
  all_goals simp only [decide_eq_true_eq, true_iff]
  all_goals omega
theorem refDot_is (d : Int × Int) (w : World) :
    Calls Tryz.prog 87 #[.agg #[.int .i64 d.1, .int .i64 d.2]] w fun e w' => e = .returned (.bool (decide (okDot d))) ∧ Below w.heap.size w w' := by
  obtain ⟨d0, d1⟩ := d
  obtain ⟨q, hq⟩ : ∃ q : Bool, decide (okDot (d0, d1)) = q := ⟨_, rfl⟩
  rw [hq]
  have H := Lib.hid ((decide_eq_true_iff (p := okDot (d0, d1))).symm.trans (by rw [hq]))
  simp only
  clear hq
  go_enter Tryz.func87, Tryz.ntmps87
  go_wp2
  all_goals go_ret
  all_goals refine ⟨?_, (Below.refl _ _).alloc (Nat.le_refl _) _⟩
  all_goals refine congrArg (fun b => Ending.returned (Value.bool b)) ?_
  all_goals rw [Bool.eq_iff_iff, ← H.out]
  all_goals unfold okDot
  all_goals simp only [decide_eq_true_eq, Bool.false_eq_true, false_iff]
  all_goals omega
end Span
end Go.Proofs.YtbaclinjimfncaaGreat

/-
  span.Right tells whether a list is right.
-/
namespace Go.Proofs.YtbaclinjimfncaaGreat
namespace Span
open Go.RowKit
attribute [local go_sem ↓] Go.wp_at_zero Go.wp_at_succ

theorem below_drewN (B n : Nat) (w : World) : Below B w (w.drewN n) := ⟨rfl, rfl, rfl, Nat.le_refl _, fun _ _ => rfl⟩
theorem cell_below {B : Nat} {w w' : World} {p : Addr} {v : Value} (h : Below B w w') (hp : p.block < B) (hc : w.cell? p = some v) : w'.cell? p = some v := (h.cell hp).trans hc

set_option maxHeartbeats 2000000 in
set_option maxRecDepth 100000 in
theorem right_any (A : Option Addr) (c n : Nat) (l : List Sp) (hn : l.length = n) (w : World) (hr : Ss w w.heap.size A l) (hbig : n ≤ 140737488355328) :
    Calls Tryz.prog 104 #[.slice A n c] w fun e w' => e = .returned (.bool (decide (Right l))) ∧ Below w.heap.size w w' := by
  by_cases hlong : 1024 < n
  · have hres := Lib.hid (show decide (Right l) = false from decide_eq_false fun h => by have := h.1; omega)
    clear hr hn
    go_enter Tryz.func104, Tryz.ntmps104
    go_wp2
    go_ret
    exact ⟨by rw [hres.out]; rfl, Below.refl _ _⟩
  · go_enter Tryz.func104, Tryz.ntmps104
    go_wp2
    go_loopw [10] (fun q wr => ∃ k : Nat, k ≤ n ∧ q = .int .i64 k ∧ Below w.heap.size w wr ∧ Hid (Fine (l.take k))) (fun q _ => n - (intOf q).toNat)
    case atStart => exact ⟨0, by omega, rfl, Below.refl _ _, fine_nil⟩
    case round =>
      obtain ⟨k, hk, rfl, hb, hst⟩ := hrel
      by_cases hlt : k < n
      · obtain ⟨b, off, rfl, hbB, hc⟩ := hr (by omega)
        obtain ⟨c0, c1, c2⟩ := hc k (by omega)
        have d0 := (hb.cell (p := ⟨b, off + k * 3, none⟩) (by exact hbB)).trans c0
        have d1 := (hb.cell (p := ⟨b, off + k * 3 + 1, none⟩) (by exact hbB)).trans c1
        have d2 := (hb.cell (p := ⟨b, off + k * 3 + 2, none⟩) (by exact hbB)).trans c2
        obtain ⟨⟨x0, x1, x2⟩, hx⟩ : ∃ x, l.getD k (0, 0, 0) = x := ⟨_, rfl⟩
        rw [hx] at d0 d1 d2
        have hbs := hb.size
        by_cases hok : okSp (x0, x1, x2)
        · have hok' := hok
          unfold okSp at hok'
          simp only at hok'
          obtain ⟨o1, o2, o3, o4, o5⟩ := hok'
          have hf' := hst.out
          by_cases h0 : 0 < k
          · obtain ⟨p0, p1, p2⟩ := hc (k - 1) (by omega)
            have f0 := (hb.cell (p := ⟨b, off + (k - 1) * 3, none⟩) (by exact hbB)).trans p0
            have f1 := (hb.cell (p := ⟨b, off + (k - 1) * 3 + 1, none⟩) (by exact hbB)).trans p1
            have f2 := (hb.cell (p := ⟨b, off + (k - 1) * 3 + 2, none⟩) (by exact hbB)).trans p2
            obtain ⟨y, hy⟩ : ∃ y, l.getD (k - 1) (0, 0, 0) = y := ⟨_, rfl⟩
            rw [hy] at f0 f1 f2
            have hap := fine_step (l := l) (y := (x0, x1, x2)) (by omega) hx hf' hok
            have hnap := fine_not_apart (l := l) (y := (x0, x1, x2)) (by omega) hx h0
            rw [hy] at hap hnap
            have hX := fun W => apart_is y (x0, x1, x2) W ⟨o3, by simp only; omega⟩
            obtain ⟨q, hq⟩ : ∃ q, decide (apart y (x0, x1, x2)) = q := ⟨_, rfl⟩
            rw [hq] at hX
            have HX := Lib.hid hX
            have HY1 : Hid (q = true → Fine (l.take (k + 1))) := Lib.hid (fun h => hap fun _ => of_decide_eq_true (hq.trans h))
            have HY2 : Hid (q = false → decide (Right l) = false) := Lib.hid (fun h => decide_eq_false fun hR => hnap (of_decide_eq_false (hq.trans h)) hR.2)
            obtain ⟨y0, y1, y2⟩ := y
            clear hr hc c0 c1 c2 p0 p1 p2 hst hx hy hok hn hf' hap hnap hX hq
            simp only at f0 f1 f2
            have e0 : ((k : Int) - 1).toNat = k - 1 := by omega
            have e1 : (0 : Int) ≤ (k : Int) - 1 := by omega
            have e2 : (k : Int) - 1 < (n : Int) := by omega
            have e5 : (1 : Int) ≤ (k : Int) := by omega
            have e6 : (k : Int) ≤ (n : Int) := by omega
            have e7 : 1 ≤ k := by omega
            have e8 : ((k : Int) - 1 < (n : Int)) = True := eq_true (by omega)
            have e9 : (0 ≤ (k : Int) - 1) = True := eq_true (by omega)
            have e3 : decide ((0 : Int) < (k : Int)) = true := decide_eq_true (by omega)
            have g0 := World.cell?_alloc_lt wr (.cells #[.int .i64 x0, .int .i64 x1, .int .i64 x2] 60) ⟨b, off + (k - 1) * 3, none⟩ (by show b < _; omega)
            have g1 := World.cell?_alloc_lt wr (.cells #[.int .i64 x0, .int .i64 x1, .int .i64 x2] 60) ⟨b, off + (k - 1) * 3 + 1, none⟩ (by show b < _; omega)
            have g2 := World.cell?_alloc_lt wr (.cells #[.int .i64 x0, .int .i64 x1, .int .i64 x2] 60) ⟨b, off + (k - 1) * 3 + 2, none⟩ (by show b < _; omega)
            rw [f0] at g0
            rw [f1] at g1
            rw [f2] at g2
            have hbw := hb.alloc hbs (.cells #[.int .i64 x0, .int .i64 x1, .int .i64 x2] 60)
            have hs0 : wr.heap.size < (wr.alloc (.cells #[.int .i64 x0, .int .i64 x1, .int .i64 x2] 60)).heap.size := by simp
            have hs1 : b < (wr.alloc (.cells #[.int .i64 x0, .int .i64 x1, .int .i64 x2] 60)).heap.size := by simp; omega
            have q0 : (wr.alloc (.cells #[.int .i64 x0, .int .i64 x1, .int .i64 x2] 60)).cell? ⟨wr.heap.size, 0, none⟩ = some (.int .i64 x0) := by simp
            have q1 : (wr.alloc (.cells #[.int .i64 x0, .int .i64 x1, .int .i64 x2] 60)).cell? ⟨wr.heap.size, 1, none⟩ = some (.int .i64 x1) := by simp
            have q2 : (wr.alloc (.cells #[.int .i64 x0, .int .i64 x1, .int .i64 x2] 60)).cell? ⟨wr.heap.size, 2, none⟩ = some (.int .i64 x2) := by simp
            have e4 : IntKind.i64.wrap ((k : Int) - 1) = (k : Int) - 1 := IntWalk.i64_in _ (by omega)
            clear f0 f1 f2 hb hbB
            go_wp2
            go_region_held3 (fun W => W.cell? ⟨b, off + (k - 1) * 3, none⟩ = some (.int .i64 y0) ∧ W.cell? ⟨b, off + (k - 1) * 3 + 1, none⟩ = some (.int .i64 y1) ∧ W.cell? ⟨b, off + (k - 1) * 3 + 2, none⟩ = some (.int .i64 y2) ∧
                W.cell? ⟨wr.heap.size, 0, none⟩ = some (.int .i64 x0) ∧ W.cell? ⟨wr.heap.size, 1, none⟩ = some (.int .i64 x1) ∧ W.cell? ⟨wr.heap.size, 2, none⟩ = some (.int .i64 x2)) (first
                | exact ⟨g0, g1, g2, q0, q1, q2⟩
                | (have hb9 := ‹Below _ _ _›; exact ⟨cell_below hb9 hs1 g0, cell_below hb9 hs1 g1, cell_below hb9 hs1 g2, cell_below hb9 hs0 q0, cell_below hb9 hs0 q1, cell_below hb9 hs0 q2⟩))
              (first | (go_at_call 121; refine (HX.out _).mono ?_; rintro e w1 ⟨rfl, b1⟩))
            have hb2 := hbw.drew.trans (Below.mono b1 (by simp; omega))
            cases q
            · have hres := Lib.hid (HY2.out rfl)
              clear HY1 HY2 HX g0 g1 g2 q0 q1 q2
              go_wp2
              go_ret
              exact ⟨by rw [hres.out]; rfl, hb2⟩
            · have hres := Lib.hid (HY1.out rfl)
              clear HY1 HY2 HX g0 g1 g2 q0 q1 q2
              go_wp2
              exact ⟨⟨k + 1, by omega, rfl, hb2, hres⟩, by simp only [intOf]; omega⟩
          · have hres := Lib.hid (fine_step (by omega) hx hf' hok (fun h => absurd h h0))
            clear hr hc c0 c1 c2 hx hst hok hn hf'
            have e3 : decide ((0 : Int) < (k : Int)) = false := decide_eq_false (by omega)
            go_wp2
            go_quiet (fail)
            go_wp2
            exact ⟨⟨k + 1, by omega, rfl, (hb.alloc hbs _).trans (below_drewN _ _ _), hres⟩, by simp only [intOf]; omega⟩
        · have hres := Lib.hid (show decide (Right l) = false from decide_eq_false fun h => fine_not_ok (by omega) hx hok h.2)
          have hM := Lib.hid hok
          clear hr hc c0 c1 c2 hx hst hok hn
          go_wp2
          all_goals first
            | (exfalso; refine hM.out ?_; unfold okSp; simp only; omega)
            | (go_ret; exact ⟨by rw [hres.out]; rfl, hb.alloc hbs _⟩)
      · have hk0 : k = n := by omega
        have hres := Lib.hid (show decide (Right l) = true from decide_eq_true ⟨by omega, by have := hst.out; rwa [List.take_of_length_le (by omega)] at this⟩)
        clear hst hr
        go_wp2
        go_ret
        exact ⟨by rw [hres.out]; rfl, hb⟩
end Span
end Go.Proofs.YtbaclinjimfncaaGreat
