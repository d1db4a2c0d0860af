/-
  Spans as sets of dots, on plain lists: which lists are right, and that two right lists of the same dots are the same.
-/
import Derived.Test.YtbhidndgnldheaaSpanBase
namespace Go.Proofs.Ytbhidndgnldheaa
namespace Span

def okSp (x : Sp) : Prop := 1 ≤ x.1 ∧ x.1 ≤ 16 ∧ 1 ≤ x.2.1 ∧ x.2.1 ≤ x.2.2 ∧ x.2.2 ≤ 4611686018427387904
def apart (a b : Sp) : Prop := a.1 < b.1 ∨ (a.1 = b.1 ∧ a.2.2 + 1 < b.2.1)
def inSp (x : Sp) (s n : Int) : Prop := x.1 = s ∧ x.2.1 ≤ n ∧ n ≤ x.2.2
def mem (l : List Sp) (s n : Int) : Prop := ∃ x ∈ l, inSp x s n
def Fine (l : List Sp) : Prop := (∀ x ∈ l, okSp x) ∧ l.Pairwise apart
instance (x : Sp) : Decidable (okSp x) := by unfold okSp; infer_instance
instance (a b : Sp) : Decidable (apart a b) := by unfold apart; infer_instance
instance (x : Sp) (s n : Int) : Decidable (inSp x s n) := by unfold inSp; infer_instance
instance (l : List Sp) (s n : Int) : Decidable (mem l s n) := by unfold mem; infer_instance
instance (l : List Sp) : Decidable (Fine l) := by unfold Fine; infer_instance
def Right (l : List Sp) : Prop := l.length ≤ 1024 ∧ Fine l
instance (l : List Sp) : Decidable (Right l) := by unfold Right; infer_instance

theorem apart_trans {a b c : Sp} (hb : okSp b) (h1 : apart a b) (h2 : apart b c) : apart a c := by
  unfold apart okSp at *
  omega
theorem fine_nil : Fine [] := ⟨by simp, List.Pairwise.nil⟩
theorem fine_one {x : Sp} (h : okSp x) : Fine [x] := ⟨by simpa using h, by simp⟩
theorem fine_cons {x : Sp} {l : List Sp} : Fine (x :: l) ↔ okSp x ∧ (∀ y ∈ l, apart x y) ∧ Fine l := by
  unfold Fine
  rw [List.pairwise_cons]
  constructor
  · rintro ⟨h1, h2, h3⟩
    exact ⟨h1 x (by simp), h2, fun y hy => h1 y (by simp [hy]), h3⟩
  · rintro ⟨h1, h2, h3, h4⟩
    refine ⟨fun y hy => ?_, h2, h4⟩
    rcases List.mem_cons.1 hy with rfl | hy
    · exact h1
    · exact h3 y hy
theorem fine_snoc {x : Sp} {l : List Sp} : Fine (l ++ [x]) ↔ Fine l ∧ okSp x ∧ ∀ y ∈ l, apart y x := by
  unfold Fine
  rw [List.pairwise_append]
  constructor
  · rintro ⟨h1, h2, _, h4⟩
    exact ⟨⟨fun y hy => h1 y (by simp [hy]), h2⟩, h1 x (by simp), fun y hy => h4 y hy x (by simp)⟩
  · rintro ⟨⟨h1, h2⟩, h3, h4⟩
    refine ⟨fun y hy => ?_, h2, by simp, fun y hy z hz => ?_⟩
    · rcases List.mem_append.1 hy with hy | hy
      · exact h1 y hy
      · rw [List.mem_singleton.1 hy]; exact h3
    · rw [List.mem_singleton.1 hz]; exact h4 y hy
theorem fine_left {l m : List Sp} (h : Fine (l ++ m)) : Fine l := ⟨fun x hx => h.1 x (by simp [hx]), (List.pairwise_append.1 h.2).1⟩
theorem fine_next {x z : Sp} {l : List Sp} (h : Fine (l ++ [z])) (hx : okSp x) (ha : apart z x) : Fine (l ++ [z] ++ [x]) := by
  rw [fine_snoc]
  have h' := fine_snoc.1 h
  refine ⟨h, hx, fun y hy => ?_⟩
  rcases List.mem_append.1 hy with hy | hy
  · exact apart_trans h'.2.1 (h'.2.2 y hy) ha
  · rw [List.mem_singleton.1 hy]; exact ha
/-- Two spans of a right list are the same, or apart. -/
theorem fine_two {l : List Sp} (h : Fine l) {y z : Sp} (hy : y ∈ l) (hz : z ∈ l) : y = z ∨ apart y z ∨ apart z y := by
  induction l with
  | nil => simp at hy
  | cons x l ih =>
    have h' := fine_cons.1 h
    rcases List.mem_cons.1 hy with e1 | hy'
    · rcases List.mem_cons.1 hz with e2 | hz'
      · exact .inl (e1.trans e2.symm)
      · exact .inr (.inl (e1 ▸ h'.2.1 z hz'))
    · rcases List.mem_cons.1 hz with e2 | hz'
      · exact .inr (.inr (e2 ▸ h'.2.1 y hy'))
      · exact ih h'.2.2 hy' hz'

theorem mem_nil (s n : Int) : ¬ mem [] s n := by simp [mem]
theorem mem_cons (x : Sp) (l : List Sp) (s n : Int) : mem (x :: l) s n ↔ inSp x s n ∨ mem l s n := by simp [mem]
theorem mem_append (l m : List Sp) (s n : Int) : mem (l ++ m) s n ↔ mem l s n ∨ mem m s n := by
  unfold mem
  constructor
  · rintro ⟨x, hx, h⟩
    rcases List.mem_append.1 hx with hx | hx
    · exact .inl ⟨x, hx, h⟩
    · exact .inr ⟨x, hx, h⟩
  · rintro (⟨x, hx, h⟩ | ⟨x, hx, h⟩)
    · exact ⟨x, by simp [hx], h⟩
    · exact ⟨x, by simp [hx], h⟩
theorem mem_one (x : Sp) (s n : Int) : mem [x] s n ↔ inSp x s n := by simp [mem]

/-- All dots of what stands behind x begin behind x. -/
theorem behind {x : Sp} {l : List Sp} (h : ∀ y ∈ l, apart x y) {s n : Int} (hm : mem l s n) : x.1 < s ∨ (x.1 = s ∧ x.2.2 + 1 < n) := by
  obtain ⟨y, hy, h1, h2, h3⟩ := hm
  have := h y hy
  unfold apart at this
  omega

/-- TWO RIGHT LISTS OF THE SAME DOTS ARE THE SAME. -/
theorem canon : ∀ {l m : List Sp}, Fine l → Fine m → (∀ s n, mem l s n ↔ mem m s n) → l = m
  | [], [], _, _, _ => rfl
  | [], y :: m, _, hm, h => by
    have h1 := (fine_cons.1 hm).1
    exact absurd ((h y.1 y.2.1).2 ((mem_cons _ _ _ _).2 (.inl ⟨rfl, by omega, h1.2.2.2.1⟩))) (mem_nil _ _)
  | x :: l, [], hl, _, h => by
    have h1 := (fine_cons.1 hl).1
    exact absurd ((h x.1 x.2.1).1 ((mem_cons _ _ _ _).2 (.inl ⟨rfl, by omega, h1.2.2.2.1⟩))) (mem_nil _ _)
  | x :: l, y :: m, hl, hm, h => by
    obtain ⟨hx, hxl, hl'⟩ := fine_cons.1 hl
    obtain ⟨hy, hym, hm'⟩ := fine_cons.1 hm
    have hx4 := hx.2.2.2.1
    have hy4 := hy.2.2.2.1
    have e1 := (mem_cons _ _ _ _).1 ((h x.1 x.2.1).1 ((mem_cons _ _ _ _).2 (.inl ⟨rfl, by omega, hx4⟩)))
    have e2 := (mem_cons _ _ _ _).1 ((h y.1 y.2.1).2 ((mem_cons _ _ _ _).2 (.inl ⟨rfl, by omega, hy4⟩)))
    have b1 : (y.1 = x.1 ∧ y.2.1 ≤ x.2.1 ∧ x.2.1 ≤ y.2.2) ∨ (y.1 < x.1 ∨ (y.1 = x.1 ∧ y.2.2 + 1 < x.2.1)) := e1.imp id (behind hym)
    have b2 : (x.1 = y.1 ∧ x.2.1 ≤ y.2.1 ∧ y.2.1 ≤ x.2.2) ∨ (x.1 < y.1 ∨ (x.1 = y.1 ∧ x.2.2 + 1 < y.2.1)) := e2.imp id (behind hxl)
    have h1 : x.1 = y.1 := by omega
    have h2 : x.2.1 = y.2.1 := by omega
    have h3 : x.2.2 = y.2.2 := by
      rcases Int.lt_trichotomy x.2.2 y.2.2 with hlt | he | hgt
      · exfalso
        have e3 := (mem_cons _ _ _ _).1 ((h x.1 (x.2.2 + 1)).2 ((mem_cons _ _ _ _).2 (.inl ⟨h1.symm, by omega, by omega⟩)))
        have b3 : (x.1 = x.1 ∧ x.2.1 ≤ x.2.2 + 1 ∧ x.2.2 + 1 ≤ x.2.2) ∨ (x.1 < x.1 ∨ (x.1 = x.1 ∧ x.2.2 + 1 < x.2.2 + 1)) := e3.imp id (behind hxl)
        omega
      · exact he
      · exfalso
        have e3 := (mem_cons _ _ _ _).1 ((h y.1 (y.2.2 + 1)).1 ((mem_cons _ _ _ _).2 (.inl ⟨h1, by omega, by omega⟩)))
        have b3 : (y.1 = y.1 ∧ y.2.1 ≤ y.2.2 + 1 ∧ y.2.2 + 1 ≤ y.2.2) ∨ (y.1 < y.1 ∨ (y.1 = y.1 ∧ y.2.2 + 1 < y.2.2 + 1)) := e3.imp id (behind hym)
        omega
    have hxy : x = y := Prod.ext h1 (Prod.ext h2 h3)
    subst hxy
    have key : ∀ s n, mem l s n ↔ mem m s n := by
      intro s n
      have ho := h s n
      rw [mem_cons, mem_cons] at ho
      constructor
      · intro hq
        rcases ho.1 (.inr hq) with h5 | h5
        · have b := behind hxl hq
          have h5' : x.1 = s ∧ x.2.1 ≤ n ∧ n ≤ x.2.2 := h5
          omega
        · exact h5
      · intro hq
        rcases ho.2 (.inr hq) with h5 | h5
        · have b := behind hym hq
          have h5' : x.1 = s ∧ x.2.1 ≤ n ∧ n ≤ x.2.2 := h5
          omega
        · exact h5
    rw [canon hl' hm' key]

/-- A row of dots of one site, all in a right list, is in one span of it. -/
theorem within_one {b : List Sp} (h : Fine b) {x : Sp} (hx : okSp x) (hs : ∀ n, x.2.1 ≤ n → n ≤ x.2.2 → mem b x.1 n) : ∃ y ∈ b, y.1 = x.1 ∧ y.2.1 ≤ x.2.1 ∧ x.2.2 ≤ y.2.2 := by
  have hx4 := hx.2.2.2.1
  obtain ⟨y, hy, y1, y2, y3⟩ := hs x.2.1 (by omega) hx4
  rcases Int.lt_or_le y.2.2 x.2.2 with hlt | hle
  · exfalso
    obtain ⟨z, hz, z1, z2, z3⟩ := hs (y.2.2 + 1) (by omega) (by omega)
    rcases fine_two h hy hz with rfl | h1 | h1
    · omega
    · unfold apart at h1; omega
    · unfold apart at h1; omega
  · exact ⟨y, hy, y1, y2, hle⟩

/-! ### What comes of two sets -/
def IsJoin (a b r : List Sp) : Prop := Fine r ∧ ∀ s n, mem r s n ↔ mem a s n ∨ mem b s n
theorem IsJoin.same {a b r r' : List Sp} (h : IsJoin a b r) (h' : IsJoin a b r') : r = r' := canon h.1 h'.1 fun s n => (h.2 s n).trans (h'.2 s n).symm
def Sub (a b : List Sp) : Prop := ∀ s n, mem a s n → mem b s n

/-- A span laid behind those laid. -/
def layF (out : List Sp) (s : Sp) : List Sp :=
  match out.getLast? with
  | none => [s]
  | some z => if apart z s then out ++ [s] else out.dropLast ++ [(z.1, z.2.1, max z.2.2 s.2.2)]
def starts (z s : Sp) : Prop := z.1 < s.1 ∨ (z.1 = s.1 ∧ z.2.1 ≤ s.2.1)
theorem starts_trans {a b c : Sp} (h1 : starts a b) (h2 : starts b c) : starts a c := by unfold starts at *; omega
theorem apart_starts {a b : Sp} (ha : okSp a) (h : apart a b) : starts a b := by unfold apart okSp starts at *; omega

theorem lay_nil (s : Sp) : layF [] s = [s] := rfl
theorem lay_snoc (l : List Sp) (z s : Sp) : layF (l ++ [z]) s = if apart z s then l ++ [z] ++ [s] else l ++ [(z.1, z.2.1, max z.2.2 s.2.2)] := by simp [layF]
theorem lay_fine {out : List Sp} {s : Sp} (hf : Fine out) (hs : okSp s) (hst : ∀ z ∈ out, starts z s) :
    Fine (layF out s) ∧ (∀ t n, mem (layF out s) t n ↔ mem out t n ∨ inSp s t n) ∧ (layF out s).length ≤ out.length + 1 ∧ ∀ u, (∀ z ∈ out, starts z u) → starts s u → ∀ z ∈ layF out s, starts z u := by
  rcases List.eq_nil_or_concat out with rfl | ⟨l, z, rfl⟩
  · refine ⟨fine_one hs, fun t n => ?_, by simp [layF], fun u _ hu z hz => ?_⟩
    · rw [lay_nil, mem_one]; simp [mem]
    · rw [lay_nil, List.mem_singleton] at hz
      rw [hz]; exact hu
  · rw [List.concat_eq_append] at hf hst ⊢
    rw [lay_snoc]
    have hf' := fine_snoc.1 hf
    split
    case isTrue ha =>
      refine ⟨fine_next hf hs ha, fun t n => ?_, by simp, fun u h1 h2 y hy => ?_⟩
      · rw [mem_append _ [s], mem_one]
      · rcases List.mem_append.1 hy with hy | hy
        · exact h1 y hy
        · rw [List.mem_singleton.1 hy]; exact h2
    case isFalse ha =>
      have hz := hst z (by simp)
      have hzo := hf'.2.1
      unfold apart at ha
      unfold starts at hz
      unfold okSp at hzo hs
      have e1 : z.1 = s.1 := by omega
      refine ⟨fine_snoc.2 ⟨hf'.1, ?_, fun y hy => ?_⟩, fun t n => ?_, by simp, fun u h1 h2 y hy => ?_⟩
      · unfold okSp
        show 1 ≤ z.1 ∧ z.1 ≤ 16 ∧ 1 ≤ z.2.1 ∧ z.2.1 ≤ max z.2.2 s.2.2 ∧ max z.2.2 s.2.2 ≤ 4611686018427387904
        omega
      · exact hf'.2.2 y hy
      · rw [mem_append, mem_append, mem_one, mem_one]
        unfold inSp
        show mem l t n ∨ (z.1 = t ∧ z.2.1 ≤ n ∧ n ≤ max z.2.2 s.2.2) ↔ (mem l t n ∨ (z.1 = t ∧ z.2.1 ≤ n ∧ n ≤ z.2.2)) ∨ (s.1 = t ∧ s.2.1 ≤ n ∧ n ≤ s.2.2)
        rw [or_assoc]
        refine or_congr Iff.rfl ?_
        omega
      · rcases List.mem_append.1 hy with hy | hy
        · exact h1 y (by simp [hy])
        · rw [List.mem_singleton.1 hy]
          exact h1 z (by simp)

/-! ### One span put into a right list, as the document does it -/
def touch (y x : Sp) : Prop := y.1 = x.1 ∧ y.2.1 ≤ x.2.2 + 1 ∧ x.2.1 ≤ y.2.2 + 1
def hull (x y : Sp) : Sp := (x.1, min x.2.1 y.2.1, max x.2.2 y.2.2)
theorem hull_ok {x y : Sp} (hx : okSp x) (hy : okSp y) : okSp (hull x y) := by
  unfold okSp hull at *
  show 1 ≤ x.1 ∧ x.1 ≤ 16 ∧ 1 ≤ min x.2.1 y.2.1 ∧ min x.2.1 y.2.1 ≤ max x.2.2 y.2.2 ∧ max x.2.2 y.2.2 ≤ _
  omega
theorem hull_in {x y : Sp} (ht : touch y x) (s n : Int) : inSp (hull x y) s n ↔ inSp y s n ∨ inSp x s n := by
  unfold touch at ht
  unfold inSp hull
  show (x.1 = s ∧ min x.2.1 y.2.1 ≤ n ∧ n ≤ max x.2.2 y.2.2) ↔ _
  omega
theorem apart_no_touch {x y : Sp} (h : apart x y) : ¬ touch y x := by unfold apart at h; unfold touch; omega

/-- Behind i rounds: x is what is to be laid, out what is laid of l; laid or not yet. -/
def Putting (l : List Sp) (x0 : Sp) (i : Nat) (x : Sp) (out : List Sp) (laid : Bool) : Prop :=
  (laid = false → (∀ z ∈ out, z ∈ l.take i) ∧ Fine (out ++ [x]) ∧ (∀ s n, mem (out ++ [x]) s n ↔ mem (l.take i) s n ∨ inSp x0 s n) ∧ out.length ≤ i) ∧
  (laid = true → okSp x ∧ Fine out ∧ (∀ s n, mem out s n ↔ mem (l.take i) s n ∨ inSp x0 s n) ∧ out.length ≤ i + 1 ∧ ∀ y ∈ l.drop i, apart x y ∧ ∀ z ∈ out, apart z y)

theorem putting_start (l : List Sp) {x0 : Sp} (h : okSp x0) : Putting l x0 0 x0 [] false :=
  ⟨fun _ => ⟨by simp, fine_one h, fun s n => by simp [mem], by simp⟩, fun e => by cases e⟩

theorem take_one {l : List Sp} {i : Nat} {y : Sp} (hi : i < l.length) (hy : l.getD i (0, 0, 0) = y) : l.take (i + 1) = l.take i ++ [y] := by
  rw [List.take_succ_eq_append_getElem hi]
  rw [List.getD_eq_getElem?_getD, List.getElem?_eq_getElem hi, Option.getD_some] at hy
  rw [hy]
theorem drop_one {l : List Sp} {i : Nat} {y : Sp} (hi : i < l.length) (hy : l.getD i (0, 0, 0) = y) : l.drop i = y :: l.drop (i + 1) := by
  rw [List.drop_eq_getElem_cons hi]
  rw [List.getD_eq_getElem?_getD, List.getElem?_eq_getElem hi, Option.getD_some] at hy
  rw [hy]
theorem getD_mem {l : List Sp} {i : Nat} {y : Sp} (hi : i < l.length) (hy : l.getD i (0, 0, 0) = y) : y ∈ l := by
  rw [List.getD_eq_getElem?_getD, List.getElem?_eq_getElem hi, Option.getD_some] at hy
  exact hy ▸ List.getElem_mem hi
theorem fine_at {l : List Sp} (hf : Fine l) {i : Nat} {y : Sp} (hi : i < l.length) (hy : l.getD i (0, 0, 0) = y) :
    okSp y ∧ (∀ z ∈ l.take i, apart z y) ∧ (∀ z ∈ l.drop (i + 1), apart y z) ∧ (∀ u ∈ l.take i, ∀ z ∈ l.drop (i + 1), apart u z) := by
  have h : l = l.take i ++ (y :: l.drop (i + 1)) := by rw [← drop_one hi hy, List.take_append_drop]
  refine ⟨hf.1 y (getD_mem hi hy), ?_⟩
  have hp := hf.2
  rw [h] at hp
  obtain ⟨_, h2, h3⟩ := List.pairwise_append.1 hp
  exact ⟨fun z hz => h3 z hz y (by simp), (List.pairwise_cons.1 h2).1, fun u hu z hz => h3 u hu z (by simp [hz])⟩

theorem putting_touch {l : List Sp} {x0 x y : Sp} {i : Nat} {out : List Sp} (hf : Fine l) (hi : i < l.length) (hy : l.getD i (0, 0, 0) = y) (h : Putting l x0 i x out false) (ht : touch y x) :
    Putting l x0 (i + 1) (hull x y) out false := by
  obtain ⟨h1, h2, h3, h4⟩ := h.1 rfl
  obtain ⟨hyo, hb, _, _⟩ := fine_at hf hi hy
  obtain ⟨f1, f2, f3⟩ := fine_snoc.1 h2
  refine ⟨fun _ => ⟨fun z hz => ?_, fine_snoc.2 ⟨f1, hull_ok f2 hyo, fun z hz => ?_⟩, fun s n => ?_, by omega⟩, fun e => by cases e⟩
  · rw [take_one hi hy]; simp [h1 z hz]
  · have a1 := f3 z hz
    have a2 := hb z (h1 z hz)
    unfold apart at a1 a2 ⊢
    show z.1 < x.1 ∨ (z.1 = x.1 ∧ z.2.2 + 1 < min x.2.1 y.2.1)
    unfold touch at ht
    omega
  · have h3' := h3 s n
    rw [mem_append, mem_one] at h3' ⊢
    rw [take_one hi hy, mem_append, mem_one, hull_in ht]
    rw [or_left_comm, h3', or_left_comm, ← or_assoc]
theorem putting_ahead {l : List Sp} {x0 x y : Sp} {i : Nat} {out : List Sp} (hf : Fine l) (hi : i < l.length) (hy : l.getD i (0, 0, 0) = y) (h : Putting l x0 i x out false) (ht : apart y x) :
    Putting l x0 (i + 1) x (out ++ [y]) false := by
  obtain ⟨h1, h2, h3, h4⟩ := h.1 rfl
  obtain ⟨hyo, hb, _, _⟩ := fine_at hf hi hy
  obtain ⟨f1, f2, f3⟩ := fine_snoc.1 h2
  refine ⟨fun _ => ⟨fun z hz => ?_, fine_next (fine_snoc.2 ⟨f1, hyo, fun z hz => hb z (h1 z hz)⟩) f2 ht, fun s n => ?_, by simp; omega⟩, fun e => by cases e⟩
  · rw [take_one hi hy]
    rcases List.mem_append.1 hz with hz | hz
    · simp [h1 z hz]
    · simp [List.mem_singleton.1 hz]
  · have h3' := h3 s n
    rw [mem_append, mem_one] at h3'
    rw [take_one hi hy, mem_append, mem_append, mem_append, mem_one, mem_one, or_right_comm, h3', or_right_comm]
theorem putting_lay {l : List Sp} {x0 x y : Sp} {i : Nat} {out : List Sp} (hf : Fine l) (hi : i < l.length) (hy : l.getD i (0, 0, 0) = y) (h : Putting l x0 i x out false) (ht : apart x y) :
    Putting l x0 (i + 1) x (out ++ [x] ++ [y]) true := by
  obtain ⟨h1, h2, h3, h4⟩ := h.1 rfl
  obtain ⟨hyo, hb, hd, hbd⟩ := fine_at hf hi hy
  obtain ⟨f1, f2, f3⟩ := fine_snoc.1 h2
  refine ⟨fun e => (by cases e), fun _ => ⟨f2, fine_next h2 hyo ht, fun s n => ?_, by simp; omega, fun u hu => ?_⟩⟩
  · rw [take_one hi hy, mem_append, h3 s n, mem_append, or_right_comm]
  · have hxu := apart_trans hyo ht (hd u hu)
    refine ⟨hxu, fun z hz => ?_⟩
    rcases List.mem_append.1 hz with hz | hz
    · rcases List.mem_append.1 hz with hz | hz
      · exact hbd z (h1 z hz) u hu
      · rw [List.mem_singleton.1 hz]; exact hxu
    · rw [List.mem_singleton.1 hz]; exact hd u hu
theorem putting_on {l : List Sp} {x0 x y : Sp} {i : Nat} {out : List Sp} (hf : Fine l) (hi : i < l.length) (hy : l.getD i (0, 0, 0) = y) (h : Putting l x0 i x out true) :
    ¬ touch y x ∧ Putting l x0 (i + 1) x (out ++ [y]) true := by
  obtain ⟨h0, h1, h2, h3, h4⟩ := h.2 rfl
  obtain ⟨hyo, hb, hd, hbd⟩ := fine_at hf hi hy
  have h5 := h4 y (by rw [drop_one hi hy]; simp)
  refine ⟨apart_no_touch h5.1, fun e => (by cases e), fun _ => ⟨h0, fine_snoc.2 ⟨h1, hyo, h5.2⟩, fun s n => ?_, by simp; omega, fun u hu => ?_⟩⟩
  · rw [take_one hi hy, mem_append, h2 s n, mem_append, or_right_comm]
  · have h6 := h4 u (by rw [drop_one hi hy]; simp [hu])
    refine ⟨h6.1, fun z hz => ?_⟩
    rcases List.mem_append.1 hz with hz | hz
    · exact h6.2 z hz
    · rw [List.mem_singleton.1 hz]; exact hd u hu
theorem putting_end {l : List Sp} {x0 x : Sp} {out : List Sp} {laid : Bool} (h : Putting l x0 l.length x out laid) : IsJoin l [x0] (if laid then out else out ++ [x]) ∧ (if laid then out else out ++ [x]).length ≤ l.length + 1 := by
  cases laid
  · obtain ⟨h1, h2, h3, h4⟩ := h.1 rfl
    rw [List.take_length] at h3
    refine ⟨⟨h2, fun s n => ?_⟩, by simp; omega⟩
    rw [mem_one]; exact h3 s n
  · obtain ⟨h0, h1, h2, h3, _⟩ := h.2 rfl
    rw [List.take_length] at h2
    refine ⟨⟨h1, fun s n => ?_⟩, by simpa using h3⟩
    rw [mem_one]; exact h2 s n
/-! ### Step by step -/
theorem take_last {l : List Sp} {k : Nat} {z : Sp} (h0 : 0 < k) (hk : k ≤ l.length) (hz : l.getD (k - 1) (0, 0, 0) = z) : l.take k = l.take (k - 1) ++ [z] := by
  have := take_one (i := k - 1) (by omega) hz
  rwa [show k - 1 + 1 = k by omega] at this
theorem fine_step {l : List Sp} {k : Nat} {y : Sp} (hk : k < l.length) (hy : l.getD k (0, 0, 0) = y) (hf : Fine (l.take k)) (ho : okSp y) (ha : 0 < k → apart (l.getD (k - 1) (0, 0, 0)) y) : Fine (l.take (k + 1)) := by
  rw [take_one hk hy]
  rcases Nat.eq_zero_or_pos k with rfl | h0
  · exact fine_one ho
  · rw [take_last h0 (by omega) rfl] at hf ⊢
    exact fine_next hf ho (ha h0)
theorem fine_not_ok {l : List Sp} {k : Nat} {y : Sp} (hk : k < l.length) (hy : l.getD k (0, 0, 0) = y) (ho : ¬ okSp y) : ¬ Fine l := fun h => ho (h.1 y (getD_mem hk hy))
theorem fine_not_apart {l : List Sp} {k : Nat} {y : Sp} (hk : k < l.length) (hy : l.getD k (0, 0, 0) = y) (h0 : 0 < k) (ha : ¬ apart (l.getD (k - 1) (0, 0, 0)) y) : ¬ Fine l := by
  intro h
  have h1 := (fine_at h hk hy).2.1
  rw [take_last h0 (by omega) rfl] at h1
  exact ha (h1 _ (by simp))
theorem fine_getD {l : List Sp} (h : Fine l) {k : Nat} {y : Sp} (hk : k < l.length) (hy : l.getD k (0, 0, 0) = y) : okSp y := h.1 y (getD_mem hk hy)
theorem mem_take_one {l : List Sp} {i : Nat} {y : Sp} (hi : i < l.length) (hy : l.getD i (0, 0, 0) = y) (s n : Int) : mem (l.take (i + 1)) s n ↔ mem (l.take i) s n ∨ inSp y s n := by
  rw [take_one hi hy, mem_append, mem_one]

/-! How many dots -/
def total (l : List Sp) : Int := (l.map fun x => x.2.2 - x.2.1 + 1).sum
theorem total_snoc (l : List Sp) (x : Sp) : total (l ++ [x]) = total l + (x.2.2 - x.2.1 + 1) := by simp [total]
theorem total_append (l m : List Sp) : total (l ++ m) = total l + total m := by simp [total]
theorem total_pos : ∀ {l : List Sp}, (∀ x ∈ l, okSp x) → 0 ≤ total l
  | [], _ => by simp [total]
  | x :: l, h => by
    have h1 := h x (by simp)
    have h2 := total_pos (l := l) fun y hy => h y (by simp [hy])
    have h3 : total (x :: l) = (x.2.2 - x.2.1 + 1) + total l := by simp [total]
    unfold okSp at h1
    omega
def sizeF (l : List Sp) : Int := if Right l then min 4611686018427387904 (total l) else 0
theorem total_take {l : List Sp} (h : Fine l) {k : Nat} {y : Sp} (hk : k < l.length) (hy : l.getD k (0, 0, 0) = y) : total (l.take (k + 1)) = total (l.take k) + (y.2.2 - y.2.1 + 1) ∧ total (l.take (k + 1)) ≤ total l := by
  refine ⟨by rw [take_one hk hy, total_snoc], ?_⟩
  have h1 : total l = total (l.take (k + 1)) + total (l.drop (k + 1)) := by rw [← total_append, List.take_append_drop]
  have h2 := total_pos (l := l.drop (k + 1)) fun x hx => h.1 x (List.mem_of_mem_drop hx)
  omega

/-! The greatest count -/
def topF (l : List Sp) (s : Int) : Int := l.foldl (fun n x => if x.1 = s then max n x.2.2 else n) 0
theorem topF_snoc (l : List Sp) (x : Sp) (s : Int) : topF (l ++ [x]) s = if x.1 = s then max (topF l s) x.2.2 else topF l s := by simp [topF]
theorem topF_take {l : List Sp} {k : Nat} {y : Sp} (hk : k < l.length) (hy : l.getD k (0, 0, 0) = y) (s : Int) : topF (l.take (k + 1)) s = if y.1 = s then max (topF (l.take k) s) y.2.2 else topF (l.take k) s := by
  rw [take_one hk hy, topF_snoc]

def hasL (l : List Sp) (s n : Int) : Bool := l.any fun x => x.1 == s && decide (x.2.1 ≤ n) && decide (n ≤ x.2.2)

theorem hasL_at (l : List Sp) (k : Nat) (s n : Int) (x : Sp) (h : k < l.length) (hx : l.getD k (0, 0, 0) = x) :
    hasL (l.drop k) s n = ((x.1 == s && decide (x.2.1 ≤ n) && decide (n ≤ x.2.2)) || hasL (l.drop (k + 1)) s n) := by
  rw [List.drop_eq_getElem_cons h]
  rw [List.getD_eq_getElem?_getD, List.getElem?_eq_getElem h, Option.getD_some] at hx
  unfold hasL
  rw [List.any_cons, hx]
theorem hasL_hit {l : List Sp} {k : Nat} {s n : Int} {x : Sp} (h : k < l.length) (hx : l.getD k (0, 0, 0) = x) (h1 : x.1 = s) (h2 : x.2.1 ≤ n) (h3 : n ≤ x.2.2) : hasL (l.drop k) s n = true := by
  rw [hasL_at l k s n x h hx]
  simp [h1, h2, h3]
theorem hasL_miss {l : List Sp} {k : Nat} {s n : Int} {x : Sp} (h : k < l.length) (hx : l.getD k (0, 0, 0) = x) (hm : ¬ (x.1 = s ∧ x.2.1 ≤ n ∧ n ≤ x.2.2)) : hasL (l.drop k) s n = hasL (l.drop (k + 1)) s n := by
  rw [hasL_at l k s n x h hx]
  have e : (x.1 == s && decide (x.2.1 ≤ n) && decide (n ≤ x.2.2)) = false := by
    rw [Bool.eq_false_iff]
    intro h'
    simp only [Bool.and_eq_true, beq_iff_eq, decide_eq_true_eq] at h'
    exact hm ⟨h'.1.1, h'.1.2, h'.2⟩
  rw [e, Bool.false_or]

theorem hasL_mem (l : List Sp) (s n : Int) : hasL l s n = decide (mem l s n) := by
  rw [Bool.eq_iff_iff, decide_eq_true_iff]
  unfold hasL mem inSp
  rw [List.any_eq_true]
  simp only [Bool.and_eq_true, beq_iff_eq, decide_eq_true_eq, and_assoc]

/-! Within -/
def inOne (b : List Sp) (x : Sp) : Prop := ∃ y ∈ b, y.1 = x.1 ∧ y.2.1 ≤ x.2.1 ∧ x.2.2 ≤ y.2.2
theorem sub_iff {a b : List Sp} (ha : Fine a) (hb : Fine b) : Sub a b ↔ ∀ x ∈ a, inOne b x := by
  constructor
  · intro h x hx
    exact within_one hb (ha.1 x hx) fun n h1 h2 => h _ _ ⟨x, hx, rfl, h1, h2⟩
  · rintro h s n ⟨x, hx, h1, h2, h3⟩
    obtain ⟨y, hy, h4, h5, h6⟩ := h x hx
    exact ⟨y, hy, by omega, by omega, by omega⟩
/-- A span put into a right list changes nothing just where one of its spans has it. -/
theorem put_same {b r : List Sp} {x : Sp} (hx : okSp x) (hb : Fine b) (hr : IsJoin b [x] r) : r = b ↔ inOne b x := by
  constructor
  · rintro rfl
    exact within_one hb hx fun n h1 h2 => (hr.2 _ _).2 (.inr ((mem_one _ _ _).2 ⟨rfl, h1, h2⟩))
  · rintro ⟨y, hy, h4, h5, h6⟩
    refine canon hr.1 hb fun s n => ?_
    rw [hr.2, mem_one]
    refine ⟨fun h => ?_, .inl⟩
    rcases h with h | ⟨h1, h2, h3⟩
    · exact h
    · exact ⟨y, hy, by omega, by omega, by omega⟩
def has1 (y x : Sp) : Prop := y.1 = x.1 ∧ y.2.1 ≤ x.2.1 ∧ x.2.2 ≤ y.2.2
/-- What is passed over ahead of the span that has one has no later one either. -/
theorem passed {a b : List Sp} (ha : Fine a) (hb : Fine b) {i j : Nat} {x y : Sp} (hi : i < a.length) (hx : a.getD i (0, 0, 0) = x) (hj : j < b.length) (hy : b.getD j (0, 0, 0) = y) (h : has1 y x) :
    ∀ z ∈ b.take j, ∀ u ∈ a.drop (i + 1), ¬ has1 z u := by
  intro z hz u hu
  obtain ⟨hxo, _, h1, _⟩ := fine_at ha hi hx
  have h2 := h1 u hu
  have h3 := (fine_at hb hj hy).2.1 z hz
  have h4 := ha.1 u (List.mem_of_mem_drop hu)
  unfold has1 at h ⊢
  unfold apart at h2 h3
  unfold okSp at h4 hxo
  omega
theorem in_none {b : List Sp} {x : Sp} (h : ∀ z ∈ b, ¬ has1 z x) : ¬ inOne b x := fun ⟨y, hy, hh⟩ => h y hy hh
/-! ### Existence, and the answers of Join -/
theorem exists_putting {l : List Sp} (hf : Fine l) {x0 : Sp} (hx : okSp x0) : ∀ i, i ≤ l.length → ∃ x out laid, Putting l x0 i x out laid := by
  intro i
  induction i with
  | zero => intro _; exact ⟨x0, [], false, putting_start l hx⟩
  | succ i ih =>
    intro hi
    obtain ⟨x, out, laid, h⟩ := ih (by omega)
    obtain ⟨y, hy⟩ : ∃ y, l.getD i (0, 0, 0) = y := ⟨_, rfl⟩
    cases laid
    · by_cases ht : touch y x
      · exact ⟨_, _, _, putting_touch hf (by omega) hy h ht⟩
      · by_cases ha : apart x y
        · exact ⟨_, _, _, putting_lay hf (by omega) hy h ha⟩
        · have hb : apart y x := by
            unfold touch at ht
            unfold apart at ha ⊢
            omega
          exact ⟨_, _, _, putting_ahead hf (by omega) hy h hb⟩
    · exact ⟨_, _, _, (putting_on hf (by omega) hy h).2⟩
theorem exists_put {l : List Sp} (hf : Fine l) {x0 : Sp} (hx : okSp x0) : ∃ r, IsJoin l [x0] r ∧ r.length ≤ l.length + 1 := by
  obtain ⟨x, out, laid, h⟩ := exists_putting hf hx l.length (Nat.le_refl _)
  exact ⟨_, putting_end h⟩
theorem join_nil {a : List Sp} (h : Fine a) : IsJoin a [] a := ⟨h, fun s n => by simp [mem_nil]⟩
theorem join_snoc {a b r r' : List Sp} {x : Sp} (h : IsJoin a b r) (h' : IsJoin r [x] r') : IsJoin a (b ++ [x]) r' := ⟨h'.1, fun s n => by rw [h'.2, h.2, mem_append, or_assoc]⟩
theorem exists_join {a : List Sp} (ha : Fine a) : ∀ k (b : List Sp), (∀ x ∈ b, okSp x) → k ≤ b.length → ∃ r, IsJoin a (b.take k) r ∧ r.length ≤ a.length + k := by
  intro k
  induction k with
  | zero => intro b _ _; exact ⟨a, by rw [List.take_zero]; exact join_nil ha, by omega⟩
  | succ k ih =>
    intro b hb hk
    obtain ⟨r, h1, h2⟩ := ih b hb (by omega)
    obtain ⟨r', h3, h4⟩ := exists_put h1.1 (hb _ (getD_mem (i := k) (by omega) rfl))
    exact ⟨r', by rw [take_one (by omega) rfl]; exact join_snoc h1 h3, by omega⟩
theorem exists_all {a b : List Sp} (ha : Fine a) (hb : ∀ x ∈ b, okSp x) : ∃ r, IsJoin a b r ∧ r.length ≤ a.length + b.length := by
  obtain ⟨r, h1, h2⟩ := exists_join ha b.length b hb (Nat.le_refl _)
  rw [List.take_length] at h1
  exact ⟨r, h1, h2⟩
open Classical in
noncomputable def joinOf (a b : List Sp) : List Sp := if h : ∃ r, IsJoin a b r then h.choose else []
theorem joinOf_eq {a b r : List Sp} (h : IsJoin a b r) : joinOf a b = r := by
  have he : ∃ r, IsJoin a b r := ⟨r, h⟩
  unfold joinOf
  rw [dif_pos he]
  exact he.choose_spec.same h
theorem joinOf_is {a b : List Sp} (ha : Fine a) (hb : ∀ x ∈ b, okSp x) : IsJoin a b (joinOf a b) ∧ (joinOf a b).length ≤ a.length + b.length := by
  obtain ⟨r, h, h2⟩ := exists_all ha hb
  rw [joinOf_eq h]
  exact ⟨h, h2⟩
open Classical in
noncomputable def joinE (a b : List Sp) : Int := if Right a ∧ Right b then (if (joinOf a b).length ≤ 1024 then 0 else 30) else 1
open Classical in
noncomputable def joinL (a b : List Sp) : List Sp := if joinE a b = 0 then joinOf a b else []
theorem join_wrong {a b : List Sp} (h : ¬ (Right a ∧ Right b)) : joinE a b = 1 ∧ joinL a b = [] := by
  have : joinE a b = 1 := if_neg h
  exact ⟨this, by unfold joinL; rw [if_neg (by omega)]⟩
theorem join_long {a b r : List Sp} (ha : Right a) (hb : Right b) (h : IsJoin a b r) (hl : 1024 < r.length) : joinE a b = 30 ∧ joinL a b = [] := by
  have : joinE a b = 30 := by unfold joinE; rw [if_pos ⟨ha, hb⟩, joinOf_eq h, if_neg (by omega)]
  exact ⟨this, by unfold joinL; rw [if_neg (by omega)]⟩
theorem join_good {a b r : List Sp} (ha : Right a) (hb : Right b) (h : IsJoin a b r) (hl : r.length ≤ 1024) : joinE a b = 0 ∧ joinL a b = r := by
  have : joinE a b = 0 := by unfold joinE; rw [if_pos ⟨ha, hb⟩, joinOf_eq h, if_pos hl]
  exact ⟨this, by unfold joinL; rw [if_pos this, joinOf_eq h]⟩
theorem joinE_range (a b : List Sp) : joinE a b = 0 ∨ joinE a b = 1 ∨ joinE a b = 30 := by
  unfold joinE
  split
  · split
    · exact .inl rfl
    · exact .inr (.inr rfl)
  · exact .inr (.inl rfl)
/-- Where Join is well its answer is the join of two right lists. -/
theorem joinE_zero {a b : List Sp} (h : joinE a b = 0) : Right a ∧ Right b ∧ IsJoin a b (joinL a b) ∧ Right (joinL a b) := by
  have hL : joinL a b = joinOf a b := by unfold joinL; rw [if_pos h]
  unfold joinE at h
  split at h
  case isTrue hR =>
    split at h
    case isTrue hl =>
      have hj := joinOf_is hR.1.2 hR.2.2.1
      rw [hL]
      exact ⟨hR.1, hR.2, hj.1, hl, hj.1.1⟩
    case isFalse => omega
  case isFalse => omega
theorem joinL_len (a b : List Sp) : (joinL a b).length ≤ 1024 := by
  by_cases h : joinE a b = 0
  · exact (joinE_zero h).2.2.2.1
  · unfold joinL; rw [if_neg h]; simp

/-! ### Two right lists merged -/
def Merging (a b : List Sp) (i j : Nat) (out : List Sp) : Prop :=
  Fine out ∧ (∀ s n, mem out s n ↔ mem (a.take i) s n ∨ mem (b.take j) s n) ∧ out.length ≤ i + j ∧ ∀ z ∈ out, (∀ s ∈ a.drop i, starts z s) ∧ ∀ s ∈ b.drop j, starts z s
theorem merging_start (a b : List Sp) : Merging a b 0 0 [] := ⟨fine_nil, fun s n => by simp [mem_nil], by simp, by simp⟩
theorem merging_left {a b out : List Sp} {i j : Nat} {x : Sp} (ha : Fine a) (hb : Fine b) (hi : i < a.length) (hx : a.getD i (0, 0, 0) = x) (h : Merging a b i j out)
    (hj : j = b.length ∨ ∃ y, j < b.length ∧ b.getD j (0, 0, 0) = y ∧ starts x y) : Merging a b (i + 1) j (layF out x) := by
  obtain ⟨h1, h2, h3, h4⟩ := h
  obtain ⟨hxo, _, hxa, _⟩ := fine_at ha hi hx
  have hd := drop_one hi hx
  obtain ⟨f1, f2, f3, f4⟩ := lay_fine h1 hxo fun z hz => (h4 z hz).1 x (by rw [hd]; simp)
  have hxb : ∀ u ∈ b.drop j, starts x u := by
    rcases hj with rfl | ⟨y, hj, hy, hs⟩
    · simp
    · intro u hu
      rw [drop_one hj hy] at hu
      rcases List.mem_cons.1 hu with rfl | hu
      · exact hs
      · obtain ⟨hyo, _, hya, _⟩ := fine_at hb hj hy
        exact starts_trans hs (apart_starts hyo (hya u hu))
  refine ⟨f1, fun s n => ?_, by omega, fun z hz => ⟨fun u hu => ?_, fun u hu => ?_⟩⟩
  · rw [f2, h2, mem_take_one hi hx, or_right_comm]
  · exact f4 u (fun z hz => (h4 z hz).1 u (by rw [hd]; simp [hu])) (apart_starts hxo (hxa u hu)) z hz
  · exact f4 u (fun z hz => (h4 z hz).2 u hu) (hxb u hu) z hz
theorem merging_swap {a b out : List Sp} {i j : Nat} (h : Merging a b i j out) : Merging b a j i out :=
  ⟨h.1, fun s n => by rw [h.2.1, or_comm], by have := h.2.2.1; omega, fun z hz => ⟨(h.2.2.2 z hz).2, (h.2.2.2 z hz).1⟩⟩
theorem merging_right {a b out : List Sp} {i j : Nat} {y : Sp} (ha : Fine a) (hb : Fine b) (hj : j < b.length) (hy : b.getD j (0, 0, 0) = y) (h : Merging a b i j out)
    (hi : i = a.length ∨ ∃ x, i < a.length ∧ a.getD i (0, 0, 0) = x ∧ ¬ starts x y) : Merging a b i (j + 1) (layF out y) := by
  refine merging_swap (merging_left hb ha hj hy (merging_swap h) ?_)
  rcases hi with rfl | ⟨x, h1, h2, h3⟩
  · exact .inl rfl
  · refine .inr ⟨x, h1, h2, ?_⟩
    unfold starts at h3 ⊢
    omega
theorem merging_end {a b out : List Sp} (h : Merging a b a.length b.length out) : IsJoin a b out ∧ out.length ≤ a.length + b.length := by
  obtain ⟨h1, h2, h3, _⟩ := h
  rw [List.take_length, List.take_length] at h2
  exact ⟨⟨h1, h2⟩, h3⟩
end Span
end Go.Proofs.Ytbhidndgnldheaa
