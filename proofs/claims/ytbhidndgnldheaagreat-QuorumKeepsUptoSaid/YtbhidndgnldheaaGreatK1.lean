/-
  Several texts of this family in one: Base, SpanBase, SpanPlain, VersPlain, SpanOwn, SpanRight, VersBase, VersCmp, Frame, Facts, NumPlain.
-/
import Derived.WalkKit
import Derived.Lib.Hide
import Derived.Deep.Draws
import Derived.Deep.QuietTactic
import Derived.BigQuiet
import Derived.Maps.AppendAt
import Derived.Laws.BytesArg
import Derived.Lib.AppendStr
import Derived.Test.YtbhidndgnldheaaGreatRows
import Derived.Deep.RegionHeld3
import Derived.Deep.DrawnRows
import Derived.IntWalk
import Derived.ProofKit
import Derived.SizedLaws
import Derived.OpenShut
import Derived.JoinedCond
import Derived.Deep.CondSized
/-
 Plain words on memory that all texts share: a slice whose cells read as a list of numbers, nil and empty ones let in.
-/
namespace Go.Proofs.YtbhidndgnldheaaGreat
open Go.RowKit

def Ns (k : IntKind) (w : World) (B : Nat) (A : Option Addr) (zs : List Int) : Prop :=
 0 < zs.length → ∃ b off, A = some ⟨b, off, none⟩ ∧ b < B ∧ ∀ j, j < zs.length → w.cell? ⟨b, off + j, none⟩ = some (.int k (zs.getD j 0))

section
variable {k : IntKind} {w w' : World} {B B' : Nat} {A : Option Addr} {zs : List Int}
theorem Ns.nil (A : Option Addr) : Ns k w B A [] := fun h => absurd h (by simp)
theorem Ns.keep (h : Ns k w B A zs) (hk : ∀ p : Addr, p.block < B → w'.cell? p = w.cell? p) : Ns k w' B A zs := fun hp => by
 obtain ⟨b, off, e, hb, hc⟩ := h hp
 exact ⟨b, off, e, hb, fun j hj => (hk _ hb).trans (hc j hj)⟩
theorem Ns.more (h : Ns k w B A zs) (hB : B ≤ B') : Ns k w B' A zs := fun hp => by
 obtain ⟨b, off, e, hb, hc⟩ := h hp
 exact ⟨b, off, e, by omega, hc⟩
theorem Ns.below (h : Ns k w B A zs) (hb : Below B w w') : Ns k w' B A zs := h.keep fun _ hp => hb.cell hp
theorem Ns.drew (h : Ns k w B A zs) : Ns k w.drew B A zs := h
theorem Ns.drewN (h : Ns k w B A zs) (n : Nat) : Ns k (w.drewN n) B A zs := h
theorem Ns.alloc (h : Ns k w B A zs) (hB : B ≤ w.heap.size) (o : Obj) : Ns k (w.alloc o) B A zs := h.keep fun p hp => World.cell?_alloc_lt w o p (by omega)
theorem Ns.grown (h : Ns k w B A zs) {row : Option Nat} (hg : w.grownBy w' row) (hB : B ≤ w.heap.size) (hr : ∀ g, row = some g → B ≤ g) : Ns k w' B A zs :=
 h.keep fun p hp => World.cell?_of_block (hg.block p.block (by omega) (fun e => by have := hr _ e.symm; omega))
end

/-! ### What a call has made: a row of numbers of its own -/
def nums (k : IntKind) (zs : List Int) : List Value := zs.map (Value.int k)
theorem nums_length (k : IntKind) (zs : List Int) : (nums k zs).length = zs.length := by simp [nums]

theorem own_form {w : World} {base : Nat} {e : TypeId} {size : Nat} {v : Value} {n : Nat} {xs : List Value} (h : w.ownsRow base e size v n xs) : ∃ A c, v = .slice A n c := by
 rcases h.2 with ⟨rfl, rfl⟩ | ⟨g, cap, cur, rfl, _⟩
 ·exact ⟨_, _, rfl⟩
 ·exact ⟨_, _, rfl⟩

theorem own_ns {w : World} {base : Nat} {e : TypeId} {k : IntKind} {A : Option Addr} {c n : Nat} {zs : List Int} (h : w.ownsRow base e 1 (.slice A n c) zs.length (nums k zs)) : Ns k w w.heap.size A zs := by
 intro hp
 rcases h.2 with ⟨_, h0⟩ | ⟨g, cap, cur, hv, hbg, hg, hn, hcm, hcs, htake⟩
 ·omega
 ·injection hv with h1 h2 h3
  subst h1
  refine ⟨g, 0, rfl, (Array.getElem?_eq_some_iff.1 hg).1, fun j hj => ?_⟩
  have hc := h.cells (g := g) rfl j (.int k (zs.getD j 0)) (by
   simp only [nums, List.getElem?_map, List.getD_eq_getElem?_getD, List.getElem?_eq_getElem hj, Option.map_some, Option.getD_some])
  have hadd : (⟨g, 0, none⟩ : Addr).add j = ⟨g, 0 + j, none⟩ := by unfold Addr.add; split <;> simp_all
  rw [hadd] at hc
  exact hc

theorem own_below {w w' : World} {base B : Nat} {e : TypeId} {size : Nat} {v : Value} {n : Nat} {xs : List Value} (h : w.ownsRow base e size v n xs) (hb : Below B w w') (hB : w.heap.size ≤ B) : w'.ownsRow base e size v n xs := by
 refine ⟨h.1, ?_⟩
 rcases h.2 with hn | ⟨g, cap, cur, rfl, hbg, hg, rest⟩
 ·exact .inl hn
 ·exact .inr ⟨g, cap, cur, rfl, hbg, by rw [hb.block g (by have := (Array.getElem?_eq_some_iff.1 hg).1; omega)]; exact hg, rest⟩

section
variable {P : Program} (w : World)
theorem wpList_append_one {ops : Array Oper} {rest : List Oper} {o : Oper} {a : Act} {Q : Exit → Act → World → Prop} (hgd : o.guard = none) (s x : Operand) (t : TypeId)
  (ho : o.op = .call { callee := .builtin .append, args := #[s, x], argTypes := #[t, t] })
  (base : Nat) (e : TypeId) (i : TypeInfo) (z : Value) (bytes : Nat) (ht : P.underlying t = some (.slice e)) (hi : P.info? e = some i) (hz : i.zero = some z)
  (hsize : i.size = 1) (hby : i.bytes = bytes) (hzs : z.cells.size = 1)
  (v : Value) (n : Nat) (xs : List Value) (hs : a.eval s = v) (hown : w.ownsRow base e 1 v n xs) (u : Value) (c : Nat)
  (hx : a.eval x = .slice (some ⟨w.heap.size, 0, none⟩) 1 c) (h1 : u.oneCell' = true)
  (hbytes : (n + 1) * bytes ≤ 140737488355328) (hn : n + 1 ≤ 140737488355328) (hbase : base ≤ w.heap.size)
  (h : ∀ v' w', w'.ownsRow base e 1 v' (n + 1) (xs ++ [u]) → w.grownBy w' v.ownBlock → (v'.ownBlock = v.ownBlock ∨ ∃ g, v'.ownBlock = some g ∧ w.heap.size ≤ g) → wpList P ops Q rest (a.put o.dst v') w') :
  wpList P ops Q (o :: rest) a (w.alloc (.cells #[u] e)) := by
 refine wpList_append_own_at _ hgd s x t ho base e i z 1 bytes ht hi hz hsize hby hzs (by omega) v n xs hs (hown.alloc _) ⟨w.heap.size, 0, none⟩ 1 c [u] hx rfl ?_ ?_ (by unfold maxLen; omega) hbytes (by simp; omega) ?_
 ·intro j u' hj
  match j, hj with
  | 0, hj => simp at hj; subst hj; simp [Addr.add]
 ·intro u' hu; simp at hu; subst hu; exact h1
 ·intro v' w' hown' hg _ hat
  refine h v' w' hown' ?_ ?_
  ·exact ⟨hg.os, hg.tape, hg.output, Nat.le_trans (by simp) hg.size, fun k hk hne => (hg.block k (by simp; omega) hne).trans (Below.heap_alloc w _ k hk)⟩
  ·rcases hat with h1 | h1
   ·exact .inl h1
   ·exact .inr ⟨_, h1, by simp⟩

theorem wpList_append_ns {ops : Array Oper} {rest : List Oper} {o : Oper} {a : Act} {Q : Exit → Act → World → Prop} (hgd : o.guard = none) (s x : Operand) (t : TypeId)
  (ho : o.op = .call { callee := .builtin .append, args := #[s, x], argTypes := #[t, t] })
  (base : Nat) (e : TypeId) (i : TypeInfo) (z : Value) (bytes : Nat) (ht : P.underlying t = some (.slice e)) (hi : P.info? e = some i) (hz : i.zero = some z)
  (hsize : i.size = 1) (hby : i.bytes = bytes) (hzs : z.cells.size = 1)
  (v : Value) (n : Nat) (xs : List Value) (hs : a.eval s = v) (hown : w.ownsRow base e 1 v n xs) (k : IntKind) (B : Nat) (A : Option Addr) (m c : Nat) (ys : List Int) (hm : ys.length = m)
  (hx : a.eval x = .slice A m c) (hr : Ns k w B A ys)
  (hbytes : (n + m) * bytes ≤ 140737488355328) (hn : n + m ≤ 140737488355328) (hbase : base ≤ w.heap.size)
  (h : ∀ v' w', w'.ownsRow base e 1 v' (n + m) (xs ++ nums k ys) → w.grownBy w' v.ownBlock → (v'.ownBlock = v.ownBlock ∨ v'.ownBlock = some w.heap.size) → wpList P ops Q rest (a.put o.dst v') w') :
  wpList P ops Q (o :: rest) a w := by
 subst hm
 have hone : ∀ u ∈ nums k ys, u.oneCell' = true := by
  intro u hu
  obtain ⟨y, _, rfl⟩ := List.mem_map.1 hu
  rfl
 rcases A with _ | ad
 ·have h0 : ys = [] := by
   rcases Nat.eq_zero_or_pos ys.length with h0 | h0
   ·exact List.eq_nil_of_length_eq_zero h0
   ·obtain ⟨b, off, he, _⟩ := hr h0
    cases he
  subst h0
  refine wpList_plain hgd fun K hK => ?_
  have hrun : (Builtin.append_ #[t, t] o.type #[v, .slice none 0 c]).run P w = .ok v w := by
   rcases hown.2 with ⟨rfl, rfl⟩ | ⟨g, cap, cur, rfl, _, _, hnc, _⟩
   ·simp [Builtin.append_, run_underlying ht, sizeOf, typeInfo, hi, Builtin.lenOf, Builtin.firstCells]
   ·simp [Builtin.append_, run_underlying ht, sizeOf, typeInfo, hi, Builtin.lenOf, Builtin.firstCells, hnc, storeCells]
  unfold Oper.wp execOp
  simp only [ho, resolve, invoke, builtin, Sem.run_bind, Sem.run_pure, Result.andThen_ok, List.map_toArray, List.map_cons, List.map_nil, hs, hx, List.length_nil, hrun]
  exact hK _ _ (h v w (by simpa [nums] using hown) (World.grownBy.refl w _) (.inl rfl))
 ·have hcells : ∀ j u, (nums k ys)[j]? = some u → w.cell? (ad.add j) = some u := by
   intro j u hu
   have hj : j < ys.length := by
    rcases Nat.lt_or_ge j ys.length with h | h
    ·exact h
    ·rw [List.getElem?_eq_none (by rw [nums_length]; exact h)] at hu; cases hu
   obtain ⟨b, off, he, _, hc⟩ := hr (by omega)
   injection he with he
   subst he
   have hadd : (⟨b, off, none⟩ : Addr).add j = ⟨b, off + j, none⟩ := by unfold Addr.add; split <;> simp_all
   rw [hadd, hc j hj]
   rw [← hu]
   simp only [nums, List.getElem?_map, List.getD_eq_getElem?_getD, List.getElem?_eq_getElem hj, Option.map_some, Option.getD_some]
  exact wpList_append_own_at w hgd s x t ho base e i z 1 bytes ht hi hz hsize hby hzs (by omega) v n xs hs hown ad ys.length c (nums k ys) hx (by rw [nums_length]; omega) hcells hone (by unfold maxLen; omega) hbytes hbase
   fun v' w' h1 h2 _ h4 => h v' w' h1 h2 h4

end

def strNums (s : ByteArray) : List Int := s.data.toList.map fun b => (b.toNat : Int)
theorem Ns.take {k : IntKind} {w : World} {B : Nat} {A : Option Addr} {zs : List Int} (h : Ns k w B A zs) (n : Nat) : Ns k w B A (zs.take n) := by
 intro hp
 rw [List.length_take] at hp
 obtain ⟨b, off, e, hb, hc⟩ := h (by omega)
 refine ⟨b, off, e, hb, fun j hj => ?_⟩
 rw [List.length_take] at hj
 rw [hc j (by omega)]
 simp [List.getD_eq_getElem?_getD, show j < n by omega]

theorem own_base {w : World} {base base' : Nat} {e : TypeId} {size : Nat} {v : Value} {n : Nat} {xs : List Value} (h : w.ownsRow base e size v n xs) (hB : base' ≤ base) : w.ownsRow base' e size v n xs := by
 refine ⟨h.1, ?_⟩
 rcases h.2 with hn | ⟨g, cap, cur, rfl, hbg, hg, rest⟩
 ·exact .inl hn
 ·exact .inr ⟨g, cap, cur, rfl, by omega, hg, rest⟩
theorem own_len {w : World} {base : Nat} {e : TypeId} {size : Nat} {A : Option Addr} {n c m : Nat} {xs : List Value} (h : w.ownsRow base e size (.slice A n c) m xs) : n = m ∧ n ≤ c := by
 rcases h.2 with ⟨h1, h2⟩ | ⟨g, cap, cur, h1, _, _, h2, _⟩
 ·injection h1; omega
 ·injection h1; omega
end Go.Proofs.YtbhidndgnldheaaGreat

/-
 A slice of spans read as a list of triples: site, from, to.
-/
namespace Go.Proofs.YtbhidndgnldheaaGreat
open Go.RowKit

abbrev Sp := Int × Int × Int
def Ss (w : World) (B : Nat) (A : Option Addr) (l : List Sp) : Prop :=
 0 < l.length → ∃ b off, A = some ⟨b, off, none⟩ ∧ b < B ∧ ∀ j, j < l.length →
  w.cell? ⟨b, off + j * 3, none⟩ = some (.int .i64 (l.getD j (0, 0, 0)).1) ∧ w.cell? ⟨b, off + j * 3 + 1, none⟩ = some (.int .i64 (l.getD j (0, 0, 0)).2.1) ∧ w.cell? ⟨b, off + j * 3 + 2, none⟩ = some (.int .i64 (l.getD j (0, 0, 0)).2.2)
section
variable {w w' : World} {B B' : Nat} {A : Option Addr} {l : List Sp}
theorem Ss.nil (A : Option Addr) : Ss w B A [] := fun h => absurd h (by simp)
theorem Ss.keep (h : Ss w B A l) (hk : ∀ p : Addr, p.block < B → w'.cell? p = w.cell? p) : Ss w' B A l := fun hp => by
 obtain ⟨b, off, e, hb, hc⟩ := h hp
 exact ⟨b, off, e, hb, fun j hj => ⟨(hk _ hb).trans (hc j hj).1, (hk _ hb).trans (hc j hj).2.1, (hk _ hb).trans (hc j hj).2.2⟩⟩
theorem Ss.more (h : Ss w B A l) (hB : B ≤ B') : Ss w B' A l := fun hp => by
 obtain ⟨b, off, e, hb, hc⟩ := h hp
 exact ⟨b, off, e, by omega, hc⟩
theorem Ss.below (h : Ss w B A l) (hb : Below B w w') : Ss w' B A l := h.keep fun _ hp => hb.cell hp
theorem Ss.drew (h : Ss w B A l) : Ss w.drew B A l := h
theorem Ss.drewN (h : Ss w B A l) (n : Nat) : Ss (w.drewN n) B A l := h
theorem Ss.alloc (h : Ss w B A l) (hB : B ≤ w.heap.size) (o : Obj) : Ss (w.alloc o) B A l := h.keep fun p hp => World.cell?_alloc_lt w o p (by omega)
end
end Go.Proofs.YtbhidndgnldheaaGreat

/-
 Spans as sets of dots, on plain lists: which lists are right, and that two right lists of the same dots are the same.
-/
namespace Go.Proofs.YtbhidndgnldheaaGreat
namespace Span

def okSp (x : Sp) : Prop := 1 ≤ x.1 ∧ x.1 ≤ 16 ∧ 1 ≤ x.2.1 ∧ x.2.1 ≤ x.2.2 ∧ x.2.2 ≤ 4611686018427387904
def apart (a b : Sp) : Prop := a.1 < b.1 ∨ (a.1 = b.1 ∧ a.2.2 + 1 < b.2.1)
def inSp (x : Sp) (s n : Int) : Prop := x.1 = s ∧ x.2.1 ≤ n ∧ n ≤ x.2.2
def mem (l : List Sp) (s n : Int) : Prop := ∃ x ∈ l, inSp x s n
def Fine (l : List Sp) : Prop := (∀ x ∈ l, okSp x) ∧ l.Pairwise apart
instance (x : Sp) : Decidable (okSp x) := by unfold okSp; infer_instance
instance (a b : Sp) : Decidable (apart a b) := by unfold apart; infer_instance
instance (x : Sp) (s n : Int) : Decidable (inSp x s n) := by unfold inSp; infer_instance
instance (l : List Sp) (s n : Int) : Decidable (mem l s n) := by unfold mem; infer_instance
instance (l : List Sp) : Decidable (Fine l) := by unfold Fine; infer_instance
def Right (l : List Sp) : Prop := l.length ≤ 1024 ∧ Fine l
instance (l : List Sp) : Decidable (Right l) := by unfold Right; infer_instance

theorem apart_trans {a b c : Sp} (hb : okSp b) (h1 : apart a b) (h2 : apart b c) : apart a c := by
 unfold apart okSp at *
 omega
theorem fine_nil : Fine [] := ⟨by simp, List.Pairwise.nil⟩
theorem fine_one {x : Sp} (h : okSp x) : Fine [x] := ⟨by simpa using h, by simp⟩
theorem fine_cons {x : Sp} {l : List Sp} : Fine (x :: l) ↔ okSp x ∧ (∀ y ∈ l, apart x y) ∧ Fine l := by
 unfold Fine
 rw [List.pairwise_cons]
 constructor
 ·rintro ⟨h1, h2, h3⟩
  exact ⟨h1 x (by simp), h2, fun y hy => h1 y (by simp [hy]), h3⟩
 ·rintro ⟨h1, h2, h3, h4⟩
  refine ⟨fun y hy => ?_, h2, h4⟩
  rcases List.mem_cons.1 hy with rfl | hy
  ·exact h1
  ·exact h3 y hy
theorem fine_snoc {x : Sp} {l : List Sp} : Fine (l ++ [x]) ↔ Fine l ∧ okSp x ∧ ∀ y ∈ l, apart y x := by
 unfold Fine
 rw [List.pairwise_append]
 constructor
 ·rintro ⟨h1, h2, _, h4⟩
  exact ⟨⟨fun y hy => h1 y (by simp [hy]), h2⟩, h1 x (by simp), fun y hy => h4 y hy x (by simp)⟩
 ·rintro ⟨⟨h1, h2⟩, h3, h4⟩
  refine ⟨fun y hy => ?_, h2, by simp, fun y hy z hz => ?_⟩
  ·rcases List.mem_append.1 hy with hy | hy
   ·exact h1 y hy
   ·rw [List.mem_singleton.1 hy]; exact h3
  ·rw [List.mem_singleton.1 hz]; exact h4 y hy
theorem fine_next {x z : Sp} {l : List Sp} (h : Fine (l ++ [z])) (hx : okSp x) (ha : apart z x) : Fine (l ++ [z] ++ [x]) := by
 rw [fine_snoc]
 have h' := fine_snoc.1 h
 refine ⟨h, hx, fun y hy => ?_⟩
 rcases List.mem_append.1 hy with hy | hy
 ·exact apart_trans h'.2.1 (h'.2.2 y hy) ha
 ·rw [List.mem_singleton.1 hy]; exact ha
theorem mem_nil (s n : Int) : ¬ mem [] s n := by simp [mem]
theorem mem_cons (x : Sp) (l : List Sp) (s n : Int) : mem (x :: l) s n ↔ inSp x s n ∨ mem l s n := by simp [mem]
theorem mem_append (l m : List Sp) (s n : Int) : mem (l ++ m) s n ↔ mem l s n ∨ mem m s n := by
 unfold mem
 constructor
 ·rintro ⟨x, hx, h⟩
  rcases List.mem_append.1 hx with hx | hx
  ·exact .inl ⟨x, hx, h⟩
  ·exact .inr ⟨x, hx, h⟩
 ·rintro (⟨x, hx, h⟩ | ⟨x, hx, h⟩)
  ·exact ⟨x, by simp [hx], h⟩
  ·exact ⟨x, by simp [hx], h⟩
theorem behind {x : Sp} {l : List Sp} (h : ∀ y ∈ l, apart x y) {s n : Int} (hm : mem l s n) : x.1 < s ∨ (x.1 = s ∧ x.2.2 + 1 < n) := by
 obtain ⟨y, hy, h1, h2, h3⟩ := hm
 have := h y hy
 unfold apart at this
 omega

theorem canon : ∀ {l m : List Sp}, Fine l → Fine m → (∀ s n, mem l s n ↔ mem m s n) → l = m
 | [], [], _, _, _ => rfl
 | [], y :: m, _, hm, h => by
  have h1 := (fine_cons.1 hm).1
  exact absurd ((h y.1 y.2.1).2 ((mem_cons _ _ _ _).2 (.inl ⟨rfl, by omega, h1.2.2.2.1⟩))) (mem_nil _ _)
 | x :: l, [], hl, _, h => by
  have h1 := (fine_cons.1 hl).1
  exact absurd ((h x.1 x.2.1).1 ((mem_cons _ _ _ _).2 (.inl ⟨rfl, by omega, h1.2.2.2.1⟩))) (mem_nil _ _)
 | x :: l, y :: m, hl, hm, h => by
  obtain ⟨hx, hxl, hl'⟩ := fine_cons.1 hl
  obtain ⟨hy, hym, hm'⟩ := fine_cons.1 hm
  have hx4 := hx.2.2.2.1
  have hy4 := hy.2.2.2.1
  have e1 := (mem_cons _ _ _ _).1 ((h x.1 x.2.1).1 ((mem_cons _ _ _ _).2 (.inl ⟨rfl, by omega, hx4⟩)))
  have e2 := (mem_cons _ _ _ _).1 ((h y.1 y.2.1).2 ((mem_cons _ _ _ _).2 (.inl ⟨rfl, by omega, hy4⟩)))
  have b1 : (y.1 = x.1 ∧ y.2.1 ≤ x.2.1 ∧ x.2.1 ≤ y.2.2) ∨ (y.1 < x.1 ∨ (y.1 = x.1 ∧ y.2.2 + 1 < x.2.1)) := e1.imp id (behind hym)
  have b2 : (x.1 = y.1 ∧ x.2.1 ≤ y.2.1 ∧ y.2.1 ≤ x.2.2) ∨ (x.1 < y.1 ∨ (x.1 = y.1 ∧ x.2.2 + 1 < y.2.1)) := e2.imp id (behind hxl)
  have h1 : x.1 = y.1 := by omega
  have h2 : x.2.1 = y.2.1 := by omega
  have h3 : x.2.2 = y.2.2 := by
   rcases Int.lt_trichotomy x.2.2 y.2.2 with hlt | he | hgt
   ·exfalso
    have e3 := (mem_cons _ _ _ _).1 ((h x.1 (x.2.2 + 1)).2 ((mem_cons _ _ _ _).2 (.inl ⟨h1.symm, by omega, by omega⟩)))
    have b3 : (x.1 = x.1 ∧ x.2.1 ≤ x.2.2 + 1 ∧ x.2.2 + 1 ≤ x.2.2) ∨ (x.1 < x.1 ∨ (x.1 = x.1 ∧ x.2.2 + 1 < x.2.2 + 1)) := e3.imp id (behind hxl)
    omega
   ·exact he
   ·exfalso
    have e3 := (mem_cons _ _ _ _).1 ((h y.1 (y.2.2 + 1)).1 ((mem_cons _ _ _ _).2 (.inl ⟨h1, by omega, by omega⟩)))
    have b3 : (y.1 = y.1 ∧ y.2.1 ≤ y.2.2 + 1 ∧ y.2.2 + 1 ≤ y.2.2) ∨ (y.1 < y.1 ∨ (y.1 = y.1 ∧ y.2.2 + 1 < y.2.2 + 1)) := e3.imp id (behind hym)
    omega
  have hxy : x = y := Prod.ext h1 (Prod.ext h2 h3)
  subst hxy
  have key : ∀ s n, mem l s n ↔ mem m s n := by
   intro s n
   have ho := h s n
   rw [mem_cons, mem_cons] at ho
   constructor
   ·intro hq
    rcases ho.1 (.inr hq) with h5 | h5
    ·have b := behind hxl hq
     have h5' : x.1 = s ∧ x.2.1 ≤ n ∧ n ≤ x.2.2 := h5
     omega
    ·exact h5
   ·intro hq
    rcases ho.2 (.inr hq) with h5 | h5
    ·have b := behind hym hq
     have h5' : x.1 = s ∧ x.2.1 ≤ n ∧ n ≤ x.2.2 := h5
     omega
    ·exact h5
  rw [canon hl' hm' key]

/-! ### What comes of two sets -/
def IsJoin (a b r : List Sp) : Prop := Fine r ∧ ∀ s n, mem r s n ↔ mem a s n ∨ mem b s n
theorem IsJoin.same {a b r r' : List Sp} (h : IsJoin a b r) (h' : IsJoin a b r') : r = r' := canon h.1 h'.1 fun s n => (h.2 s n).trans (h'.2 s n).symm
def starts (z s : Sp) : Prop := z.1 < s.1 ∨ (z.1 = s.1 ∧ z.2.1 ≤ s.2.1)
/-! ### One span put into a right list, as the document does it -/
theorem take_one {l : List Sp} {i : Nat} {y : Sp} (hi : i < l.length) (hy : l.getD i (0, 0, 0) = y) : l.take (i + 1) = l.take i ++ [y] := by
 rw [List.take_succ_eq_append_getElem hi]
 rw [List.getD_eq_getElem?_getD, List.getElem?_eq_getElem hi, Option.getD_some] at hy
 rw [hy]
theorem drop_one {l : List Sp} {i : Nat} {y : Sp} (hi : i < l.length) (hy : l.getD i (0, 0, 0) = y) : l.drop i = y :: l.drop (i + 1) := by
 rw [List.drop_eq_getElem_cons hi]
 rw [List.getD_eq_getElem?_getD, List.getElem?_eq_getElem hi, Option.getD_some] at hy
 rw [hy]
theorem getD_mem {l : List Sp} {i : Nat} {y : Sp} (hi : i < l.length) (hy : l.getD i (0, 0, 0) = y) : y ∈ l := by
 rw [List.getD_eq_getElem?_getD, List.getElem?_eq_getElem hi, Option.getD_some] at hy
 exact hy ▸ List.getElem_mem hi
theorem fine_at {l : List Sp} (hf : Fine l) {i : Nat} {y : Sp} (hi : i < l.length) (hy : l.getD i (0, 0, 0) = y) :
  okSp y ∧ (∀ z ∈ l.take i, apart z y) ∧ (∀ z ∈ l.drop (i + 1), apart y z) ∧ (∀ u ∈ l.take i, ∀ z ∈ l.drop (i + 1), apart u z) := by
 have h : l = l.take i ++ (y :: l.drop (i + 1)) := by rw [← drop_one hi hy, List.take_append_drop]
 refine ⟨hf.1 y (getD_mem hi hy), ?_⟩
 have hp := hf.2
 rw [h] at hp
 obtain ⟨_, h2, h3⟩ := List.pairwise_append.1 hp
 exact ⟨fun z hz => h3 z hz y (by simp), (List.pairwise_cons.1 h2).1, fun u hu z hz => h3 u hu z (by simp [hz])⟩

/-! ### Step by step -/
theorem take_last {l : List Sp} {k : Nat} {z : Sp} (h0 : 0 < k) (hk : k ≤ l.length) (hz : l.getD (k - 1) (0, 0, 0) = z) : l.take k = l.take (k - 1) ++ [z] := by
 have := take_one (i := k - 1) (by omega) hz
 rwa [show k - 1 + 1 = k by omega] at this
theorem fine_step {l : List Sp} {k : Nat} {y : Sp} (hk : k < l.length) (hy : l.getD k (0, 0, 0) = y) (hf : Fine (l.take k)) (ho : okSp y) (ha : 0 < k → apart (l.getD (k - 1) (0, 0, 0)) y) : Fine (l.take (k + 1)) := by
 rw [take_one hk hy]
 rcases Nat.eq_zero_or_pos k with rfl | h0
 ·exact fine_one ho
 ·rw [take_last h0 (by omega) rfl] at hf ⊢
  exact fine_next hf ho (ha h0)
theorem fine_not_ok {l : List Sp} {k : Nat} {y : Sp} (hk : k < l.length) (hy : l.getD k (0, 0, 0) = y) (ho : ¬ okSp y) : ¬ Fine l := fun h => ho (h.1 y (getD_mem hk hy))
theorem fine_not_apart {l : List Sp} {k : Nat} {y : Sp} (hk : k < l.length) (hy : l.getD k (0, 0, 0) = y) (h0 : 0 < k) (ha : ¬ apart (l.getD (k - 1) (0, 0, 0)) y) : ¬ Fine l := by
 intro h
 have h1 := (fine_at h hk hy).2.1
 rw [take_last h0 (by omega) rfl] at h1
 exact ha (h1 _ (by simp))
/-! How many dots -/
/-! The greatest count -/
def topF (l : List Sp) (s : Int) : Int := l.foldl (fun n x => if x.1 = s then max n x.2.2 else n) 0
theorem topF_snoc (l : List Sp) (x : Sp) (s : Int) : topF (l ++ [x]) s = if x.1 = s then max (topF l s) x.2.2 else topF l s := by simp [topF]
theorem topF_take {l : List Sp} {k : Nat} {y : Sp} (hk : k < l.length) (hy : l.getD k (0, 0, 0) = y) (s : Int) : topF (l.take (k + 1)) s = if y.1 = s then max (topF (l.take k) s) y.2.2 else topF (l.take k) s := by
 rw [take_one hk hy, topF_snoc]

def hasL (l : List Sp) (s n : Int) : Bool := l.any fun x => x.1 == s && decide (x.2.1 ≤ n) && decide (n ≤ x.2.2)

theorem hasL_at (l : List Sp) (k : Nat) (s n : Int) (x : Sp) (h : k < l.length) (hx : l.getD k (0, 0, 0) = x) :
  hasL (l.drop k) s n = ((x.1 == s && decide (x.2.1 ≤ n) && decide (n ≤ x.2.2)) || hasL (l.drop (k + 1)) s n) := by
 rw [List.drop_eq_getElem_cons h]
 rw [List.getD_eq_getElem?_getD, List.getElem?_eq_getElem h, Option.getD_some] at hx
 unfold hasL
 rw [List.any_cons, hx]
theorem hasL_hit {l : List Sp} {k : Nat} {s n : Int} {x : Sp} (h : k < l.length) (hx : l.getD k (0, 0, 0) = x) (h1 : x.1 = s) (h2 : x.2.1 ≤ n) (h3 : n ≤ x.2.2) : hasL (l.drop k) s n = true := by
 rw [hasL_at l k s n x h hx]
 simp [h1, h2, h3]
theorem hasL_miss {l : List Sp} {k : Nat} {s n : Int} {x : Sp} (h : k < l.length) (hx : l.getD k (0, 0, 0) = x) (hm : ¬ (x.1 = s ∧ x.2.1 ≤ n ∧ n ≤ x.2.2)) : hasL (l.drop k) s n = hasL (l.drop (k + 1)) s n := by
 rw [hasL_at l k s n x h hx]
 have e : (x.1 == s && decide (x.2.1 ≤ n) && decide (n ≤ x.2.2)) = false := by
  rw [Bool.eq_false_iff]
  intro h'
  simp only [Bool.and_eq_true, beq_iff_eq, decide_eq_true_eq] at h'
  exact hm ⟨h'.1.1, h'.1.2, h'.2⟩
 rw [e, Bool.false_or]

theorem hasL_mem (l : List Sp) (s n : Int) : hasL l s n = decide (mem l s n) := by
 rw [Bool.eq_iff_iff, decide_eq_true_iff]
 unfold hasL mem inSp
 rw [List.any_eq_true]
 simp only [Bool.and_eq_true, beq_iff_eq, decide_eq_true_eq, and_assoc]

/-! Within -/
def inOne (b : List Sp) (x : Sp) : Prop := ∃ y ∈ b, y.1 = x.1 ∧ y.2.1 ≤ x.2.1 ∧ x.2.2 ≤ y.2.2
def has1 (y x : Sp) : Prop := y.1 = x.1 ∧ y.2.1 ≤ x.2.1 ∧ x.2.2 ≤ y.2.2
theorem passed {a b : List Sp} (ha : Fine a) (hb : Fine b) {i j : Nat} {x y : Sp} (hi : i < a.length) (hx : a.getD i (0, 0, 0) = x) (hj : j < b.length) (hy : b.getD j (0, 0, 0) = y) (h : has1 y x) :
  ∀ z ∈ b.take j, ∀ u ∈ a.drop (i + 1), ¬ has1 z u := by
 intro z hz u hu
 obtain ⟨hxo, _, h1, _⟩ := fine_at ha hi hx
 have h2 := h1 u hu
 have h3 := (fine_at hb hj hy).2.1 z hz
 have h4 := ha.1 u (List.mem_of_mem_drop hu)
 unfold has1 at h ⊢
 unfold apart at h2 h3
 unfold okSp at h4 hxo
 omega
/-! ### Existence, and the answers of Join -/
open Classical in
open Classical in
open Classical in
/-! ### Two right lists merged -/
end Span
end Go.Proofs.YtbhidndgnldheaaGreat

/-
 Versions and sets of versions, on plain lists: which are right, and what comes of two sets.
-/
namespace Go.Proofs.YtbhidndgnldheaaGreat
namespace Vers
open Span

structure Vr where
 (s n : Int) (past : List Sp) (gone : Bool) (val : ByteArray)
instance : DecidableEq Vr := fun a b => decidable_of_iff (a.s = b.s ∧ a.n = b.n ∧ a.past = b.past ∧ a.gone = b.gone ∧ a.val = b.val) (by
 cases a; cases b; simp)
def v0 : Vr := ⟨0, 0, [], false, ⟨#[]⟩⟩

def okD (s n : Int) : Prop := 1 ≤ s ∧ s ≤ 16 ∧ 1 ≤ n ∧ n ≤ 4611686018427387904
instance (s n : Int) : Decidable (okD s n) := by unfold okD; infer_instance
def okV (v : Vr) : Prop := okD v.s v.n ∧ Right v.past ∧ topF v.past v.s < v.n ∧ v.val.size ≤ 256 ∧ (v.gone = true → v.val = ⟨#[]⟩)
instance (v : Vr) : Decidable (okV v) := by unfold okV; infer_instance
def dlt (a b : Vr) : Prop := a.s < b.s ∨ (a.s = b.s ∧ a.n < b.n)
instance (a b : Vr) : Decidable (dlt a b) := by unfold dlt; infer_instance
def same (a b : Vr) : Prop := a.s = b.s ∧ a.n = b.n
instance (a b : Vr) : Decidable (same a b) := by unfold same; infer_instance
def behind (l : List Vr) (s n : Int) : Prop := ∃ v ∈ l, mem v.past s n
instance (l : List Vr) (s n : Int) : Decidable (behind l s n) := by unfold behind; infer_instance
def FineV (l : List Vr) : Prop := (∀ v ∈ l, okV v) ∧ l.Pairwise dlt
instance (l : List Vr) : Decidable (FineV l) := by unfold FineV; infer_instance
def RightV (l : List Vr) : Prop := l.length ≤ 512 ∧ FineV l ∧ ∀ v ∈ l, ¬ behind l v.s v.n
instance (l : List Vr) : Decidable (RightV l) := by unfold RightV; infer_instance

theorem dlt_trans {a b c : Vr} (h : dlt a b) (k : dlt b c) : dlt a c := by unfold dlt at *; omega
theorem dlt_irrefl {a b : Vr} (h : dlt a b) (k : same a b) : False := by unfold dlt same at *; omega
theorem dlt_cases (a b : Vr) : dlt a b ∨ same a b ∨ dlt b a := by unfold dlt same; omega
theorem same_symm {a b : Vr} (h : same a b) : same b a := ⟨h.1.symm, h.2.symm⟩

theorem rising_same {l : List Vr} (h : l.Pairwise dlt) {a b : Vr} (ha : a ∈ l) (hb : b ∈ l) (hs : same a b) : a = b := by
 induction l with
 | nil => simp at ha
 | cons x l ih =>
  rw [List.pairwise_cons] at h
  rcases List.mem_cons.1 ha with e | ha'
  ·rcases List.mem_cons.1 hb with e' | hb'
   ·rw [e, e']
   ·exact (dlt_irrefl (h.1 b hb') (e ▸ hs)).elim
  ·rcases List.mem_cons.1 hb with e' | hb'
   ·exact (dlt_irrefl (h.1 a ha') (same_symm (e' ▸ hs))).elim
   ·exact ih h.2 ha' hb'

theorem canonV : ∀ {l m : List Vr}, l.Pairwise dlt → m.Pairwise dlt → (∀ v, v ∈ l ↔ v ∈ m) → l = m
 | [], [], _, _, _ => rfl
 | [], y :: m, _, _, h => absurd ((h y).2 (by simp)) (by simp)
 | x :: l, [], _, _, h => absurd ((h x).1 (by simp)) (by simp)
 | x :: l, y :: m, hl, hm, h => by
  rw [List.pairwise_cons] at hl hm
  have hxy : x = y := by
   rcases List.mem_cons.1 ((h x).1 (by simp)) with e | hx
   ·exact e
   ·rcases List.mem_cons.1 ((h y).2 (by simp)) with e | hy
    ·exact e.symm
    ·have h1 := hm.1 x hx
     have h2 := hl.1 y hy
     unfold dlt at h1 h2
     omega
  subst hxy
  have key : ∀ v, v ∈ l ↔ v ∈ m := by
   intro v
   have hv := h v
   rw [List.mem_cons, List.mem_cons] at hv
   constructor
   ·intro hq
    rcases hv.1 (.inr hq) with rfl | h5
    ·exact (dlt_irrefl (hl.1 v hq) ⟨rfl, rfl⟩).elim
    ·exact h5
   ·intro hq
    rcases hv.2 (.inr hq) with rfl | h5
    ·exact (dlt_irrefl (hm.1 v hq) ⟨rfl, rfl⟩).elim
    ·exact h5
  rw [canonV hl.2 hm.2 key]

theorem behind_append (l m : List Vr) (s n : Int) : behind (l ++ m) s n ↔ behind l s n ∨ behind m s n := by
 unfold behind
 constructor
 ·rintro ⟨v, hv, h⟩
  rcases List.mem_append.1 hv with hv | hv
  ·exact .inl ⟨v, hv, h⟩
  ·exact .inr ⟨v, hv, h⟩
 ·rintro (⟨v, hv, h⟩ | ⟨v, hv, h⟩)
  ·exact ⟨v, by simp [hv], h⟩
  ·exact ⟨v, by simp [hv], h⟩

def Twin (a b : List Vr) : Prop := ∃ x ∈ a, ∃ y ∈ b, same x y ∧ x ≠ y
instance (a b : List Vr) : Decidable (Twin a b) := by unfold Twin; infer_instance

def putV : List Vr → Vr → List Vr
 | [], v => [v]
 | x :: l, v => if dlt x v then x :: putV l v else if same x v then x :: l else v :: x :: l

theorem putV_mem {l : List Vr} (hl : l.Pairwise dlt) (v : Vr) (hv : ∀ x ∈ l, same x v → x = v) : ∀ y, y ∈ putV l v ↔ y ∈ l ∨ y = v := by
 induction l with
 | nil => intro y; simp [putV]
 | cons x l ih =>
  intro y
  rw [List.pairwise_cons] at hl
  unfold putV
  split
  ·rw [List.mem_cons, ih hl.2 (fun z hz => hv z (by simp [hz])) y, List.mem_cons, or_assoc]
  ·split
   ·rename_i h
    have := hv x (by simp) h
    subst this
    constructor
    ·exact fun h => .inl h
    ·rintro (h | rfl)
     ·exact h
     ·simp
   ·rw [List.mem_cons, List.mem_cons]
    constructor
    ·rintro (rfl | h)
     ·exact .inr rfl
     ·exact .inl h
    ·rintro (h | rfl)
     ·exact .inr h
     ·exact .inl rfl
theorem putV_head {l : List Vr} {x v : Vr} (h : ∀ y ∈ l, dlt x y) (hx : dlt x v) : ∀ y ∈ putV l v, dlt x y := by
 induction l with
 | nil => intro y hy; simp [putV] at hy; subst hy; exact hx
 | cons z l ih =>
  intro y hy
  unfold putV at hy
  split at hy
  ·rcases List.mem_cons.1 hy with rfl | hy
   ·exact h y (by simp)
   ·exact ih (fun w hw => h w (by simp [hw])) y hy
  ·split at hy
   ·exact h y hy
   ·rcases List.mem_cons.1 hy with rfl | hy
    ·exact hx
    ·exact h y hy
theorem putV_rising {l : List Vr} (hl : l.Pairwise dlt) (v : Vr) : (putV l v).Pairwise dlt := by
 induction l with
 | nil => simp [putV]
 | cons x l ih =>
  rw [List.pairwise_cons] at hl
  unfold putV
  split
  ·rename_i h
   exact List.pairwise_cons.2 ⟨putV_head hl.1 h, ih hl.2⟩
  ·split
   ·exact List.pairwise_cons.2 hl
   ·rename_i h1 h2
    refine List.pairwise_cons.2 ⟨fun y hy => ?_, List.pairwise_cons.2 hl⟩
    have h3 : dlt v x := by
     rcases dlt_cases x v with h | h | h
     ·exact absurd h h1
     ·exact absurd h h2
     ·exact h
    rcases List.mem_cons.1 hy with rfl | hy
    ·exact h3
    ·exact dlt_trans h3 (hl.1 y hy)

def laidV (d : List Vr) (l out : List Vr) : List Vr := (l.filter fun v => !decide (behind d v.s v.n)).foldl putV out
theorem laidV_nil (d out : List Vr) : laidV d [] out = out := rfl
theorem laidV_snoc (d l out : List Vr) (v : Vr) : laidV d (l ++ [v]) out = if behind d v.s v.n then laidV d l out else putV (laidV d l out) v := by
 unfold laidV
 rw [List.filter_append, List.foldl_append]
 by_cases h : behind d v.s v.n
 ·simp [h]
 ·simp [h]
theorem foldV {l : List Vr} : ∀ {out : List Vr}, out.Pairwise dlt → (∀ x ∈ out ++ l, ∀ y ∈ out ++ l, same x y → x = y) → (l.foldl putV out).Pairwise dlt ∧ ∀ y, y ∈ l.foldl putV out ↔ y ∈ out ∨ y ∈ l := by
 induction l with
 | nil => intro out h _; exact ⟨h, by simp⟩
 | cons v l ih =>
  intro out h hs
  have hm := putV_mem h v (fun x hx hxv => hs x (by simp [hx]) v (by simp) hxv)
  have h2 := ih (out := putV out v) (putV_rising h v) (by
   intro x hx y hy hxy
   have key : ∀ z, z ∈ putV out v ++ l → z ∈ out ++ v :: l := by
    intro z hz
    rcases List.mem_append.1 hz with hz | hz
    ·rcases (hm z).1 hz with hz | rfl
     ·simp [hz]
     ·simp
    ·simp [hz]
   exact hs x (key x hx) y (key y hy) hxy)
  rw [List.foldl_cons]
  refine ⟨h2.1, fun y => ?_⟩
  rw [h2.2 y, hm y, List.mem_cons, or_assoc]

def stayF (a b : List Vr) : List Vr := laidV a b (laidV b a [])
def IsStay (a b r : List Vr) : Prop := r.Pairwise dlt ∧ ∀ v, v ∈ r ↔ (v ∈ a ∨ v ∈ b) ∧ ¬ behind a v.s v.n ∧ ¬ behind b v.s v.n
theorem stay_is {a b : List Vr} (ha : RightV a) (hb : RightV b) (ht : ¬ Twin a b) : IsStay a b (stayF a b) := by
 have hs : ∀ x, (x ∈ a ∨ x ∈ b) → ∀ y, (y ∈ a ∨ y ∈ b) → same x y → x = y := by
  intro x hx y hy hxy
  rcases hx with hx | hx
  ·rcases hy with hy | hy
   ·exact rising_same ha.2.1.2 hx hy hxy
   ·exact Decidable.byContradiction fun h => ht ⟨x, hx, y, hy, hxy, h⟩
  ·rcases hy with hy | hy
   ·exact Decidable.byContradiction fun h => ht ⟨y, hy, x, hx, same_symm hxy, fun e => h e.symm⟩
   ·exact rising_same hb.2.1.2 hx hy hxy
 have h1 := foldV (l := a.filter fun v => !decide (behind b v.s v.n)) (out := []) (by simp) (by
  intro x hx y hy hxy
  simp only [List.nil_append, List.mem_filter] at hx hy
  exact hs x (.inl hx.1) y (.inl hy.1) hxy)
 have h2 := foldV (l := b.filter fun v => !decide (behind a v.s v.n)) (out := laidV b a []) h1.1 (by
  intro x hx y hy hxy
  have key : ∀ z, z ∈ laidV b a [] ++ b.filter (fun v => !decide (behind a v.s v.n)) → z ∈ a ∨ z ∈ b := by
   intro z hz
   rcases List.mem_append.1 hz with hz | hz
   ·have := (h1.2 z).1 hz
    simp only [List.not_mem_nil, false_or, List.mem_filter] at this
    exact .inl this.1
   ·exact .inr (List.mem_filter.1 hz).1
  exact hs x (key x hx) y (key y hy) hxy)
 refine ⟨h2.1, fun v => ?_⟩
 have e2 := h2.2 v
 have e1 := h1.2 v
 simp only [List.not_mem_nil, false_or, List.mem_filter, Bool.not_eq_true', decide_eq_false_iff_not] at e1 e2
 have e : v ∈ stayF a b ↔ v ∈ laidV b a [] ∨ v ∈ b ∧ ¬ behind a v.s v.n := e2
 have e' : v ∈ laidV b a [] ↔ v ∈ a ∧ ¬ behind b v.s v.n := e1
 rw [e, e']
 constructor
 ·rintro (⟨h, k⟩ | ⟨h, k⟩)
  ·exact ⟨.inl h, ha.2.2 v h, k⟩
  ·exact ⟨.inr h, k, hb.2.2 v h⟩
 ·rintro ⟨h | h, k, k'⟩
  ·exact .inl ⟨h, k'⟩
  ·exact .inr ⟨h, k⟩
theorem stay_one {a b r : List Vr} (ha : RightV a) (hb : RightV b) (ht : ¬ Twin a b) (h : IsStay a b r) : r = stayF a b :=
 canonV h.1 (stay_is ha hb ht).1 fun v => by rw [h.2 v, (stay_is ha hb ht).2 v]

def mergeF (a b : List Vr) : List Vr × Int :=
 if ¬ RightV a ∨ ¬ RightV b then ([], 1) else if Twin a b then ([], 50) else if 512 < (stayF a b).length then ([], 3) else (stayF a b, 0)
theorem merge_arg {a b : List Vr} (h : ¬ RightV a ∨ ¬ RightV b) : mergeF a b = ([], 1) := by unfold mergeF; rw [if_pos h]
theorem merge_twin {a b : List Vr} (ha : RightV a) (hb : RightV b) (h : Twin a b) : mergeF a b = ([], 50) := by
 unfold mergeF; rw [if_neg (by simp [ha, hb]), if_pos h]
theorem merge_long {a b : List Vr} (ha : RightV a) (hb : RightV b) (h : ¬ Twin a b) (hl : 512 < (stayF a b).length) : mergeF a b = ([], 3) := by
 unfold mergeF; rw [if_neg (by simp [ha, hb]), if_neg h, if_pos hl]
theorem merge_ok {a b : List Vr} (ha : RightV a) (hb : RightV b) (h : ¬ Twin a b) (hl : ¬ 512 < (stayF a b).length) : mergeF a b = (stayF a b, 0) := by
 unfold mergeF; rw [if_neg (by simp [ha, hb]), if_neg h, if_neg hl]
def lacksF (a b : List Vr) : Bool := decide ((mergeF a b).2 = 0 ∧ (mergeF a b).1 ≠ a)
theorem merge_right {a b r : List Vr} (h : mergeF a b = (r, 0)) : RightV a ∧ RightV b ∧ ¬ Twin a b ∧ r = stayF a b ∧ RightV r := by
 unfold mergeF at h
 split at h
 ·simp at h
 ·rename_i h1
  have ha : RightV a := Decidable.byContradiction fun k => h1 (.inl k)
  have hb : RightV b := Decidable.byContradiction fun k => h1 (.inr k)
  split at h
  ·simp at h
  ·rename_i h2
   split at h
   ·simp at h
   ·rename_i h3
    simp only [Prod.mk.injEq, and_true] at h
    subst h
    have hs := stay_is ha hb h2
    refine ⟨ha, hb, h2, rfl, by omega, ⟨fun v hv => ?_, hs.1⟩, fun v hv => ?_⟩
    ·rcases ((hs.2 v).1 hv).1 with h | h
     ·exact ha.2.1.1 v h
     ·exact hb.2.1.1 v h
    ·rintro ⟨x, hx, hm⟩
     have h4 := ((hs.2 v).1 hv).2
     rcases ((hs.2 x).1 hx).1 with h | h
     ·exact h4.1 ⟨x, h, hm⟩
     ·exact h4.2 ⟨x, h, hm⟩
end Vers
end Go.Proofs.YtbhidndgnldheaaGreat

/-
 Spans that a call has made: a row of its own, three cells to a span; and the small functions on spans.
-/
namespace Go.Proofs.YtbhidndgnldheaaGreat
namespace Span
open Go.RowKit

def spc (x : Sp) : List Value := [.int .i64 x.1, .int .i64 x.2.1, .int .i64 x.2.2]
def sps (l : List Sp) : List Value := l.flatMap spc
theorem sps_append (l m : List Sp) : sps (l ++ m) = sps l ++ sps m := by simp [sps]
theorem sps_length (l : List Sp) : (sps l).length = l.length * 3 := by
 induction l with
 | nil => rfl
 | cons x l ih =>
  have : sps (x :: l) = spc x ++ sps l := by simp [sps]
  rw [this, List.length_append, ih]
  simp [spc]
  omega
theorem sps_at (l : List Sp) : ∀ j, j < l.length → (sps l)[j * 3]? = some (.int .i64 (l.getD j (0, 0, 0)).1) ∧ (sps l)[j * 3 + 1]? = some (.int .i64 (l.getD j (0, 0, 0)).2.1) ∧ (sps l)[j * 3 + 2]? = some (.int .i64 (l.getD j (0, 0, 0)).2.2) := by
 induction l with
 | nil => intro j h; simp at h
 | cons x l ih =>
  intro j hj
  have h0 : sps (x :: l) = spc x ++ sps l := by simp [sps]
  rw [h0]
  rcases j with _ | j
  ·simp [spc]
  ·have := ih j (by simpa using hj)
   simp only [List.getD_cons_succ]
   rw [show (j + 1) * 3 = 3 + j * 3 by omega]
   refine ⟨?_, ?_, ?_⟩
   ·rw [List.getElem?_append_right (by simp [spc])]; simpa [spc] using this.1
   ·rw [List.getElem?_append_right (by simp [spc]; omega)]
    rw [show 3 + j * 3 + 1 - (spc x).length = j * 3 + 1 by simp [spc]; omega]
    exact this.2.1
   ·rw [List.getElem?_append_right (by simp [spc]; omega)]
    rw [show 3 + j * 3 + 2 - (spc x).length = j * 3 + 2 by simp [spc]; omega]
    exact this.2.2
theorem sps_cell (l : List Sp) : ∀ u ∈ sps l, ∃ z, u = .int .i64 z := by
 intro u hu
 obtain ⟨x, _, hx⟩ := List.mem_flatMap.1 hu
 simp [spc] at hx
 rcases hx with rfl | rfl | rfl <;> exact ⟨_, rfl⟩

theorem own_ss {w : World} {base : Nat} {e : TypeId} {A : Option Addr} {c n : Nat} {l : List Sp} (h : w.ownsRow base e 3 (.slice A n c) l.length (sps l)) : Ss w w.heap.size A l := by
 intro hp
 rcases h.2 with ⟨_, h0⟩ | ⟨g, cap, cur, hv, hbg, hg, hn, hcm, hcs, htake⟩
 ·omega
 ·injection hv with h1 h2 h3
  subst h1
  have hat : ∀ j u, (sps l)[j]? = some u → w.cell? ⟨g, 0 + j, none⟩ = some u := by
   intro j u hu
   have hc := h.cells (g := g) rfl j u hu
   have hadd : (⟨g, 0, none⟩ : Addr).add j = ⟨g, 0 + j, none⟩ := by unfold Addr.add; split <;> simp_all
   rwa [hadd] at hc
  refine ⟨g, 0, rfl, (Array.getElem?_eq_some_iff.1 hg).1, fun j hj => ?_⟩
  obtain ⟨h1, h2, h3⟩ := sps_at l j hj
  exact ⟨hat _ _ h1, hat _ _ h2, hat _ _ h3⟩

theorem Ss.cells {w : World} {B : Nat} {b off : Nat} {l : List Sp} (h : Ss w B (some ⟨b, off, none⟩) l) : ∀ j u, (sps l)[j]? = some u → w.cell? ((⟨b, off, none⟩ : Addr).add j) = some u := by
 intro j u hu
 have hj : j < (sps l).length := by
  rcases Nat.lt_or_ge j (sps l).length with h | h
  ·exact h
  ·rw [List.getElem?_eq_none h] at hu; cases hu
 rw [sps_length] at hj
 obtain ⟨b', off', e, _, hc⟩ := h (by omega)
 injection e with e
 injection e with e1 e2
 subst e1
 subst e2
 have hadd : (⟨b, off, none⟩ : Addr).add j = ⟨b, off + j, none⟩ := by unfold Addr.add; split <;> simp_all
 rw [hadd]
 have hq : j / 3 < l.length := by omega
 obtain ⟨s0, s1, s2⟩ := sps_at l (j / 3) hq
 obtain ⟨c0, c1, c2⟩ := hc (j / 3) hq
 have hm : j = j / 3 * 3 ∨ j = j / 3 * 3 + 1 ∨ j = j / 3 * 3 + 2 := by omega
 rcases hm with hm | hm | hm
 ·rw [hm] at hu ⊢
  rw [s0] at hu
  rw [c0, ← hu]
 ·rw [hm] at hu ⊢
  rw [s1] at hu
  rw [← Nat.add_assoc, c1, ← hu]
 ·rw [hm] at hu ⊢
  rw [s2] at hu
  rw [← Nat.add_assoc, c2, ← hu]

section
variable {P : Program} (w : World)
end

/-! ### The small functions -/
def okDot (d : Int × Int) : Prop := 1 ≤ d.1 ∧ d.1 ≤ 16 ∧ 1 ≤ d.2 ∧ d.2 ≤ 4611686018427387904
instance (d : Int × Int) : Decidable (okDot d) := by unfold okDot; infer_instance
instance (a b : Sp) : Decidable (starts a b) := by unfold starts; infer_instance
theorem apart_is (a b : Sp) (w : World) (hb : 1 ≤ b.2.1 ∧ b.2.1 ≤ 9223372036854775807) :
  Calls Tryz.prog 84 #[.agg #[.int .i64 a.1, .int .i64 a.2.1, .int .i64 a.2.2], .agg #[.int .i64 b.1, .int .i64 b.2.1, .int .i64 b.2.2]] w fun e w' => e = .returned (.bool (decide (apart a b))) ∧ Below w.heap.size w w' := by
 obtain ⟨a0, a1, a2⟩ := a
 obtain ⟨b0, b1, b2⟩ := b
 obtain ⟨q, hq⟩ : ∃ q : Bool, decide (apart (a0, a1, a2) (b0, b1, b2)) = q := ⟨_, rfl⟩
 rw [hq]
 have H := Lib.hid ((decide_eq_true_iff (p := apart (a0, a1, a2) (b0, b1, b2))).symm.trans (by rw [hq]))
 simp only at hb ⊢
 clear hq
 go_enter Tryz.func84, Tryz.ntmps84
 go_wp2
 all_goals go_ret
 all_goals refine ⟨?_, ((Below.refl _ _).alloc (Nat.le_refl _) _).alloc (by simp) _⟩
 all_goals refine congrArg (fun b => Ending.returned (Value.bool b)) ?_
 all_goals rw [Bool.eq_iff_iff, ← H.out]
 all_goals unfold apart
 all_goals simp only [decide_eq_true_eq, true_iff]
 all_goals omega
theorem refDot_is (d : Int × Int) (w : World) :
  Calls Tryz.prog 45 #[.agg #[.int .i64 d.1, .int .i64 d.2]] w fun e w' => e = .returned (.bool (decide (okDot d))) ∧ Below w.heap.size w w' := by
 obtain ⟨d0, d1⟩ := d
 obtain ⟨q, hq⟩ : ∃ q : Bool, decide (okDot (d0, d1)) = q := ⟨_, rfl⟩
 rw [hq]
 have H := Lib.hid ((decide_eq_true_iff (p := okDot (d0, d1))).symm.trans (by rw [hq]))
 simp only
 clear hq
 go_enter Tryz.func45, Tryz.ntmps45
 go_wp2
 all_goals go_ret
 all_goals refine ⟨?_, (Below.refl _ _).alloc (Nat.le_refl _) _⟩
 all_goals refine congrArg (fun b => Ending.returned (Value.bool b)) ?_
 all_goals rw [Bool.eq_iff_iff, ← H.out]
 all_goals unfold okDot
 all_goals simp only [decide_eq_true_eq, Bool.false_eq_true, false_iff]
 all_goals omega
end Span
end Go.Proofs.YtbhidndgnldheaaGreat

/-
 span.Right tells whether a list is right.
-/
namespace Go.Proofs.YtbhidndgnldheaaGreat
namespace Span
open Go.RowKit
attribute [local go_sem ↓] Go.wp_at_zero Go.wp_at_succ

theorem below_drewN (B n : Nat) (w : World) : Below B w (w.drewN n) := ⟨rfl, rfl, rfl, Nat.le_refl _, fun _ _ => rfl⟩
theorem cell_below {B : Nat} {w w' : World} {p : Addr} {v : Value} (h : Below B w w') (hp : p.block < B) (hc : w.cell? p = some v) : w'.cell? p = some v := (h.cell hp).trans hc

set_option maxHeartbeats 2000000 in
set_option maxRecDepth 100000 in
theorem right_any (A : Option Addr) (c n : Nat) (l : List Sp) (hn : l.length = n) (w : World) (hr : Ss w w.heap.size A l) (hbig : n ≤ 140737488355328) :
  Calls Tryz.prog 69 #[.slice A n c] w fun e w' => e = .returned (.bool (decide (Right l))) ∧ Below w.heap.size w w' := by
 by_cases hlong : 1024 < n
 ·have hres := Lib.hid (show decide (Right l) = false from decide_eq_false fun h => by have := h.1; omega)
  clear hr hn
  go_enter Tryz.func69, Tryz.ntmps69
  go_wp2
  go_ret
  exact ⟨by rw [hres.out]; rfl, Below.refl _ _⟩
 ·go_enter Tryz.func69, Tryz.ntmps69
  go_wp2
  go_loopw [10] (fun q wr => ∃ k : Nat, k ≤ n ∧ q = .int .i64 k ∧ Below w.heap.size w wr ∧ Hid (Fine (l.take k))) (fun q _ => n - (intOf q).toNat)
  case atStart => exact ⟨0, by omega, rfl, Below.refl _ _, fine_nil⟩
  case round =>
   obtain ⟨k, hk, rfl, hb, hst⟩ := hrel
   by_cases hlt : k < n
   ·obtain ⟨b, off, rfl, hbB, hc⟩ := hr (by omega)
    obtain ⟨c0, c1, c2⟩ := hc k (by omega)
    have d0 := (hb.cell (p := ⟨b, off + k * 3, none⟩) (by exact hbB)).trans c0
    have d1 := (hb.cell (p := ⟨b, off + k * 3 + 1, none⟩) (by exact hbB)).trans c1
    have d2 := (hb.cell (p := ⟨b, off + k * 3 + 2, none⟩) (by exact hbB)).trans c2
    obtain ⟨⟨x0, x1, x2⟩, hx⟩ : ∃ x, l.getD k (0, 0, 0) = x := ⟨_, rfl⟩
    rw [hx] at d0 d1 d2
    have hbs := hb.size
    by_cases hok : okSp (x0, x1, x2)
    ·have hok' := hok
     unfold okSp at hok'
     simp only at hok'
     obtain ⟨o1, o2, o3, o4, o5⟩ := hok'
     have hf' := hst.out
     by_cases h0 : 0 < k
     ·obtain ⟨p0, p1, p2⟩ := hc (k - 1) (by omega)
      have f0 := (hb.cell (p := ⟨b, off + (k - 1) * 3, none⟩) (by exact hbB)).trans p0
      have f1 := (hb.cell (p := ⟨b, off + (k - 1) * 3 + 1, none⟩) (by exact hbB)).trans p1
      have f2 := (hb.cell (p := ⟨b, off + (k - 1) * 3 + 2, none⟩) (by exact hbB)).trans p2
      obtain ⟨y, hy⟩ : ∃ y, l.getD (k - 1) (0, 0, 0) = y := ⟨_, rfl⟩
      rw [hy] at f0 f1 f2
      have hap := fine_step (l := l) (y := (x0, x1, x2)) (by omega) hx hf' hok
      have hnap := fine_not_apart (l := l) (y := (x0, x1, x2)) (by omega) hx h0
      rw [hy] at hap hnap
      have hX := fun W => apart_is y (x0, x1, x2) W ⟨o3, by simp only; omega⟩
      obtain ⟨q, hq⟩ : ∃ q, decide (apart y (x0, x1, x2)) = q := ⟨_, rfl⟩
      rw [hq] at hX
      have HX := Lib.hid hX
      have HY1 : Hid (q = true → Fine (l.take (k + 1))) := Lib.hid (fun h => hap fun _ => of_decide_eq_true (hq.trans h))
      have HY2 : Hid (q = false → decide (Right l) = false) := Lib.hid (fun h => decide_eq_false fun hR => hnap (of_decide_eq_false (hq.trans h)) hR.2)
      obtain ⟨y0, y1, y2⟩ := y
      clear hr hc c0 c1 c2 p0 p1 p2 hst hx hy hok hn hf' hap hnap hX hq
      simp only at f0 f1 f2
      have e0 : ((k : Int) - 1).toNat = k - 1 := by omega
      have e1 : (0 : Int) ≤ (k : Int) - 1 := by omega
      have e2 : (k : Int) - 1 < (n : Int) := by omega
      have e5 : (1 : Int) ≤ (k : Int) := by omega
      have e6 : (k : Int) ≤ (n : Int) := by omega
      have e7 : 1 ≤ k := by omega
      have e8 : ((k : Int) - 1 < (n : Int)) = True := eq_true (by omega)
      have e9 : (0 ≤ (k : Int) - 1) = True := eq_true (by omega)
      have e3 : decide ((0 : Int) < (k : Int)) = true := decide_eq_true (by omega)
      have g0 := World.cell?_alloc_lt wr (.cells #[.int .i64 x0, .int .i64 x1, .int .i64 x2] 43) ⟨b, off + (k - 1) * 3, none⟩ (by show b < _; omega)
      have g1 := World.cell?_alloc_lt wr (.cells #[.int .i64 x0, .int .i64 x1, .int .i64 x2] 43) ⟨b, off + (k - 1) * 3 + 1, none⟩ (by show b < _; omega)
      have g2 := World.cell?_alloc_lt wr (.cells #[.int .i64 x0, .int .i64 x1, .int .i64 x2] 43) ⟨b, off + (k - 1) * 3 + 2, none⟩ (by show b < _; omega)
      rw [f0] at g0
      rw [f1] at g1
      rw [f2] at g2
      have hbw := hb.alloc hbs (.cells #[.int .i64 x0, .int .i64 x1, .int .i64 x2] 43)
      have hs0 : wr.heap.size < (wr.alloc (.cells #[.int .i64 x0, .int .i64 x1, .int .i64 x2] 43)).heap.size := by simp
      have hs1 : b < (wr.alloc (.cells #[.int .i64 x0, .int .i64 x1, .int .i64 x2] 43)).heap.size := by simp; omega
      have q0 : (wr.alloc (.cells #[.int .i64 x0, .int .i64 x1, .int .i64 x2] 43)).cell? ⟨wr.heap.size, 0, none⟩ = some (.int .i64 x0) := by simp
      have q1 : (wr.alloc (.cells #[.int .i64 x0, .int .i64 x1, .int .i64 x2] 43)).cell? ⟨wr.heap.size, 1, none⟩ = some (.int .i64 x1) := by simp
      have q2 : (wr.alloc (.cells #[.int .i64 x0, .int .i64 x1, .int .i64 x2] 43)).cell? ⟨wr.heap.size, 2, none⟩ = some (.int .i64 x2) := by simp
      have e4 : IntKind.i64.wrap ((k : Int) - 1) = (k : Int) - 1 := IntWalk.i64_in _ (by omega)
      clear f0 f1 f2 hb hbB
      go_wp2
      go_region_held3 (fun W => W.cell? ⟨b, off + (k - 1) * 3, none⟩ = some (.int .i64 y0) ∧ W.cell? ⟨b, off + (k - 1) * 3 + 1, none⟩ = some (.int .i64 y1) ∧ W.cell? ⟨b, off + (k - 1) * 3 + 2, none⟩ = some (.int .i64 y2) ∧
        W.cell? ⟨wr.heap.size, 0, none⟩ = some (.int .i64 x0) ∧ W.cell? ⟨wr.heap.size, 1, none⟩ = some (.int .i64 x1) ∧ W.cell? ⟨wr.heap.size, 2, none⟩ = some (.int .i64 x2)) (first
        | exact ⟨g0, g1, g2, q0, q1, q2⟩
        | (have hb9 := ‹Below _ _ _›; exact ⟨cell_below hb9 hs1 g0, cell_below hb9 hs1 g1, cell_below hb9 hs1 g2, cell_below hb9 hs0 q0, cell_below hb9 hs0 q1, cell_below hb9 hs0 q2⟩))
       (first | (go_at_call 84; refine (HX.out _).mono ?_; rintro e w1 ⟨rfl, b1⟩))
      have hb2 := hbw.drew.trans (Below.mono b1 (by simp; omega))
      cases q
      ·have hres := Lib.hid (HY2.out rfl)
       clear HY1 HY2 HX g0 g1 g2 q0 q1 q2
       go_wp2
       go_ret
       exact ⟨by rw [hres.out]; rfl, hb2⟩
      ·have hres := Lib.hid (HY1.out rfl)
       clear HY1 HY2 HX g0 g1 g2 q0 q1 q2
       go_wp2
       exact ⟨⟨k + 1, by omega, rfl, hb2, hres⟩, by simp only [intOf]; omega⟩
     ·have hres := Lib.hid (fine_step (by omega) hx hf' hok (fun h => absurd h h0))
      clear hr hc c0 c1 c2 hx hst hok hn hf'
      have e3 : decide ((0 : Int) < (k : Int)) = false := decide_eq_false (by omega)
      go_wp2
      go_quiet (fail)
      go_wp2
      exact ⟨⟨k + 1, by omega, rfl, (hb.alloc hbs _).trans (below_drewN _ _ _), hres⟩, by simp only [intOf]; omega⟩
    ·have hres := Lib.hid (show decide (Right l) = false from decide_eq_false fun h => fine_not_ok (by omega) hx hok h.2)
     have hM := Lib.hid hok
     clear hr hc c0 c1 c2 hx hst hok hn
     go_wp2
     all_goals first
      | (exfalso; refine hM.out ?_; unfold okSp; simp only; omega)
      | (go_ret; exact ⟨by rw [hres.out]; rfl, hb.alloc hbs _⟩)
   ·have hk0 : k = n := by omega
    have hres := Lib.hid (show decide (Right l) = true from decide_eq_true ⟨by omega, by have := hst.out; rwa [List.take_of_length_le (by omega)] at this⟩)
    clear hst hr
    go_wp2
    go_ret
    exact ⟨by rw [hres.out]; rfl, hb⟩
end Span
end Go.Proofs.YtbhidndgnldheaaGreat

/-
 A slice of versions read as a list: five cells each, of which one is the slice of the spans of its past.
-/
namespace Go.Proofs.YtbhidndgnldheaaGreat
namespace Vers
open Go.RowKit Span

def Pa (w : World) (L B : Nat) (A : Option Addr) (c : Nat) (v : Vr) : Prop :=
 Ss w B A v.past ∧ v.past.length ≤ c ∧ v.past.length ≤ 140737488355328 ∧ v.val.size ≤ 140737488355328 ∧ (0 < v.past.length → ∀ a, A = some a → L ≤ a.block)
def Vat (w : World) (L B b off : Nat) (v : Vr) (A : Option Addr) (c : Nat) : Prop :=
 w.cell? ⟨b, off, none⟩ = some (.int .i64 v.s) ∧ w.cell? ⟨b, off + 1, none⟩ = some (.int .i64 v.n) ∧ w.cell? ⟨b, off + 2, none⟩ = some (.slice A v.past.length c) ∧
 w.cell? ⟨b, off + 3, none⟩ = some (.bool v.gone) ∧ w.cell? ⟨b, off + 4, none⟩ = some (.string v.val) ∧ Pa w L B A c v
def Vs (w : World) (L B : Nat) (A : Option Addr) (l : List Vr) : Prop :=
 0 < l.length → ∃ b off, A = some ⟨b, off, none⟩ ∧ L ≤ b ∧ b < B ∧ ∀ j, j < l.length → ∃ A' c', Vat w L B b (off + j * 5) (l.getD j v0) A' c'

section
variable {w w' : World} {L L' B B' b off c : Nat} {A : Option Addr} {l : List Vr} {l' : List Sp} {v : Vr}
theorem Ss.high (h : Ss w B A l') (hl : 0 < l'.length → ∀ a, A = some a → L ≤ a.block) (hk : ∀ p : Addr, L ≤ p.block → p.block < B → w'.cell? p = w.cell? p) : Ss w' B A l' := fun hp => by
 obtain ⟨b, off, e, hb, hc⟩ := h hp
 have hL : L ≤ b := hl hp _ e
 exact ⟨b, off, e, hb, fun j hj => ⟨(hk ⟨b, _, none⟩ hL hb).trans (hc j hj).1, (hk ⟨b, _, none⟩ hL hb).trans (hc j hj).2.1, (hk ⟨b, _, none⟩ hL hb).trans (hc j hj).2.2⟩⟩
theorem Pa.keep (h : Pa w L B A c v) (hk : ∀ p : Addr, L ≤ p.block → p.block < B → w'.cell? p = w.cell? p) : Pa w' L B A c v := ⟨Ss.high h.1 h.2.2.2.2 hk, h.2⟩
theorem Pa.more (h : Pa w L B A c v) (hB : B ≤ B') : Pa w L B' A c v := ⟨h.1.more hB, h.2⟩
theorem Pa.less (h : Pa w L B A c v) (hL : L' ≤ L) : Pa w L' B A c v := ⟨h.1, h.2.1, h.2.2.1, h.2.2.2.1, fun hp a ha => Nat.le_trans hL (h.2.2.2.2 hp a ha)⟩
theorem Pa.below (h : Pa w L B A c v) (hb : Below B w w') : Pa w' L B A c v := h.keep fun _ _ hp => hb.cell hp
theorem Pa.alloc (h : Pa w L B A c v) (hB : B ≤ w.heap.size) (o : Obj) : Pa (w.alloc o) L B A c v := h.keep fun p _ hp => World.cell?_alloc_lt w o p (by omega)
theorem Vat.keep (h : Vat w L B b off v A c) (hL : L ≤ b) (hb : b < B) (hk : ∀ p : Addr, L ≤ p.block → p.block < B → w'.cell? p = w.cell? p) : Vat w' L B b off v A c := by
 obtain ⟨h0, h1, h2, h3, h4, h5⟩ := h
 exact ⟨(hk ⟨b, _, none⟩ hL hb).trans h0, (hk ⟨b, _, none⟩ hL hb).trans h1, (hk ⟨b, _, none⟩ hL hb).trans h2, (hk ⟨b, _, none⟩ hL hb).trans h3, (hk ⟨b, _, none⟩ hL hb).trans h4, h5.keep hk⟩
theorem Vs.nil (A : Option Addr) : Vs w L B A [] := fun h => absurd h (by simp)
theorem Vs.keep (h : Vs w L B A l) (hk : ∀ p : Addr, L ≤ p.block → p.block < B → w'.cell? p = w.cell? p) : Vs w' L B A l := fun hp => by
 obtain ⟨b, off, e, hL, hb, hc⟩ := h hp
 refine ⟨b, off, e, hL, hb, fun j hj => ?_⟩
 obtain ⟨A', c', h1⟩ := hc j hj
 exact ⟨A', c', h1.keep hL hb hk⟩
theorem Vs.more (h : Vs w L B A l) (hB : B ≤ B') : Vs w L B' A l := fun hp => by
 obtain ⟨b, off, e, hL, hb, hc⟩ := h hp
 refine ⟨b, off, e, hL, by omega, fun j hj => ?_⟩
 obtain ⟨A', c', h0, h1, h2, h3, h4, h5⟩ := hc j hj
 exact ⟨A', c', h0, h1, h2, h3, h4, h5.more hB⟩
theorem Vs.less (h : Vs w L B A l) (hL : L' ≤ L) : Vs w L' B A l := fun hp => by
 obtain ⟨b, off, e, hLb, hb, hc⟩ := h hp
 refine ⟨b, off, e, by omega, hb, fun j hj => ?_⟩
 obtain ⟨A', c', h0, h1, h2, h3, h4, h5⟩ := hc j hj
 exact ⟨A', c', h0, h1, h2, h3, h4, h5.less hL⟩
theorem Vs.below (h : Vs w L B A l) (hb : Below B w w') : Vs w' L B A l := h.keep fun _ _ hp => hb.cell hp
theorem Vs.drewN (h : Vs w L B A l) (n : Nat) : Vs (w.drewN n) L B A l := h.keep fun _ _ _ => rfl
theorem Vs.alloc (h : Vs w L B A l) (hB : B ≤ w.heap.size) (o : Obj) : Vs (w.alloc o) L B A l := h.keep fun p _ hp => World.cell?_alloc_lt w o p (by omega)
theorem Vs.at {n k : Nat} (h : Vs w L B A l) (hn : l.length = n) (hb : Below B w w') (hk : k < n) (hv : l.getD k v0 = v) : ∃ b off A' c', A = some ⟨b, off, none⟩ ∧ L ≤ b ∧ b < B ∧ Vat w' L B b (off + k * 5) v A' c' := by
 obtain ⟨b, off, e, hL, hbB, hc⟩ := (h.below hb) (by omega)
 obtain ⟨A', c', h1⟩ := hc k (by omega)
 rw [hv] at h1
 exact ⟨b, off, A', c', e, hL, hbB, h1⟩
end
end Vers
end Go.Proofs.YtbhidndgnldheaaGreat

/-
 How dots are compared: vers.compare, firthref05.Less; the list of one dot.
-/
namespace Go.Proofs.YtbhidndgnldheaaGreat
namespace Vers
open Go.RowKit Span
attribute [local go_sem ↓] Go.wp_at_zero Go.wp_at_succ

def cmpI (x y : Int) : Int := if x < y then -1 else if y < x then 1 else 0
def cmpD (s n s' n' : Int) : Int := if cmpI s s' = 0 then cmpI n n' else cmpI s s'
theorem cmpD_lt (s n s' n' : Int) : cmpD s n s' n' < 0 ↔ s < s' ∨ (s = s' ∧ n < n') := by
 unfold cmpD cmpI
 repeat' split
 all_goals omega
theorem cmpD_le (s n s' n' : Int) : cmpD s n s' n' ≤ 0 ↔ s < s' ∨ (s = s' ∧ n ≤ n') := by
 unfold cmpD cmpI
 repeat' split
 all_goals omega

theorem cmp_int (x y : Int) (w : World) : Calls Tryz.prog 73 #[.int .i64 x, .int .i64 y] w fun e w' => e = .returned (.int .i64 (cmpI x y)) ∧ w = w' := by
 have hN : ∀ (z : Int) (W : World), Calls Tryz.prog 85 #[.int .i64 z] W fun e w' => e = .returned (.bool false) ∧ W = w' := by
  intro z W
  go_enter Tryz.func85, Tryz.ntmps85
  go_wp2
  go_ret
  exact ⟨by simp, rfl⟩
 have H := Lib.hid hN
 clear hN
 rcases Int.lt_trichotomy x y with h | rfl | h
 ·have h1 : decide (x < y) = true := decide_eq_true h
  have hr : cmpI x y = -1 := by unfold cmpI; rw [if_pos h]
  have HR := Lib.hid hr
  clear hr h
  go_enter Tryz.func73, Tryz.ntmps73
  go_wp2_with (go_at_call 85; refine (H.out _ _).mono ?_; rintro e w' ⟨rfl, rfl⟩)
  go_ret
  exact ⟨by rw [HR.out]; rfl, rfl⟩
 ·have h1 : decide (x < x) = false := decide_eq_false (by omega)
  have hr : cmpI x x = 0 := by unfold cmpI; rw [if_neg (by omega), if_neg (by omega)]
  have HR := Lib.hid hr
  clear hr
  go_enter Tryz.func73, Tryz.ntmps73
  go_wp2_with (go_at_call 85; refine (H.out _ _).mono ?_; rintro e w' ⟨rfl, rfl⟩)
  go_ret
  exact ⟨by rw [HR.out]; rfl, rfl⟩
 ·have h1 : decide (x < y) = false := decide_eq_false (by omega)
  have h2 : decide (y < x) = true := decide_eq_true h
  have hr : cmpI x y = 1 := by unfold cmpI; rw [if_neg (by omega), if_pos h]
  have HR := Lib.hid hr
  clear hr h
  go_enter Tryz.func73, Tryz.ntmps73
  go_wp2_with (go_at_call 85; refine (H.out _ _).mono ?_; rintro e w' ⟨rfl, rfl⟩)
  go_ret
  exact ⟨by rw [HR.out]; rfl, rfl⟩

theorem cmp_int64 (x y : Int) (w : World) : Calls Tryz.prog 74 #[.int .i64 x, .int .i64 y] w fun e w' => e = .returned (.int .i64 (cmpI x y)) ∧ w = w' := by
 have hN : ∀ (z : Int) (W : World), Calls Tryz.prog 86 #[.int .i64 z] W fun e w' => e = .returned (.bool false) ∧ W = w' := by
  intro z W
  go_enter Tryz.func86, Tryz.ntmps86
  go_wp2
  go_ret
  exact ⟨by simp, rfl⟩
 have H := Lib.hid hN
 clear hN
 rcases Int.lt_trichotomy x y with h | rfl | h
 ·have h1 : decide (x < y) = true := decide_eq_true h
  have hr : cmpI x y = -1 := by unfold cmpI; rw [if_pos h]
  have HR := Lib.hid hr
  clear hr h
  go_enter Tryz.func74, Tryz.ntmps74
  go_wp2_with (go_at_call 86; refine (H.out _ _).mono ?_; rintro e w' ⟨rfl, rfl⟩)
  go_ret
  exact ⟨by rw [HR.out]; rfl, rfl⟩
 ·have h1 : decide (x < x) = false := decide_eq_false (by omega)
  have hr : cmpI x x = 0 := by unfold cmpI; rw [if_neg (by omega), if_neg (by omega)]
  have HR := Lib.hid hr
  clear hr
  go_enter Tryz.func74, Tryz.ntmps74
  go_wp2_with (go_at_call 86; refine (H.out _ _).mono ?_; rintro e w' ⟨rfl, rfl⟩)
  go_ret
  exact ⟨by rw [HR.out]; rfl, rfl⟩
 ·have h1 : decide (x < y) = false := decide_eq_false (by omega)
  have h2 : decide (y < x) = true := decide_eq_true h
  have hr : cmpI x y = 1 := by unfold cmpI; rw [if_neg (by omega), if_pos h]
  have HR := Lib.hid hr
  clear hr h
  go_enter Tryz.func74, Tryz.ntmps74
  go_wp2_with (go_at_call 86; refine (H.out _ _).mono ?_; rintro e w' ⟨rfl, rfl⟩)
  go_ret
  exact ⟨by rw [HR.out]; rfl, rfl⟩

theorem or_two (p q : Int) (b : Nat) (w : World) (h0 : w.cell? ⟨b, 0, none⟩ = some (.int .i64 p)) (h1 : w.cell? ⟨b, 1, none⟩ = some (.int .i64 q)) :
  Calls Tryz.prog 72 #[.slice (some ⟨b, 0, none⟩) 2 2] w fun e w' => e = .returned (.int .i64 (if p = 0 then q else p)) ∧ w = w' := by
 by_cases hp : p = 0
 ·subst hp
  rw [if_pos rfl]
  by_cases hq : q = 0
  ·subst hq
   go_enter Tryz.func72, Tryz.ntmps72
   go_wp2
   go_loopw [5, 8] (fun _ q wr => ∃ k : Nat, q = .int .i64 k ∧ k ≤ 2 ∧ w = wr) (fun _ q _ => 2 - (intOf q).toNat)
   case atStart => exact ⟨0, rfl, by omega, rfl⟩
   case round =>
    obtain ⟨k, rfl, hk, rfl⟩ := hrel
    match k, hk with
    | 0, _ =>
     go_wp2
     exact ⟨⟨1, rfl, by omega, trivial⟩, by simp only [intOf]; omega⟩
    | 1, _ =>
     go_wp2
     exact ⟨⟨2, rfl, by omega, trivial⟩, by simp only [intOf]; omega⟩
    | 2, _ =>
     go_wp2
     go_ret
     exact ⟨rfl, rfl⟩
  ·have g1 : (q == 0) = false := by simpa using hq
   have g2 : ¬ (q = 0) := hq
   go_enter Tryz.func72, Tryz.ntmps72
   go_wp2
   go_loopw [5, 8] (fun _ q wr => ∃ k : Nat, q = .int .i64 k ∧ k ≤ 1 ∧ w = wr) (fun _ q _ => 2 - (intOf q).toNat)
   case atStart => exact ⟨0, rfl, by omega, rfl⟩
   case round =>
    obtain ⟨k, rfl, hk, rfl⟩ := hrel
    match k, hk with
    | 0, _ =>
     go_wp2
     exact ⟨⟨1, rfl, by omega, trivial⟩, by simp only [intOf]; omega⟩
    | 1, _ =>
     go_wp2
     go_ret
     exact ⟨rfl, rfl⟩
 ·rw [if_neg hp]
  have g1 : (p == 0) = false := by simpa using hp
  go_enter Tryz.func72, Tryz.ntmps72
  go_wp2
  go_loopw [5, 8] (fun _ q wr => q = .int .i64 0 ∧ w = wr) (fun _ q _ => 2 - (intOf q).toNat)
  case atStart => exact ⟨rfl, rfl⟩
  case round =>
   obtain ⟨rfl, rfl⟩ := hrel
   go_wp2
   go_ret
   exact ⟨rfl, rfl⟩

set_option maxHeartbeats 1000000 in
theorem compare_any (s n s' n' : Int) (w : World) : Calls Tryz.prog 52 #[.agg #[.int .i64 s, .int .i64 n], .agg #[.int .i64 s', .int .i64 n']] w fun e w' => e = .returned (.int .i64 (cmpD s n s' n')) ∧ Below w.heap.size w w' := by
 have H1 := Lib.hid (fun W => cmp_int s s' W)
 have H2 := Lib.hid (fun W => cmp_int64 n n' W)
 have hr : (if cmpI s s' = 0 then cmpI n n' else cmpI s s') = cmpD s n s' n' := rfl
 obtain ⟨p, hp⟩ : ∃ p, cmpI s s' = p := ⟨_, rfl⟩
 obtain ⟨q, hq⟩ : ∃ q, cmpI n n' = q := ⟨_, rfl⟩
 rw [hp, hq] at hr
 have H1' : Hid (∀ W, Calls Tryz.prog 73 #[.int .i64 s, .int .i64 s'] W fun e w' => e = .returned (.int .i64 p) ∧ W = w') := by rw [← hp]; exact H1
 have H2' : Hid (∀ W, Calls Tryz.prog 74 #[.int .i64 n, .int .i64 n'] W fun e w' => e = .returned (.int .i64 q) ∧ W = w') := by rw [← hq]; exact H2
 obtain ⟨r, hr'⟩ : ∃ r, (if p = 0 then q else p) = r := ⟨_, rfl⟩
 have H3 := Lib.hid (fun b W h0 h1 => hr' ▸ or_two p q b W h0 h1)
 have HR := Lib.hid (hr'.symm.trans hr)
 clear H1 H2 hp hq hr hr'
 go_enter Tryz.func52, Tryz.ntmps52
 go_wp2
 obtain ⟨W, hW⟩ : ∃ W, (w.alloc (.cells #[.int .i64 s, .int .i64 n] 37)).alloc (.cells #[.int .i64 s', .int .i64 n'] 37) = W := ⟨_, rfl⟩
 have a0 : W.cell? ⟨w.heap.size, 0, none⟩ = some (.int .i64 s) := by rw [← hW]; simp
 have a1 : W.cell? ⟨w.heap.size, 1, none⟩ = some (.int .i64 n) := by rw [← hW]; simp
 have a2 : W.cell? ⟨w.heap.size + 1, 0, none⟩ = some (.int .i64 s') := by rw [← hW]; simp
 have a3 : W.cell? ⟨w.heap.size + 1, 1, none⟩ = some (.int .i64 n') := by rw [← hW]; simp
 have b0 : Below w.heap.size w W := by rw [← hW]; exact ((Below.refl _ w).alloc (Nat.le_refl _) _).alloc (by simp) _
 have hs : W.heap.size = w.heap.size + 2 := by rw [← hW]; simp
 rw [hW]
 clear hW
 have HB := Lib.hid (b0.alloc (by rw [hs]; omega) (.cells #[.int .i64 p, .int .i64 q] 3))
 obtain ⟨m, hm⟩ : ∃ m, w.heap.size = m := ⟨_, rfl⟩
 rw [hm] at a0 a1 a2 a3 hs ⊢
 clear hm b0
 have l0 : m < W.heap.size := by omega
 have l1 : m + 1 < W.heap.size := by omega
 clear hs
 go_region_held3 (fun V => V.cell? ⟨m, 0, none⟩ = some (.int .i64 s) ∧ V.cell? ⟨m, 1, none⟩ = some (.int .i64 n) ∧ V.cell? ⟨m + 1, 0, none⟩ = some (.int .i64 s') ∧ V.cell? ⟨m + 1, 1, none⟩ = some (.int .i64 n'))
  (first | exact ⟨a0, a1, a2, a3⟩ | exact ⟨(World.cell?_alloc_lt _ _ _ l0).trans a0, (World.cell?_alloc_lt _ _ _ l0).trans a1, (World.cell?_alloc_lt _ _ _ l1).trans a2, (World.cell?_alloc_lt _ _ _ l1).trans a3⟩)
  (first
   | (go_at_call 73; refine (H1'.out _).mono ?_; rintro e w1 ⟨rfl, rfl⟩)
   | (go_at_call 74; refine (H2'.out _).mono ?_; rintro e w1 ⟨rfl, rfl⟩)
   | (go_at_call 72; refine (H3.out _ _ (by simp) (by simp)).mono ?_; rintro e w1 ⟨rfl, rfl⟩))
 all_goals
  go_wp2
  go_ret
  exact ⟨by rw [HR.out]; rfl, HB.out.drew⟩

theorem less_any (s n s' n' : Int) (w : World) : Calls Tryz.prog 23 #[.agg #[.int .i64 s, .int .i64 n], .agg #[.int .i64 s', .int .i64 n']] w fun e w' => e = .returned (.bool (decide (s < s' ∨ (s = s' ∧ n < n')))) ∧ Below w.heap.size w w' := by
 obtain ⟨R, hR⟩ : ∃ R, decide (s < s' ∨ (s = s' ∧ n < n')) = R := ⟨_, rfl⟩
 rw [hR]
 by_cases h : s = s'
 ·have HR := Lib.hid (show R = decide (n < n') by rw [← hR]; simp [h])
  subst h
  have g : (s == s) = true := by simp
  clear hR
  go_enter Tryz.func23, Tryz.ntmps23
  go_wp2
  go_ret
  exact ⟨by rw [HR.out]; rfl, ((Below.refl _ w).alloc (Nat.le_refl _) _).alloc (by simp) _⟩
 ·have HR := Lib.hid (show R = decide (s < s') by rw [← hR]; simp [h])
  have g : (s == s') = false := by simp [h]
  clear h hR
  go_enter Tryz.func23, Tryz.ntmps23
  go_wp2
  go_ret
  exact ⟨by rw [HR.out]; rfl, ((Below.refl _ w).alloc (Nat.le_refl _) _).alloc (by simp) _⟩

def DotList (s n : Int) (w : World) (e : Ending) (w' : World) : Prop := ∃ A, e = .returned (.slice A 1 1) ∧ Ss w' w'.heap.size A [(s, n, n)] ∧ Below w.heap.size w w'
theorem dotlist_any (s n : Int) (w : World) : Calls Tryz.prog 70 #[.agg #[.int .i64 s, .int .i64 n]] w (DotList s n w) := by
 go_enter Tryz.func70, Tryz.ntmps70
 go_wp2
 go_ret
 refine ⟨_, rfl, fun _ => ⟨_, _, rfl, by simp, fun j hj => ?_⟩, ((Below.refl _ w).alloc (Nat.le_refl _) _).alloc (by simp) _⟩
 match j, hj with
 | 0, _ => simp
end Vers
end Go.Proofs.YtbhidndgnldheaaGreat

/-
 What a law's row asks, said once for all laws: whatever only makes memory of its own and answers true meets it.
-/
namespace Go.Proofs.YtbhidndgnldheaaGreat
open Go.ChangeShapes Go.WideShapes Go.ChangeAt Go.RowKit

section
variable {H : Type} {enc : TypeId × Value → H} {P : Program} {W W' : World}

theorem stays_all (hl : laidOutB P = true) (hb : Below W.heap.size W W') : ∀ (ts : List TypeId) (vs : List Value) (ds : List (DataW H)) (ps : List MemPlace),
  (∀ t ∈ ts, P.readableRec t = true ∧ t < P.types.size) → (∀ x ∈ ps, x.block < W.heap.size) →
  DataW.TrodAll enc P W 0 (fun _ => true) true ts vs ds ps → DataW.TrodAll enc P W' 0 (fun b => decide (b < W.heap.size)) true ts vs ds ps := by
 intro ts
 induction ts with
 | nil =>
  intro vs ds ps _ _ h
  obtain ⟨rfl, rfl, rfl⟩ := trodAll_nil h
  exact rfl
 | cons t ts ih =>
  intro vs ds ps ht hp h
  obtain ⟨v, vs', d, ds', p, q, rfl, rfl, rfl, h1, h2⟩ := trodAll_cons h
  obtain ⟨hr, hrow⟩ := ht t (by simp)
  exact ⟨p, q, Below.trod hl hr hrow h1 hb (fun x hx => hp x (by simp [hx])), ih vs' ds' q (fun t' h' => ht t' (by simp [h'])) (fun x hx => hp x (by simp [hx])) h2, rfl⟩

theorem law_post {f : Func} {s : ChangeSpec} {tb : TypeId} {args : Array Value} {ds gs : List (DataW H)} {before p q : List MemPlace} (hl : laidOutB P = true)
  (hrt : f.resultTypes = #[tb]) (htb : P.underlying tb = some .bool) (hts : ∀ t ∈ f.params.toList, P.readableRec t = true ∧ t < P.types.size)
  (hW : DataW.Whole enc P f.params.toList s.vars false W args.toList ds gs before)
  (hA : DataW.TrodAll enc P W 0 (fun _ => true) true f.params.toList args.toList ds p) (hsv : s.vars = []) (hbef : before = p ++ q)
  (hres : (s.fn H (ds ++ gs)).results = [.lit (.bool true)]) (harg : (s.fn H (ds ++ gs)).args = ds) (hvar : (s.fn H (ds ++ gs)).vars = [])
  (hb : Below W.heap.size W W') : s.post enc P f false true false false W args (.bool true) W' := by
 have hlt : ∀ x ∈ before, x.block < W.heap.size := fun x hx => hW.lt x hx
 refine ⟨ds, gs, before, [], p, [], hW, ?_, ?_, ?_, hb.frame _, fun h => by cases h⟩
 ·rw [hres, hrt]
  exact trodAll_mk1 (shut_bool htb true)
 ·rw [harg]
  exact stays_all hl hb _ _ _ _ hts (fun x hx => hlt x (by rw [hbef]; simp [hx])) hA
 ·rw [hvar, hsv]
  exact rfl

end
end Go.Proofs.YtbhidndgnldheaaGreat

/-
 Closed facts of the program.
-/
namespace Go.Proofs.YtbhidndgnldheaaGreat
namespace Facts
theorem own : ownKnob Tryz.prog.godebug = none := by kernel_rfl
theorem laid : laidOutB Tryz.prog = true := by kernel_rfl
theorem cells5 : Tryz.prog.cellsOf 5 = 1 := by kernel_rfl
theorem bytes5 : Tryz.prog.bytesOf 5 = 1 := by kernel_rfl
theorem info5 : (Tryz.prog.info? 5).map (fun i => (i.zero, i.size, i.bytes)) = some (some (.int .u8 0), 1, 1) := by kernel_rfl
end Facts
end Go.Proofs.YtbhidndgnldheaaGreat

/-
 Plain words of layer 1: a number's bytes, read one by one.
-/
namespace Go.Proofs.YtbhidndgnldheaaGreat
namespace Num
open Go.RowKit

def numR : List Int → Nat → Nat → Int → Int × Nat × Int
 | [], _, _, _ => (0, 0, 4)
 | c :: r, p, i, n =>
  if (i = 8 ∧ 127 < c) ∨ (0 < i ∧ c = 0) then (0, 0, 2)
  else if c < 128 then (n + c * 128 ^ i, p + 1, 0)
  else numR r (p + 1) (i + 1) (n + (c - 128) * 128 ^ i)

def numF (zs : List Int) (i : Nat) : Int × Nat × Int := numR (zs.drop i) i 0 0

def putF : Nat → Int → List Int
 | 0, _ => []
 | k + 1, n => if n < 128 then [n] else (n % 128 + 128) :: putF k (n / 128)
def putL (n : Int) : List Int := putF 9 n

theorem putF_last (k : Nat) (n : Int) (h : n < 128) : putF (k + 1) n = [n] := by rw [putF, if_pos h]
theorem putF_more (k : Nat) (n : Int) (h : 128 ≤ n) : putF (k + 1) n = (n % 128 + 128) :: putF k (n / 128) := by rw [putF, if_neg (by omega)]

theorem putF_len : ∀ (k : Nat) (n : Int), (putF k n).length ≤ k
 | 0, _ => by simp [putF]
 | k + 1, n => by
  by_cases h : n < 128
  ·rw [putF_last _ _ h]; simp
  ·rw [putF_more _ _ (by omega)]; have := putF_len k (n / 128); simp; omega
theorem putF_pos (k : Nat) (n : Int) : 1 ≤ (putF (k + 1) n).length := by
 by_cases h : n < 128
 ·rw [putF_last _ _ h]; simp
 ·rw [putF_more _ _ (by omega)]; simp

theorem numR_ok : ∀ (l : List Int) (p i : Nat) (a n : Int) (q : Nat), (∀ z ∈ l, 0 ≤ z ∧ z ≤ 255) → i ≤ 8 → numR l p i a = (n, q, 0) →
  ∃ (m : Int) (k : Nat), 0 ≤ m ∧ m < 128 ^ (9 - i) ∧ (0 < i → 1 ≤ m) ∧ n = a + m * 128 ^ i ∧ q = p + k ∧ 1 ≤ k ∧ k ≤ l.length ∧ l.take k = putF (9 - i) m
 | [], p, i, a, n, q, _, _, h => by simp [numR] at h
 | c :: r, p, i, a, n, q, hby, hi, h => by
  have hc0 := hby c (by simp)
  obtain ⟨j, hj⟩ : ∃ j, 9 - i = j + 1 := ⟨8 - i, by omega⟩
  have hpow : (0 : Int) < 128 ^ j := Int.pow_pos (by omega)
  rw [numR] at h
  by_cases hb : (i = 8 ∧ 127 < c) ∨ (0 < i ∧ c = 0)
  ·rw [if_pos hb] at h
   simp at h
  ·rw [if_neg hb] at h
   by_cases hc : c < 128
   ·rw [if_pos hc] at h
    simp only [Prod.mk.injEq] at h
    refine ⟨c, 1, by omega, ?_, by omega, h.1.symm, by omega, by omega, by simp, ?_⟩
    ·rw [hj, Int.pow_succ]
     omega
    ·rw [hj, putF_last _ _ hc]
     rfl
   ·rw [if_neg hc] at h
    obtain ⟨m, k, h1, h2, h3, h4, h5, h6, h7, h8⟩ := numR_ok r (p + 1) (i + 1) _ n q (fun z hz => hby z (by simp [hz])) (by omega) h
    have h3' := h3 (by omega)
    have hj' : 9 - (i + 1) = j := by omega
    rw [hj'] at h2 h8
    refine ⟨c - 128 + m * 128, k + 1, by omega, ?_, by omega, ?_, by omega, by omega, by simp; omega, ?_⟩
    ·rw [hj, Int.pow_succ]
     omega
    ·rw [h4, Int.pow_succ, Int.add_mul, Int.mul_assoc, Int.mul_comm 128, Int.add_assoc]
    ·rw [hj, putF_more _ _ (by omega), List.take_succ_cons, h8]
     congr 2
     ·omega
     ·omega

theorem numR_put : ∀ (j i p : Nat) (a m : Int) (r : List Int), 9 - i = j + 1 → i ≤ 8 → 0 ≤ m → m < 128 ^ (j + 1) → (0 < i → 1 ≤ m) →
  numR (putF (j + 1) m ++ r) p i a = (a + m * 128 ^ i, p + (putF (j + 1) m).length, 0)
 | j, i, p, a, m, r, hj, hi, h0, h1, h2 => by
  by_cases hm : m < 128
  ·rw [putF_last _ _ hm]
   show numR (m :: r) p i a = _
   rw [numR, if_neg (by omega), if_pos hm]
   rfl
  ·rw [putF_more _ _ (by omega)]
   cases j with
   | zero => simp at h1; omega
   | succ j =>
    show numR ((m % 128 + 128) :: (putF (j + 1) (m / 128) ++ r)) p i a = _
    rw [numR, if_neg (by omega), if_neg (by omega), numR_put j (i + 1) (p + 1) _ (m / 128) r (by omega) (by omega) (by omega) (by rw [Int.pow_succ] at h1; exact Int.ediv_lt_of_lt_mul (by omega) h1) (by omega)]
    refine Prod.ext ?_ (Prod.ext ?_ rfl)
    ·show a + (m % 128 + 128 - 128) * 128 ^ i + m / 128 * 128 ^ (i + 1) = a + m * 128 ^ i
     rw [Int.pow_succ, Int.add_sub_cancel, Int.mul_comm (128 ^ i) 128, ← Int.mul_assoc, Int.add_assoc, ← Int.add_mul]
     congr 2
     omega
    ·simp only [List.length_cons]
     omega

theorem numF_put (n : Int) (h0 : 0 ≤ n) (h1 : n ≤ 9223372036854775807) (xs ys : List Int) : numF (xs ++ putL n ++ ys) xs.length = (n, xs.length + (putL n).length, 0) := by
 unfold numF
 rw [List.append_assoc, List.drop_left]
 have h := numR_put 8 0 xs.length 0 n ys (by omega) (by omega) h0 (by omega) (by omega)
 rw [show putL n = putF (8 + 1) n from rfl, h]
 simp
theorem putL_len (n : Int) : 1 ≤ (putL n).length ∧ (putL n).length ≤ 9 := ⟨putF_pos 8 n, putF_len 9 n⟩
theorem numF_ok {zs : List Int} {i p : Nat} {n : Int} (hby : ∀ z ∈ zs, 0 ≤ z ∧ z ≤ 255) (h : numF zs i = (n, p, 0)) : 0 ≤ n ∧ n ≤ 9223372036854775807 ∧ i < p ∧ p ≤ zs.length := by
 obtain ⟨m, k, g1, g2, g3, g4, g5, g6, g7, g8⟩ := numR_ok (zs.drop i) i 0 0 n p (fun z hz => hby z (List.mem_of_mem_drop hz)) (by omega) h
 rw [List.length_drop] at g7
 have hm : m < 128 ^ 9 := g2
 have hn : n = m := by rw [g4]; simp
 subst hn
 omega
end Num
end Go.Proofs.YtbhidndgnldheaaGreat
