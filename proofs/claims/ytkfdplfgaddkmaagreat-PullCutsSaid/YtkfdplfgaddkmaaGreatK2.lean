/-
  Several texts of this family in one: Base, NumWalk, NumRef, Frame, Facts, Text, SpanBase, SpanPlain, CodeParse, CodeRd, SpanOwn, SpanRight, PutNum, Bulk.
-/
import Derived.WalkKit
import Derived.Lib.Hide
import Derived.Deep.Draws
import Derived.Deep.QuietTactic
import Derived.BigQuiet
import Derived.Maps.AppendAt
import Derived.Laws.BytesArg
import Derived.Lib.AppendStr
import Derived.Test.YtkfdplfgaddkmaaGreatRows
import Derived.Test.YtkfdplfgaddkmaaGreatK1
import Derived.ProofKit
import Derived.SizedLaws
import Derived.OpenShut
import Derived.JoinedCond
import Derived.Deep.CondSized
import Derived.RangeFuncBox
import Derived.WalkLawsBesides
import Derived.Deep.RegionHeld3
import Derived.Deep.DrawnRows
import Derived.IntWalk
/-
 Plain words on memory that all texts share: a slice whose cells read as a list of numbers, nil and empty ones let in.
-/
namespace Go.Proofs.YtkfdplfgaddkmaaGreat
open Go.RowKit

def Ns (k : IntKind) (w : World) (B : Nat) (A : Option Addr) (zs : List Int) : Prop :=
 0 < zs.length → ∃ b off, A = some ⟨b, off, none⟩ ∧ b < B ∧ ∀ j, j < zs.length → w.cell? ⟨b, off + j, none⟩ = some (.int k (zs.getD j 0))

section
variable {k : IntKind} {w w' : World} {B B' : Nat} {A : Option Addr} {zs : List Int}
theorem Ns.nil (A : Option Addr) : Ns k w B A [] := fun h => absurd h (by simp)
theorem Ns.keep (h : Ns k w B A zs) (hk : ∀ p : Addr, p.block < B → w'.cell? p = w.cell? p) : Ns k w' B A zs := fun hp => by
 obtain ⟨b, off, e, hb, hc⟩ := h hp
 exact ⟨b, off, e, hb, fun j hj => (hk _ hb).trans (hc j hj)⟩
theorem Ns.more (h : Ns k w B A zs) (hB : B ≤ B') : Ns k w B' A zs := fun hp => by
 obtain ⟨b, off, e, hb, hc⟩ := h hp
 exact ⟨b, off, e, by omega, hc⟩
theorem Ns.below (h : Ns k w B A zs) (hb : Below B w w') : Ns k w' B A zs := h.keep fun _ hp => hb.cell hp
theorem Ns.drew (h : Ns k w B A zs) : Ns k w.drew B A zs := h
theorem Ns.drewN (h : Ns k w B A zs) (n : Nat) : Ns k (w.drewN n) B A zs := h
theorem Ns.alloc (h : Ns k w B A zs) (hB : B ≤ w.heap.size) (o : Obj) : Ns k (w.alloc o) B A zs := h.keep fun p hp => World.cell?_alloc_lt w o p (by omega)
theorem Ns.grown (h : Ns k w B A zs) {row : Option Nat} (hg : w.grownBy w' row) (hB : B ≤ w.heap.size) (hr : ∀ g, row = some g → B ≤ g) : Ns k w' B A zs :=
 h.keep fun p hp => World.cell?_of_block (hg.block p.block (by omega) (fun e => by have := hr _ e.symm; omega))
end

/-! ### What a call has made: a row of numbers of its own -/
def nums (k : IntKind) (zs : List Int) : List Value := zs.map (Value.int k)
theorem nums_length (k : IntKind) (zs : List Int) : (nums k zs).length = zs.length := by simp [nums]

def MadeNs (e : TypeId) (k : IntKind) (zs : List Int) (w : World) (r : Ending) (w' : World) : Prop :=
 ∃ A c, r = .returned (.slice A zs.length c) ∧ w'.ownsRow w.heap.size e 1 (.slice A zs.length c) zs.length (nums k zs) ∧ Below w.heap.size w w'

theorem own_form {w : World} {base : Nat} {e : TypeId} {size : Nat} {v : Value} {n : Nat} {xs : List Value} (h : w.ownsRow base e size v n xs) : ∃ A c, v = .slice A n c := by
 rcases h.2 with ⟨rfl, rfl⟩ | ⟨g, cap, cur, rfl, _⟩
 ·exact ⟨_, _, rfl⟩
 ·exact ⟨_, _, rfl⟩

theorem own_ns {w : World} {base : Nat} {e : TypeId} {k : IntKind} {A : Option Addr} {c n : Nat} {zs : List Int} (h : w.ownsRow base e 1 (.slice A n c) zs.length (nums k zs)) : Ns k w w.heap.size A zs := by
 intro hp
 rcases h.2 with ⟨_, h0⟩ | ⟨g, cap, cur, hv, hbg, hg, hn, hcm, hcs, htake⟩
 ·omega
 ·injection hv with h1 h2 h3
  subst h1
  refine ⟨g, 0, rfl, (Array.getElem?_eq_some_iff.1 hg).1, fun j hj => ?_⟩
  have hc := h.cells (g := g) rfl j (.int k (zs.getD j 0)) (by
   simp only [nums, List.getElem?_map, List.getD_eq_getElem?_getD, List.getElem?_eq_getElem hj, Option.map_some, Option.getD_some])
  have hadd : (⟨g, 0, none⟩ : Addr).add j = ⟨g, 0 + j, none⟩ := by unfold Addr.add; split <;> simp_all
  rw [hadd] at hc
  exact hc

theorem own_below {w w' : World} {base B : Nat} {e : TypeId} {size : Nat} {v : Value} {n : Nat} {xs : List Value} (h : w.ownsRow base e size v n xs) (hb : Below B w w') (hB : w.heap.size ≤ B) : w'.ownsRow base e size v n xs := by
 refine ⟨h.1, ?_⟩
 rcases h.2 with hn | ⟨g, cap, cur, rfl, hbg, hg, rest⟩
 ·exact .inl hn
 ·exact .inr ⟨g, cap, cur, rfl, hbg, by rw [hb.block g (by have := (Array.getElem?_eq_some_iff.1 hg).1; omega)]; exact hg, rest⟩

section
variable {P : Program} (w : World)
theorem wpList_append_one {ops : Array Oper} {rest : List Oper} {o : Oper} {a : Act} {Q : Exit → Act → World → Prop} (hgd : o.guard = none) (s x : Operand) (t : TypeId)
  (ho : o.op = .call { callee := .builtin .append, args := #[s, x], argTypes := #[t, t] })
  (base : Nat) (e : TypeId) (i : TypeInfo) (z : Value) (bytes : Nat) (ht : P.underlying t = some (.slice e)) (hi : P.info? e = some i) (hz : i.zero = some z)
  (hsize : i.size = 1) (hby : i.bytes = bytes) (hzs : z.cells.size = 1)
  (v : Value) (n : Nat) (xs : List Value) (hs : a.eval s = v) (hown : w.ownsRow base e 1 v n xs) (u : Value) (c : Nat)
  (hx : a.eval x = .slice (some ⟨w.heap.size, 0, none⟩) 1 c) (h1 : u.oneCell' = true)
  (hbytes : (n + 1) * bytes ≤ 140737488355328) (hn : n + 1 ≤ 140737488355328) (hbase : base ≤ w.heap.size)
  (h : ∀ v' w', w'.ownsRow base e 1 v' (n + 1) (xs ++ [u]) → w.grownBy w' v.ownBlock → (v'.ownBlock = v.ownBlock ∨ ∃ g, v'.ownBlock = some g ∧ w.heap.size ≤ g) → wpList P ops Q rest (a.put o.dst v') w') :
  wpList P ops Q (o :: rest) a (w.alloc (.cells #[u] e)) := by
 refine wpList_append_own_at _ hgd s x t ho base e i z 1 bytes ht hi hz hsize hby hzs (by omega) v n xs hs (hown.alloc _) ⟨w.heap.size, 0, none⟩ 1 c [u] hx rfl ?_ ?_ (by unfold maxLen; omega) hbytes (by simp; omega) ?_
 ·intro j u' hj
  match j, hj with
  | 0, hj => simp at hj; subst hj; simp [Addr.add]
 ·intro u' hu; simp at hu; subst hu; exact h1
 ·intro v' w' hown' hg _ hat
  refine h v' w' hown' ?_ ?_
  ·exact ⟨hg.os, hg.tape, hg.output, Nat.le_trans (by simp) hg.size, fun k hk hne => (hg.block k (by simp; omega) hne).trans (Below.heap_alloc w _ k hk)⟩
  ·rcases hat with h1 | h1
   ·exact .inl h1
   ·exact .inr ⟨_, h1, by simp⟩

theorem wpList_append_ns {ops : Array Oper} {rest : List Oper} {o : Oper} {a : Act} {Q : Exit → Act → World → Prop} (hgd : o.guard = none) (s x : Operand) (t : TypeId)
  (ho : o.op = .call { callee := .builtin .append, args := #[s, x], argTypes := #[t, t] })
  (base : Nat) (e : TypeId) (i : TypeInfo) (z : Value) (bytes : Nat) (ht : P.underlying t = some (.slice e)) (hi : P.info? e = some i) (hz : i.zero = some z)
  (hsize : i.size = 1) (hby : i.bytes = bytes) (hzs : z.cells.size = 1)
  (v : Value) (n : Nat) (xs : List Value) (hs : a.eval s = v) (hown : w.ownsRow base e 1 v n xs) (k : IntKind) (B : Nat) (A : Option Addr) (m c : Nat) (ys : List Int) (hm : ys.length = m)
  (hx : a.eval x = .slice A m c) (hr : Ns k w B A ys)
  (hbytes : (n + m) * bytes ≤ 140737488355328) (hn : n + m ≤ 140737488355328) (hbase : base ≤ w.heap.size)
  (h : ∀ v' w', w'.ownsRow base e 1 v' (n + m) (xs ++ nums k ys) → w.grownBy w' v.ownBlock → (v'.ownBlock = v.ownBlock ∨ v'.ownBlock = some w.heap.size) → wpList P ops Q rest (a.put o.dst v') w') :
  wpList P ops Q (o :: rest) a w := by
 subst hm
 have hone : ∀ u ∈ nums k ys, u.oneCell' = true := by
  intro u hu
  obtain ⟨y, _, rfl⟩ := List.mem_map.1 hu
  rfl
 rcases A with _ | ad
 ·have h0 : ys = [] := by
   rcases Nat.eq_zero_or_pos ys.length with h0 | h0
   ·exact List.eq_nil_of_length_eq_zero h0
   ·obtain ⟨b, off, he, _⟩ := hr h0
    cases he
  subst h0
  refine wpList_plain hgd fun K hK => ?_
  have hrun : (Builtin.append_ #[t, t] o.type #[v, .slice none 0 c]).run P w = .ok v w := by
   rcases hown.2 with ⟨rfl, rfl⟩ | ⟨g, cap, cur, rfl, _, _, hnc, _⟩
   ·simp [Builtin.append_, run_underlying ht, sizeOf, typeInfo, hi, Builtin.lenOf, Builtin.firstCells]
   ·simp [Builtin.append_, run_underlying ht, sizeOf, typeInfo, hi, Builtin.lenOf, Builtin.firstCells, hnc, storeCells]
  unfold Oper.wp execOp
  simp only [ho, resolve, invoke, builtin, Sem.run_bind, Sem.run_pure, Result.andThen_ok, List.map_toArray, List.map_cons, List.map_nil, hs, hx, List.length_nil, hrun]
  exact hK _ _ (h v w (by simpa [nums] using hown) (World.grownBy.refl w _) (.inl rfl))
 ·have hcells : ∀ j u, (nums k ys)[j]? = some u → w.cell? (ad.add j) = some u := by
   intro j u hu
   have hj : j < ys.length := by
    rcases Nat.lt_or_ge j ys.length with h | h
    ·exact h
    ·rw [List.getElem?_eq_none (by rw [nums_length]; exact h)] at hu; cases hu
   obtain ⟨b, off, he, _, hc⟩ := hr (by omega)
   injection he with he
   subst he
   have hadd : (⟨b, off, none⟩ : Addr).add j = ⟨b, off + j, none⟩ := by unfold Addr.add; split <;> simp_all
   rw [hadd, hc j hj]
   rw [← hu]
   simp only [nums, List.getElem?_map, List.getD_eq_getElem?_getD, List.getElem?_eq_getElem hj, Option.map_some, Option.getD_some]
  exact wpList_append_own_at w hgd s x t ho base e i z 1 bytes ht hi hz hsize hby hzs (by omega) v n xs hs hown ad ys.length c (nums k ys) hx (by rw [nums_length]; omega) hcells hone (by unfold maxLen; omega) hbytes hbase
   fun v' w' h1 h2 _ h4 => h v' w' h1 h2 h4

end

def strNums (s : ByteArray) : List Int := s.data.toList.map fun b => (b.toNat : Int)
theorem strNums_length (s : ByteArray) : (strNums s).length = s.size := by unfold strNums; rw [List.length_map, Array.length_toList]; rfl
theorem strCells_nums (s : ByteArray) : Lib.strCells s = nums .u8 (strNums s) := by simp [Lib.strCells, nums, strNums]
theorem strNums_bytes (s : ByteArray) : ∀ z ∈ strNums s, 0 ≤ z ∧ z ≤ 255 := by
 intro z hz
 obtain ⟨b, _, rfl⟩ := List.mem_map.1 hz
 have := b.toNat_lt
 omega
theorem strNums_at (s : ByteArray) (k : Nat) (h : k < s.size) : (strNums s).take (k + 1) = (strNums s).take k ++ [((s[k]'h).toNat : Int)] := by
 rw [List.take_succ_eq_append_getElem (by rw [strNums_length]; exact h)]
 simp only [strNums, List.getElem_map]
 rfl
theorem Ns.take {k : IntKind} {w : World} {B : Nat} {A : Option Addr} {zs : List Int} (h : Ns k w B A zs) (n : Nat) : Ns k w B A (zs.take n) := by
 intro hp
 rw [List.length_take] at hp
 obtain ⟨b, off, e, hb, hc⟩ := h (by omega)
 refine ⟨b, off, e, hb, fun j hj => ?_⟩
 rw [List.length_take] at hj
 rw [hc j (by omega)]
 simp [List.getD_eq_getElem?_getD, show j < n by omega]

theorem Ns.cut {k : IntKind} {w : World} {B b off : Nat} {zs : List Int} (h : Ns k w B (some ⟨b, off, none⟩) zs) (p m : Nat) : Ns k w B (some ⟨b, off + p, none⟩) ((zs.drop p).take m) := by
 intro hp
 rw [List.length_take, List.length_drop] at hp
 obtain ⟨b', off', e, hb, hc⟩ := h (by omega)
 injection e with e
 injection e with e1 e2 e3
 subst e1
 subst e2
 refine ⟨b, off + p, rfl, hb, fun j hj => ?_⟩
 rw [List.length_take, List.length_drop] at hj
 rw [Nat.add_assoc, hc (p + j) (by omega)]
 simp [List.getD_eq_getElem?_getD, List.getElem?_drop, show j < m by omega]
theorem own_base {w : World} {base base' : Nat} {e : TypeId} {size : Nat} {v : Value} {n : Nat} {xs : List Value} (h : w.ownsRow base e size v n xs) (hB : base' ≤ base) : w.ownsRow base' e size v n xs := by
 refine ⟨h.1, ?_⟩
 rcases h.2 with hn | ⟨g, cap, cur, rfl, hbg, hg, rest⟩
 ·exact .inl hn
 ·exact .inr ⟨g, cap, cur, rfl, by omega, hg, rest⟩
end Go.Proofs.YtkfdplfgaddkmaaGreat

/-
 num.Num tells what numF tells.
-/
namespace Go.Proofs.YtkfdplfgaddkmaaGreat
namespace Num
open Go.RowKit

end Num
end Go.Proofs.YtkfdplfgaddkmaaGreat

/-
 firthref01.Num tells what numF tells.
-/
namespace Go.Proofs.YtkfdplfgaddkmaaGreat
namespace Num
open Go.RowKit

end Num
end Go.Proofs.YtkfdplfgaddkmaaGreat

/-
 What a law's row asks, said once for all laws: whatever only makes memory of its own and answers true meets it.
-/
namespace Go.Proofs.YtkfdplfgaddkmaaGreat
open Go.ChangeShapes Go.WideShapes Go.ChangeAt Go.RowKit

section
variable {H : Type} {enc : TypeId × Value → H} {P : Program} {W W' : World}

theorem stays_all (hl : laidOutB P = true) (hb : Below W.heap.size W W') : ∀ (ts : List TypeId) (vs : List Value) (ds : List (DataW H)) (ps : List MemPlace),
  (∀ t ∈ ts, P.readableRec t = true ∧ t < P.types.size) → (∀ x ∈ ps, x.block < W.heap.size) →
  DataW.TrodAll enc P W 0 (fun _ => true) true ts vs ds ps → DataW.TrodAll enc P W' 0 (fun b => decide (b < W.heap.size)) true ts vs ds ps := by
 intro ts
 induction ts with
 | nil =>
  intro vs ds ps _ _ h
  obtain ⟨rfl, rfl, rfl⟩ := trodAll_nil h
  exact rfl
 | cons t ts ih =>
  intro vs ds ps ht hp h
  obtain ⟨v, vs', d, ds', p, q, rfl, rfl, rfl, h1, h2⟩ := trodAll_cons h
  obtain ⟨hr, hrow⟩ := ht t (by simp)
  exact ⟨p, q, Below.trod hl hr hrow h1 hb (fun x hx => hp x (by simp [hx])), ih vs' ds' q (fun t' h' => ht t' (by simp [h'])) (fun x hx => hp x (by simp [hx])) h2, rfl⟩

theorem law_post {f : Func} {s : ChangeSpec} {tb : TypeId} {args : Array Value} {ds gs : List (DataW H)} {before p q : List MemPlace} (hl : laidOutB P = true)
  (hrt : f.resultTypes = #[tb]) (htb : P.underlying tb = some .bool) (hts : ∀ t ∈ f.params.toList, P.readableRec t = true ∧ t < P.types.size)
  (hW : DataW.Whole enc P f.params.toList s.vars false W args.toList ds gs before)
  (hA : DataW.TrodAll enc P W 0 (fun _ => true) true f.params.toList args.toList ds p) (hsv : s.vars = []) (hbef : before = p ++ q)
  (hres : (s.fn H (ds ++ gs)).results = [.lit (.bool true)]) (harg : (s.fn H (ds ++ gs)).args = ds) (hvar : (s.fn H (ds ++ gs)).vars = [])
  (hb : Below W.heap.size W W') : s.post enc P f false true false false W args (.bool true) W' := by
 have hlt : ∀ x ∈ before, x.block < W.heap.size := fun x hx => hW.lt x hx
 refine ⟨ds, gs, before, [], p, [], hW, ?_, ?_, ?_, hb.frame _, fun h => by cases h⟩
 ·rw [hres, hrt]
  exact trodAll_mk1 (shut_bool htb true)
 ·rw [harg]
  exact stays_all hl hb _ _ _ _ hts (fun x hx => hlt x (by rw [hbef]; simp [hx])) hA
 ·rw [hvar, hsv]
  exact rfl

theorem open_ns {t e : TypeId} {k : IntKind} {v : Value} {d : DataW H} {p : List MemPlace} {r : Reach} {b0 : Nat} (ht : P.underlying t = some (.slice e)) (he : P.underlying e = some (.int k)) (hc : P.cellsOf e = 1)
  (hv : Value.okWide P W r b0 t v) (h : DataW.Trod enc P W 0 (fun _ => true) true t v d p) :
  ∃ (A : Option Addr) (c : Nat) (zs : List Int), v = .slice A zs.length c ∧ Ns k W W.heap.size A zs ∧ (∀ n ∈ zs, (Lit.int k n).wf = true) ∧ zs.length ≤ c ∧ c ≤ maxLen ∧
   ((d = .nil ∧ A = none ∧ zs = [] ∧ c = 0) ∨ ∃ el sp, d = .slice el sp ∧ c = el.length + sp.length ∧ el = lits k zs) := by
 obtain ⟨A, len, c, rfl⟩ := okWide_slice ht hv
 obtain ⟨fuel, hf⟩ := h
 rcases open_ints ht he hc hf with ⟨hcs, hx⟩ | ⟨a, len', cap', zs, hcs, _, hl, hm, hz, hx, hcell, hwz⟩
 ·simp [Value.cells] at hcs
  obtain ⟨rfl, rfl, rfl⟩ := hcs
  simp only [Prod.mk.injEq] at hx
  exact ⟨none, 0, [], rfl, Ns.nil _, by simp, by simp, by simp [maxLen], .inl ⟨hx.1, rfl, rfl, rfl⟩⟩
 ·simp [Value.cells] at hcs
  obtain ⟨rfl, rfl, rfl⟩ := hcs
  simp only [Prod.mk.injEq] at hx
  simp only [if_true] at hz
  have hlen : (zs.take len).length = len := by simp; omega
  refine ⟨some a, c, zs.take len, by rw [hlen], fun hp => ?_, fun n hn => hwz n (List.mem_of_mem_take hn), by omega, hm, .inr ⟨_, _, hx.1, ?_, rfl⟩⟩
  ·rw [hlen] at hp
   obtain ⟨b, off, rfl, hat⟩ := ints_at hcell (by omega)
   have h0 := hat 0 (by omega)
   refine ⟨b, off, rfl, World.block_lt_of_cell? W _ h0, fun j hj => ?_⟩
   rw [hlen] at hj
   rw [hat j (by omega)]
   simp [List.getD_eq_getElem?_getD, hj]
  ·simp [lits]; omega

theorem wf_int {n : Int} (h : (Lit.int .i64 n).wf = true) : -9223372036854775808 ≤ n ∧ n ≤ 9223372036854775807 := by
 simpa [Lit.wf, IntKind.min, IntKind.max, IntKind.signed, IntKind.bits] using h

theorem reach_ns {ts : List TypeId} {ds : List (DataW H)} {j : Nat} {t e : TypeId} {d : DataW H} {k : IntKind} {zs : List Int} {A : Option Addr} {c nb : Nat} (h : (DataW.weightsEach P ts ds).all (· ≤ reachBytes) = true)
  (ht : ts[j]? = some t) (hd : ds[j]? = some d) (hu : P.underlying t = some (.slice e)) (hb : P.bytesOf e = nb) (hlc : zs.length ≤ c)
  (ho : (d = .nil ∧ A = none ∧ zs = [] ∧ c = 0) ∨ ∃ el sp, d = .slice el sp ∧ c = el.length + sp.length ∧ el = lits k zs) : zs.length * nb ≤ 140737488351232 := by
 rcases ho with ⟨_, _, rfl, _⟩ | ⟨el, sp, rfl, hc, _⟩
 ·simp
 ·have := sized_slice h ht hd hu
  rw [hb] at this
  have h2 : zs.length * nb ≤ (el.length + sp.length) * nb := Nat.mul_le_mul_right _ (by omega)
  have h3 : reachBytes = 140737488351232 := by decide
  omega
end
end Go.Proofs.YtkfdplfgaddkmaaGreat

/-
 Closed facts of the program.
-/
namespace Go.Proofs.YtkfdplfgaddkmaaGreat
namespace Facts
theorem own : ownKnob Tryz.prog.godebug = none := by kernel_rfl
theorem laid : laidOutB Tryz.prog = true := by kernel_rfl
theorem cells5 : Tryz.prog.cellsOf 5 = 1 := by kernel_rfl
theorem bytes5 : Tryz.prog.bytesOf 5 = 1 := by kernel_rfl
theorem info5 : (Tryz.prog.info? 5).map (fun i => (i.zero, i.size, i.bytes)) = some (some (.int .u8 0), 1, 1) := by kernel_rfl
end Facts
end Go.Proofs.YtkfdplfgaddkmaaGreat

/-
 num.Text and firthref01.Text tell what textF tells.
-/
namespace Go.Proofs.YtkfdplfgaddkmaaGreat
namespace Num
open Go.RowKit

def textF (zs : List Int) (i : Nat) (most : Int) : List Int × Nat × Int :=
 if (numF zs i).2.2 ≠ 0 then ([], 0, (numF zs i).2.2)
 else if max most 0 < (numF zs i).1 then ([], 0, 3)
 else if (zs.length : Int) - (numF zs i).2.1 < (numF zs i).1 then ([], 0, 4)
 else ((zs.drop (numF zs i).2.1).take (numF zs i).1.toNat, (numF zs i).2.1 + (numF zs i).1.toNat, 0)

end Num
end Go.Proofs.YtkfdplfgaddkmaaGreat

/-
 A slice of spans read as a list of triples: site, from, to.
-/
namespace Go.Proofs.YtkfdplfgaddkmaaGreat
open Go.RowKit

abbrev Sp := Int × Int × Int
def Ss (w : World) (B : Nat) (A : Option Addr) (l : List Sp) : Prop :=
 0 < l.length → ∃ b off, A = some ⟨b, off, none⟩ ∧ b < B ∧ ∀ j, j < l.length →
  w.cell? ⟨b, off + j * 3, none⟩ = some (.int .i64 (l.getD j (0, 0, 0)).1) ∧ w.cell? ⟨b, off + j * 3 + 1, none⟩ = some (.int .i64 (l.getD j (0, 0, 0)).2.1) ∧ w.cell? ⟨b, off + j * 3 + 2, none⟩ = some (.int .i64 (l.getD j (0, 0, 0)).2.2)
section
variable {w w' : World} {B B' : Nat} {A : Option Addr} {l : List Sp}
theorem Ss.nil (A : Option Addr) : Ss w B A [] := fun h => absurd h (by simp)
theorem Ss.keep (h : Ss w B A l) (hk : ∀ p : Addr, p.block < B → w'.cell? p = w.cell? p) : Ss w' B A l := fun hp => by
 obtain ⟨b, off, e, hb, hc⟩ := h hp
 exact ⟨b, off, e, hb, fun j hj => ⟨(hk _ hb).trans (hc j hj).1, (hk _ hb).trans (hc j hj).2.1, (hk _ hb).trans (hc j hj).2.2⟩⟩
theorem Ss.more (h : Ss w B A l) (hB : B ≤ B') : Ss w B' A l := fun hp => by
 obtain ⟨b, off, e, hb, hc⟩ := h hp
 exact ⟨b, off, e, by omega, hc⟩
theorem Ss.below (h : Ss w B A l) (hb : Below B w w') : Ss w' B A l := h.keep fun _ hp => hb.cell hp
theorem Ss.drew (h : Ss w B A l) : Ss w.drew B A l := h
theorem Ss.drewN (h : Ss w B A l) (n : Nat) : Ss (w.drewN n) B A l := h
theorem Ss.alloc (h : Ss w B A l) (hB : B ≤ w.heap.size) (o : Obj) : Ss (w.alloc o) B A l := h.keep fun p hp => World.cell?_alloc_lt w o p (by omega)
end
end Go.Proofs.YtkfdplfgaddkmaaGreat

/-
 Spans as sets of dots, on plain lists: which lists are right, and that two right lists of the same dots are the same.
-/
namespace Go.Proofs.YtkfdplfgaddkmaaGreat
namespace Span

def okSp (x : Sp) : Prop := 1 ≤ x.1 ∧ x.1 ≤ 16 ∧ 1 ≤ x.2.1 ∧ x.2.1 ≤ x.2.2 ∧ x.2.2 ≤ 4611686018427387904
def apart (a b : Sp) : Prop := a.1 < b.1 ∨ (a.1 = b.1 ∧ a.2.2 + 1 < b.2.1)
def inSp (x : Sp) (s n : Int) : Prop := x.1 = s ∧ x.2.1 ≤ n ∧ n ≤ x.2.2
def mem (l : List Sp) (s n : Int) : Prop := ∃ x ∈ l, inSp x s n
def Fine (l : List Sp) : Prop := (∀ x ∈ l, okSp x) ∧ l.Pairwise apart
instance (x : Sp) : Decidable (okSp x) := by unfold okSp; infer_instance
instance (a b : Sp) : Decidable (apart a b) := by unfold apart; infer_instance
instance (x : Sp) (s n : Int) : Decidable (inSp x s n) := by unfold inSp; infer_instance
instance (l : List Sp) (s n : Int) : Decidable (mem l s n) := by unfold mem; infer_instance
instance (l : List Sp) : Decidable (Fine l) := by unfold Fine; infer_instance
def Right (l : List Sp) : Prop := l.length ≤ 1024 ∧ Fine l
instance (l : List Sp) : Decidable (Right l) := by unfold Right; infer_instance

theorem apart_trans {a b c : Sp} (hb : okSp b) (h1 : apart a b) (h2 : apart b c) : apart a c := by
 unfold apart okSp at *
 omega
theorem fine_nil : Fine [] := ⟨by simp, List.Pairwise.nil⟩
theorem fine_one {x : Sp} (h : okSp x) : Fine [x] := ⟨by simpa using h, by simp⟩
theorem fine_cons {x : Sp} {l : List Sp} : Fine (x :: l) ↔ okSp x ∧ (∀ y ∈ l, apart x y) ∧ Fine l := by
 unfold Fine
 rw [List.pairwise_cons]
 constructor
 ·rintro ⟨h1, h2, h3⟩
  exact ⟨h1 x (by simp), h2, fun y hy => h1 y (by simp [hy]), h3⟩
 ·rintro ⟨h1, h2, h3, h4⟩
  refine ⟨fun y hy => ?_, h2, h4⟩
  rcases List.mem_cons.1 hy with rfl | hy
  ·exact h1
  ·exact h3 y hy
theorem fine_snoc {x : Sp} {l : List Sp} : Fine (l ++ [x]) ↔ Fine l ∧ okSp x ∧ ∀ y ∈ l, apart y x := by
 unfold Fine
 rw [List.pairwise_append]
 constructor
 ·rintro ⟨h1, h2, _, h4⟩
  exact ⟨⟨fun y hy => h1 y (by simp [hy]), h2⟩, h1 x (by simp), fun y hy => h4 y hy x (by simp)⟩
 ·rintro ⟨⟨h1, h2⟩, h3, h4⟩
  refine ⟨fun y hy => ?_, h2, by simp, fun y hy z hz => ?_⟩
  ·rcases List.mem_append.1 hy with hy | hy
   ·exact h1 y hy
   ·rw [List.mem_singleton.1 hy]; exact h3
  ·rw [List.mem_singleton.1 hz]; exact h4 y hy
theorem fine_next {x z : Sp} {l : List Sp} (h : Fine (l ++ [z])) (hx : okSp x) (ha : apart z x) : Fine (l ++ [z] ++ [x]) := by
 rw [fine_snoc]
 have h' := fine_snoc.1 h
 refine ⟨h, hx, fun y hy => ?_⟩
 rcases List.mem_append.1 hy with hy | hy
 ·exact apart_trans h'.2.1 (h'.2.2 y hy) ha
 ·rw [List.mem_singleton.1 hy]; exact ha
theorem mem_nil (s n : Int) : ¬ mem [] s n := by simp [mem]
theorem mem_cons (x : Sp) (l : List Sp) (s n : Int) : mem (x :: l) s n ↔ inSp x s n ∨ mem l s n := by simp [mem]
theorem mem_append (l m : List Sp) (s n : Int) : mem (l ++ m) s n ↔ mem l s n ∨ mem m s n := by
 unfold mem
 constructor
 ·rintro ⟨x, hx, h⟩
  rcases List.mem_append.1 hx with hx | hx
  ·exact .inl ⟨x, hx, h⟩
  ·exact .inr ⟨x, hx, h⟩
 ·rintro (⟨x, hx, h⟩ | ⟨x, hx, h⟩)
  ·exact ⟨x, by simp [hx], h⟩
  ·exact ⟨x, by simp [hx], h⟩
theorem behind {x : Sp} {l : List Sp} (h : ∀ y ∈ l, apart x y) {s n : Int} (hm : mem l s n) : x.1 < s ∨ (x.1 = s ∧ x.2.2 + 1 < n) := by
 obtain ⟨y, hy, h1, h2, h3⟩ := hm
 have := h y hy
 unfold apart at this
 omega

theorem canon : ∀ {l m : List Sp}, Fine l → Fine m → (∀ s n, mem l s n ↔ mem m s n) → l = m
 | [], [], _, _, _ => rfl
 | [], y :: m, _, hm, h => by
  have h1 := (fine_cons.1 hm).1
  exact absurd ((h y.1 y.2.1).2 ((mem_cons _ _ _ _).2 (.inl ⟨rfl, by omega, h1.2.2.2.1⟩))) (mem_nil _ _)
 | x :: l, [], hl, _, h => by
  have h1 := (fine_cons.1 hl).1
  exact absurd ((h x.1 x.2.1).1 ((mem_cons _ _ _ _).2 (.inl ⟨rfl, by omega, h1.2.2.2.1⟩))) (mem_nil _ _)
 | x :: l, y :: m, hl, hm, h => by
  obtain ⟨hx, hxl, hl'⟩ := fine_cons.1 hl
  obtain ⟨hy, hym, hm'⟩ := fine_cons.1 hm
  have hx4 := hx.2.2.2.1
  have hy4 := hy.2.2.2.1
  have e1 := (mem_cons _ _ _ _).1 ((h x.1 x.2.1).1 ((mem_cons _ _ _ _).2 (.inl ⟨rfl, by omega, hx4⟩)))
  have e2 := (mem_cons _ _ _ _).1 ((h y.1 y.2.1).2 ((mem_cons _ _ _ _).2 (.inl ⟨rfl, by omega, hy4⟩)))
  have b1 : (y.1 = x.1 ∧ y.2.1 ≤ x.2.1 ∧ x.2.1 ≤ y.2.2) ∨ (y.1 < x.1 ∨ (y.1 = x.1 ∧ y.2.2 + 1 < x.2.1)) := e1.imp id (behind hym)
  have b2 : (x.1 = y.1 ∧ x.2.1 ≤ y.2.1 ∧ y.2.1 ≤ x.2.2) ∨ (x.1 < y.1 ∨ (x.1 = y.1 ∧ x.2.2 + 1 < y.2.1)) := e2.imp id (behind hxl)
  have h1 : x.1 = y.1 := by omega
  have h2 : x.2.1 = y.2.1 := by omega
  have h3 : x.2.2 = y.2.2 := by
   rcases Int.lt_trichotomy x.2.2 y.2.2 with hlt | he | hgt
   ·exfalso
    have e3 := (mem_cons _ _ _ _).1 ((h x.1 (x.2.2 + 1)).2 ((mem_cons _ _ _ _).2 (.inl ⟨h1.symm, by omega, by omega⟩)))
    have b3 : (x.1 = x.1 ∧ x.2.1 ≤ x.2.2 + 1 ∧ x.2.2 + 1 ≤ x.2.2) ∨ (x.1 < x.1 ∨ (x.1 = x.1 ∧ x.2.2 + 1 < x.2.2 + 1)) := e3.imp id (behind hxl)
    omega
   ·exact he
   ·exfalso
    have e3 := (mem_cons _ _ _ _).1 ((h y.1 (y.2.2 + 1)).1 ((mem_cons _ _ _ _).2 (.inl ⟨h1, by omega, by omega⟩)))
    have b3 : (y.1 = y.1 ∧ y.2.1 ≤ y.2.2 + 1 ∧ y.2.2 + 1 ≤ y.2.2) ∨ (y.1 < y.1 ∨ (y.1 = y.1 ∧ y.2.2 + 1 < y.2.2 + 1)) := e3.imp id (behind hym)
    omega
  have hxy : x = y := Prod.ext h1 (Prod.ext h2 h3)
  subst hxy
  have key : ∀ s n, mem l s n ↔ mem m s n := by
   intro s n
   have ho := h s n
   rw [mem_cons, mem_cons] at ho
   constructor
   ·intro hq
    rcases ho.1 (.inr hq) with h5 | h5
    ·have b := behind hxl hq
     have h5' : x.1 = s ∧ x.2.1 ≤ n ∧ n ≤ x.2.2 := h5
     omega
    ·exact h5
   ·intro hq
    rcases ho.2 (.inr hq) with h5 | h5
    ·have b := behind hym hq
     have h5' : x.1 = s ∧ x.2.1 ≤ n ∧ n ≤ x.2.2 := h5
     omega
    ·exact h5
  rw [canon hl' hm' key]

/-! ### What comes of two sets -/
def IsJoin (a b r : List Sp) : Prop := Fine r ∧ ∀ s n, mem r s n ↔ mem a s n ∨ mem b s n
theorem IsJoin.same {a b r r' : List Sp} (h : IsJoin a b r) (h' : IsJoin a b r') : r = r' := canon h.1 h'.1 fun s n => (h.2 s n).trans (h'.2 s n).symm
def layF (out : List Sp) (s : Sp) : List Sp :=
 match out.getLast? with
 | none => [s]
 | some z => if apart z s then out ++ [s] else out.dropLast ++ [(z.1, z.2.1, max z.2.2 s.2.2)]
def starts (z s : Sp) : Prop := z.1 < s.1 ∨ (z.1 = s.1 ∧ z.2.1 ≤ s.2.1)
/-! ### One span put into a right list, as the document does it -/
theorem take_one {l : List Sp} {i : Nat} {y : Sp} (hi : i < l.length) (hy : l.getD i (0, 0, 0) = y) : l.take (i + 1) = l.take i ++ [y] := by
 rw [List.take_succ_eq_append_getElem hi]
 rw [List.getD_eq_getElem?_getD, List.getElem?_eq_getElem hi, Option.getD_some] at hy
 rw [hy]
theorem drop_one {l : List Sp} {i : Nat} {y : Sp} (hi : i < l.length) (hy : l.getD i (0, 0, 0) = y) : l.drop i = y :: l.drop (i + 1) := by
 rw [List.drop_eq_getElem_cons hi]
 rw [List.getD_eq_getElem?_getD, List.getElem?_eq_getElem hi, Option.getD_some] at hy
 rw [hy]
theorem getD_mem {l : List Sp} {i : Nat} {y : Sp} (hi : i < l.length) (hy : l.getD i (0, 0, 0) = y) : y ∈ l := by
 rw [List.getD_eq_getElem?_getD, List.getElem?_eq_getElem hi, Option.getD_some] at hy
 exact hy ▸ List.getElem_mem hi
theorem fine_at {l : List Sp} (hf : Fine l) {i : Nat} {y : Sp} (hi : i < l.length) (hy : l.getD i (0, 0, 0) = y) :
  okSp y ∧ (∀ z ∈ l.take i, apart z y) ∧ (∀ z ∈ l.drop (i + 1), apart y z) ∧ (∀ u ∈ l.take i, ∀ z ∈ l.drop (i + 1), apart u z) := by
 have h : l = l.take i ++ (y :: l.drop (i + 1)) := by rw [← drop_one hi hy, List.take_append_drop]
 refine ⟨hf.1 y (getD_mem hi hy), ?_⟩
 have hp := hf.2
 rw [h] at hp
 obtain ⟨_, h2, h3⟩ := List.pairwise_append.1 hp
 exact ⟨fun z hz => h3 z hz y (by simp), (List.pairwise_cons.1 h2).1, fun u hu z hz => h3 u hu z (by simp [hz])⟩

/-! ### Step by step -/
theorem take_last {l : List Sp} {k : Nat} {z : Sp} (h0 : 0 < k) (hk : k ≤ l.length) (hz : l.getD (k - 1) (0, 0, 0) = z) : l.take k = l.take (k - 1) ++ [z] := by
 have := take_one (i := k - 1) (by omega) hz
 rwa [show k - 1 + 1 = k by omega] at this
theorem fine_step {l : List Sp} {k : Nat} {y : Sp} (hk : k < l.length) (hy : l.getD k (0, 0, 0) = y) (hf : Fine (l.take k)) (ho : okSp y) (ha : 0 < k → apart (l.getD (k - 1) (0, 0, 0)) y) : Fine (l.take (k + 1)) := by
 rw [take_one hk hy]
 rcases Nat.eq_zero_or_pos k with rfl | h0
 ·exact fine_one ho
 ·rw [take_last h0 (by omega) rfl] at hf ⊢
  exact fine_next hf ho (ha h0)
theorem fine_not_ok {l : List Sp} {k : Nat} {y : Sp} (hk : k < l.length) (hy : l.getD k (0, 0, 0) = y) (ho : ¬ okSp y) : ¬ Fine l := fun h => ho (h.1 y (getD_mem hk hy))
theorem fine_not_apart {l : List Sp} {k : Nat} {y : Sp} (hk : k < l.length) (hy : l.getD k (0, 0, 0) = y) (h0 : 0 < k) (ha : ¬ apart (l.getD (k - 1) (0, 0, 0)) y) : ¬ Fine l := by
 intro h
 have h1 := (fine_at h hk hy).2.1
 rw [take_last h0 (by omega) rfl] at h1
 exact ha (h1 _ (by simp))
/-! How many dots -/
/-! The greatest count -/
def topF (l : List Sp) (s : Int) : Int := l.foldl (fun n x => if x.1 = s then max n x.2.2 else n) 0
theorem topF_snoc (l : List Sp) (x : Sp) (s : Int) : topF (l ++ [x]) s = if x.1 = s then max (topF l s) x.2.2 else topF l s := by simp [topF]
theorem topF_take {l : List Sp} {k : Nat} {y : Sp} (hk : k < l.length) (hy : l.getD k (0, 0, 0) = y) (s : Int) : topF (l.take (k + 1)) s = if y.1 = s then max (topF (l.take k) s) y.2.2 else topF (l.take k) s := by
 rw [take_one hk hy, topF_snoc]

def hasL (l : List Sp) (s n : Int) : Bool := l.any fun x => x.1 == s && decide (x.2.1 ≤ n) && decide (n ≤ x.2.2)

theorem hasL_at (l : List Sp) (k : Nat) (s n : Int) (x : Sp) (h : k < l.length) (hx : l.getD k (0, 0, 0) = x) :
  hasL (l.drop k) s n = ((x.1 == s && decide (x.2.1 ≤ n) && decide (n ≤ x.2.2)) || hasL (l.drop (k + 1)) s n) := by
 rw [List.drop_eq_getElem_cons h]
 rw [List.getD_eq_getElem?_getD, List.getElem?_eq_getElem h, Option.getD_some] at hx
 unfold hasL
 rw [List.any_cons, hx]
theorem hasL_hit {l : List Sp} {k : Nat} {s n : Int} {x : Sp} (h : k < l.length) (hx : l.getD k (0, 0, 0) = x) (h1 : x.1 = s) (h2 : x.2.1 ≤ n) (h3 : n ≤ x.2.2) : hasL (l.drop k) s n = true := by
 rw [hasL_at l k s n x h hx]
 simp [h1, h2, h3]
theorem hasL_miss {l : List Sp} {k : Nat} {s n : Int} {x : Sp} (h : k < l.length) (hx : l.getD k (0, 0, 0) = x) (hm : ¬ (x.1 = s ∧ x.2.1 ≤ n ∧ n ≤ x.2.2)) : hasL (l.drop k) s n = hasL (l.drop (k + 1)) s n := by
 rw [hasL_at l k s n x h hx]
 have e : (x.1 == s && decide (x.2.1 ≤ n) && decide (n ≤ x.2.2)) = false := by
  rw [Bool.eq_false_iff]
  intro h'
  simp only [Bool.and_eq_true, beq_iff_eq, decide_eq_true_eq] at h'
  exact hm ⟨h'.1.1, h'.1.2, h'.2⟩
 rw [e, Bool.false_or]

theorem hasL_mem (l : List Sp) (s n : Int) : hasL l s n = decide (mem l s n) := by
 rw [Bool.eq_iff_iff, decide_eq_true_iff]
 unfold hasL mem inSp
 rw [List.any_eq_true]
 simp only [Bool.and_eq_true, beq_iff_eq, decide_eq_true_eq, and_assoc]

/-! Within -/
def inOne (b : List Sp) (x : Sp) : Prop := ∃ y ∈ b, y.1 = x.1 ∧ y.2.1 ≤ x.2.1 ∧ x.2.2 ≤ y.2.2
def has1 (y x : Sp) : Prop := y.1 = x.1 ∧ y.2.1 ≤ x.2.1 ∧ x.2.2 ≤ y.2.2
theorem passed {a b : List Sp} (ha : Fine a) (hb : Fine b) {i j : Nat} {x y : Sp} (hi : i < a.length) (hx : a.getD i (0, 0, 0) = x) (hj : j < b.length) (hy : b.getD j (0, 0, 0) = y) (h : has1 y x) :
  ∀ z ∈ b.take j, ∀ u ∈ a.drop (i + 1), ¬ has1 z u := by
 intro z hz u hu
 obtain ⟨hxo, _, h1, _⟩ := fine_at ha hi hx
 have h2 := h1 u hu
 have h3 := (fine_at hb hj hy).2.1 z hz
 have h4 := ha.1 u (List.mem_of_mem_drop hu)
 unfold has1 at h ⊢
 unfold apart at h2 h3
 unfold okSp at h4 hxo
 omega
/-! ### Existence, and the answers of Join -/
open Classical in
open Classical in
open Classical in
/-! ### Two right lists merged -/
end Span
end Go.Proofs.YtkfdplfgaddkmaaGreat

/-
 Plain words of layer 6: what is taken from bytes, one thing behind the other, and what is written.
-/
namespace Go.Proofs.YtkfdplfgaddkmaaGreat
namespace Code
open Num Span

def Std (zs : List Int) (p : Nat) (e : List Int) : Prop := p ≤ zs.length ∧ e <+: zs.drop p
theorem std_nil {zs : List Int} {p : Nat} (h : p ≤ zs.length) : Std zs p [] := ⟨h, List.nil_prefix⟩
theorem std_le {zs e : List Int} {p : Nat} (h : Std zs p e) : p + e.length ≤ zs.length := by
 have h1 := h.2.length_le
 rw [List.length_drop] at h1
 have := h.1
 omega
theorem std_append {zs a b : List Int} {p : Nat} : Std zs p (a ++ b) ↔ Std zs p a ∧ Std zs (p + a.length) b := by
 constructor
 ·intro h
  have hl := std_le h
  rw [List.length_append] at hl
  obtain ⟨t, ht⟩ := h.2
  refine ⟨⟨h.1, ⟨b ++ t, by rw [← ht, List.append_assoc]⟩⟩, by omega, ⟨t, ?_⟩⟩
  rw [← List.drop_drop, ← ht, List.append_assoc, List.drop_left]
 ·rintro ⟨⟨h1, t, ht⟩, h2, u, hu⟩
  refine ⟨h1, u, ?_⟩
  rw [List.append_assoc, hu, ← List.drop_drop, ← ht, List.drop_left]
def numP (zs : List Int) (p : Nat) : Option (Int × Nat) := if (numF zs p).2.2 = 0 then some ((numF zs p).1, (numF zs p).2.1) else none
theorem numP_put {zs : List Int} {p : Nat} {n : Int} (h0 : 0 ≤ n) (h1 : n ≤ 9223372036854775807) (h : Std zs p (putL n)) : numP zs p = some (n, p + (putL n).length) := by
 obtain ⟨hp, t, ht⟩ := h
 have e : zs = zs.take p ++ putL n ++ t := by rw [List.append_assoc, ht, List.take_append_drop]
 have hl : (zs.take p).length = p := by rw [List.length_take]; omega
 have h2 := numF_put n h0 h1 (zs.take p) t
 rw [← e, hl] at h2
 unfold numP
 rw [h2]
 rfl
theorem numP_ok {zs : List Int} {p q : Nat} {n : Int} (hby : ∀ z ∈ zs, 0 ≤ z ∧ z ≤ 255) (hp : p ≤ zs.length) (h : numP zs p = some (n, q)) : Std zs p (putL n) ∧ q = p + (putL n).length ∧ 0 ≤ n ∧ n ≤ 9223372036854775807 := by
 unfold numP at h
 split at h
 ·rename_i he
  obtain ⟨⟨n', q', e⟩, hF⟩ : ∃ r, numF zs p = r := ⟨_, rfl⟩
  rw [hF] at h he
  simp only [Option.some.injEq, Prod.mk.injEq] at h he
  obtain ⟨rfl, rfl⟩ := h
  subst he
  obtain ⟨h0, h1, _, _⟩ := numF_ok hby hF
  obtain ⟨m, k, g1, g2, g3, g4, g5, g6, g7, g8⟩ := numR_ok (zs.drop p) p 0 0 n' q' (fun z hz => hby z (List.mem_of_mem_drop hz)) (by omega) hF
  have hn : n' = m := by rw [g4]; simp
  subst hn
  have hk : (putL n').length = k := by
   have := congrArg List.length g8
   rw [List.length_take] at this
   unfold putL
   have e9 : 9 - 0 = 9 := rfl
   rw [e9] at this
   omega
  refine ⟨⟨hp, ?_⟩, by omega, h0, h1⟩
  show putF 9 n' <+: _
  rw [show putF 9 n' = (zs.drop p).take k from g8.symm]
  exact List.take_prefix _ _
 ·cases h
def listP {α : Type} (P : Nat → Option (α × Nat)) : Nat → Nat → Option (List α × Nat)
 | 0, p => some ([], p)
 | k + 1, p =>
  match P p with
  | none => none
  | some (x, q) => (listP P k q).map fun r => (x :: r.1, r.2)
theorem listP_more {α : Type} {P : Nat → Option (α × Nat)} {k p q : Nat} {x : α} (h : P p = some (x, q)) : listP P (k + 1) p = (listP P k q).map fun r => (x :: r.1, r.2) := by rw [listP, h]
theorem listP_put {α : Type} {P : Nat → Option (α × Nat)} {enc : α → List Int} {ok : α → Prop} {zs : List Int} (hP : ∀ x p, ok x → Std zs p (enc x) → P p = some (x, p + (enc x).length)) :
  ∀ (l : List α) (p : Nat), (∀ x ∈ l, ok x) → Std zs p (l.flatMap enc) → listP P l.length p = some (l, p + (l.flatMap enc).length)
 | [], p, _, _ => by simp [listP]
 | x :: l, p, hok, h => by
  rw [List.flatMap_cons] at h
  obtain ⟨h1, h2⟩ := std_append.1 h
  rw [List.length_cons, listP_more (hP x p (hok x (by simp)) h1), listP_put hP l _ (fun y hy => hok y (by simp [hy])) h2]
  simp [Nat.add_assoc]
theorem listP_ok {α : Type} {P : Nat → Option (α × Nat)} {enc : α → List Int} {ok : α → Prop} {zs : List Int} (hP : ∀ x p q, p ≤ zs.length → P p = some (x, q) → q ≤ zs.length ∧ (ok x → Std zs p (enc x) ∧ q = p + (enc x).length)) :
  ∀ (k p q : Nat) (l : List α), p ≤ zs.length → listP P k p = some (l, q) → l.length = k ∧ q ≤ zs.length ∧ ((∀ x ∈ l, ok x) → Std zs p (l.flatMap enc) ∧ q = p + (l.flatMap enc).length)
 | 0, p, q, l, hp, h => by
  simp only [listP, Option.some.injEq, Prod.mk.injEq] at h
  obtain ⟨rfl, rfl⟩ := h
  exact ⟨rfl, hp, fun _ => ⟨std_nil hp, rfl⟩⟩
 | k + 1, p, q, l, hp, h => by
  rw [listP] at h
  split at h
  ·cases h
  ·rename_i x r hx
   obtain ⟨y, hy, he⟩ := Option.map_eq_some_iff.1 h
   simp only [Prod.mk.injEq] at he
   obtain ⟨rfl, rfl⟩ := he
   obtain ⟨hr, hx2⟩ := hP x p r hp hx
   obtain ⟨h1, h2, h3⟩ := listP_ok hP k r y.2 y.1 hr hy
   refine ⟨by simp [h1], h2, fun hok => ?_⟩
   obtain ⟨g1, g2⟩ := hx2 (hok x (by simp))
   obtain ⟨g3, g4⟩ := h3 (fun z hz => hok z (by simp [hz]))
   rw [List.flatMap_cons]
   refine ⟨std_append.2 ⟨g1, by rw [← g2]; exact g3⟩, ?_⟩
   rw [List.length_append]
   omega

def seqP {α : Type} (P : Nat → Option (α × Nat)) (zs : List Int) (p : Nat) : Option (List α × Nat) :=
 match numP zs p with
 | none => none
 | some (n, q) => listP P n.toNat q
def seqL {α : Type} (enc : α → List Int) (l : List α) : List Int := putL (l.length : Int) ++ l.flatMap enc
theorem seqP_put {α : Type} {P : Nat → Option (α × Nat)} {enc : α → List Int} {ok : α → Prop} {zs : List Int} (hP : ∀ x p, ok x → Std zs p (enc x) → P p = some (x, p + (enc x).length))
  {l : List α} {p : Nat} (hl : l.length ≤ 9223372036854775807) (hok : ∀ x ∈ l, ok x) (h : Std zs p (seqL enc l)) : seqP P zs p = some (l, p + (seqL enc l).length) := by
 obtain ⟨h1, h2⟩ := std_append.1 h
 unfold seqP
 rw [numP_put (by omega) (by omega) h1]
 simp only [Int.toNat_natCast]
 rw [listP_put hP l _ hok h2]
 unfold seqL
 rw [List.length_append, Nat.add_assoc]
theorem seqP_ok {α : Type} {P : Nat → Option (α × Nat)} {enc : α → List Int} {ok : α → Prop} {zs : List Int} (hby : ∀ z ∈ zs, 0 ≤ z ∧ z ≤ 255) (hP : ∀ x p q, p ≤ zs.length → P p = some (x, q) → q ≤ zs.length ∧ (ok x → Std zs p (enc x) ∧ q = p + (enc x).length))
  {l : List α} {p q : Nat} (hp : p ≤ zs.length) (h : seqP P zs p = some (l, q)) : q ≤ zs.length ∧ ((∀ x ∈ l, ok x) → Std zs p (seqL enc l) ∧ q = p + (seqL enc l).length) := by
 unfold seqP at h
 split at h
 ·cases h
 ·rename_i n r hn
  obtain ⟨g1, g2, g3, g4⟩ := numP_ok hby hp hn
  have gl := std_le g1
  obtain ⟨h1, h2, h3⟩ := listP_ok hP _ r q l (by omega) h
  refine ⟨h2, fun hok => ?_⟩
  obtain ⟨k1, k2⟩ := h3 hok
  have e : (l.length : Int) = n := by omega
  unfold seqL
  rw [e, List.length_append]
  exact ⟨std_append.2 ⟨g1, by rw [← g2]; exact k1⟩, by omega⟩

/-! ### Spans, as the program takes them and as the document does -/
end Code
end Go.Proofs.YtkfdplfgaddkmaaGreat

/-
 The reader of layer 6: its block, and what taking comes to; numbers and texts.
-/
namespace Go.Proofs.YtkfdplfgaddkmaaGreat
namespace Code
open Go.RowKit Num Span
attribute [local go_sem ↓] Go.wp_at_zero Go.wp_at_succ

section
variable {w w' : World} {g n p c : Nat} {A : Option Addr}
end

def Src (g : Nat) (A : Option Addr) (c n : Nat) (zs : List Int) (w : World) : Prop :=
 Ns .u8 w g A zs ∧ (∀ z ∈ zs, 0 ≤ z ∧ z ≤ 255) ∧ zs.length = n ∧ n ≤ c ∧ n ≤ 4294967296
theorem Src.kept {w w' : World} {g n c : Nat} {A : Option Addr} {zs : List Int} (h : Src g A c n zs w) (hg : w.grownBy w' (some g)) (hlt : g < w.heap.size) : Src g A c n zs w' :=
 ⟨h.1.grown hg (by omega) (fun k hk => by injection hk with hk; omega), h.2⟩
theorem Src.drew {w : World} {g n c : Nat} {A : Option Addr} {zs : List Int} (h : Src g A c n zs w) : Src g A c n zs w.drew := h

end Code
end Go.Proofs.YtkfdplfgaddkmaaGreat

/-
 Spans that a call has made: a row of its own, three cells to a span; and the small functions on spans.
-/
namespace Go.Proofs.YtkfdplfgaddkmaaGreat
namespace Span
open Go.RowKit

def spc (x : Sp) : List Value := [.int .i64 x.1, .int .i64 x.2.1, .int .i64 x.2.2]
def sps (l : List Sp) : List Value := l.flatMap spc
theorem sps_append (l m : List Sp) : sps (l ++ m) = sps l ++ sps m := by simp [sps]
theorem sps_length (l : List Sp) : (sps l).length = l.length * 3 := by
 induction l with
 | nil => rfl
 | cons x l ih =>
  have : sps (x :: l) = spc x ++ sps l := by simp [sps]
  rw [this, List.length_append, ih]
  simp [spc]
  omega
theorem sps_at (l : List Sp) : ∀ j, j < l.length → (sps l)[j * 3]? = some (.int .i64 (l.getD j (0, 0, 0)).1) ∧ (sps l)[j * 3 + 1]? = some (.int .i64 (l.getD j (0, 0, 0)).2.1) ∧ (sps l)[j * 3 + 2]? = some (.int .i64 (l.getD j (0, 0, 0)).2.2) := by
 induction l with
 | nil => intro j h; simp at h
 | cons x l ih =>
  intro j hj
  have h0 : sps (x :: l) = spc x ++ sps l := by simp [sps]
  rw [h0]
  rcases j with _ | j
  ·simp [spc]
  ·have := ih j (by simpa using hj)
   simp only [List.getD_cons_succ]
   rw [show (j + 1) * 3 = 3 + j * 3 by omega]
   refine ⟨?_, ?_, ?_⟩
   ·rw [List.getElem?_append_right (by simp [spc])]; simpa [spc] using this.1
   ·rw [List.getElem?_append_right (by simp [spc]; omega)]
    rw [show 3 + j * 3 + 1 - (spc x).length = j * 3 + 1 by simp [spc]; omega]
    exact this.2.1
   ·rw [List.getElem?_append_right (by simp [spc]; omega)]
    rw [show 3 + j * 3 + 2 - (spc x).length = j * 3 + 2 by simp [spc]; omega]
    exact this.2.2
theorem sps_cell (l : List Sp) : ∀ u ∈ sps l, ∃ z, u = .int .i64 z := by
 intro u hu
 obtain ⟨x, _, hx⟩ := List.mem_flatMap.1 hu
 simp [spc] at hx
 rcases hx with rfl | rfl | rfl <;> exact ⟨_, rfl⟩

theorem own_ss {w : World} {base : Nat} {e : TypeId} {A : Option Addr} {c n : Nat} {l : List Sp} (h : w.ownsRow base e 3 (.slice A n c) l.length (sps l)) : Ss w w.heap.size A l := by
 intro hp
 rcases h.2 with ⟨_, h0⟩ | ⟨g, cap, cur, hv, hbg, hg, hn, hcm, hcs, htake⟩
 ·omega
 ·injection hv with h1 h2 h3
  subst h1
  have hat : ∀ j u, (sps l)[j]? = some u → w.cell? ⟨g, 0 + j, none⟩ = some u := by
   intro j u hu
   have hc := h.cells (g := g) rfl j u hu
   have hadd : (⟨g, 0, none⟩ : Addr).add j = ⟨g, 0 + j, none⟩ := by unfold Addr.add; split <;> simp_all
   rwa [hadd] at hc
  refine ⟨g, 0, rfl, (Array.getElem?_eq_some_iff.1 hg).1, fun j hj => ?_⟩
  obtain ⟨h1, h2, h3⟩ := sps_at l j hj
  exact ⟨hat _ _ h1, hat _ _ h2, hat _ _ h3⟩

theorem Ss.cells {w : World} {B : Nat} {b off : Nat} {l : List Sp} (h : Ss w B (some ⟨b, off, none⟩) l) : ∀ j u, (sps l)[j]? = some u → w.cell? ((⟨b, off, none⟩ : Addr).add j) = some u := by
 intro j u hu
 have hj : j < (sps l).length := by
  rcases Nat.lt_or_ge j (sps l).length with h | h
  ·exact h
  ·rw [List.getElem?_eq_none h] at hu; cases hu
 rw [sps_length] at hj
 obtain ⟨b', off', e, _, hc⟩ := h (by omega)
 injection e with e
 injection e with e1 e2
 subst e1
 subst e2
 have hadd : (⟨b, off, none⟩ : Addr).add j = ⟨b, off + j, none⟩ := by unfold Addr.add; split <;> simp_all
 rw [hadd]
 have hq : j / 3 < l.length := by omega
 obtain ⟨s0, s1, s2⟩ := sps_at l (j / 3) hq
 obtain ⟨c0, c1, c2⟩ := hc (j / 3) hq
 have hm : j = j / 3 * 3 ∨ j = j / 3 * 3 + 1 ∨ j = j / 3 * 3 + 2 := by omega
 rcases hm with hm | hm | hm
 ·rw [hm] at hu ⊢
  rw [s0] at hu
  rw [c0, ← hu]
 ·rw [hm] at hu ⊢
  rw [s1] at hu
  rw [← Nat.add_assoc, c1, ← hu]
 ·rw [hm] at hu ⊢
  rw [s2] at hu
  rw [← Nat.add_assoc, c2, ← hu]

section
variable {P : Program} (w : World)
end

/-! ### The small functions -/
def okDot (d : Int × Int) : Prop := 1 ≤ d.1 ∧ d.1 ≤ 16 ∧ 1 ≤ d.2 ∧ d.2 ≤ 4611686018427387904
instance (d : Int × Int) : Decidable (okDot d) := by unfold okDot; infer_instance
instance (a b : Sp) : Decidable (starts a b) := by unfold starts; infer_instance
theorem apart_is (a b : Sp) (w : World) (hb : 1 ≤ b.2.1 ∧ b.2.1 ≤ 9223372036854775807) :
  Calls Tryz.prog 155 #[.agg #[.int .i64 a.1, .int .i64 a.2.1, .int .i64 a.2.2], .agg #[.int .i64 b.1, .int .i64 b.2.1, .int .i64 b.2.2]] w fun e w' => e = .returned (.bool (decide (apart a b))) ∧ Below w.heap.size w w' := by
 obtain ⟨a0, a1, a2⟩ := a
 obtain ⟨b0, b1, b2⟩ := b
 obtain ⟨q, hq⟩ : ∃ q : Bool, decide (apart (a0, a1, a2) (b0, b1, b2)) = q := ⟨_, rfl⟩
 rw [hq]
 have H := Lib.hid ((decide_eq_true_iff (p := apart (a0, a1, a2) (b0, b1, b2))).symm.trans (by rw [hq]))
 simp only at hb ⊢
 clear hq
 go_enter Tryz.func155, Tryz.ntmps155
 go_wp2
 all_goals go_ret
 all_goals refine ⟨?_, ((Below.refl _ _).alloc (Nat.le_refl _) _).alloc (by simp) _⟩
 all_goals refine congrArg (fun b => Ending.returned (Value.bool b)) ?_
 all_goals rw [Bool.eq_iff_iff, ← H.out]
 all_goals unfold apart
 all_goals simp only [decide_eq_true_eq, true_iff]
 all_goals omega
theorem refDot_is (d : Int × Int) (w : World) :
  Calls Tryz.prog 127 #[.agg #[.int .i64 d.1, .int .i64 d.2]] w fun e w' => e = .returned (.bool (decide (okDot d))) ∧ Below w.heap.size w w' := by
 obtain ⟨d0, d1⟩ := d
 obtain ⟨q, hq⟩ : ∃ q : Bool, decide (okDot (d0, d1)) = q := ⟨_, rfl⟩
 rw [hq]
 have H := Lib.hid ((decide_eq_true_iff (p := okDot (d0, d1))).symm.trans (by rw [hq]))
 simp only
 clear hq
 go_enter Tryz.func127, Tryz.ntmps127
 go_wp2
 all_goals go_ret
 all_goals refine ⟨?_, (Below.refl _ _).alloc (Nat.le_refl _) _⟩
 all_goals refine congrArg (fun b => Ending.returned (Value.bool b)) ?_
 all_goals rw [Bool.eq_iff_iff, ← H.out]
 all_goals unfold okDot
 all_goals simp only [decide_eq_true_eq, Bool.false_eq_true, false_iff]
 all_goals omega
end Span
end Go.Proofs.YtkfdplfgaddkmaaGreat

/-
 span.Right tells whether a list is right.
-/
namespace Go.Proofs.YtkfdplfgaddkmaaGreat
namespace Span
open Go.RowKit
attribute [local go_sem ↓] Go.wp_at_zero Go.wp_at_succ

theorem below_drewN (B n : Nat) (w : World) : Below B w (w.drewN n) := ⟨rfl, rfl, rfl, Nat.le_refl _, fun _ _ => rfl⟩
theorem cell_below {B : Nat} {w w' : World} {p : Addr} {v : Value} (h : Below B w w') (hp : p.block < B) (hc : w.cell? p = some v) : w'.cell? p = some v := (h.cell hp).trans hc

set_option maxHeartbeats 2000000 in
set_option maxRecDepth 100000 in
theorem right_any (A : Option Addr) (c n : Nat) (l : List Sp) (hn : l.length = n) (w : World) (hr : Ss w w.heap.size A l) (hbig : n ≤ 140737488355328) :
  Calls Tryz.prog 142 #[.slice A n c] w fun e w' => e = .returned (.bool (decide (Right l))) ∧ Below w.heap.size w w' := by
 by_cases hlong : 1024 < n
 ·have hres := Lib.hid (show decide (Right l) = false from decide_eq_false fun h => by have := h.1; omega)
  clear hr hn
  go_enter Tryz.func142, Tryz.ntmps142
  go_wp2
  go_ret
  exact ⟨by rw [hres.out]; rfl, Below.refl _ _⟩
 ·go_enter Tryz.func142, Tryz.ntmps142
  go_wp2
  go_loopw [10] (fun q wr => ∃ k : Nat, k ≤ n ∧ q = .int .i64 k ∧ Below w.heap.size w wr ∧ Hid (Fine (l.take k))) (fun q _ => n - (intOf q).toNat)
  case atStart => exact ⟨0, by omega, rfl, Below.refl _ _, fine_nil⟩
  case round =>
   obtain ⟨k, hk, rfl, hb, hst⟩ := hrel
   by_cases hlt : k < n
   ·obtain ⟨b, off, rfl, hbB, hc⟩ := hr (by omega)
    obtain ⟨c0, c1, c2⟩ := hc k (by omega)
    have d0 := (hb.cell (p := ⟨b, off + k * 3, none⟩) (by exact hbB)).trans c0
    have d1 := (hb.cell (p := ⟨b, off + k * 3 + 1, none⟩) (by exact hbB)).trans c1
    have d2 := (hb.cell (p := ⟨b, off + k * 3 + 2, none⟩) (by exact hbB)).trans c2
    obtain ⟨⟨x0, x1, x2⟩, hx⟩ : ∃ x, l.getD k (0, 0, 0) = x := ⟨_, rfl⟩
    rw [hx] at d0 d1 d2
    have hbs := hb.size
    by_cases hok : okSp (x0, x1, x2)
    ·have hok' := hok
     unfold okSp at hok'
     simp only at hok'
     obtain ⟨o1, o2, o3, o4, o5⟩ := hok'
     have hf' := hst.out
     by_cases h0 : 0 < k
     ·obtain ⟨p0, p1, p2⟩ := hc (k - 1) (by omega)
      have f0 := (hb.cell (p := ⟨b, off + (k - 1) * 3, none⟩) (by exact hbB)).trans p0
      have f1 := (hb.cell (p := ⟨b, off + (k - 1) * 3 + 1, none⟩) (by exact hbB)).trans p1
      have f2 := (hb.cell (p := ⟨b, off + (k - 1) * 3 + 2, none⟩) (by exact hbB)).trans p2
      obtain ⟨y, hy⟩ : ∃ y, l.getD (k - 1) (0, 0, 0) = y := ⟨_, rfl⟩
      rw [hy] at f0 f1 f2
      have hap := fine_step (l := l) (y := (x0, x1, x2)) (by omega) hx hf' hok
      have hnap := fine_not_apart (l := l) (y := (x0, x1, x2)) (by omega) hx h0
      rw [hy] at hap hnap
      have hX := fun W => apart_is y (x0, x1, x2) W ⟨o3, by simp only; omega⟩
      obtain ⟨q, hq⟩ : ∃ q, decide (apart y (x0, x1, x2)) = q := ⟨_, rfl⟩
      rw [hq] at hX
      have HX := Lib.hid hX
      have HY1 : Hid (q = true → Fine (l.take (k + 1))) := Lib.hid (fun h => hap fun _ => of_decide_eq_true (hq.trans h))
      have HY2 : Hid (q = false → decide (Right l) = false) := Lib.hid (fun h => decide_eq_false fun hR => hnap (of_decide_eq_false (hq.trans h)) hR.2)
      obtain ⟨y0, y1, y2⟩ := y
      clear hr hc c0 c1 c2 p0 p1 p2 hst hx hy hok hn hf' hap hnap hX hq
      simp only at f0 f1 f2
      have e0 : ((k : Int) - 1).toNat = k - 1 := by omega
      have e1 : (0 : Int) ≤ (k : Int) - 1 := by omega
      have e2 : (k : Int) - 1 < (n : Int) := by omega
      have e5 : (1 : Int) ≤ (k : Int) := by omega
      have e6 : (k : Int) ≤ (n : Int) := by omega
      have e7 : 1 ≤ k := by omega
      have e8 : ((k : Int) - 1 < (n : Int)) = True := eq_true (by omega)
      have e9 : (0 ≤ (k : Int) - 1) = True := eq_true (by omega)
      have e3 : decide ((0 : Int) < (k : Int)) = true := decide_eq_true (by omega)
      have g0 := World.cell?_alloc_lt wr (.cells #[.int .i64 x0, .int .i64 x1, .int .i64 x2] 121) ⟨b, off + (k - 1) * 3, none⟩ (by show b < _; omega)
      have g1 := World.cell?_alloc_lt wr (.cells #[.int .i64 x0, .int .i64 x1, .int .i64 x2] 121) ⟨b, off + (k - 1) * 3 + 1, none⟩ (by show b < _; omega)
      have g2 := World.cell?_alloc_lt wr (.cells #[.int .i64 x0, .int .i64 x1, .int .i64 x2] 121) ⟨b, off + (k - 1) * 3 + 2, none⟩ (by show b < _; omega)
      rw [f0] at g0
      rw [f1] at g1
      rw [f2] at g2
      have hbw := hb.alloc hbs (.cells #[.int .i64 x0, .int .i64 x1, .int .i64 x2] 121)
      have hs0 : wr.heap.size < (wr.alloc (.cells #[.int .i64 x0, .int .i64 x1, .int .i64 x2] 121)).heap.size := by simp
      have hs1 : b < (wr.alloc (.cells #[.int .i64 x0, .int .i64 x1, .int .i64 x2] 121)).heap.size := by simp; omega
      have q0 : (wr.alloc (.cells #[.int .i64 x0, .int .i64 x1, .int .i64 x2] 121)).cell? ⟨wr.heap.size, 0, none⟩ = some (.int .i64 x0) := by simp
      have q1 : (wr.alloc (.cells #[.int .i64 x0, .int .i64 x1, .int .i64 x2] 121)).cell? ⟨wr.heap.size, 1, none⟩ = some (.int .i64 x1) := by simp
      have q2 : (wr.alloc (.cells #[.int .i64 x0, .int .i64 x1, .int .i64 x2] 121)).cell? ⟨wr.heap.size, 2, none⟩ = some (.int .i64 x2) := by simp
      have e4 : IntKind.i64.wrap ((k : Int) - 1) = (k : Int) - 1 := IntWalk.i64_in _ (by omega)
      clear f0 f1 f2 hb hbB
      go_wp2
      go_region_held3 (fun W => W.cell? ⟨b, off + (k - 1) * 3, none⟩ = some (.int .i64 y0) ∧ W.cell? ⟨b, off + (k - 1) * 3 + 1, none⟩ = some (.int .i64 y1) ∧ W.cell? ⟨b, off + (k - 1) * 3 + 2, none⟩ = some (.int .i64 y2) ∧
        W.cell? ⟨wr.heap.size, 0, none⟩ = some (.int .i64 x0) ∧ W.cell? ⟨wr.heap.size, 1, none⟩ = some (.int .i64 x1) ∧ W.cell? ⟨wr.heap.size, 2, none⟩ = some (.int .i64 x2)) (first
        | exact ⟨g0, g1, g2, q0, q1, q2⟩
        | (have hb9 := ‹Below _ _ _›; exact ⟨cell_below hb9 hs1 g0, cell_below hb9 hs1 g1, cell_below hb9 hs1 g2, cell_below hb9 hs0 q0, cell_below hb9 hs0 q1, cell_below hb9 hs0 q2⟩))
       (first | (go_at_call 155; refine (HX.out _).mono ?_; rintro e w1 ⟨rfl, b1⟩))
      have hb2 := hbw.drew.trans (Below.mono b1 (by simp; omega))
      cases q
      ·have hres := Lib.hid (HY2.out rfl)
       clear HY1 HY2 HX g0 g1 g2 q0 q1 q2
       go_wp2
       go_ret
       exact ⟨by rw [hres.out]; rfl, hb2⟩
      ·have hres := Lib.hid (HY1.out rfl)
       clear HY1 HY2 HX g0 g1 g2 q0 q1 q2
       go_wp2
       exact ⟨⟨k + 1, by omega, rfl, hb2, hres⟩, by simp only [intOf]; omega⟩
     ·have hres := Lib.hid (fine_step (by omega) hx hf' hok (fun h => absurd h h0))
      clear hr hc c0 c1 c2 hx hst hok hn hf'
      have e3 : decide ((0 : Int) < (k : Int)) = false := decide_eq_false (by omega)
      go_wp2
      go_quiet (fail)
      go_wp2
      exact ⟨⟨k + 1, by omega, rfl, (hb.alloc hbs _).trans (Span.below_drewN _ _ _), hres⟩, by simp only [intOf]; omega⟩
    ·have hres := Lib.hid (show decide (Right l) = false from decide_eq_false fun h => fine_not_ok (by omega) hx hok h.2)
     have hM := Lib.hid hok
     clear hr hc c0 c1 c2 hx hst hok hn
     go_wp2
     all_goals first
      | (exfalso; refine hM.out ?_; unfold okSp; simp only; omega)
      | (go_ret; exact ⟨by rw [hres.out]; rfl, hb.alloc hbs _⟩)
   ·have hk0 : k = n := by omega
    have hres := Lib.hid (show decide (Right l) = true from decide_eq_true ⟨by omega, by have := hst.out; rwa [List.take_of_length_le (by omega)] at this⟩)
    clear hst hr
    go_wp2
    go_ret
    exact ⟨by rw [hres.out]; rfl, hb⟩
end Span
end Go.Proofs.YtkfdplfgaddkmaaGreat

/-
 num.PutNum and firthref01.PutNum make the bytes of the number, putL.
-/
namespace Go.Proofs.YtkfdplfgaddkmaaGreat
namespace Num
open Go.RowKit

theorem made_last {e : TypeId} {k : IntKind} {zs acc : List Int} {m : Int} {w w' : World} {v : Value} (h : zs = acc ++ [m]) (hown : w'.ownsRow w.heap.size e 1 v (acc.length + 1) (nums k acc ++ [.int k m])) (hb : Below w.heap.size w w') :
  MadeNs e k zs w (.returned v) w' := by
 subst h
 obtain ⟨A, c, rfl⟩ := own_form hown
 exact ⟨A, c, by simp, by simpa [nums] using hown, hb⟩

def AtPut (B : Nat) (w : World) (n : Int) (q v : Value) (wr : World) : Prop :=
 ∃ (m : Int) (acc : List Int) (f : Nat), 0 ≤ m ∧ m ≤ 9223372036854775807 ∧ q = .int .i64 m ∧ Laid n acc f m ∧ wr.ownsRow B 5 1 v acc.length (nums .u8 acc) ∧ Below B w wr

set_option maxRecDepth 100000 in
theorem putnum_from (n : Int) (hn0 : n < 0 ∨ 0 ≤ n) (hn : -9223372036854775808 ≤ n ∧ n ≤ 9223372036854775807) (w : World) :
  Calls Tryz.prog 140 #[.int .i64 n] w (MadeNs 5 .u8 (putL (max n 0)) w) := by
 obtain ⟨i0, hi0, hz0, hz1, hz2⟩ := info_parts Facts.info5
 rcases hn0 with h0 | h0
 all_goals
  go_enter Tryz.func140, Tryz.ntmps140
  go_wp2
  go_loopw [0, 3] (fun q v wr => AtPut w.heap.size w (max n 0) q v wr) (fun q _ _ => (intOf q).toNat)
  case atStart => exact ⟨_, [], 8, by omega, by omega, rfl, by first | (rw [Int.max_eq_right (by omega)]; exact laid_start _ (by omega)) | (rw [Int.max_eq_left (by omega)]; exact laid_start _ (by omega)), World.ownsRow_nil _ _ _ _, Below.refl _ _⟩
  case round =>
   obtain ⟨m, acc, f, hm0, hm1, rfl, hl, hown, hb⟩ := hrel
   have hlen := laid_len hl
   have hsz := hb.size
   have Hl := Lib.hid hl
   clear hl
   by_cases h128 : 128 ≤ m
   ·go_wp2_with (at_builtin; refine wpList_append_one _ rfl (.tmp 8) (.tmp 13) 146 rfl w.heap.size 5 i0 (.int .u8 0) 1 Tryz.underlying146 hi0 hz0 hz1 hz2 rfl _ acc.length (nums .u8 acc) rfl hown (.int .u8 (m % 128 + 128)) 1 rfl rfl (by omega) (by omega) hsz ?_; intro v1 w1 hown1 hg1 hat1)
    obtain ⟨g, hg⟩ := laid_more Hl.out h128
    have hb1 : Below w.heap.size w w1 := hb.grown hg1 hsz (fun k hk => (hown.lt k hk).1)
    have ho : w1.ownsRow w.heap.size 5 1 v1 (acc ++ [m % 128 + 128]).length (nums .u8 (acc ++ [m % 128 + 128])) := by simpa [nums] using hown1
    clear hown hown1 hg1 hat1
    go_wp2
    go_roundw
    case rel => exact ⟨m / 128, _, g, by omega, by omega, by go_num, hg, ho, hb1⟩
    case measure => simp [intOf]; omega
   ·go_wp2_with (at_builtin; refine wpList_append_one _ rfl (.tmp 17) (.tmp 20) 146 rfl w.heap.size 5 i0 (.int .u8 0) 1 Tryz.underlying146 hi0 hz0 hz1 hz2 rfl _ acc.length (nums .u8 acc) rfl hown (.int .u8 m) 1 rfl rfl (by omega) (by omega) hsz ?_; intro v1 w1 hown1 hg1 hat1)
    have hb1 : Below w.heap.size w w1 := hb.grown hg1 hsz (fun k hk => (hown.lt k hk).1)
    have R := made_last (laid_last Hl.out (by omega)) hown1 hb1
    clear hown hown1 hg1 hat1
    go_wp2
    go_ret
    exact R

set_option maxRecDepth 100000 in
theorem ref_putnum_from (n : Int) (hn0 : n < 0 ∨ 0 ≤ n) (hn : -9223372036854775808 ≤ n ∧ n ≤ 9223372036854775807) (w : World) :
  Calls Tryz.prog 121 #[.int .i64 n] w (MadeNs 5 .u8 (putL (max n 0)) w) := by
 obtain ⟨i0, hi0, hz0, hz1, hz2⟩ := info_parts Facts.info5
 rcases hn0 with h0 | h0
 all_goals
  go_enter Tryz.func121, Tryz.ntmps121
  go_wp2
  go_loopw [0, 3] (fun q v wr => AtPut w.heap.size w (max n 0) q v wr) (fun q _ _ => (intOf q).toNat)
  case atStart => exact ⟨_, [], 8, by omega, by omega, rfl, by first | (rw [Int.max_eq_right (by omega)]; exact laid_start _ (by omega)) | (rw [Int.max_eq_left (by omega)]; exact laid_start _ (by omega)), World.ownsRow_nil _ _ _ _, Below.refl _ _⟩
  case round =>
   obtain ⟨m, acc, f, hm0, hm1, rfl, hl, hown, hb⟩ := hrel
   have hlen := laid_len hl
   have hsz := hb.size
   have Hl := Lib.hid hl
   clear hl
   by_cases h128 : 128 ≤ m
   ·go_wp2_with (at_builtin; refine wpList_append_one _ rfl (.tmp 8) (.tmp 13) 146 rfl w.heap.size 5 i0 (.int .u8 0) 1 Tryz.underlying146 hi0 hz0 hz1 hz2 rfl _ acc.length (nums .u8 acc) rfl hown (.int .u8 (m % 128 + 128)) 1 rfl rfl (by omega) (by omega) hsz ?_; intro v1 w1 hown1 hg1 hat1)
    obtain ⟨g, hg⟩ := laid_more Hl.out h128
    have hb1 : Below w.heap.size w w1 := hb.grown hg1 hsz (fun k hk => (hown.lt k hk).1)
    have ho : w1.ownsRow w.heap.size 5 1 v1 (acc ++ [m % 128 + 128]).length (nums .u8 (acc ++ [m % 128 + 128])) := by simpa [nums] using hown1
    clear hown hown1 hg1 hat1
    go_wp2
    go_roundw
    case rel => exact ⟨m / 128, _, g, by omega, by omega, by go_num, hg, ho, hb1⟩
    case measure => simp [intOf]; omega
   ·go_wp2_with (at_builtin; refine wpList_append_one _ rfl (.tmp 17) (.tmp 20) 146 rfl w.heap.size 5 i0 (.int .u8 0) 1 Tryz.underlying146 hi0 hz0 hz1 hz2 rfl _ acc.length (nums .u8 acc) rfl hown (.int .u8 m) 1 rfl rfl (by omega) (by omega) hsz ?_; intro v1 w1 hown1 hg1 hat1)
    have hb1 : Below w.heap.size w w1 := hb.grown hg1 hsz (fun k hk => (hown.lt k hk).1)
    have R := made_last (laid_last Hl.out (by omega)) hown1 hb1
    clear hown hown1 hg1 hat1
    go_wp2
    go_ret
    exact R

theorem putnum (n : Int) (hn : -9223372036854775808 ≤ n ∧ n ≤ 9223372036854775807) (w : World) :
  Calls Tryz.prog 140 #[.int .i64 n] w (MadeNs 5 .u8 (putL (max n 0)) w) := putnum_from n (by omega) hn w
theorem ref_putnum (n : Int) (hn : -9223372036854775808 ≤ n ∧ n ≤ 9223372036854775807) (w : World) :
  Calls Tryz.prog 121 #[.int .i64 n] w (MadeNs 5 .u8 (putL (max n 0)) w) := ref_putnum_from n (by omega) hn w
theorem putnum_pos (n : Int) (hn : 0 ≤ n ∧ n ≤ 9223372036854775807) (w : World) :
  Calls Tryz.prog 140 #[.int .i64 n] w (MadeNs 5 .u8 (putL n) w) := by
 have h := putnum n (by omega) w
 rw [Int.max_eq_left (by omega)] at h
 exact h
theorem ref_putnum_pos (n : Int) (hn : 0 ≤ n ∧ n ≤ 9223372036854775807) (w : World) :
  Calls Tryz.prog 121 #[.int .i64 n] w (MadeNs 5 .u8 (putL n) w) := by
 have h := ref_putnum n (by omega) w
 rw [Int.max_eq_left (by omega)] at h
 exact h
end Num
end Go.Proofs.YtkfdplfgaddkmaaGreat

/-
 What a bound on the input's bulk says of its parts.
-/
namespace Go.Proofs.YtkfdplfgaddkmaaGreat
namespace Bulk
open Go.ChangeShapes Go.RowKit

theorem bound {H : Type} {l : List (DataW H)} (hk : Rows.uptoSmall H l = true) : Rows.uptoBulkAll l ≤ 1048576 := of_decide_eq_true hk

end Bulk
end Go.Proofs.YtkfdplfgaddkmaaGreat
