/-
 Several texts of this family in one: PutNum, PutText, CodeWr, CodeWrSet, CodeVerPlain, Blk, Stp, RingHash, DiskPlain.
-/
import Derived.Test.YtekhaejhmlebbaaGreatRGBase
import Derived.Test.YtekhaejhmlebbaaGreatRGNum
import Derived.Deep.AppendLies
import Derived.Deep.RegionLaw
import Derived.Test.YtekhaejhmlebbaaGreatRGSpanA
import Derived.Laws.BitsAllLaws
import Derived.Laws.Bits64
import Derived.Sort.Walk0
/-
 num.PutNum and firthref01.PutNum make the bytes of the number, putL.
-/
namespace Go.Proofs.YtekhaejhmlebbaaGreat
namespace Num
open Go.RowKit

theorem made_last {e : TypeId} {k : IntKind} {zs acc : List Int} {m : Int} {w w' : World} {v : Value} (h : zs = acc ++ [m]) (hown : w'.ownsRow w.heap.size e 1 v (acc.length + 1) (nums k acc ++ [.int k m])) (hb : Below w.heap.size w w') :
  MadeNs e k zs w (.returned v) w' := by
 subst h
 obtain ⟨A, c, rfl⟩ := own_form hown
 exact ⟨A, c, by simp, by simpa [nums] using hown, hb⟩

def AtPut (B : Nat) (w : World) (n : Int) (q v : Value) (wr : World) : Prop :=
 ∃ (m : Int) (acc : List Int) (f : Nat), 0 ≤ m ∧ m ≤ 9223372036854775807 ∧ q = .int .i64 m ∧ Laid n acc f m ∧ wr.ownsRow B 5 1 v acc.length (nums .u8 acc) ∧ Below B w wr

set_option maxRecDepth 100000 in
theorem putnum_from (n : Int) (hn0 : n < 0 ∨ 0 ≤ n) (hn : -9223372036854775808 ≤ n ∧ n ≤ 9223372036854775807) (w : World) :
  Calls Tryz.prog 140 #[.int .i64 n] w (MadeNs 5 .u8 (putL (max n 0)) w) := by
 obtain ⟨i0, hi0, hz0, hz1, hz2⟩ := info_parts Facts.info5
 rcases hn0 with h0 | h0
 all_goals
  go_enter Tryz.func140, Tryz.ntmps140
  go_wp2
  go_loopw [0, 3] (fun q v wr => AtPut w.heap.size w (max n 0) q v wr) (fun q _ _ => (intOf q).toNat)
  case atStart => exact ⟨_, [], 8, by omega, by omega, rfl, by first | (rw [Int.max_eq_right (by omega)]; exact laid_start _ (by omega)) | (rw [Int.max_eq_left (by omega)]; exact laid_start _ (by omega)), World.ownsRow_nil _ _ _ _, Below.refl _ _⟩
  case round =>
   obtain ⟨m, acc, f, hm0, hm1, rfl, hl, hown, hb⟩ := hrel
   have hlen := laid_len hl
   have hsz := hb.size
   have Hl := Lib.hid hl
   clear hl
   by_cases h128 : 128 ≤ m
   ·go_wp2_with (at_builtin; refine wpList_append_one _ rfl (.tmp 8) (.tmp 13) 98 rfl w.heap.size 5 i0 (.int .u8 0) 1 Tryz.underlying98 hi0 hz0 hz1 hz2 rfl _ acc.length (nums .u8 acc) rfl hown (.int .u8 (m % 128 + 128)) 1 rfl rfl (by omega) (by omega) hsz ?_; intro v1 w1 hown1 hg1 hat1)
    obtain ⟨g, hg⟩ := laid_more Hl.out h128
    have hb1 : Below w.heap.size w w1 := hb.grown hg1 hsz (fun k hk => (hown.lt k hk).1)
    have ho : w1.ownsRow w.heap.size 5 1 v1 (acc ++ [m % 128 + 128]).length (nums .u8 (acc ++ [m % 128 + 128])) := by simpa [nums] using hown1
    clear hown hown1 hg1 hat1
    go_wp2
    go_roundw
    case rel => exact ⟨m / 128, _, g, by omega, by omega, by go_num, hg, ho, hb1⟩
    case measure => simp [intOf]; omega
   ·go_wp2_with (at_builtin; refine wpList_append_one _ rfl (.tmp 17) (.tmp 20) 98 rfl w.heap.size 5 i0 (.int .u8 0) 1 Tryz.underlying98 hi0 hz0 hz1 hz2 rfl _ acc.length (nums .u8 acc) rfl hown (.int .u8 m) 1 rfl rfl (by omega) (by omega) hsz ?_; intro v1 w1 hown1 hg1 hat1)
    have hb1 : Below w.heap.size w w1 := hb.grown hg1 hsz (fun k hk => (hown.lt k hk).1)
    have R := made_last (laid_last Hl.out (by omega)) hown1 hb1
    clear hown hown1 hg1 hat1
    go_wp2
    go_ret
    exact R

theorem putnum (n : Int) (hn : -9223372036854775808 ≤ n ∧ n ≤ 9223372036854775807) (w : World) :
  Calls Tryz.prog 140 #[.int .i64 n] w (MadeNs 5 .u8 (putL (max n 0)) w) := putnum_from n (by omega) hn w
theorem putnum_pos (n : Int) (hn : 0 ≤ n ∧ n ≤ 9223372036854775807) (w : World) :
  Calls Tryz.prog 140 #[.int .i64 n] w (MadeNs 5 .u8 (putL n) w) := by
 have h := putnum n (by omega) w
 rw [Int.max_eq_left (by omega)] at h
 exact h
end Num
end Go.Proofs.YtekhaejhmlebbaaGreat

/-
 num.PutText and firthref01.PutText make the bytes of a text.
-/
namespace Go.Proofs.YtekhaejhmlebbaaGreat
namespace Num
open Go.RowKit

def textL (s : ByteArray) : List Int := putL (s.size : Int) ++ strNums s

set_option maxRecDepth 100000 in
theorem puttext (s : ByteArray) (hs : s.size ≤ 140737488351232) (w : World) :
  Calls Tryz.prog 141 #[.string s] w (MadeNs 5 .u8 (textL s) w) := by
 obtain ⟨i0, hi0, hz0, hz1, hz2⟩ := info_parts Facts.info5
 have h1 := putnum_pos (s.size : Int) (by omega) w
 have hl : (putL (s.size : Int)).length ≤ 9 := putF_len 9 (s.size : Int)
 obtain ⟨L, hL⟩ : ∃ L, putL (s.size : Int) = L := ⟨_, rfl⟩
 have HL : Hid (textL s = L ++ strNums s) := by unfold textL; rw [hL]; exact rfl
 rw [hL] at h1 hl
 clear hL
 have H1 := Lib.hid h1
 clear h1
 go_enter Tryz.func141, Tryz.ntmps141
 go_wp2_with fail
 refine H1.out.mono ?_
 rintro e w1 ⟨A, c, rfl, hown, hb⟩
 go_wp2_with (at_builtin; refine Lib.wpList_append_own_string _ rfl (.tmp 5) (.tmp 6) 98 9 rfl w.heap.size 5 i0 Tryz.underlying98 Tryz.underlying9 hi0 hz0 hz1 hz2 _ L.length (nums .u8 L) rfl hown s rfl (by unfold maxLen; omega) (by omega) hb.size ?_; intro v2 w2 hown2 hg2 _)
 have hb2 : Below w.heap.size w w2 := hb.grown hg2 hb.size (fun k hk => (hown.lt k hk).1)
 have R : MadeNs 5 .u8 (textL s) w (.returned v2) w2 := by
  obtain ⟨A2, c2, rfl⟩ := own_form hown2
  have hlen : (textL s).length = L.length + s.size := by rw [HL.out, List.length_append, strNums_length]
  refine ⟨A2, c2, by rw [hlen], ?_, hb2⟩
  rw [hlen, HL.out]
  rw [strCells_nums] at hown2
  simpa [nums] using hown2
 clear hown hown2 hg2
 go_wp2
 go_ret
 exact R

end Num
end Go.Proofs.YtekhaejhmlebbaaGreat

/-
 The writer of layer 6: its block and the row of its bytes; numbers, texts, spans, sets.
-/
namespace Go.Proofs.YtekhaejhmlebbaaGreat
namespace Code
open Go.RowKit Num Span
attribute [local go_sem ↓] Go.wp_at_zero Go.wp_at_succ

def Kp (g : Nat) (v : Value) (w : World) (v' : Value) (w' : World) : Prop :=
 w'.os = w.os ∧ w'.tape = w.tape ∧ w'.output = w.output ∧ w.heap.size ≤ w'.heap.size ∧ ∀ j, j < w.heap.size → j ≠ g → some j ≠ v.ownBlock → w'.heap[j]? = w.heap[j]? ∧ some j ≠ v'.ownBlock
section
variable {base g : Nat} {L : List Int} {v v' v'' : Value} {w w' w'' : World}
theorem Kp.refl (g : Nat) (v : Value) (w : World) : Kp g v w v w := ⟨rfl, rfl, rfl, Nat.le_refl _, fun _ _ _ h => ⟨rfl, h⟩⟩
theorem Kp.trans (h : Kp g v w v' w') (k : Kp g v' w' v'' w'') : Kp g v w v'' w'' :=
 ⟨k.1.trans h.1, k.2.1.trans h.2.1, k.2.2.1.trans h.2.2.1, Nat.le_trans h.2.2.2.1 k.2.2.2.1, fun j hj hg hv => by
  obtain ⟨h1, h2⟩ := h.2.2.2.2 j hj hg hv
  obtain ⟨h3, h4⟩ := k.2.2.2.2 j (Nat.lt_of_lt_of_le hj h.2.2.2.1) hg h2
  exact ⟨h3.trans h1, h4⟩⟩
theorem Kp.of_below (hb : Below w.heap.size w w') : Kp g v w v w' := ⟨hb.os, hb.tape, hb.output, hb.size, fun j hj _ hv => ⟨hb.block j hj, hv⟩⟩
theorem Kp.alloc (g : Nat) (v : Value) (w : World) (o : Obj) : Kp g v w v (w.alloc o) := Kp.of_below ((Below.refl _ w).alloc (Nat.le_refl _) o)
theorem Kp.block (h : Kp g v w v' w') {j : Nat} {o : Obj} (ho : w.heap[j]? = some o) (hg : j ≠ g) (hv : some j ≠ v.ownBlock) : w'.heap[j]? = some o ∧ some j ≠ v'.ownBlock := by
 obtain ⟨h1, h2⟩ := h.2.2.2.2 j (Array.getElem?_eq_some_iff.1 ho).1 hg hv
 exact ⟨h1.trans ho, h2⟩
end

section
variable {P : Program} {w : World}
theorem step_call {ops : Array Oper} {o : Oper} {a : Act} {K : Act → World → Prop} {Q : Exit → Act → World → Prop} {E : Prop} (hgd : o.guard = none) (f : FuncId) (args : Array Operand) (ats : Array TypeId)
  (ho : o.op = .call { callee := .value (.func f), args := args, argTypes := ats }) (hcf : (callFunc f (args.map a.eval)).run P w = .ok (.enter f (args.map a.eval)) w) (vals : Array Value) (hv : args.map a.eval = vals) {R : Ending → World → Prop} (hc : Calls P f vals w R)
  (hR : ∀ e w', R e w' → ∃ v, e = .returned v) (hK : ∀ v w', R (.returned v) w' → K (a.put o.dst v) w') :
  if Region.wanted o (yielded ops a.tmps) = true then Oper.wp P o a w K Q else E := by
 have hw : Region.wanted o (yielded ops a.tmps) = true := by simp [Region.wanted, hgd]
 rw [if_pos hw]
 have hrun : (execOp a.eval o).run P w = .ok (.enter f vals) w := by
  subst hv
  unfold execOp
  simp [ho, go_sem, hcf]
 unfold Oper.wp
 rw [hrun, Oper.upon_enter]
 refine hc.mono fun e w' h => ?_
 obtain ⟨v, rfl⟩ := hR e w' h
 exact hK v w' h
end

end Code
end Go.Proofs.YtekhaejhmlebbaaGreat

/-
 The writer of layer 6: spans and sets.
-/
namespace Go.Proofs.YtekhaejhmlebbaaGreat
namespace Code
open Go.RowKit Num Span
attribute [local go_sem ↓] Go.wp_at_zero Go.wp_at_succ

theorem Box3.kp {g B : Nat} {v v' : Value} {w w' : World} {t : TypeId} {x y z : Value} (h : Box3 B t x y z w) (hk : Kp g v w v' w') (hg : B ≠ g) (hv : some B ≠ v.ownBlock) : Box3 B t x y z w' ∧ some B ≠ v'.ownBlock := hk.block h hg hv

end Code
end Go.Proofs.YtekhaejhmlebbaaGreat

/-
 Plain words of layer 6: versions, records, addresses, hashes, as they are taken and written.
-/
namespace Go.Proofs.YtekhaejhmlebbaaGreat
namespace Code
open Num Span Vers

/-! ### Versions -/
/-! ### Records -/
abbrev Rc := ByteArray × List Vr
def okR (r : Rc) : Prop := 1 ≤ r.1.size ∧ r.1.size ≤ 32 ∧ RightV r.2
instance (r : Rc) : Decidable (okR r) := by unfold okR; infer_instance
/-! ### Addresses and hashes -/
end Code
end Go.Proofs.YtekhaejhmlebbaaGreat

/-
 Blocks of cells; what a call may turn: a set of blocks, and new ones.
-/
namespace Go.Proofs.YtekhaejhmlebbaaGreat
namespace Blk
open Go.RowKit

section
variable {w w' w'' : World}
theorem gset (w : World) (g k : Nat) (v : Value) : w.grownBy (w.setCell ⟨g, k, none⟩ v) (some g) :=
 ⟨rfl, rfl, rfl, by simp [World.setCell], fun j hj hne => by
  have : j ≠ g := fun e => hne (by rw [e])
  simp [World.setCell, Array.getElem?_modify, this.symm]⟩
def Bn (B : Nat) (t : TypeId) (cs : List Value) (w : World) : Prop := w.heap[B]? = some (.cells cs.toArray t (0, 0))
variable {B : Nat} {t : TypeId} {cs : List Value}
theorem Bn.lt (h : Bn B t cs w) : B < w.heap.size := (Array.getElem?_eq_some_iff.1 h).1
theorem Bn.cell (h : Bn B t cs w) (k : Nat) : w.cell? ⟨B, k, none⟩ = cs[k]? := by
 have h' : w.heap[B]? = _ := h
 simp [World.cell?, h']
theorem Bn.frozen (h : Bn B t cs w) (j : Nat) : w.frozen? ⟨B, j, none⟩ = false := by simp [World.frozen?, show w.heap[B]? = _ from h]
theorem Bn.same (h : Bn B t cs w) (hk : w'.heap[B]? = w.heap[B]?) : Bn B t cs w' := hk.trans h
theorem Bn.kept {row : Option Nat} (h : Bn B t cs w) (hg : w.grownBy w' row) (hne : some B ≠ row) : Bn B t cs w' := (hg.block B h.lt hne).trans h
theorem Bn.set (h : Bn B t cs w) (k : Nat) (v : Value) : Bn B t (cs.set k v) (w.setCell ⟨B, k, none⟩ v) := by
 have h' : w.heap[B]? = some (.cells cs.toArray t (0, 0)) := h
 show (w.setCell ⟨B, k, none⟩ v).heap[B]? = _
 simp [World.setCell, Array.getElem?_modify, h']
theorem Bn.type {t' : TypeId} {cs' : List Value} (h : Bn B t cs w) (h' : Bn B t' cs' w) : t = t' := by
 have e : some (Obj.cells cs.toArray t (0, 0)) = some (.cells cs'.toArray t' (0, 0)) := (show w.heap[B]? = _ from h).symm.trans (show w.heap[B]? = _ from h')
 injection e with e
 injection e with e1 e2
end
theorem own_block {w : World} {base : Nat} {t : TypeId} {s : Nat} {v : Value} {n : Nat} {xs : List Value} (h : w.ownsRow base t s v n xs) {g : Nat} (hg : v.ownBlock = some g) : ∃ cur, w.heap[g]? = some (.cells cur t (0, 0)) := by
 rcases h.2 with ⟨hv, _⟩ | ⟨g', cap, cur, hv, _, hc, _⟩
 ·rw [hv] at hg; cases hg
 ·rw [hv] at hg
  injection hg with hg
  subst hg
  exact ⟨cur, hc⟩
theorem own_ne {w : World} {base : Nat} {t t' : TypeId} {s : Nat} {v : Value} {n : Nat} {xs cs : List Value} {B : Nat} (h : w.ownsRow base t s v n xs) (hB : Bn B t' cs w) (ht : t ≠ t') : v.ownBlock ≠ some B := fun e => by
 obtain ⟨cur, hc⟩ := own_block h e
 rw [show w.heap[B]? = _ from hB] at hc
 injection hc with hc
 injection hc with h1 h2
 exact ht h2.symm
theorem own_keep {w w' : World} {base : Nat} {e : TypeId} {size : Nat} {v : Value} {n : Nat} {xs : List Value} (h : w.ownsRow base e size v n xs) (hk : ∀ g, v.ownBlock = some g → w'.heap[g]? = w.heap[g]?) : w'.ownsRow base e size v n xs := by
 refine ⟨h.1, ?_⟩
 rcases h.2 with ⟨hv, h0⟩ | ⟨g, cap, cur, hv, hb, hc, h1⟩
 ·exact .inl ⟨hv, h0⟩
 ·exact .inr ⟨g, cap, cur, hv, hb, (hk g (by rw [hv]; rfl)).trans hc, h1⟩

structure Chg (F : Nat → Prop) (w w' : World) : Prop where
 os : w'.os = w.os
 tape : w'.tape = w.tape
 output : w'.output = w.output
 size : w.heap.size ≤ w'.heap.size
 block : ∀ k, k < w.heap.size → ¬ F k → w'.heap[k]? = w.heap[k]?
section
variable {F F' : Nat → Prop} {w w' w'' : World}
theorem Chg.refl (F : Nat → Prop) (w : World) : Chg F w w := ⟨rfl, rfl, rfl, Nat.le_refl _, fun _ _ _ => rfl⟩
theorem Chg.trans (h : Chg F w w') (h' : Chg F' w' w'') (hF : ∀ k, F' k → F k ∨ w.heap.size ≤ k) : Chg F w w'' :=
 ⟨h'.os.trans h.os, h'.tape.trans h.tape, h'.output.trans h.output, Nat.le_trans h.size h'.size, fun k hk hn => (h'.block k (Nat.lt_of_lt_of_le hk h.size) fun e => (hF k e).elim hn (fun e => by omega)).trans (h.block k hk hn)⟩
theorem Chg.mono (h : Chg F w w') (hF : ∀ k, F k → F' k) : Chg F' w w' := ⟨h.os, h.tape, h.output, h.size, fun k hk hn => h.block k hk fun e => hn (hF k e)⟩
theorem Chg.of_below (h : Below w.heap.size w w') : Chg F w w' := ⟨h.os, h.tape, h.output, h.size, fun k hk _ => h.block k hk⟩
theorem Chg.of_grown {row : Option Nat} (h : w.grownBy w' row) (hr : ∀ g, row = some g → F g) : Chg F w w' := ⟨h.os, h.tape, h.output, h.size, fun k hk hn => h.block k hk fun e => hn (hr k e.symm)⟩
theorem Chg.below {base : Nat} (h : Chg F w w') (hF : ∀ k, F k → base ≤ k) (hb : base ≤ w.heap.size) : Below base w w' := ⟨h.os, h.tape, h.output, h.size, fun k hk => h.block k (by omega) fun e => by have := hF k e; omega⟩
end
def five (V : World) (m : Nat) (u0 u1 u2 u3 u4 : Value) : World := ((((V.setCell ⟨m, 0, none⟩ u0).setCell ⟨m, 1, none⟩ u1).setCell ⟨m, 2, none⟩ u2).setCell ⟨m, 3, none⟩ u3).setCell ⟨m, 4, none⟩ u4
theorem grown_trans_one {w w' w'' : World} {row : Option Nat} (h : w.grownBy w' row) (h' : w'.grownBy w'' row) : w.grownBy w'' row := ⟨h'.os.trans h.os, h'.tape.trans h.tape, h'.output.trans h.output, Nat.le_trans h.size h'.size, fun k hk hne => (h'.block k (Nat.lt_of_lt_of_le hk h.size) hne).trans (h.block k hk hne)⟩
theorem five_grown (V : World) (m : Nat) (u0 u1 u2 u3 u4 : Value) : V.grownBy (five V m u0 u1 u2 u3 u4) (some m) := grown_trans_one (grown_trans_one (grown_trans_one (grown_trans_one (gset V m 0 u0) (gset _ m 1 u1)) (gset _ m 2 u2)) (gset _ m 3 u3)) (gset _ m 4 u4)
theorem five_below {B : Nat} (V : World) (m : Nat) (hm : B ≤ m) (hV : B ≤ V.heap.size) (u0 u1 u2 u3 u4 : Value) : Below B V (five V m u0 u1 u2 u3 u4) := (Below.refl B V).grown (five_grown V m u0 u1 u2 u3 u4) hV fun j hj => by injection hj with hj; omega
theorem results_cell1 {fn : Func} {p : Tmp} {ty : TypeId} (h : fn.results = #[.cell p ty]) (tmps : Array Value) (P : Program) (w : World) :
  (results fn tmps).run P w = ((asAddr (tmps.getD p undef)).run P w).andThen fun a w₁ => (loadVar ty a).run P w₁ := by
 simp only [results, h]
 simp [Sem.run_bind, Result.andThen]
section
variable {P : Program} {w : World}
theorem step_call {ops : Array Oper} {o : Oper} {a : Act} {K : Act → World → Prop} {Q : Exit → Act → World → Prop} {E : Prop} (hgd : o.guard = none) (f : FuncId) (args : Array Operand) (ats : Array TypeId)
  (ho : o.op = .call { callee := .value (.func f), args := args, argTypes := ats }) (hcf : (callFunc f (args.map a.eval)).run P w = .ok (.enter f (args.map a.eval)) w) (vals : Array Value) (hv : args.map a.eval = vals) {R : Ending → World → Prop} (hc : Calls P f vals w R)
  (hR : ∀ e w', R e w' → ∃ v, e = .returned v) (hK : ∀ v w', R (.returned v) w' → K (a.put o.dst v) w') :
  if Region.wanted o (yielded ops a.tmps) = true then Oper.wp P o a w K Q else E := by
 have hw : Region.wanted o (yielded ops a.tmps) = true := by simp [Region.wanted, hgd]
 rw [if_pos hw]
 have hrun : (execOp a.eval o).run P w = .ok (.enter f vals) w := by
  subst hv
  unfold execOp
  simp [ho, go_sem, hcf]
 unfold Oper.wp
 rw [hrun, Oper.upon_enter]
 refine hc.mono fun e w' h => ?_
 obtain ⟨v, rfl⟩ := hR e w' h
 exact hK v w' h
end
end Blk
end Go.Proofs.YtekhaejhmlebbaaGreat

/-
 A step: what it turns is among the blocks F, or new; what it owns then is of F, or new.
-/
namespace Go.Proofs.YtekhaejhmlebbaaGreat
namespace Blk
open Go.RowKit
def Stp (F : Nat → Prop) (w : World) (F' : Nat → Prop) (w' : World) : Prop := Chg F w w' ∧ ∀ k, F' k → F k ∨ w.heap.size ≤ k
section
variable {F F' F'' : Nat → Prop} {w w' w'' : World}
theorem Stp.refl (F : Nat → Prop) (w : World) : Stp F w F w := ⟨Chg.refl _ _, fun _ h => .inl h⟩
theorem Stp.of_below (h : Below w.heap.size w w') : Stp F w F w' := ⟨Chg.of_below h, fun _ h => .inl h⟩
theorem Stp.trans (h : Stp F w F' w') (h' : Stp F' w' F'' w'') : Stp F w F'' w'' := ⟨h.1.trans h'.1 h.2, fun k hk => (h'.2 k hk).elim (h.2 k) fun e => .inr (Nat.le_trans h.1.size e)⟩
theorem Stp.old {W : World} (h : Stp F w F' w') (hb : Below W.heap.size W w) (hF : ∀ k, F k → W.heap.size ≤ k) : Below W.heap.size W w' ∧ ∀ k, F' k → W.heap.size ≤ k :=
 ⟨hb.trans (h.1.below hF hb.size), fun k hk => (h.2 k hk).elim (hF k) fun e => Nat.le_trans hb.size e⟩
end
end Blk
end Go.Proofs.YtekhaejhmlebbaaGreat

/-
 The marks of bytes, of both: one function of the bytes.
-/
namespace Go.Proofs.YtekhaejhmlebbaaGreat
namespace Ring
open Go.RowKit

def U (x : Int) : Prop := 0 ≤ x ∧ x < 18446744073709551616
def xorU (a b : Int) : Int := ((a.toNat ^^^ b.toNat : Nat) : Int)
theorem xor_range {a b : Int} (ha : U a) (hb : U b) : U (xorU a b) := by
 unfold U xorU at *
 have h := Nat.xor_lt_two_pow (n := 64) (x := a.toNat) (y := b.toNat) (by omega) (by omega)
 omega
theorem bits_is {a b : Int} (ha : U a) (hb : U b) : bits .xor .u64 a b = xorU a b := u64_xor a b ha.1 ha.2 hb.1 hb.2
theorem wrap_range (x : Int) : U (IntKind.u64.wrap x) := by
 unfold U
 have h : IntKind.u64.wrap x = x % 18446744073709551616 := by simp [IntKind.wrap, IntKind.signed, IntKind.bits]
 rw [h]
 omega
def stepH (h c : Int) : Int := IntKind.u64.wrap (xorU h c * 1099511628211)
def foldH (zs : List Int) : Int := zs.foldl stepH 14695981039346656037
def finH (h : Int) : Int := xorU h (h / 8589934592)
def hashL (zs : List Int) : Int := finH (IntKind.u64.wrap (finH (foldH zs) * 18397679294719823053))

theorem fold_range (zs : List Int) : U (foldH zs) := by
 unfold foldH
 have key : ∀ (zs : List Int) (h : Int), U h → U (zs.foldl stepH h) := by
  intro zs
  induction zs with
  | nil => intro h hh; exact hh
  | cons z zs ih => intro h hh; exact ih _ (wrap_range _)
 exact key zs _ (by unfold U; omega)
theorem fold_snoc (zs : List Int) {k : Nat} (h : k < zs.length) : foldH (zs.take (k + 1)) = stepH (foldH (zs.take k)) (zs.getD k 0) := by
 unfold foldH
 rw [List.take_succ_eq_append_getElem h, List.foldl_append]
 simp [List.getD_eq_getElem?_getD, h]
theorem fin_range {h : Int} (hh : U h) : U (finH h) := xor_range hh (by unfold U at *; omega)
theorem hash_range (zs : List Int) : U (hashL zs) := fin_range (wrap_range _)
theorem fin_bits {h : Int} (hh : U h) : bits .xor .u64 h (h / 8589934592) = finH h := bits_is hh (by unfold U at *; omega)
theorem wrap_u {x : Int} (hx : U x) : IntKind.u64.wrap x = x := by
 unfold U at hx
 have h : IntKind.u64.wrap x = x % 18446744073709551616 := by simp [IntKind.wrap, IntKind.signed, IntKind.bits]
 rw [h]; omega
theorem quo_u {h : Int} (hh : U h) : IntKind.u64.wrap (h.tdiv 8589934592) = h / 8589934592 := by
 rw [Int.tdiv_eq_ediv_of_nonneg hh.1]
 exact wrap_u (by unfold U at *; omega)
theorem step_bits {h z : Int} (hh : U h) (hz : 0 ≤ z ∧ z ≤ 255) : IntKind.u64.wrap (bits .xor .u64 h z * 1099511628211) = stepH h z := by
 rw [bits_is hh (by unfold U; omega)]
 rfl

set_option maxRecDepth 100000 in
theorem hash_any (A : Option Addr) (c n : Nat) (zs : List Int) (hn : zs.length = n) (hz : ∀ z ∈ zs, 0 ≤ z ∧ z ≤ 255) (w : World) (hr : Ns .u8 w w.heap.size A zs) (hbig : n ≤ 140737488355328) :
  Calls Tryz.prog 118 #[.slice A n c] w fun e w' => e = .returned (.int .u64 (hashL zs)) ∧ w = w' := by
 go_enter Tryz.func118, Tryz.ntmps118
 go_wp2_with fail
 go_loop [3, 8] (fun hv iv => ∃ k : Nat, iv = .int .i64 k ∧ k ≤ n ∧ hv = .int .u64 (foldH (zs.take k))) (fun _ iv => n - (intOf iv).toNat)
 case atStart => exact ⟨0, rfl, by omega, rfl⟩
 case round =>
  obtain ⟨k, rfl, hk, rfl⟩ := hrel
  by_cases hlt : k < n
  ·obtain ⟨b, off, rfl, _, hc⟩ := hr (by omega)
   have hcell := hc k (by omega)
   have hzr := hz _ (List.getElem_mem (l := zs) (n := k) (by omega))
   have hst := fold_snoc zs (k := k) (by omega)
   have hr1 := fold_range (zs.take k)
   have e : zs[k]'(by omega) = zs.getD k 0 := by simp [List.getD_eq_getElem?_getD, show k < zs.length by omega]
   rw [e] at hzr
   obtain ⟨z, hz1⟩ : ∃ z, zs.getD k 0 = z := ⟨_, rfl⟩
   obtain ⟨h, hh⟩ : ∃ h, foldH (zs.take k) = h := ⟨_, rfl⟩
   rw [hz1] at hcell hzr hst
   rw [hh] at hst hr1 ⊢
   have HB := Lib.hid ((step_bits hr1 hzr).trans hst.symm)
   clear e hz1 hh hst hr1 hc hr hz
   go_wp2_with fail
   exact ⟨⟨k + 1, rfl, by omega, by rw [HB.out]⟩, by simp only [intOf]; omega⟩
  ·have hkn : k = n := by omega
   subst hkn
   have hfull : foldH (zs.take k) = foldH zs := by rw [List.take_of_length_le (by omega)]
   have hr1 := fold_range zs
   have HB := Lib.hid (show bits .xor .u64 (IntKind.u64.wrap (bits .xor .u64 (foldH zs) (foldH zs / 8589934592) * 18397679294719823053)) (IntKind.u64.wrap (bits .xor .u64 (foldH zs) (foldH zs / 8589934592) * 18397679294719823053) / 8589934592) = hashL zs by
    rw [fin_bits hr1, fin_bits (wrap_range _)]
    rfl)
   rw [hfull]
   obtain ⟨h, hh⟩ : ∃ h, foldH zs = h := ⟨_, rfl⟩
   rw [hh] at HB ⊢
   clear hfull hr1 hh hr hz hn
   go_wp2_with fail
   go_ret
   exact ⟨by rw [HB.out]; rfl, rfl⟩

set_option maxRecDepth 100000 in
theorem ref_hash_any (A : Option Addr) (c n : Nat) (zs : List Int) (hn : zs.length = n) (hz : ∀ z ∈ zs, 0 ≤ z ∧ z ≤ 255) (w : World) (hr : Ns .u8 w w.heap.size A zs) (hbig : n ≤ 140737488355328) :
  Calls Tryz.prog 60 #[.slice A n c] w fun e w' => e = .returned (.int .u64 (hashL zs)) ∧ w = w' := by
 go_enter Tryz.func60, Tryz.ntmps60
 go_wp2_with fail
 go_loop [3, 4] (fun hv iv => ∃ k : Nat, iv = .int .i64 k ∧ k ≤ n ∧ hv = .int .u64 (foldH (zs.take k))) (fun _ iv => n - (intOf iv).toNat)
 case atStart => exact ⟨0, rfl, by omega, rfl⟩
 case round =>
  obtain ⟨k, rfl, hk, rfl⟩ := hrel
  by_cases hlt : k < n
  ·obtain ⟨b, off, rfl, _, hc⟩ := hr (by omega)
   have hcell := hc k (by omega)
   have hzr := hz _ (List.getElem_mem (l := zs) (n := k) (by omega))
   have hst := fold_snoc zs (k := k) (by omega)
   have hr1 := fold_range (zs.take k)
   have e : zs[k]'(by omega) = zs.getD k 0 := by simp [List.getD_eq_getElem?_getD, show k < zs.length by omega]
   rw [e] at hzr
   obtain ⟨z, hz1⟩ : ∃ z, zs.getD k 0 = z := ⟨_, rfl⟩
   obtain ⟨h, hh⟩ : ∃ h, foldH (zs.take k) = h := ⟨_, rfl⟩
   rw [hz1] at hcell hzr hst
   rw [hh] at hst hr1 ⊢
   have HB := Lib.hid ((step_bits hr1 hzr).trans hst.symm)
   clear e hz1 hh hst hr1 hc hr hz
   go_wp2_with fail
   exact ⟨⟨k + 1, rfl, by omega, by rw [HB.out]⟩, by simp only [intOf]; omega⟩
  ·have hkn : k = n := by omega
   subst hkn
   have hfull : foldH (zs.take k) = foldH zs := by rw [List.take_of_length_le (by omega)]
   have hr1 := fold_range zs
   have HB := Lib.hid (show bits .xor .u64 (IntKind.u64.wrap (bits .xor .u64 (foldH zs) (IntKind.u64.wrap ((foldH zs).tdiv 8589934592)) * 18397679294719823053)) (IntKind.u64.wrap ((IntKind.u64.wrap (bits .xor .u64 (foldH zs) (IntKind.u64.wrap ((foldH zs).tdiv 8589934592)) * 18397679294719823053)).tdiv 8589934592)) = hashL zs by
    rw [quo_u hr1, fin_bits hr1, quo_u (wrap_range _), fin_bits (wrap_range _)]
    rfl)
   rw [hfull]
   obtain ⟨h, hh⟩ : ∃ h, foldH zs = h := ⟨_, rfl⟩
   rw [hh] at HB ⊢
   clear hfull hr1 hh hr hz hn
   go_wp2_with fail
   go_ret
   exact ⟨by rw [HB.out]; rfl, rfl⟩
end Ring
end Go.Proofs.YtekhaejhmlebbaaGreat

/-
 Plain words of layer 7: files by their names, in order; what a change makes of them.
-/
namespace Go.Proofs.YtekhaejhmlebbaaGreat
namespace Disk
abbrev Nm := ByteArray
def nlt (a b : Nm) : Bool := Op.bytesLess a.toList b.toList
theorem nm_ext {a b : Nm} (h : a.toList = b.toList) : a = b := by
 rw [Lib.toList_data, Lib.toList_data] at h
 exact ByteArray.ext (Array.toList_inj.1 h)
theorem nlt_iff {a b : Nm} : nlt a b = true ↔ a.toList < b.toList := by
 unfold nlt
 rw [bytesLess_eq, decide_eq_true_iff]
theorem nm_eq (a b : Nm) : (a.toList == b.toList) = decide (a = b) := by
 by_cases h : a = b
 ·subst h; simp
 ·rw [decide_eq_false h, beq_eq_false_iff_ne]
  exact fun e => h (nm_ext e)
theorem nlt_irrefl (a : Nm) : nlt a a = false := by
 rw [Bool.eq_false_iff]
 intro h
 exact List.lt_irrefl _ (nlt_iff.1 h)
theorem nlt_trans {a b c : Nm} (h : nlt a b = true) (h' : nlt b c = true) : nlt a c = true := nlt_iff.2 (List.lt_trans (nlt_iff.1 h) (nlt_iff.1 h'))
theorem nlt_asymm {a b : Nm} (h : nlt a b = true) : nlt b a = false := by
 rw [Bool.eq_false_iff]
 intro h'
 have := nlt_trans h h'
 rw [nlt_irrefl] at this
 cases this
theorem nlt_tri {a b : Nm} (h : nlt a b = false) (hne : a ≠ b) : nlt b a = true := by
 have h1 : ¬ a.toList < b.toList := fun e => by rw [nlt_iff.2 e] at h; cases h
 have h2 : b.toList ≤ a.toList := List.not_lt.1 h1
 rcases Classical.em (b.toList < a.toList) with h3 | h3
 ·exact nlt_iff.2 h3
 ·exact absurd (nm_ext (List.le_antisymm (List.not_lt.1 h3) h2)) hne
theorem nlt_ne {a b : Nm} (h : nlt a b = true) : a ≠ b := fun e => by subst e; rw [nlt_irrefl] at h; cases h
section
variable {β γ : Type}
def find : List (Nm × β) → Nm → Option β
 | [], _ => none
 | x :: l, s => if x.1 = s then some x.2 else find l s
def wout (l : List (Nm × β)) (s : Nm) : List (Nm × β) := l.filter fun x => !decide (x.1 = s)
def ins : List (Nm × β) → Nm → β → List (Nm × β)
 | [], s, b => [(s, b)]
 | x :: l, s, b => if nlt s x.1 then (s, b) :: x :: l else x :: ins l s b
def wit (l : List (Nm × β)) (s : Nm) (b : β) : List (Nm × β) := ins (wout l s) s b
def Srt (l : List (Nm × β)) : Prop := l.Pairwise fun x y => nlt x.1 y.1 = true
theorem Srt.nil : Srt ([] : List (Nm × β)) := List.Pairwise.nil
theorem find_none {l : List (Nm × β)} {s : Nm} : find l s = none ↔ ∀ x ∈ l, x.1 ≠ s := by
 induction l with
 | nil => simp [find]
 | cons y l ih =>
  unfold find
  by_cases h : y.1 = s
  ·simp [h]
  ·simp [h, ih]
theorem find_some {l : List (Nm × β)} {s : Nm} {b : β} (h : find l s = some b) : (s, b) ∈ l := by
 induction l with
 | nil => simp [find] at h
 | cons y l ih =>
  unfold find at h
  by_cases e : y.1 = s
  ·rw [if_pos e] at h
   injection h with h
   subst e h
   exact List.mem_cons_self
  ·rw [if_neg e] at h
   exact List.mem_cons_of_mem _ (ih h)
theorem find_mem {l : List (Nm × β)} (h : Srt l) {x : Nm × β} (hx : x ∈ l) : find l x.1 = some x.2 := by
 induction l with
 | nil => cases hx
 | cons y l ih =>
  obtain ⟨h1, h2⟩ := List.pairwise_cons.1 h
  unfold find
  rcases List.mem_cons.1 hx with rfl | hx
  ·rw [if_pos rfl]
  ·rw [if_neg (nlt_ne (h1 x hx)), ih h2 hx]
theorem Srt.wout {l : List (Nm × β)} (h : Srt l) (s : Nm) : Srt (wout l s) := List.Pairwise.filter _ h
theorem mem_wout {l : List (Nm × β)} {s : Nm} {x : Nm × β} : x ∈ wout l s ↔ x ∈ l ∧ x.1 ≠ s := by simp [Disk.wout, List.mem_filter]
theorem mem_ins {l : List (Nm × β)} {s : Nm} {b : β} {x : Nm × β} : x ∈ ins l s b ↔ x = (s, b) ∨ x ∈ l := by
 induction l with
 | nil => simp [ins]
 | cons y l ih =>
  unfold ins
  by_cases h : nlt s y.1 = true
  ·simp [h]
  ·simp [h, ih]
   constructor
   ·rintro (h | h | h)
    ·exact .inr (.inl h)
    ·exact .inl h
    ·exact .inr (.inr h)
   ·rintro (h | h | h)
    ·exact .inr (.inl h)
    ·exact .inl h
    ·exact .inr (.inr h)
theorem mem_wit {l : List (Nm × β)} {s : Nm} {b : β} {x : Nm × β} : x ∈ wit l s b ↔ x = (s, b) ∨ (x ∈ l ∧ x.1 ≠ s) := by rw [wit, mem_ins, mem_wout]
theorem Srt.ins {l : List (Nm × β)} (h : Srt l) {s : Nm} (b : β) (hs : ∀ x ∈ l, x.1 ≠ s) : Srt (ins l s b) := by
 induction l with
 | nil => exact List.pairwise_singleton _ _
 | cons y l ih =>
  obtain ⟨h1, h2⟩ := List.pairwise_cons.1 h
  unfold Disk.ins
  by_cases e : nlt s y.1 = true
  ·rw [if_pos e]
   refine List.pairwise_cons.2 ⟨fun x hx => ?_, h⟩
   rcases List.mem_cons.1 hx with rfl | hx
   ·exact e
   ·exact nlt_trans e (h1 x hx)
  ·rw [if_neg e]
   refine List.pairwise_cons.2 ⟨fun x hx => ?_, ih h2 fun x hx => hs x (List.mem_cons_of_mem _ hx)⟩
   rcases mem_ins.1 hx with rfl | hx
   ·exact nlt_tri (by simpa using e) (fun e2 => hs y List.mem_cons_self e2.symm)
   ·exact h1 x hx
theorem Srt.wit {l : List (Nm × β)} (h : Srt l) (s : Nm) (b : β) : Srt (wit l s b) := (h.wout s).ins b fun _ hx => (mem_wout.1 hx).2
theorem find_wout {l : List (Nm × β)} (s t : Nm) : find (wout l s) t = if t = s then none else find l t := by
 induction l with
 | nil => simp [Disk.wout, find]
 | cons y l ih =>
  have e : wout (y :: l) s = if y.1 = s then wout l s else y :: wout l s := by
   unfold Disk.wout
   by_cases h : y.1 = s
   ·simp [h]
   ·simp [h]
  rw [e]
  by_cases h : y.1 = s
  ·rw [if_pos h, ih]
   by_cases h2 : t = s
   ·rw [if_pos h2, if_pos h2]
   ·rw [if_neg h2, if_neg h2]
    show _ = (if y.1 = t then some y.2 else find l t)
    rw [if_neg (fun e => h2 (e.symm.trans h))]
  ·rw [if_neg h]
   show (if y.1 = t then some y.2 else find (wout l s) t) = if t = s then none else (if y.1 = t then some y.2 else find l t)
   rw [ih]
   by_cases h2 : t = s
   ·subst h2
    simp [h]
   ·simp [h2]
theorem find_ins {l : List (Nm × β)} (s : Nm) (b : β) (t : Nm) (hs : ∀ x ∈ l, x.1 ≠ s) : find (ins l s b) t = if t = s then some b else find l t := by
 induction l with
 | nil =>
  show (if s = t then some b else none) = _
  by_cases h : t = s
  ·subst h; simp
  ·rw [if_neg (fun e => h e.symm), if_neg h]; rfl
 | cons y l ih =>
  have hy := hs y List.mem_cons_self
  have ih := ih fun x hx => hs x (List.mem_cons_of_mem _ hx)
  unfold Disk.ins
  by_cases e : nlt s y.1 = true
  ·rw [if_pos e]
   show (if s = t then some b else find (y :: l) t) = _
   by_cases h : t = s
   ·subst h; simp
   ·rw [if_neg (fun e => h e.symm), if_neg h]
  ·rw [if_neg e]
   show (if y.1 = t then some y.2 else find (ins l s b) t) = if t = s then some b else (if y.1 = t then some y.2 else find l t)
   rw [ih]
   by_cases h : t = s
   ·subst h
    rw [if_neg hy, if_pos rfl, if_pos rfl]
   ·rw [if_neg h, if_neg h]
theorem find_wit (l : List (Nm × β)) (s : Nm) (b : β) (t : Nm) : find (wit l s b) t = if t = s then some b else find l t := by
 rw [wit, find_ins s b t fun x hx => (mem_wout.1 hx).2, find_wout]
 by_cases h : t = s
 ·rw [if_pos h, if_pos h]
 ·rw [if_neg h, if_neg h, if_neg h]
theorem srt_ext {l m : List (Nm × β)} (hl : Srt l) (hm : Srt m) (h : ∀ s, find l s = find m s) : l = m := by
 induction l generalizing m with
 | nil =>
  rcases m with _ | ⟨y, m⟩
  ·rfl
  ·have := h y.1
   unfold find at this
   simp at this
 | cons x l ih =>
  obtain ⟨l1, l2⟩ := List.pairwise_cons.1 hl
  rcases m with _ | ⟨y, m⟩
  ·have := h x.1
   unfold find at this
   simp at this
  ·obtain ⟨m1, m2⟩ := List.pairwise_cons.1 hm
   have hx : (x.1, x.2) ∈ y :: m := find_some ((h x.1).symm.trans (by unfold find; rw [if_pos rfl]))
   have hy : (y.1, y.2) ∈ x :: l := find_some ((h y.1).trans (by unfold find; rw [if_pos rfl]))
   have hxy : x = y := by
    rcases List.mem_cons.1 hx with e | hx
    ·exact e
    ·rcases List.mem_cons.1 hy with e | hy
     ·exact e.symm
     ·have h1 := m1 _ hx
      have h2 := l1 _ hy
      simp only at h1 h2
      rw [nlt_asymm h1] at h2
      cases h2
   subst hxy
   rw [ih l2 m2 fun s => ?_]
   have := h s
   unfold find at this
   by_cases e : x.1 = s
   ·have n1 : find l s = none := find_none.2 fun z hz e2 => nlt_ne (l1 z hz) (e.trans e2.symm)
    have n2 : find m s = none := find_none.2 fun z hz e2 => nlt_ne (m1 z hz) (e.trans e2.symm)
    rw [n1, n2]
   ·rwa [if_neg e, if_neg e] at this
def mapV (f : β → γ) (l : List (Nm × β)) : List (Nm × γ) := l.map fun x => (x.1, f x.2)
theorem Srt.map {l : List (Nm × β)} (h : Srt l) (f : β → γ) : Srt (mapV f l) := by
 unfold Srt mapV
 rw [List.pairwise_map]
 exact h
end
end Disk
end Go.Proofs.YtekhaejhmlebbaaGreat
