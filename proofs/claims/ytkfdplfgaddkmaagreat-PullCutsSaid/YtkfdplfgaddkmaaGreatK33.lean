/-
  Several texts of this family in one: MendTake, MendAwake, TreePair, TreeSpoil.
-/
import Derived.Test.YtkfdplfgaddkmaaGreatK28
import Derived.Test.YtkfdplfgaddkmaaGreatK21
import Derived.Test.YtkfdplfgaddkmaaGreatK19
import Derived.Test.YtkfdplfgaddkmaaGreatK13
import Derived.Test.YtkfdplfgaddkmaaGreatK24
import Derived.Deep.OwnRows
import Derived.Test.YtkfdplfgaddkmaaGreatK26
import Derived.Test.YtkfdplfgaddkmaaGreatK22
/-
 mend.Take (layer 14).
-/
namespace Go.Proofs.YtkfdplfgaddkmaaGreat
namespace Mend
open Go.RowKit Vers Num Ring Disk Blk Tree Go.Maps
open Go.Proofs.YtkfdplfgaddkmaaGreat.Code hiding Bn
attribute [local go_sem ↓] Go.wp_at_zero Go.wp_at_succ
def HoldN (w : World) (L B : Nat) (D : Vl) (M : List Rc) : Prop := ∀ k, (find M k = none ∧ find D k = none) ∨ ∃ lv A c, find M k = some lv ∧ find D k = some (.slice A lv.length c) ∧ Vs w L B A lv ∧ lv.length ≤ c ∧ RightV lv ∧ k.size ≤ 140737488355328
theorem HoldN.keep {w w' : World} {L B : Nat} {D : Vl} {M : List Rc} (h : HoldN w L B D M) (hk : ∀ p : Addr, L ≤ p.block → p.block < B → w'.cell? p = w.cell? p) : HoldN w' L B D M := fun k => by
 rcases h k with h | ⟨lv, A, c, h1, h2, h3, h4⟩
 ·exact .inl h
 ·exact .inr ⟨lv, A, c, h1, h2, h3.keep hk, h4⟩
theorem HoldN.more {w : World} {L B B' : Nat} {D : Vl} {M : List Rc} (h : HoldN w L B D M) (hB : B ≤ B') : HoldN w L B' D M := fun k => by
 rcases h k with h | ⟨lv, A, c, h1, h2, h3, h4⟩
 ·exact .inl h
 ·exact .inr ⟨lv, A, c, h1, h2, h3.more hB, h4⟩
theorem HoldN.put {w : World} {L B : Nat} {D : Vl} {M : List Rc} (h : HoldN w L B D M) {key : Nm} {lv : List Vr} {A : Option Addr} {c m : Nat} (hm : lv.length = m) (hv : Vs w L B A lv) (hc : m ≤ c) (h5 : RightV lv) (hz : key.size ≤ 140737488355328) : HoldN w L B (wit D key (.slice A m c)) (wit M key lv) := fun k => by
 rw [find_wit, find_wit]
 by_cases hk : k = key
 ·rw [if_pos hk, if_pos hk]
  exact .inr ⟨lv, A, c, rfl, by rw [hm], hv, by omega, h5, by rw [hk]; exact hz⟩
 ·rw [if_neg hk, if_neg hk]
  exact h k
def CollT (all : List Rc) (pick : Rc → Bool) (more : Rc → Prop) (ps : List Pr) : Prop := (ps.map Prod.fst).Nodup ∧ ∀ r, r ∈ ps.map Prod.fst ↔ r ∈ all ∧ pick r = true ∧ more r
theorem CollT.same {all : List Rc} {pick : Rc → Bool} {more more' : Rc → Prop} {ps : List Pr} (h : CollT all pick more ps) (hm : ∀ r, r ∈ all → pick r = true → (more r ↔ more' r)) : CollT all pick more' ps := by
 refine ⟨h.1, fun r => (h.2 r).trans ?_⟩
 constructor
 ·rintro ⟨h1, h2, h3⟩
  exact ⟨h1, h2, (hm r h1 h2).1 h3⟩
 ·rintro ⟨h1, h2, h3⟩
  exact ⟨h1, h2, (hm r h1 h2).2 h3⟩
theorem CollT.add {all : List Rc} {pick : Rc → Bool} {more more' : Rc → Prop} {ps : List Pr} (h : CollT all pick more ps) (p : Pr) (hp : p.1 ∈ all) (hl : pick p.1 = true) (hno : ¬ more p.1) (hm : ∀ r, r ∈ all → pick r = true → (more' r ↔ more r ∨ r = p.1)) : CollT all pick more' (ps ++ [p]) := by
 refine ⟨?_, fun r => ?_⟩
 ·rw [List.map_append, List.nodup_append]
  refine ⟨h.1, by simp, fun x hx y hy e => ?_⟩
  simp at hy
  subst hy
  subst e
  exact hno ((h.2 _).1 hx).2.2
 ·rw [List.map_append, List.mem_append, h.2 r]
  simp only [List.map_cons, List.map_nil, List.mem_singleton]
  constructor
  ·rintro (⟨h1, h2, h3⟩ | rfl)
   ·exact ⟨h1, h2, (hm r h1 h2).2 (.inl h3)⟩
   ·exact ⟨hp, hl, (hm _ hp hl).2 (.inr rfl)⟩
  ·rintro ⟨h1, h2, h3⟩
   rcases (hm r h1 h2).1 h3 with h4 | rfl
   ·exact .inl ⟨h1, h2, h4⟩
   ·exact .inr rfl
theorem CollT.len {all : List Rc} {pick : Rc → Bool} {more : Rc → Prop} {ps : List Pr} (h : CollT all pick more ps) : ps.length ≤ all.length := by
 have := nodup_len h.1 fun x hx => ((h.2 x).1 hx).1
 simpa using this
theorem collT_end {all : List Rc} (hs : Srt all) {pick : Rc → Bool} {more : Rc → Prop} {ps ps' : List Pr} (h : CollT all pick more ps) (hall : ∀ r ∈ all, more r) (h1 : ps'.Perm ps) (h2 : ps'.Pairwise fun x y => nlt y.1.1 x.1.1 = false) : ps'.map Prod.fst = all.filter pick := by
 have hmem : ∀ r, r ∈ ps'.map Prod.fst ↔ r ∈ all.filter pick := fun r => by
  rw [(h1.map Prod.fst).mem_iff, h.2 r, List.mem_filter]
  constructor
  ·rintro ⟨q1, q2, _⟩
   exact ⟨q1, q2⟩
  ·rintro ⟨q1, q2⟩
   exact ⟨q1, q2, hall r q1⟩
 have hnd : (ps'.map Prod.fst).Nodup := (h1.map Prod.fst).nodup_iff.2 h.1
 have hsrt : Srt (ps'.map Prod.fst) := by
  unfold Srt
  rw [List.pairwise_map]
  have hk : ps'.Pairwise fun x y => x.1 ≠ y.1 := by
   unfold List.Nodup at hnd
   rwa [List.pairwise_map] at hnd
  refine List.Pairwise.imp_of_mem ?_ (List.Pairwise.and hk h2)
  rintro x y hx hy ⟨e1, e2⟩
  have m1 := (List.mem_filter.1 ((hmem _).1 (List.mem_map.2 ⟨x, hx, rfl⟩))).1
  have m2 := (List.mem_filter.1 ((hmem _).1 (List.mem_map.2 ⟨y, hy, rfl⟩))).1
  refine nlt_tri e2 fun e => e1 ?_
  have f1 := find_mem hs m1
  have f2 := find_mem hs m2
  rw [← e, f2] at f1
  exact Prod.ext e.symm (by injection f1 with f1; exact f1.symm)
 exact srt_mem hsrt (List.Pairwise.filter _ hs) hmem
end Mend
end Go.Proofs.YtkfdplfgaddkmaaGreat

/-
 firthlaw14.awake.
-/
namespace Go.Proofs.YtkfdplfgaddkmaaGreat
namespace Mend
open Go.RowKit Vers Num Ring Disk Blk Tree
open Go.Proofs.YtkfdplfgaddkmaaGreat.Code hiding Bn
attribute [local go_sem ↓] Go.wp_at_zero Go.wp_at_succ
theorem vs_kk (w : World) : Vs (w.alloc (.cells #[.int .i64 1, .int .i64 1, .slice none 0 0, .bool false, .string ⟨#[118]⟩] 119)) 0 (w.heap.size + 1) (some ⟨w.heap.size, 0, none⟩) [kV] := fun _ => by
 have h1 := World.alloc_heap_new w (.cells #[.int .i64 1, .int .i64 1, .slice none 0 0, .bool false, .string ⟨#[118]⟩] 119)
 refine ⟨w.heap.size, 0, rfl, Nat.zero_le _, by omega, fun j hj => ?_⟩
 have hj0 : j = 0 := by simp at hj; omega
 subst hj0
 refine ⟨none, 0, ?_, ?_, ?_, ?_, ?_, fun h => by simp [kV, v0] at h, by simp [kV], by simp [kV], by simp [kV, ByteArray.size], fun h => by simp [kV] at h⟩
 all_goals (unfold World.cell?; rw [h1]; rfl)
theorem rs_one (w : World) {key : Nm} {A : Option Addr} {n c : Nat} {lv : List Vr} (hn : lv.length = n) (hc : n ≤ c) (hn2 : n ≤ 140737488355328) (hk : key.size ≤ 140737488355328) (hv : Vs w 0 w.heap.size A lv) : Rs (w.alloc (.cells #[.string key, .slice A n c] 70)) 0 (w.alloc (.cells #[.string key, .slice A n c] 70)).heap.size (some ⟨w.heap.size, 0, none⟩) [(key, lv)] := fun _ => by
 have h1 := World.alloc_heap_new w (.cells #[.string key, .slice A n c] 70)
 refine ⟨w.heap.size, 0, rfl, Nat.zero_le _, by simp, fun j hj => ?_⟩
 have hj0 : j = 0 := by simp at hj; omega
 subst hj0
 refine ⟨A, c, ?_, ?_, ?_, ?_, ?_, ?_⟩
 ·unfold World.cell?; rw [h1]; rfl
 ·unfold World.cell?; rw [h1]; subst hn; rfl
 ·exact (hv.alloc (Nat.le_refl _) _).more (by simp)
 ·subst hn; exact hc
 ·subst hn; exact hn2
 ·exact hk
end Mend
end Go.Proofs.YtkfdplfgaddkmaaGreat

/-
 A tree and its records beside it: what is asked of either.
-/
namespace Go.Proofs.YtkfdplfgaddkmaaGreat
namespace Tree
open Go.RowKit Vers Num Ring Disk Blk
open Go.Proofs.YtkfdplfgaddkmaaGreat.Code hiding Bn
def Tw (w : World) (B tb : Nat) (L : List Rc) (v : Value) (W : World) : Prop := w.heap.size ≤ B ∧ ∃ F ps, Pair F w B W tb L v ps
theorem Pair.own {F : Nat → Prop} {w W W' : World} {B tb : Nat} {L : List Rc} {v : Value} {ps : List Pr} (h : Pair F w B W tb L v ps) (ho : On F w W' tb L) (hc : Chg (fun k => k = tb) W W') : Pair F w B W' tb L v ps :=
 ⟨ho, h.2.1, h.2.2.1.keep (fun g hg => hc.block g (h.2.2.1.lt g hg).2 (fun e => h.2.2.2.1 g hg (by rw [e]; exact ho.own))) (fun k hk => hc.block k (Nat.lt_of_lt_of_le hk h.1.old.size) fun e => by have := ho.2.2 _ ho.own; omega), h.2.2.2⟩
section
variable {w W W' : World} {B tb na ca : Nat} {L : List Rc} {Aa : Option Addr}
theorem Tw.old {v : Value} (h : Tw w B tb L v W) : Below w.heap.size w W := by
 obtain ⟨_, F, ps, hp⟩ := h
 exact hp.1.old
theorem Tw.below {v : Value} (h : Tw w B tb L v W) (hb : Below W.heap.size W W') : Tw w B tb L v W' := by
 obtain ⟨h1, F, ps, hp⟩ := h
 exact ⟨h1, F, ps, hp.below hb⟩
theorem Tw.rs (h : Tw w B tb L (.slice Aa na ca) W) : Rs W 0 W.heap.size Aa L := by
 obtain ⟨h1, F, ps, hp⟩ := h
 rw [← hp.2.1]
 exact ((hp.2.2.1.low h1).rowS (Nat.le_refl _)).rs hp.1.old.size
theorem Tw.okA {v : Value} (h : Tw w B tb L v W) : ∀ r ∈ L, okR r := by
 obtain ⟨h1, F, ps, hp⟩ := h
 exact fun r hr => (hp.1.okA.2 r hr).1
theorem Tw.hash {v : Value} (h : Tw w B tb L v W) (hN : L.length ≤ 3518437208882) (A : Option Addr) (c n : Nat) (p : List Int) (hn : p.length = n) (hbig : n ≤ 140737488355328) (hr : Ns .i64 W W.heap.size A p) :
  Calls Tryz.prog 74 #[hd tb, .slice A n c] W (fun e w' => e = .returned (.int .u64 (hashF L p)) ∧ Hid (Tw w B tb L v w')) := by
 obtain ⟨h1, F, ps, hp⟩ := h
 refine (hp.1.hash hN A c n p hn hbig hr).mono ?_
 rintro e w' ⟨rfl, hx⟩
 exact ⟨rfl, Lib.hid ⟨h1, F, ps, hp.own hx.out.1 hx.out.2⟩⟩
theorem Tw.kids {v : Value} (h : Tw w B tb L v W) (hN : L.length ≤ 3518437208882) (A : Option Addr) (c n : Nat) (p : List Int) (hn : p.length = n) (hbig : n ≤ 140737488355328) (hr : Ns .i64 W W.heap.size A p) :
  Calls Tryz.prog 50 #[hd tb, .slice A n c] W (fun e w' => ∃ A m c, e = .returned (.slice A m c) ∧ Hid ((kidsF L p).length = m ∧ Ns .u64 w' w'.heap.size A (kidsF L p) ∧ Tw w B tb L v w')) := by
 obtain ⟨h1, F, ps, hp⟩ := h
 refine (hp.1.kids hN A c n p hn hbig hr).mono ?_
 rintro e w' ⟨A', m, c', rfl, hx⟩
 obtain ⟨q1, q2, q3, q4, q5, q6⟩ := hx.out
 exact ⟨A', m, c', rfl, Lib.hid ⟨q1, q3, h1, F, ps, hp.own q5 q6⟩⟩
theorem Tw.recs {v : Value} (h : Tw w B tb L v W) (hN : L.length ≤ 3518437208882) (A : Option Addr) (c n : Nat) (p : List Int) (hn : p.length = n) (hbig : n ≤ 140737488355328) (hr : Ns .i64 W W.heap.size A p) :
  Calls Tryz.prog 51 #[hd tb, .slice A n c] W (fun e w' => ∃ A n c, e = .returned (.slice A n c) ∧ Hid ((recsF L p).length = n ∧ Rs w' 0 w'.heap.size A (recsF L p) ∧ Tw w B tb L v w' ∧ Below W.heap.size W w')) := by
 have hT := h
 obtain ⟨h1, F, ps, hp⟩ := h
 refine (hp.1.recs hN A c n p hn hbig hr).mono ?_
 rintro e w' ⟨A', m, c', ps', rfl, hx⟩
 obtain ⟨q1, q2, q3, q4, q5, q6⟩ := hx.out
 refine ⟨A', m, c', rfl, Lib.hid ⟨q2.symm, ?_, hT.below q6, q6⟩⟩
 rw [← q1]
 exact q4.rs.less (Nat.zero_le _)
end
end Tree
end Go.Proofs.YtkfdplfgaddkmaaGreat

/-
 Memory that a law writes over: some cells of versions and of spans (layer 11).
-/
namespace Go.Proofs.YtkfdplfgaddkmaaGreat
namespace Tree
open Go.RowKit Vers Span Num Ring Disk Blk
open Go.Proofs.YtkfdplfgaddkmaaGreat.Code hiding Bn
def Spo (Soft : TypeId → Nat → Prop) (lo hi : Nat) (W wr : World) : Prop :=
 Below lo W wr ∧ wr.heap.size = W.heap.size ∧ (∀ q, hi ≤ q → wr.heap[q]? = W.heap[q]?) ∧ ∀ (q : Nat) (cs : Array Value) (t : TypeId), W.heap[q]? = some (Obj.cells cs t (0, 0)) → ∃ cs' : Array Value, wr.heap[q]? = some (Obj.cells cs' t (0, 0)) ∧ cs'.size = cs.size ∧ ∀ j, ¬ Soft t j → cs'[j]? = cs[j]?
def HardAt (Soft : TypeId → Nat → Prop) (W : World) (g j : Nat) (u : Value) : Prop := ∃ (cs : Array Value) (t : TypeId), W.heap[g]? = some (Obj.cells cs t (0, 0)) ∧ cs[j]? = some u ∧ ¬ Soft t j
def SoftAt (Soft : TypeId → Nat → Prop) (lo hi : Nat) (W : World) (g j : Nat) : Prop := lo ≤ g ∧ g < hi ∧ ∃ (cs : Array Value) (t : TypeId), W.heap[g]? = some (Obj.cells cs t (0, 0)) ∧ j < cs.size ∧ Soft t j
section
variable {S : TypeId → Nat → Prop} {lo hi : Nat} {W W' wr : World} {g j : Nat} {u v : Value}
theorem HardAt.same (h : HardAt S W g j u) (hk : W'.heap[g]? = W.heap[g]?) : HardAt S W' g j u := by
 obtain ⟨cs, t, h2, h3⟩ := h
 exact ⟨cs, t, hk.trans h2, h3⟩
theorem SoftAt.same (h : SoftAt S lo hi W g j) (hk : W'.heap[g]? = W.heap[g]?) : SoftAt S lo hi W' g j := by
 obtain ⟨h0, h1, cs, t, h2, h3⟩ := h
 exact ⟨h0, h1, cs, t, hk.trans h2, h3⟩
theorem Spo.get (h : Spo S lo hi W wr) (hc : HardAt S W g j u) : wr.cell? ⟨g, j, none⟩ = some u := by
 obtain ⟨cs, t, h1, h2, h3⟩ := hc
 obtain ⟨cs', k1, k2, k3⟩ := h.2.2.2 g cs t h1
 rw [cell_of_row wr g j cs' t (0, 0) k1, k3 j h3, h2]
theorem Spo.put (h : Spo S lo hi W wr) (hc : SoftAt S lo hi W g j) : (∃ z, wr.cell? ⟨g, j, none⟩ = some z) ∧ wr.frozen? ⟨g, j, none⟩ = false ∧ ∀ v, Spo S lo hi W (wr.setCell ⟨g, j, none⟩ v) := by
 obtain ⟨hlo, hhi, cs, t, h1, hj, hs⟩ := hc
 obtain ⟨b, s, f, k⟩ := h
 obtain ⟨cs', k1, k2, k3⟩ := k g cs t h1
 refine ⟨⟨cs'[j]'(by omega), by rw [cell_of_row wr g j cs' t (0, 0) k1]; exact Array.getElem?_eq_getElem (by omega)⟩, by simp [World.frozen?, k1], fun v => ⟨b.setCell hlo v, (show (wr.setCell ⟨g, j, none⟩ v).heap.size = wr.heap.size by simp [World.setCell]).trans s, fun q hq => (Below.heap_setCell wr ⟨g, j, none⟩ v q (fun e => by simp only at e; omega)).trans (f q hq), fun q cs2 t2 h2 => ?_⟩⟩
 by_cases hq : q = g
 ·subst hq
  rw [h1] at h2
  injection h2 with h2
  injection h2 with e1 e2
  subst e1 e2
  refine ⟨cs'.setIfInBounds j v, by simp [World.setCell, Array.getElem?_modify, k1], by rw [Array.size_setIfInBounds]; exact k2, fun i hi => ?_⟩
  rw [Array.getElem?_setIfInBounds_ne (fun e : j = i => hi (by rw [← e]; exact hs))]
  exact k3 i hi
 ·obtain ⟨cs3, m1, m2, m3⟩ := k q cs2 t2 h2
  exact ⟨cs3, (Below.heap_setCell wr ⟨g, j, none⟩ v q hq).trans m1, m2, m3⟩
end
def MV (S : TypeId → Nat → Prop) (col lo hi : Nat) (W : World) (A : Option Addr) (m : Nat) : Prop :=
 ∀ i, i < m → ∃ (g : Nat) (P : Option Addr) (k c : Nat), A = some ⟨g, 0, none⟩ ∧ SoftAt S lo hi W g (i * 5 + col) ∧ HardAt S W g (i * 5 + 2) (.slice P k c) ∧ k ≤ 140737488355328 ∧ ∀ q, q < k → ∃ b off, P = some ⟨b, off, none⟩ ∧ SoftAt S lo hi W b (off + q * 3 + 2)
theorem MV.same {S : TypeId → Nat → Prop} {col lo hi : Nat} {W W' : World} {A : Option Addr} {m : Nat} (h : MV S col lo hi W A m) (hb : Below hi W W') : MV S col lo hi W' A m := fun i hi2 => by
 obtain ⟨g, P, k, c, h1, h2, h3, h4, h5⟩ := h i hi2
 have hg := h2.2.1
 refine ⟨g, P, k, c, h1, h2.same (hb.block g hg), h3.same (hb.block g hg), h4, fun q hq => ?_⟩
 obtain ⟨b, off, e, h6⟩ := h5 q hq
 exact ⟨b, off, e, h6.same (hb.block b h6.2.1)⟩
end Tree
end Go.Proofs.YtkfdplfgaddkmaaGreat
