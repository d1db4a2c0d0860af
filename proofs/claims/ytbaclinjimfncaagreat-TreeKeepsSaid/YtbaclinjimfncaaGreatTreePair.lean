/-
  A tree and its records beside it: what is asked of either.
-/
import Derived.Test.YtbaclinjimfncaaGreatTreeBuilt
import Derived.Test.YtbaclinjimfncaaGreatTreeDocKids
import Derived.Test.YtbaclinjimfncaaGreatTreeAwake
import Derived.Test.YtbaclinjimfncaaGreatGCode
namespace Go.Proofs.YtbaclinjimfncaaGreat
namespace Tree
open Go.RowKit Vers Num Ring Disk Blk
open Go.Proofs.YtbaclinjimfncaaGreat.Code hiding Bn
/-- A tree, and its records in a row beside it. -/
def Tw (w : World) (B tb : Nat) (L : List Rc) (v : Value) (W : World) : Prop := w.heap.size ≤ B ∧ ∃ F ps, Pair F w B W tb L v ps
theorem kidsF_len (all : List Rc) (p : List Int) : (kidsF all p).length ≤ 16 := by unfold kidsF; split <;> simp
theorem recsF_len (all : List Rc) (p : List Int) : (recsF all p).length ≤ all.length := by
  unfold recsF beneath
  split
  · exact List.length_filter_le _ _
  · simp
theorem Pair.own {F : Nat → Prop} {w W W' : World} {B tb : Nat} {L : List Rc} {v : Value} {ps : List Pr} (h : Pair F w B W tb L v ps) (ho : On F w W' tb L) (hc : Chg (fun k => k = tb) W W') : Pair F w B W' tb L v ps :=
  ⟨ho, h.2.1, h.2.2.1.keep (fun g hg => hc.block g (h.2.2.1.lt g hg).2 (fun e => h.2.2.2.1 g hg (by rw [e]; exact ho.own))) (fun k hk => hc.block k (Nat.lt_of_lt_of_le hk h.1.old.size) fun e => by have := ho.2.2 _ ho.own; omega), h.2.2.2⟩
section
variable {w W W' : World} {B tb na ca : Nat} {L : List Rc} {Aa : Option Addr}
theorem Tw.old {v : Value} (h : Tw w B tb L v W) : Below w.heap.size w W := by
  obtain ⟨_, F, ps, hp⟩ := h
  exact hp.1.old
theorem Tw.below {v : Value} (h : Tw w B tb L v W) (hb : Below W.heap.size W W') : Tw w B tb L v W' := by
  obtain ⟨h1, F, ps, hp⟩ := h
  exact ⟨h1, F, ps, hp.below hb⟩
theorem Tw.rs (h : Tw w B tb L (.slice Aa na ca) W) : Rs W 0 W.heap.size Aa L := by
  obtain ⟨h1, F, ps, hp⟩ := h
  rw [← hp.2.1]
  exact ((hp.2.2.1.low h1).rowS (Nat.le_refl _)).rs hp.1.old.size
theorem Tw.okA {v : Value} (h : Tw w B tb L v W) : ∀ r ∈ L, okR r := by
  obtain ⟨h1, F, ps, hp⟩ := h
  exact fun r hr => (hp.1.okA.2 r hr).1
theorem Tw.hash {v : Value} (h : Tw w B tb L v W) (hN : L.length ≤ 3518437208882) (A : Option Addr) (c n : Nat) (p : List Int) (hn : p.length = n) (hbig : n ≤ 140737488355328) (hr : Ns .i64 W W.heap.size A p) :
    Calls Tryz.prog 11 #[hd tb, .slice A n c] W (fun e w' => e = .returned (.int .u64 (hashF L p)) ∧ Hid (Tw w B tb L v w')) := by
  obtain ⟨h1, F, ps, hp⟩ := h
  refine (hp.1.hash hN A c n p hn hbig hr).mono ?_
  rintro e w' ⟨rfl, hx⟩
  exact ⟨rfl, Lib.hid ⟨h1, F, ps, hp.own hx.out.1 hx.out.2⟩⟩
theorem Tw.kids {v : Value} (h : Tw w B tb L v W) (hN : L.length ≤ 3518437208882) (A : Option Addr) (c n : Nat) (p : List Int) (hn : p.length = n) (hbig : n ≤ 140737488355328) (hr : Ns .i64 W W.heap.size A p) :
    Calls Tryz.prog 14 #[hd tb, .slice A n c] W (fun e w' => ∃ A m c, e = .returned (.slice A m c) ∧ Hid ((kidsF L p).length = m ∧ Ns .u64 w' w'.heap.size A (kidsF L p) ∧ Tw w B tb L v w')) := by
  obtain ⟨h1, F, ps, hp⟩ := h
  refine (hp.1.kids hN A c n p hn hbig hr).mono ?_
  rintro e w' ⟨A', m, c', rfl, hx⟩
  obtain ⟨q1, q2, q3, q4, q5, q6⟩ := hx.out
  exact ⟨A', m, c', rfl, Lib.hid ⟨q1, q3, h1, F, ps, hp.own q5 q6⟩⟩
theorem Tw.recs {v : Value} (h : Tw w B tb L v W) (hN : L.length ≤ 3518437208882) (A : Option Addr) (c n : Nat) (p : List Int) (hn : p.length = n) (hbig : n ≤ 140737488355328) (hr : Ns .i64 W W.heap.size A p) :
    Calls Tryz.prog 17 #[hd tb, .slice A n c] W (fun e w' => ∃ A n c, e = .returned (.slice A n c) ∧ Hid ((recsF L p).length = n ∧ Rs w' 0 w'.heap.size A (recsF L p) ∧ Tw w B tb L v w' ∧ Below W.heap.size W w')) := by
  have hT := h
  obtain ⟨h1, F, ps, hp⟩ := h
  refine (hp.1.recs hN A c n p hn hbig hr).mono ?_
  rintro e w' ⟨A', m, c', ps', rfl, hx⟩
  obtain ⟨q1, q2, q3, q4, q5, q6⟩ := hx.out
  refine ⟨A', m, c', rfl, Lib.hid ⟨q2.symm, ?_, hT.below q6, q6⟩⟩
  rw [← q1]
  exact q4.rs.less (Nat.zero_le _)
theorem Tw.refhash (h : Tw w B tb L (.slice Aa na ca) W) (hL : L.length = na) (hN : na ≤ 3518437208882) (A : Option Addr) (c n : Nat) (p : List Int) (hn : p.length = n) (hbig : n ≤ 140737488355328) (hr : Ns .i64 W W.heap.size A p) :
    Calls Tryz.prog 12 #[.slice Aa na ca, .slice A n c] W (fun e w' => e = .returned (.int .u64 (hashF L p)) ∧ Hid (Tw w B tb L (.slice Aa na ca) w' ∧ Below W.heap.size W w')) := by
  refine (ref_hash_tell W Aa ca na L hL hN h.okA h.rs A c n p hn hbig hr).mono ?_
  rintro e w' ⟨rfl, hb⟩
  exact ⟨rfl, Lib.hid ⟨h.below hb, hb⟩⟩
theorem Tw.refkids (h : Tw w B tb L (.slice Aa na ca) W) (hL : L.length = na) (hN : na ≤ 3518437208882) (A : Option Addr) (c n : Nat) (p : List Int) (hn : p.length = n) (hbig : n ≤ 140737488355328) (hr : Ns .i64 W W.heap.size A p) :
    Calls Tryz.prog 15 #[.slice Aa na ca, .slice A n c] W (fun e w' => ∃ A m c, e = .returned (.slice A m c) ∧ Hid ((kidsF L p).length = m ∧ Ns .u64 w' w'.heap.size A (kidsF L p) ∧ Tw w B tb L (.slice Aa na ca) w' ∧ Below W.heap.size W w')) := by
  refine (ref_kids_tell W Aa ca na L hL hN h.okA h.rs A c n p hn hbig hr).mono ?_
  rintro e w' ⟨A', m, c', rfl, hx, hb⟩
  obtain ⟨q1, q2, q3⟩ := hx.out
  exact ⟨A', m, c', rfl, Lib.hid ⟨q1, own_ns (c := c') (n := m) (by rw [q1]; exact q3), h.below hb, hb⟩⟩
theorem Tw.refrecs (h : Tw w B tb L (.slice Aa na ca) W) (hL : L.length = na) (hN : na ≤ 3518437208882) (A : Option Addr) (c n : Nat) (p : List Int) (hn : p.length = n) (hbig : n ≤ 140737488355328) (hr : Ns .i64 W W.heap.size A p) :
    Calls Tryz.prog 18 #[.slice Aa na ca, .slice A n c] W (fun e w' => ∃ A m c, e = .returned (.slice A m c) ∧ Hid ((recsF L p).length = m ∧ Rs w' 0 w'.heap.size A (recsF L p) ∧ Tw w B tb L (.slice Aa na ca) w' ∧ Below W.heap.size W w')) := by
  refine (ref_recs_tell Aa A ca c n na L p hL hN hn hbig W h.rs hr).mono ?_
  rintro e w' ⟨A', m, c', ps, rfl, hx, hb⟩
  obtain ⟨q1, q2, q3, q4⟩ := hx.out
  refine ⟨A', m, c', rfl, Lib.hid ⟨q2, ?_, h.below hb, hb⟩⟩
  rw [← q1]
  exact q4.rs hb.size
theorem built_tw (A : Option Addr) (c n : Nat) (l : List Rc) (hn : l.length = n) (hbig : n ≤ 3518437208780) (w V : World) (hw : Below w.heap.size w V) (hr : Rs w 0 w.heap.size A l) :
    Calls Tryz.prog 10 #[.slice A n c] V (fun e w' => ∃ tb Aa na ca, e = .returned (.tuple #[hd tb, .slice Aa na ca, .bool true]) ∧ na ≤ 3518437208780 ∧ Hid ((layG l).length = na ∧ Tw w V.heap.size tb (layG l) (.slice Aa na ca) w' ∧ Below V.heap.size V w')) := by
  refine (built_any A c n l hn hbig w V hw hr).mono ?_
  rintro e w' ⟨tb, Aa, na, ca, rfl, hx⟩
  obtain ⟨q1, q2, F, ps, hp, hb⟩ := hx.out
  have := layG_len l
  exact ⟨tb, Aa, na, ca, rfl, by omega, Lib.hid ⟨q1, ⟨hw.size, F, ps, hp⟩, hb⟩⟩
end
theorem same_hashes {A A' : Option Addr} (c c' n n' : Nat) (l : List Int) (hn : l.length = n) (hn' : l.length = n') (h16 : l.length ≤ 16) (w : World) (hr : Ns .u64 w w.heap.size A l) (hr' : Ns .u64 w w.heap.size A' l) :
    Calls Tryz.prog 13 #[.slice A n c, .slice A' n' c'] w fun e w' => e = .returned (.bool true) ∧ Below w.heap.size w w' := by
  have h := shashes_any A A' c c' n n' l l hn hn' w hr hr' (by omega) (by omega)
  rwa [decide_eq_true rfl] at h
theorem same_recs {A A' : Option Addr} (c c' n n' : Nat) (l : List Rc) (hn : l.length = n) (hn' : l.length = n') (hb : l.length ≤ 3518437208882) (w : World) (hr : Rs w 0 w.heap.size A l) (hr' : Rs w 0 w.heap.size A' l) :
    Calls Tryz.prog 16 #[.slice A n c, .slice A' n' c'] w fun e w' => e = .returned (.bool true) ∧ Below w.heap.size w w' := by
  have h := srecs_any A A' c c' n n' l l hn hn' w hr hr' (by omega) (by omega)
  rwa [decide_eq_true rfl] at h
end Tree
end Go.Proofs.YtbaclinjimfncaaGreat
