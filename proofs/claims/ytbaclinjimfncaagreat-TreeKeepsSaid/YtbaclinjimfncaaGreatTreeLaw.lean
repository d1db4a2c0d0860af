/-
  Trees of a law's own (layer 11): what is done with them, from a world on.
-/
import Derived.Test.YtbaclinjimfncaaGreatTreeTell
import Derived.Test.YtbaclinjimfncaaGreatTreeNew
import Derived.Test.YtbaclinjimfncaaGreatTreeSet
namespace Go.Proofs.YtbaclinjimfncaaGreat
namespace Tree
open Go.RowKit Vers Num Ring Disk Blk
open Go.Proofs.YtbaclinjimfncaaGreat.Code hiding Bn
/-- A tree over the blocks F, all of them new since w. -/
def On (F : Nat → Prop) (w V : World) (tb : Nat) (all : List Rc) : Prop := (∃ mv f, TR F V tb mv f all fun _ => False) ∧ Below w.heap.size w V ∧ ∀ j, F j → w.heap.size ≤ j
theorem ns_nil {k : IntKind} {w : World} {L : Nat} {A : Option Addr} : Ns k w L A [] := fun h => by simp at h
section
variable {F G : Nat → Prop} {w V V' : World} {tb : Nat} {all : List Rc}
theorem On.old (h : On F w V tb all) : Below w.heap.size w V := h.2.1
theorem On.own (h : On F w V tb all) : F tb := by
  obtain ⟨⟨mv, f, h⟩, _⟩ := h
  exact h.own
theorem On.lt (h : On F w V tb all) {k : Nat} (hk : F k) : k < V.heap.size := by
  obtain ⟨⟨mv, f, h⟩, _⟩ := h
  exact h.lt k hk
theorem On.okA (h : On F w V tb all) : okAll all := by
  obtain ⟨⟨mv, f, h⟩, _⟩ := h
  exact h.ok
theorem On.chg (h : On F w V tb all) (hc : Chg G V V') (hG : ∀ k, F k → ¬ G k) (hw : ∀ k, G k → w.heap.size ≤ k) : On F w V' tb all := by
  obtain ⟨⟨mv, f, h1⟩, h2, h3⟩ := h
  exact ⟨⟨mv, f, h1.chg hc hG⟩, h2.trans (hc.below hw h2.size), h3⟩
theorem On.below (h : On F w V tb all) (hb : Below V.heap.size V V') : On F w V' tb all := h.chg (G := fun _ => False) (Chg.of_below hb) (fun _ _ h => h) fun _ h => h.elim
theorem On.hash (h : On F w V tb all) (hN : all.length ≤ 3518437208882) (A : Option Addr) (c n : Nat) (p : List Int) (hn : p.length = n) (hbig : n ≤ 140737488355328) (hr : Ns .i64 V V.heap.size A p) :
    Calls Tryz.prog 11 #[hd tb, .slice A n c] V (fun e w' => e = .returned (.int .u64 (hashF all p)) ∧ Hid (On F w w' tb all ∧ Chg (fun k => k = tb) V w')) := by
  obtain ⟨⟨mv, f, h1⟩, h2, h3⟩ := h
  refine (hash_tell h1 hN A c n p hn hbig hr).mono ?_
  rintro e w' ⟨rfl, hx⟩
  exact ⟨rfl, Lib.hid ⟨⟨⟨mv, f, hx.out.1⟩, h2.trans (hx.out.2.below (fun k e => by rw [e]; exact h3 _ h1.own) h2.size), h3⟩, hx.out.2⟩⟩
theorem On.kids (h : On F w V tb all) (hN : all.length ≤ 3518437208882) (A : Option Addr) (c n : Nat) (p : List Int) (hn : p.length = n) (hbig : n ≤ 140737488355328) (hr : Ns .i64 V V.heap.size A p) :
    Calls Tryz.prog 14 #[hd tb, .slice A n c] V (fun e w' => ∃ A m c, e = .returned (.slice A m c) ∧ Hid ((kidsF all p).length = m ∧ m ≤ c ∧ Ns .u64 w' w'.heap.size A (kidsF all p) ∧ (∀ a, 0 < m → A = some a → V.heap.size ≤ a.block) ∧ On F w w' tb all ∧ Chg (fun k => k = tb) V w')) := by
  obtain ⟨⟨mv, f, h1⟩, h2, h3⟩ := h
  refine (kids_tell h1 hN A c n p hn hbig hr).mono ?_
  rintro e w' ⟨A', m, c', rfl, hx⟩
  obtain ⟨q1, q2, q3, q4, q5, q6⟩ := hx.out
  exact ⟨A', m, c', rfl, Lib.hid ⟨q1, q2, q3, q4, ⟨⟨mv, f, q5⟩, h2.trans (q6.below (fun k e => by rw [e]; exact h3 _ h1.own) h2.size), h3⟩, q6⟩⟩
theorem On.recs (h : On F w V tb all) (hN : all.length ≤ 3518437208882) (A : Option Addr) (c n : Nat) (p : List Int) (hn : p.length = n) (hbig : n ≤ 140737488355328) (hr : Ns .i64 V V.heap.size A p) :
    Calls Tryz.prog 17 #[hd tb, .slice A n c] V (fun e w' => ∃ A n c ps, e = .returned (.slice A n c) ∧ Hid (ps.map Prod.fst = recsF all p ∧ n = (recsF all p).length ∧ n ≤ c ∧ Got V.heap.size w' A ps ∧ On F w w' tb all ∧ Below V.heap.size V w')) := by
  have hO := h
  obtain ⟨⟨mv, f, h1⟩, h2, h3⟩ := h
  refine (recs_tell h1 hN A c n p hn hbig hr).mono ?_
  rintro e w' ⟨A', n', c', ps, rfl, hx, hb⟩
  obtain ⟨q1, q2, q3, q4⟩ := hx.out
  exact ⟨A', n', c', ps, rfl, Lib.hid ⟨q1, q2, q3, q4, hO.below hb, hb⟩⟩
theorem On.bad (h : On F w V tb all) (key : Nm) (A : Option Addr) (c m : Nat) (lv : List Vr) (hm : lv.length = m) (hm2 : m ≤ 140737488355328) (hk2 : key.size ≤ 140737488355328) (hv : Vs V 0 V.heap.size A lv) (hbad : ¬ okR (key, lv)) :
    Calls Tryz.prog 21 #[hd tb, .agg #[.string key, .slice A m c]] V (fun e w' => e = .returned (.int .i64 1) ∧ Hid (On F w w' tb all ∧ Below V.heap.size V w')) := by
  have hO := h
  obtain ⟨⟨mv, f, h1⟩, h2, h3⟩ := h
  refine (set_bad h1 key A c m lv hm hm2 hk2 hv hbad).mono ?_
  rintro e w' ⟨rfl, hb⟩
  exact ⟨rfl, Lib.hid ⟨hO.below hb, hb⟩⟩
theorem On.set (h : On F w V tb all) (hN : all.length ≤ 3518437208882) (key : Nm) (A : Option Addr) (c m : Nat) (lv : List Vr) (hm : lv.length = m) (hv : Vs V 0 V.heap.size A lv) (hok : okR (key, lv)) :
    Calls Tryz.prog 21 #[hd tb, .agg #[.string key, .slice A m c]] V (fun e w' => e = .returned (.int .i64 0) ∧ Hid (∃ F', On F' w w' tb (withR all (key, lv)) ∧ Stp F V F' w')) := by
  obtain ⟨⟨mv, f, h1⟩, h2, h3⟩ := h
  refine (set_ok h1 hN key A c m lv hm hv hok).mono ?_
  rintro e w' ⟨F', mv', f', rfl, hx⟩
  refine ⟨rfl, Lib.hid ⟨F', ⟨⟨mv', f', hx.out.1⟩, h2.trans (hx.out.2.1.below h3 h2.size), fun j hj => ?_⟩, hx.out.2⟩⟩
  rcases hx.out.2.2 j hj with q | q
  · exact h3 j q
  · exact Nat.le_trans h2.size q
theorem on_new (hb : Below w.heap.size w V) (A : Option Addr) (c n : Nat) (l : List Rc) (hn : l.length = n) (hbig : n ≤ 3518437208882) (hr : Rs V 0 V.heap.size A l) (hok : ∀ r ∈ l, okR r) :
    Calls Tryz.prog 19 #[.slice A n c] V (fun e w' => ∃ tb, e = .returned (.tuple #[hd tb, .int .i64 0]) ∧ Hid (∃ F, On F w w' tb (layF l) ∧ (∀ k, F k → V.heap.size ≤ k) ∧ Below V.heap.size V w')) := by
  refine (new_any A c n l hn hbig V hr).mono ?_
  rintro e w' (⟨_, F, tb, mv, f, rfl, hx⟩ | ⟨hno, _⟩)
  · exact ⟨tb, rfl, Lib.hid ⟨F, ⟨⟨mv, f, hx.out.1⟩, hb.trans (hx.out.2.2.mono hb.size), fun j hj => Nat.le_trans hb.size (hx.out.2.1 j hj)⟩, hx.out.2⟩⟩
  · exact absurd hok hno
theorem no_new (A : Option Addr) (c n : Nat) (l : List Rc) (hn : l.length = n) (hbig : n ≤ 3518437208882) (hr : Rs V 0 V.heap.size A l) (hno : ¬ ∀ r ∈ l, okR r) :
    Calls Tryz.prog 19 #[.slice A n c] V (fun e w' => e = .returned (.tuple #[.pointer none, .int .i64 1]) ∧ Below V.heap.size V w') := by
  refine (new_any A c n l hn hbig V hr).mono ?_
  rintro e w' (⟨hok, _⟩ | ⟨_, rfl, hb⟩)
  · exact absurd hok hno
  · exact ⟨rfl, hb⟩
end
theorem rs_nil {w : World} {L B : Nat} {A : Option Addr} : Rs w L B A [] := fun h => by simp at h
end Tree
end Go.Proofs.YtbaclinjimfncaaGreat
