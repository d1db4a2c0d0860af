/-
  Several texts of this family in one: PullPath.
-/
import Derived.Test.YtkfdplfgaddkmaaGreatK4
import Derived.Test.YtkfdplfgaddkmaaGreatK10
import Derived.Test.YtkfdplfgaddkmaaGreatK3
import Derived.Laws.CopyOwn
import Derived.ChangeKeysEq
/-
 Paths in memory: arrays of three numbers; the path of some digits, and whether two are the same (layer 19).
-/
namespace Go.Proofs.YtkfdplfgaddkmaaGreat
namespace Pull
open Go.RowKit Blk Num Tree
attribute [local go_sem ↓] Go.wp_at_zero Go.wp_at_succ
def pcell (p : List Int) : List Value := [.int .i64 p.length, .int .i64 (p.getD 0 0), .int .i64 (p.getD 1 0)]
def pV (p : List Int) : Value := .agg #[.int .i64 p.length, .int .i64 (p.getD 0 0), .int .i64 (p.getD 1 0)]
def pcells (W : List (List Int)) : List Value := W.flatMap pcell
theorem pcells_append (l m : List (List Int)) : pcells (l ++ m) = pcells l ++ pcells m := by simp [pcells]
theorem pcells_one (x : List Int) : pcells [x] = pcell x := by simp [pcells]
theorem pcells_length (l : List (List Int)) : (pcells l).length = l.length * 3 := by
 induction l with
 | nil => rfl
 | cons x l ih =>
  have h : pcells (x :: l) = pcell x ++ pcells l := by simp [pcells]
  rw [h, List.length_append, ih]
  simp [pcell]
  omega
theorem pcells_at (l : List (List Int)) : ∀ (j : Nat), j < l.length → ∀ r, r < 3 → (pcells l)[j * 3 + r]? = (pcell (l.getD j []))[r]? := by
 induction l with
 | nil => intro j h; simp at h
 | cons y l ih =>
  intro j hj r hr
  have hc : pcells (y :: l) = pcell y ++ pcells l := by simp [pcells]
  rw [hc]
  cases j with
  | zero => rw [Nat.zero_mul, Nat.zero_add, List.getElem?_append_left (by simp [pcell]; omega)]; rfl
  | succ j =>
   rw [List.getElem?_append_right (by simp [pcell]; omega)]
   have e : (j + 1) * 3 + r - (pcell y).length = j * 3 + r := by simp [pcell]; omega
   rw [e]
   simpa using ih j (by simpa using hj) r hr
theorem pcells_drop (l : List (List Int)) : ∀ j, (pcells l).drop (j * 3) = pcells (l.drop j) := by
 induction l with
 | nil => intro j; simp [pcells]
 | cons y l ih =>
  intro j
  cases j with
  | zero => simp
  | succ j =>
   have hc : pcells (y :: l) = pcell y ++ pcells l := by simp [pcells]
   rw [hc, List.drop_succ_cons, ← ih j, List.drop_append]
   have e : (j + 1) * 3 - (pcell y).length = j * 3 := by simp [pcell]; omega
   rw [e, List.drop_of_length_le (by simp [pcell]; omega), List.nil_append]
theorem pcells_take (l : List (List Int)) : ∀ j, (pcells l).take (j * 3) = pcells (l.take j) := by
 induction l with
 | nil => intro j; simp [pcells]
 | cons y l ih =>
  intro j
  cases j with
  | zero => simp [pcells]
  | succ j =>
   have hc : pcells (y :: l) = pcell y ++ pcells l := by simp [pcells]
   have hc2 : pcells ((y :: l).take (j + 1)) = pcell y ++ pcells (l.take j) := by simp [pcells]
   rw [hc, hc2, ← ih j, List.take_append]
   have e : (j + 1) * 3 - (pcell y).length = j * 3 := by simp [pcell]; omega
   rw [e, List.take_of_length_le (by simp [pcell]; omega)]
theorem pcells_one_cell (l : List (List Int)) : ∀ u ∈ pcells l, u.oneCell' = true := by
 intro u hu
 obtain ⟨x, _, hx⟩ := List.mem_flatMap.1 hu
 simp [pcell] at hx
 rcases hx with rfl | rfl | rfl <;> rfl
def pkey (p : List Int) : Int × Int × Int := (p.length, p.getD 0 0, p.getD 1 0)
def okW (p : List Int) : Prop := okP p ∧ (p.length = 1 ∨ p.length = 2)
theorem pkey_inj {p q : List Int} (hp : okW p) (h : pkey p = pkey q) : p = q := by
 unfold pkey at h
 simp only [Prod.mk.injEq] at h
 obtain ⟨h1, h2, h3⟩ := h
 have h1' : p.length = q.length := by omega
 rcases hp.2 with hl | hl
 ·match p, q, hl, h1' with
  | [a], [b], _, _ => simp at h2; rw [h2]
 ·match p, q, hl, h1' with
  | [a, a'], [b, b'], _, _ => simp at h2 h3; rw [h2, h3]
theorem info_int' : (Tryz.prog.info? 3).map (·.size) = some 1 := by kernel_rfl
theorem splice_path (n : Value) (p : List Int) : splice [n, .int .i64 0, .int .i64 0] 1 (nums .i64 (p.take 2)) = [n, .int .i64 (p.getD 0 0), .int .i64 (p.getD 1 0)] := by
 match p with
 | [] => rfl
 | [a] => rfl
 | a :: b :: r => rfl
set_option maxRecDepth 100000 in
theorem pathOf_any (A : Option Addr) (c n : Nat) (p : List Int) (hn : p.length = n) (w : World) (hr : Ns .i64 w w.heap.size A p) :
  Calls Tryz.prog 59 #[.slice A n c] w (fun e w' => e = .returned (pV p) ∧ Below w.heap.size w w') := by
 obtain ⟨x0, hx0⟩ : ∃ x, p.getD 0 0 = x := ⟨_, rfl⟩
 obtain ⟨x1, hx1⟩ : ∃ x, p.getD 1 0 = x := ⟨_, rfl⟩
 obtain ⟨rb, hrb⟩ : ∃ rb, w.heap.size = rb := ⟨_, rfl⟩
 obtain ⟨V, hV⟩ : ∃ V, w.alloc (.cells #[.int .i64 0, .int .i64 0, .int .i64 0] 101) = V := ⟨_, rfl⟩
 have bV : Below w.heap.size w V := by rw [← hV]; exact (Below.refl _ w).alloc (Nat.le_refl _) _
 have BV : Bn rb 101 [.int .i64 0, .int .i64 0, .int .i64 0] V := by rw [← hV, ← hrb]; exact World.alloc_heap_new _ _
 obtain ⟨pb, hpb⟩ : ∃ pb, V.heap.size = pb := ⟨_, rfl⟩
 obtain ⟨U, hU⟩ : ∃ U, V.alloc (.cells #[.int .i64 n, .int .i64 0, .int .i64 0] 101) = U := ⟨_, rfl⟩
 have bU : Below V.heap.size V U := by rw [← hU]; exact (Below.refl _ V).alloc (Nat.le_refl _) _
 have BU : Bn pb 101 [.int .i64 n, .int .i64 0, .int .i64 0] U := by rw [← hU, ← hpb]; exact World.alloc_heap_new _ _
 have hrU : Ns .i64 U w.heap.size A p := hr.below (bV.trans (bU.mono bV.size))
 have Hcl : Hid ((nums .i64 (p.take 2)).length = Nat.min n 2) := Lib.hid (by rw [nums_length, List.length_take, hn]; exact Nat.min_comm _ _)
 have Hpos : Hid (0 < (nums .i64 (p.take 2)).length → (some (⟨pb, 1, none⟩ : Addr)) = some ⟨pb, 1, none⟩ ∧ ∃ ad, A = some ad ∧ ∀ j v, (nums .i64 (p.take 2))[j]? = some v → U.cell? (ad.add j) = some v) := Lib.hid (fun h0 => by
  have hp : 0 < p.length := by rw [nums_length, List.length_take] at h0; omega
  obtain ⟨b, off, e, hb, hc⟩ := hrU hp
  refine ⟨rfl, ⟨b, off, none⟩, e, fun j v hv => ?_⟩
  have hj : j < (p.take 2).length := by
   have := (List.getElem?_eq_some_iff.1 hv).1
   rwa [nums_length] at this
  rw [List.length_take] at hj
  rw [Vers.add_plain, hc j (by omega), ← hv]
  simp [nums, List.getD_eq_getElem?_getD, show j < 2 by omega, show j < p.length by omega])
 have Hfit : Hid (1 + (nums .i64 (p.take 2)).length ≤ [Value.int .i64 n, .int .i64 0, .int .i64 0].length) := Lib.hid (by rw [nums_length, List.length_take]; simp; omega)
 have Hone : Hid (∀ u ∈ nums .i64 (p.take 2), u.oneCell' = true) := Lib.hid (by
  intro u hu
  obtain ⟨y, _, rfl⟩ := List.mem_map.1 hu
  rfl)
 have Hg : Hid (U.heap[pb]? = some (.cells [Value.int .i64 n, .int .i64 0, .int .i64 0].toArray 101 (0, 0))) := Lib.hid BU
 have Hb : Hid (Below pb V U) := Lib.hid (by rw [← hpb]; exact bU)
 have HE : Hid (∀ W, Below pb V W → Hid (W.heap[pb]? = some (.cells (splice [Value.int .i64 n, .int .i64 0, .int .i64 0] 1 (nums .i64 (p.take 2))).toArray 101 (0, 0))) → Bn pb 101 [.int .i64 n, .int .i64 x0, .int .i64 x1] W ∧ Bn rb 101 [.int .i64 0, .int .i64 0, .int .i64 0] W ∧ Below w.heap.size w W) := Lib.hid fun W hb hg => by
  have hg' := hg.out
  rw [splice_path, hx0, hx1] at hg'
  exact ⟨hg', BV.same (hb.block rb (by rw [← hpb]; exact BV.lt)), bV.trans ((show Below V.heap.size V W by rw [hpb]; exact hb).mono bV.size)⟩
 have HP : Hid (pV p = .agg #[.int .i64 n, .int .i64 x0, .int .i64 x1]) := Lib.hid (by unfold pV; rw [hn, hx0, hx1])
 have HRB := Lib.hid hrb
 obtain ⟨N0, hN0⟩ : ∃ N, nums .i64 (p.take 2) = N := ⟨_, rfl⟩
 rw [hN0] at Hcl Hpos Hfit Hone HE
 rw [HP.out]
 have HU := Lib.hid hU
 clear hrU bU BU bV BV hr hn hx0 hx1 hN0 hU
 go_enter Tryz.func59, Tryz.ntmps59
 go_wp2_with (rw [HU.out]; with_reducible refine wpList_copy_splice rfl (.tmp 7) (.tmp 8) _ _ rfl 3 Tryz.underlying24 info_int' (some ⟨pb, 1, none⟩) A 2 2 n c rfl rfl pb 1 [Value.int .i64 n, .int .i64 0, .int .i64 0] 101 Hg.out N0 Hcl.out Hpos.out Hfit.out Hone.out pb V Hb.out (Nat.le_refl _) ?_; intro w2 HG2 hb2; obtain ⟨B1, B2, b2⟩ := HE.out w2 hb2 HG2; have c0 := B1.cell 0; have c1 := B1.cell 1; have c2 := B1.cell 2; simp only [List.getElem?_cons_zero, List.getElem?_cons_succ] at c0 c1 c2; have r0 := B2.cell 0; have r1 := B2.cell 1; have r2 := B2.cell 2; simp only [List.getElem?_cons_zero, List.getElem?_cons_succ] at r0 r1 r2; have f0 := B2.frozen 0; have f1 := B2.frozen 1; have f2 := B2.frozen 2; have BX := ((B2.set 0 (.int .i64 n)).set 1 (.int .i64 x0)).set 2 (.int .i64 x1); have gX := Blk.grown_trans_one (Blk.grown_trans_one (Blk.gset w2 rb 0 (.int .i64 n)) (Blk.gset _ rb 1 (.int .i64 x0))) (Blk.gset _ rb 2 (.int .i64 x1)); obtain ⟨X, hX⟩ : ∃ X, ((w2.setCell ⟨rb, 0, none⟩ (.int .i64 n)).setCell ⟨rb, 1, none⟩ (.int .i64 x0)).setCell ⟨rb, 2, none⟩ (.int .i64 x1) = X := ⟨_, rfl⟩; rw [hX] at BX gX; have y0 := BX.cell 0; have y1 := BX.cell 1; have y2 := BX.cell 2; simp [List.set] at y0 y1 y2)
 have HF : Hid (Below w.heap.size w X) := Lib.hid (b2.grown gX b2.size (fun j hj => by injection hj with hj; omega))
 clear BX gX b2 HG2 hb2 B1 B2 HE Hg Hcl Hpos Hfit Hone
 go_wp2_with fail
 refine bodyPost_ret (v := .agg #[.int .i64 n, .int .i64 x0, .int .i64 x1]) ?_ rfl ⟨rfl, by have h := HF.out; rwa [HRB.out] at h⟩
 rw [Blk.results_cell1 rfl]
 go_simp
def eq3 (a b : Int × Int × Int) : Bool := a.1 == b.1 && (a.2.1 == b.2.1 && a.2.2 == b.2.2)
theorem eq3_iff {a b : Int × Int × Int} : eq3 a b = true ↔ a = b := by
 unfold eq3
 obtain ⟨a1, a2, a3⟩ := a
 obtain ⟨b1, b2, b3⟩ := b
 simp
theorem run_eq3 (x1 x2 x3 y1 y2 y3 : Int) (e : Bool) (he : eq3 (x1, x2, x3) (y1, y2, y3) = e) (W : World) : (binOp .eql 101 (.agg #[.int .i64 x1, .int .i64 x2, .int .i64 x3]) (.agg #[.int .i64 y1, .int .i64 y2, .int .i64 y3])).run Tryz.prog W = .ok (.bool e) W := by
 subst he
 have hi : ∃ i, Tryz.prog.info? 3 = some i := by
  have h : (Tryz.prog.info? 3).map (·.size) = some 1 := by kernel_rfl
  obtain ⟨i, hi, _⟩ := Option.map_eq_some_iff.1 h
  exact ⟨i, hi⟩
 obtain ⟨i, hi⟩ := hi
 have hc : Tryz.prog.cellsOf 3 = 1 := by kernel_rfl
 have hq := run_equalIn_array (P := Tryz.prog) (w := W) 9999 #[.int .i64 x1, .int .i64 x2, .int .i64 x3] #[.int .i64 y1, .int .i64 y2, .int .i64 y3] Tryz.underlying101 hi
 rw [hc] at hq
 have hf : ∀ a b : Int, (a = b ∧ (a == b) = true) ∨ ((a == b) = false ∧ a ≠ b) := fun a b => by
  by_cases h : a = b
  ·exact .inl ⟨h, by simp [h]⟩
  ·exact .inr ⟨by simp [h], h⟩
 have hr : (Op.equalIn 10000 101 (.agg #[.int .i64 x1, .int .i64 x2, .int .i64 x3]) (.agg #[.int .i64 y1, .int .i64 y2, .int .i64 y3])).run Tryz.prog W = .ok (eq3 (x1, x2, x3) (y1, y2, y3)) W := by
  refine hq.trans ?_
  unfold eq3
  simp only [show List.range 3 = [0, 1, 2] from rfl, Op.eqItems]
  rcases hf x1 y1 with ⟨rfl, h1⟩ | ⟨h1, n1⟩
  ·rcases hf x2 y2 with ⟨rfl, h2⟩ | ⟨h2, n2⟩
   ·rcases hf x3 y3 with ⟨rfl, h3⟩ | ⟨h3, n3⟩
    ·simp [go_sem, part]
    ·simp [go_sem, part, h3]
   ·simp [go_sem, part, h2]
  ·simp [go_sem, part, h1]
 clear hq
 go_simp
theorem is3_any (a0 a1 a2 b0 b1 b2 : Int) (E : Bool) (hE : eq3 (a0, a1, a2) (b0, b1, b2) = E) (w : World) : Calls Tryz.prog 60 #[.agg #[.int .i64 a0, .int .i64 a1, .int .i64 a2], .agg #[.int .i64 b0, .int .i64 b1, .int .i64 b2]] w (fun e w' => e = .returned (.bool E) ∧ Below w.heap.size w w') := by
 have heq := fun W => run_eq3 a0 a1 a2 b0 b1 b2 E hE W
 have HB : Hid (Below w.heap.size w ((w.alloc (.cells #[.int .i64 a0, .int .i64 a1, .int .i64 a2] 101)).alloc (.cells #[.int .i64 b0, .int .i64 b1, .int .i64 b2] 101))) := Lib.hid (((Below.refl _ w).alloc (Nat.le_refl _) _).alloc (by simp) _)
 clear hE
 go_enter Tryz.func60, Tryz.ntmps60
 go_wp2_with fail
 go_ret
 exact ⟨rfl, HB.out⟩
theorem pat {w : World} {base n c k : Nat} {A : Option Addr} {W : List (List Int)} (ho : w.ownsRow base 101 3 (.slice A n c) n (pcells W)) (hn : W.length = n) (hk : k < n) {x : List Int} (hx : W.getD k [] = x) :
  ∃ g, A = some ⟨g, 0, none⟩ ∧ base ≤ g ∧ g < w.heap.size ∧ w.cell? ⟨g, k * 3, none⟩ = some (.int .i64 x.length) ∧ w.cell? ⟨g, k * 3 + 1, none⟩ = some (.int .i64 (x.getD 0 0)) ∧ w.cell? ⟨g, k * 3 + 2, none⟩ = some (.int .i64 (x.getD 1 0)) := by
 rcases ho.2 with ⟨_, h0⟩ | ⟨g, cap, cur, hv, hbg, hg, rest⟩
 ·omega
 ·injection hv with e1 e2 e3
  subst e1
  have hat := pcells_at W k (by omega)
  rw [hx] at hat
  have hc := fun r (hr : r < 3) => (World.ownsRow.cellAt ho (k * 3 + r) (by omega)).trans (hat r hr)
  exact ⟨g, rfl, hbg, (Array.getElem?_eq_some_iff.1 hg).1, hc 0 (by omega), hc 1 (by omega), hc 2 (by omega)⟩
def Found (W : List (List Int)) (q : List Int) (n : Nat) (w : World) (e : Ending) (w' : World) : Prop :=
 ((∃ i, i < n ∧ pkey (W.getD i []) = pkey q ∧ (∀ j, j < i → pkey (W.getD j []) ≠ pkey q) ∧ e = .returned (.int .i64 i)) ∨ ((∀ j, j < n → pkey (W.getD j []) ≠ pkey q) ∧ e = .returned (.int .i64 (-1)))) ∧ Below w.heap.size w w'
set_option maxRecDepth 100000 in
theorem index_any (A : Option Addr) (base c n : Nat) (W : List (List Int)) (w : World) (ho : w.ownsRow base 101 3 (.slice A n c) n (pcells W)) (hn : W.length = n) (q : List Int) (hbig : n ≤ 4096) :
  Calls Tryz.prog 58 #[.slice A n c, .func (.func 60) #[pV q] #[]] w (Found W q n w) := by
 obtain ⟨b0, hb0⟩ : ∃ a, (q.length : Int) = a := ⟨_, rfl⟩
 obtain ⟨b1, hb1⟩ : ∃ a, q.getD 0 0 = a := ⟨_, rfl⟩
 obtain ⟨b2, hb2⟩ : ∃ a, q.getD 1 0 = a := ⟨_, rfl⟩
 have hq : pkey q = (b0, b1, b2) := by unfold pkey; rw [hb0, hb1, hb2]
 unfold Found pV
 rw [hq, hb0, hb1, hb2]
 have HO := Lib.hid (And.intro ho hn)
 clear ho hn hq hb0 hb1 hb2
 go_enter Tryz.func58, Tryz.ntmps58
 go_wp2_with fail
 go_loopw [8] (fun v wr => ∃ k : Nat, v = .int .i64 k ∧ k ≤ n ∧ Hid (Below w.heap.size w wr ∧ ∀ j, j < k → pkey (W.getD j []) ≠ (b0, b1, b2))) (fun v _ => n - (intOf v).toNat)
 case atStart => exact ⟨0, rfl, by omega, Lib.hid ⟨Below.refl _ _, fun j hj => by omega⟩⟩
 case round =>
  obtain ⟨k, rfl, hk, hst⟩ := hrel
  by_cases hlt : k < n
  ·have d1 : (0 : Int) ≤ (k : Int) := by omega
   have d2 : (k : Int) < (n : Int) := by omega
   obtain ⟨x, hx⟩ : ∃ x, W.getD k [] = x := ⟨_, rfl⟩
   obtain ⟨g, rfl, _, hgl, a0, a1, a2⟩ := pat (own_below HO.out.1 hst.out.1 (Nat.le_refl _)) HO.out.2 hlt hx
   obtain ⟨y0, hy0⟩ : ∃ a, (x.length : Int) = a := ⟨_, rfl⟩
   obtain ⟨y1, hy1⟩ : ∃ a, x.getD 0 0 = a := ⟨_, rfl⟩
   obtain ⟨y2, hy2⟩ : ∃ a, x.getD 1 0 = a := ⟨_, rfl⟩
   have hk3 : pkey (W.getD k []) = (y0, y1, y2) := by rw [hx]; unfold pkey; rw [hy0, hy1, hy2]
   rw [hy0] at a0
   rw [hy1] at a1
   rw [hy2] at a2
   obtain ⟨E, hE⟩ : ∃ E, eq3 (b0, b1, b2) (y0, y1, y2) = E := ⟨_, rfl⟩
   have HC := Lib.hid (is3_any b0 b1 b2 y0 y1 y2 E hE wr)
   have HK := Lib.hid (And.intro hk3 hE)
   clear hx hy0 hy1 hy2 hk3 hE
   go_wp2_with fail
   refine HC.out.mono ?_
   rintro e w1 ⟨rfl, b1'⟩
   have hb1 : Below w.heap.size w w1 := hst.out.1.trans (b1'.mono hst.out.1.size)
   cases E
   ·have hne : pkey (W.getD k []) ≠ (b0, b1, b2) := fun e => by
     have h1 := HK.out.2
     rw [← HK.out.1, e, eq3_iff.2 rfl] at h1
     cases h1
    have HN : Hid (Below w.heap.size w w1 ∧ ∀ j, j < k + 1 → pkey (W.getD j []) ≠ (b0, b1, b2)) := Lib.hid ⟨hb1, fun j hj => by
     rcases Nat.lt_or_ge j k with h | h
     ·exact hst.out.2 j h
     ·rw [show j = k by omega]
      exact hne⟩
    clear hst hne b1' hb1 HC HK a0 a1 a2
    go_wp2_with fail
    go_roundw
    case rel => exact ⟨k + 1, by go_num, by omega, HN⟩
    case measure => simp only [intOf]; omega
   ·have HF : Hid (pkey (W.getD k []) = (b0, b1, b2) ∧ (∀ j, j < k → pkey (W.getD j []) ≠ (b0, b1, b2)) ∧ Below w.heap.size w w1) := Lib.hid ⟨by rw [HK.out.1]; exact (eq3_iff.1 HK.out.2).symm, hst.out.2, hb1⟩
    clear hst b1' hb1 HC HK a0 a1 a2
    go_wp2_with fail
    go_ret
    exact ⟨.inl ⟨k, hlt, HF.out.1, HF.out.2.1, rfl⟩, HF.out.2.2⟩
  ·have hkn : k = n := by omega
   subst hkn
   go_wp2_with fail
   go_ret
   exact ⟨.inr ⟨hst.out.2, rfl⟩, hst.out.1⟩
end Pull
end Go.Proofs.YtkfdplfgaddkmaaGreat
