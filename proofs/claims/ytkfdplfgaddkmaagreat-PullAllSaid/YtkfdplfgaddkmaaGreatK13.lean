/-
  Several texts of this family in one: MendHeld, TreeAny, TreeRecs, TreeKids, TreeWork.
-/
import Derived.Test.YtkfdplfgaddkmaaGreatK3
import Derived.Test.YtkfdplfgaddkmaaGreatK12
import Derived.Test.YtkfdplfgaddkmaaGreatK11
import Derived.Laws.IdiomRangeMap
import Derived.Sort.OwnSorted
import Derived.OwnWalk
/-
 The document's Held and Get (layer 14).
-/
namespace Go.Proofs.YtkfdplfgaddkmaaGreat
namespace Mend
open Go.RowKit Vers Num Ring Disk Blk Tree
open Go.Proofs.YtkfdplfgaddkmaaGreat.Code hiding Bn
attribute [local go_sem ↓] Go.wp_at_zero Go.wp_at_succ
theorem take_at {l : List Rc} {k : Nat} (hk : k < l.length) : l.take (k + 1) = l.take k ++ [l.getD k r0] := by
 rw [List.take_succ_eq_append_getElem hk]
 simp [List.getD_eq_getElem?_getD, hk]
theorem held_take {l : List Rc} {k : Nat} {r : Rc} (hk : k < l.length) (hr : l.getD k r0 = r) : heldF (l.take (k + 1)) = withR (heldF (l.take k)) r := by
 rw [take_at hk, hr, held_snoc]
theorem getD_mem {l : List Rc} {k : Nat} (hk : k < l.length) : l.getD k r0 ∈ l := by
 rw [List.getD_eq_getElem?_getD, List.getElem?_eq_getElem hk]
 exact List.getElem_mem _
theorem held_len (l : List Rc) : (heldF l).length ≤ l.length := by
 have h : ∀ (l acc : List Rc), (l.foldl withR acc).length ≤ acc.length + l.length := by
  intro l
  induction l with
  | nil => intro acc; simp
  | cons r l ih =>
   intro acc
   have h1 := ih (withR acc r)
   have h2 := with_len acc r
   simp only [List.foldl_cons, List.length_cons]
   omega
 simpa [heldF] using h l []
theorem RowX.keepB {base B : Nat} {w w' : World} {v : Value} {ps : List Pr} (h : RowX base B w v ps) (hb : Below w.heap.size w w') (hB : B ≤ w.heap.size) : RowX base B w' v ps := by
 refine ⟨own_below h.1 hb (Nat.le_refl _), fun p hp => ⟨(h.2 p hp).1.below (hb.mono hB), (h.2 p hp).2⟩⟩
theorem Rb.below {w w' : World} {B : Nat} {A : Option Addr} {l : List Rc} (h : Rb w B A l) (hB : B ≤ w.heap.size) (hb : Below w.heap.size w w') : Rb w' B A l := fun hp => by
 obtain ⟨b, off, e, hbB, hc⟩ := h hp
 refine ⟨b, off, e, Nat.lt_of_lt_of_le hbB hb.size, fun j hj => ?_⟩
 obtain ⟨A', c', h0, h1, h2, h3⟩ := hc j hj
 exact ⟨A', c', (hb.cell (p := ⟨b, _, none⟩) hbB).trans h0, (hb.cell (p := ⟨b, _, none⟩) hbB).trans h1, h2.below (hb.mono hB), h3⟩
def Helds (B : Nat) (l : List Rc) (V : World) (e : Ending) (w' : World) : Prop :=
 (okL l ∧ ∃ A m c ps, e = .returned (.tuple #[.slice A m c, .bool true]) ∧ Hid (ps.map Prod.fst = heldF l ∧ (heldF l).length = m ∧ m ≤ c ∧ RowX V.heap.size B w' (.slice A m c) ps) ∧ Below V.heap.size V w') ∨
 (¬ okL l ∧ e = .returned (.tuple #[.slice none 0 0, .bool false]) ∧ Below V.heap.size V w')
def HeldUp (B : Nat) (l : List Rc) (n : Nat) (V : World) (v q : Value) (wr : World) : Prop :=
 ∃ (k na : Nat) (Aa : Option Addr) (ca : Nat), q = .int .i64 k ∧ k ≤ n ∧ v = .slice Aa na ca ∧ na ≤ k ∧ Hid ((heldF (l.take k)).length = na ∧ na ≤ ca ∧ (∀ j, j < k → okR (l.getD j r0)) ∧ ∃ ps, ps.map Prod.fst = heldF (l.take k) ∧ RowX V.heap.size B wr (.slice Aa na ca) ps ∧ Below V.heap.size V wr)
set_option maxRecDepth 100000 in
set_option maxHeartbeats 4000000 in
theorem held_any (A : Option Addr) (c n B : Nat) (l : List Rc) (hn : l.length = n) (hbig : n ≤ 3518437208882) (V : World) (hB : B ≤ V.heap.size) (hr : Rb V B A l) :
  Calls Tryz.prog 35 #[.slice A n c] V (Helds B l V) := by
 have HP := Lib.hid (And.intro hn (And.intro hB hr))
 have HI : Hid (HeldUp B l n V (.slice none 0 0) (.int .i64 0) V) := Lib.hid ⟨0, 0, none, 0, rfl, by omega, rfl, Nat.le_refl _, Lib.hid ⟨rfl, Nat.le_refl _, (fun j hj => by omega), [], rfl, rowX_nil _ _ _, Below.refl _ _⟩⟩
 clear hn hB hr
 go_enter Tryz.func35, Tryz.ntmps35
 go_wp2_with fail
 go_loopw [4, 5] (fun v q wr => HeldUp B l n V v q wr) (fun _ q _ => n - (intOf q).toNat)
 case atStart => exact HI.out
 case round =>
  clear HI
  obtain ⟨k, na, Aa, ca, rfl, hk, rfl, hna, hst⟩ := hrel
  have hbV : Below V.heap.size V wr := by obtain ⟨_, _, _, ps, _, _, hb⟩ := hst.out; exact hb
  by_cases hlt : k < n
  ·have d1 : (0 : Int) ≤ (k : Int) := by omega
   have d2 : (k : Int) < (n : Int) := by omega
   obtain ⟨pb, off, A4, c4, rfl, _, hbB, k0, k1, k2, k3⟩ := HP.out.2.2.at HP.out.1 HP.out.2.1 hbV hlt rfl
   obtain ⟨r, hrr⟩ : ∃ r, l.getD k r0 = r := ⟨_, rfl⟩
   rw [hrr] at k0 k1 k2 k3
   obtain ⟨key', lv'⟩ := r
   simp only at k0 k1 k2 k3
   obtain ⟨ml, hml⟩ : ∃ ml, lv'.length = ml := ⟨_, rfl⟩
   rw [hml] at k1 k3
   have hkl : k < l.length := by have := HP.out.1; omega
   have hVw := hbV.size
   have hBw := Nat.le_trans HP.out.2.1 hVw
   have H1 := refrecord_any A4 c4 ml key' lv' hml k3.2.1 k3.2.2 wr (k2.more hBw)
   by_cases hok : okR (key', lv')
   ·rw [decide_eq_true hok] at H1
    have H1 := Lib.hid H1
    have HW : Hid (∀ w3, Below wr.heap.size wr w3 → w3.cell? ⟨pb, off + k * 2, none⟩ = some (.string key') ∧ w3.cell? ⟨pb, off + k * 2 + 1, none⟩ = some (.slice A4 ml c4) ∧ Hid (Calls Tryz.prog 40 #[.slice Aa na ca, .agg #[.string key', .slice A4 ml c4]] w3 (fun e w4 => ∃ A5 n5 c5, e = .returned (.slice A5 n5 c5) ∧ Hid (HeldUp B l n V (.slice A5 n5 c5) (.int .i64 ((k : Int) + 1)) w4)))) := Lib.hid fun w3 b3 => by
     obtain ⟨g1, g2, g3, ps, hps, hrow, hb⟩ := hst.out
     refine ⟨(b3.cell (p := ⟨pb, _, none⟩) (by show pb < _; omega)).trans k0, (b3.cell (p := ⟨pb, _, none⟩) (by show pb < _; omega)).trans k1, Lib.hid ?_⟩
     have hrow3 := RowX.keepB hrow b3 hBw
     have hrb := hrow3.rb
     rw [hps] at hrb
     refine (with_any Aa A4 ca c4 na ml B (heldF (l.take k)) key' lv' g1 (by omega) hml k3 w3 (Nat.le_trans hBw b3.size) hrb (k2.below (b3.mono hBw))).mono ?_
     rintro e w4 ⟨A5, n5, c5, ps5, rfl, h5, b4⟩
     refine ⟨A5, n5, c5, rfl, Lib.hid ⟨k + 1, n5, A5, c5, by go_num, by omega, rfl, ?_, Lib.hid ?_⟩⟩
     ·have h6 := with_len (heldF (l.take k)) (key', lv')
      rw [g1, h5.out.2.1] at h6
      omega
     ·rw [held_take hkl hrr]
      refine ⟨h5.out.2.1, h5.out.2.2.1, fun j hj => ?_, ps5, h5.out.1, h5.out.2.2.2.low (Nat.le_trans hVw b3.size), hb.trans ((b3.mono hVw).trans (b4.mono (Nat.le_trans hVw b3.size)))⟩
      rcases Nat.lt_or_ge j k with h | h
      ·exact g3 j h
      ·rw [show j = k by omega, hrr]
       exact hok
    clear hst hbV k2 k3 hrr hml hok hBw hVw
    go_wp2_with fail
    refine H1.out.mono ?_
    rintro e3 w3 ⟨rfl, b3⟩
    obtain ⟨q0, q1, HC⟩ := HW.out w3 b3
    clear b3 HW H1
    go_wp2_with fail
    refine HC.out.mono ?_
    rintro e4 w4 ⟨A5, n5, c5, rfl, HF⟩
    go_wp2_with fail
    go_roundw
    case rel => exact HF.out
    case measure => simp only [intOf]; omega
   ·rw [decide_eq_false hok] at H1
    have H1 := Lib.hid H1
    have HN : Hid (¬ okL l ∧ Below V.heap.size V wr) := Lib.hid ⟨fun h => hok (by rw [← hrr]; exact h _ (getD_mem hkl)), hbV⟩
    clear hst hbV k2 k3 hrr hml hok hBw hVw
    go_wp2_with fail
    refine H1.out.mono ?_
    rintro e3 w3 ⟨rfl, b3⟩
    have HE : Hid (Helds B l V (.returned (.tuple #[.slice none 0 0, .bool false])) w3) := Lib.hid (.inr ⟨HN.out.1, rfl, HN.out.2.trans (b3.mono HN.out.2.size)⟩)
    clear b3 H1
    go_wp2_with fail
    go_ret2
    exact HE.out
  ·have hkm : k = n := by omega
   subst hkm
   have hfull : l.take k = l := List.take_of_length_le (by have := HP.out.1; omega)
   rw [hfull] at hst
   have HF : Hid (Helds B l V (.returned (.tuple #[.slice Aa na ca, .bool true])) wr) := Lib.hid (.inl (by
    obtain ⟨g1, g2, g3, ps, hps, hrow, hb⟩ := hst.out
    refine ⟨fun r hr => ?_, Aa, na, ca, ps, rfl, Lib.hid ⟨hps, g1, g2, hrow⟩, hb⟩
    obtain ⟨j, hj, rfl⟩ := List.mem_iff_getElem.1 hr
    have h1 := g3 j (by have := HP.out.1; omega)
    rwa [List.getD_eq_getElem?_getD, List.getElem?_eq_getElem hj] at h1))
   clear hst hfull hbV
   go_wp2_with fail
   go_ret2
   exact HF.out
theorem find_drop {l : List Rc} {i : Nat} {r : Rc} (hi : i < l.length) (hr : l.getD i r0 = r) (key : Nm) : find (l.drop i) key = if r.1 = key then some r.2 else find (l.drop (i + 1)) key := by
 rw [drop_at hi, hr]
 rfl
def Gets (B : Nat) (zs : List Vr) (w : World) (e : Ending) (w' : World) : Prop := ∃ A m c, e = .returned (.slice A m c) ∧ Hid (zs.length = m ∧ m ≤ c ∧ m ≤ 140737488355328 ∧ Vs w 0 B A zs) ∧ w' = w
set_option maxRecDepth 100000 in
set_option maxHeartbeats 2000000 in
theorem get_any (A : Option Addr) (c n B : Nat) (l : List Rc) (hn : l.length = n) (key : Nm) (w : World) (hB : B ≤ w.heap.size) (hr : Rb w B A l) (hbig : n ≤ 140737488355328) :
  Calls Tryz.prog 38 #[.slice A n c, .string key] w (Gets B (getF l key) w) := by
 have HP := Lib.hid (And.intro hn (And.intro hB hr))
 clear hn hB hr
 go_enter Tryz.func38, Tryz.ntmps38
 go_wp2_with fail
 go_loopw [5] (fun q wr => ∃ i : Nat, q = .int .i64 i ∧ i ≤ n ∧ Hid (find l key = find (l.drop i) key ∧ wr = w)) (fun q _ => n - (intOf q).toNat)
 case atStart => exact ⟨0, rfl, by omega, Lib.hid ⟨by simp, rfl⟩⟩
 case round =>
  obtain ⟨i, rfl, hi, hst⟩ := hrel
  obtain ⟨hf, rfl⟩ := hst.out
  clear hst
  by_cases hlt : i < n
  ·have d1 : (0 : Int) ≤ (i : Int) := by omega
   have d2 : (i : Int) < (n : Int) := by omega
   obtain ⟨pb, off, A4, c4, rfl, _, hbB, k0, k1, k2, k3⟩ := HP.out.2.2.at HP.out.1 HP.out.2.1 (Below.refl _ _) hlt rfl
   obtain ⟨r, hrr⟩ : ∃ r, l.getD i r0 = r := ⟨_, rfl⟩
   have hfd := find_drop (by have := HP.out.1; omega) hrr key
   rw [hrr] at k0 k1 k2 k3
   obtain ⟨key', lv'⟩ := r
   simp only at k0 k1 k2 k3 hfd
   obtain ⟨ml, hml⟩ : ∃ ml, lv'.length = ml := ⟨_, rfl⟩
   rw [hml] at k1 k3
   by_cases hkk : key' = key
   ·have e1 : (key'.toList == key.toList) = true := by rw [hkk]; simp
    rw [if_pos hkk] at hfd
    have HF : Hid (Gets B (getF l key) wr (.returned (.slice A4 ml c4)) wr) := Lib.hid ⟨A4, ml, c4, rfl, Lib.hid (by
     have : getF l key = lv' := by unfold getF; rw [hf, hfd]; rfl
     rw [this]
     exact ⟨hml, k3.1, k3.2.1, k2⟩), rfl⟩
    clear hf hfd hkk hrr hml k2 k3
    go_wp2_with fail
    go_ret
    exact HF.out
   ·have e1 : (key'.toList == key.toList) = false := by rw [nm_eq]; exact decide_eq_false hkk
    rw [if_neg hkk] at hfd
    have HF := Lib.hid (hf.trans hfd)
    clear hf hfd hkk hrr hml k2 k3 k1
    go_wp2_with fail
    go_roundw
    case rel => exact ⟨i + 1, by go_num, by omega, Lib.hid ⟨HF.out, by first | rfl | trivial⟩⟩
    case measure => simp only [intOf]; omega
  ·have hin : i = n := by omega
   subst hin
   have HF : Hid (Gets B (getF l key) wr (.returned (.slice none 0 0)) wr) := Lib.hid ⟨none, 0, 0, rfl, Lib.hid (by
    have : getF l key = [] := by unfold getF; rw [hf, List.drop_eq_nil_of_le (by have := HP.out.1; omega)]; rfl
    rw [this]
    exact ⟨rfl, Nat.le_refl _, by omega, Vs.nil _⟩), rfl⟩
   clear hf
   go_wp2_with fail
   go_ret
   exact HF.out
end Mend
end Go.Proofs.YtkfdplfgaddkmaaGreat

/-
 Is a record beneath a path?
-/
namespace Go.Proofs.YtkfdplfgaddkmaaGreat
namespace Tree
open Go.RowKit Vers Num Ring Disk Blk
open Go.Proofs.YtkfdplfgaddkmaaGreat.Code hiding Bn
attribute [local go_sem ↓] Go.wp_at_zero Go.wp_at_succ

theorem info_map : (Tryz.prog.info? 93).map (fun i => (i.zero, i.size, i.bytes)) = some (some (.map none), 1, 8) := by kernel_rfl
theorem cut_maps (w : World) (tb a b : Nat) (h1 : a < b) (h2 : b ≤ 256) : (Instr.sliceAt 122 (.pointer (some ⟨tb, 0, none⟩)) (some (.int .i64 (a : Int))) (some (.int .i64 (b : Int))) none).run Tryz.prog w = .ok (.slice (some ⟨tb, a, none⟩) (b - a) (256 - a)) w := by
 obtain ⟨i0, hi0, hz0, hz1, hz2⟩ := info_parts info_map
 rw [run_sliceAt_array_lh w 122 ⟨tb, 0, none⟩ (by kernel_rfl) .i64 .i64 (a : Int) (b : Int) (by omega) (by omega) (by rw [show Tryz.prog.arrayLen 122 = 256 by kernel_rfl]; omega)]
 rw [show Tryz.prog.elem 122 = 93 by kernel_rfl, show Tryz.prog.arrayLen 122 = 256 by kernel_rfl]
 have h3 : ¬ 256 = a := by omega
 simp [sizeOf, typeInfo, hi0, hz1, slicedAt, Addr.add]
 rw [if_neg h3]
 by_cases h0 : a = 0
 ·rw [if_pos h0, h0]
 ·rw [if_neg h0]
theorem beneath_leaf {all : List Rc} {p : List Int} (hp : okP p) : beneath all p = [] ↔ ∀ j, j < toN p - fromN p → leafR all (fromN p + j) = [] := by
 constructor
 ·intro h j hj
  refine List.filter_eq_nil_iff.2 fun r hr => ?_
  intro e
  have e2 : leafN r.1 = fromN p + j := by simpa using e
  have : r ∈ beneath all p := beneath_mem.2 ⟨hr, (in_leaf hp r.1).2 ⟨by omega, by omega⟩⟩
  rw [h] at this
  cases this
 ·intro h
  refine List.filter_eq_nil_iff.2 fun r hr => ?_
  intro e
  have e2 := (in_leaf hp r.1).1 e
  have h3 := h (leafN r.1 - fromN p) (by omega)
  rw [show fromN p + (leafN r.1 - fromN p) = leafN r.1 by omega] at h3
  have : r ∈ leafR all (leafN r.1) := leaf_mem.2 ⟨hr, rfl⟩
  rw [h3] at this
  cases this
section
variable {F : Nat → Prop} {w : World} {tb : Nat} {mv : Nat → Option Nat} {f : Fp} {all : List Rc} {Bz : List Int → Prop}
set_option maxRecDepth 100000 in
theorem any_any (h : TR F w tb mv f all Bz) (A : Option Addr) (c n : Nat) (p : List Int) (hn : p.length = n) (hp : okP p) (hr : Ns .i64 w w.heap.size A p) :
  Calls Tryz.prog 118 #[hd tb, .slice A n c] w (fun e w' => e = .returned (.bool (decide (beneath all p ≠ []))) ∧ ∃ q, w' = w.drewN q) := by
 have H1 := Lib.hid (beneath_any A c n p hn hp w hr)
 obtain ⟨f1, f2⟩ := from_lt hp
 have HE := Lib.hid (beneath_leaf (all := all) hp)
 obtain ⟨a, ha⟩ : ∃ a, fromN p = a := ⟨_, rfl⟩
 obtain ⟨b, hb⟩ : ∃ b, toN p = b := ⟨_, rfl⟩
 obtain ⟨D, hD⟩ : ∃ D, decide (beneath all p ≠ []) = D := ⟨_, rfl⟩
 rw [ha, hb] at H1 HE f1
 rw [hb] at f2
 rw [hD]
 have HD : Hid (D = true ↔ ¬ ∀ j, j < b - a → leafR all (a + j) = []) := Lib.hid (by rw [← hD, decide_eq_true_eq, ← HE.out])
 have HT := Lib.hid h
 have hcut := fun W => cut_maps W tb a b f1 f2
 have hz : (Value.pointer (some ⟨tb, 0, none⟩)) = hd tb := rfl
 clear hr hn hp ha hb hD h
 unfold hd at hz ⊢
 clear hz
 go_enter Tryz.func118, Tryz.ntmps118
 go_wp2_with fail
 refine H1.out.mono ?_
 rintro e w1 ⟨rfl, q, rfl⟩
 have HT1 : Hid (TR F (w.drewN q) tb mv f all Bz) := Lib.hid (HT.out.keep (Nat.le_refl _) fun _ _ => rfl)
 obtain ⟨W, hW⟩ : ∃ W, w.drewN q = W := ⟨_, rfl⟩
 rw [hW] at HT1
 have HW : Hid (∃ q, W = w.drewN q) := Lib.hid ⟨q, hW.symm⟩
 rw [hW]
 clear hW H1 HE HT
 go_wp2_with fail
 obtain ⟨m, hm⟩ : ∃ m, b - a = m := ⟨_, rfl⟩
 have hm2 : m ≤ 256 := by omega
 have HM := Lib.hid hm
 rw [hm]
 clear hm
 go_loop [21] (fun v => ∃ k : Nat, v = .int .i64 k ∧ k ≤ m ∧ Hid (∀ j, j < k → leafR all (a + j) = [])) (fun v => m - (intOf v).toNat)
 case atStart => exact ⟨0, rfl, by omega, Lib.hid (fun j hj => by omega)⟩
 case round =>
  obtain ⟨k, rfl, hk, hst⟩ := hrel
  by_cases hlt : k < m
  ·have d1 : (0 : Int) ≤ (k : Int) := by omega
   have d2 : (k : Int) < (m : Int) := by omega
   have hi : a + k < 256 := by have := HM.out; omega
   have hc := HT1.out.cell hi
   obtain ⟨mm, hmm⟩ : ∃ mm, mv (a + k) = mm := ⟨_, rfl⟩
   have hl := HT1.out.small hi mm hmm
   rw [hmm] at hc
   obtain ⟨y, hy⟩ : ∃ y, (leafR all (a + k)).length = y := ⟨_, rfl⟩
   rw [hy] at hl
   clear hmm
   by_cases hy0 : y = 0
   ·have HN : Hid (∀ j, j < k + 1 → leafR all (a + j) = []) := Lib.hid fun j hj => by
     by_cases e : j = k
     ·subst e
      exact List.eq_nil_of_length_eq_zero (by omega)
     ·exact hst.out j (by omega)
    subst hy0
    clear hst hy hi
    go_wp2_with fail
    go_round
    case rel => exact ⟨k + 1, rfl, by omega, HN⟩
    case measure => simp only [intOf]; omega
   ·have hpos : (0 : Int) < (y : Int) := by omega
    have HN : Hid (D = true) := Lib.hid (HD.out.2 fun hall => by
     have := hall k (by have := HM.out; omega)
     rw [this] at hy
     simp at hy
     omega)
    clear hst hy hi
    go_wp2_with fail
    go_ret
    exact ⟨by rw [HN.out]; rfl, HW.out⟩
  ·have hkm : k = m := by omega
   subst hkm
   have HN : Hid (D = false) := Lib.hid (by
    rw [Bool.eq_false_iff]
    intro e
    refine HD.out.1 e fun j hj => hst.out j ?_
    have := HM.out
    omega)
   clear hst
   go_wp2_with fail
   go_ret
   exact ⟨by rw [HN.out]; rfl, HW.out⟩
end
end Tree
end Go.Proofs.YtkfdplfgaddkmaaGreat

/-
 The records beneath a path, rising by keys.
-/
namespace Go.Proofs.YtkfdplfgaddkmaaGreat
namespace Tree
open Go.RowKit Vers Num Ring Disk Blk Go.Maps
open Go.Proofs.YtkfdplfgaddkmaaGreat.Code hiding Bn
attribute [local go_sem ↓] Go.wp_at_zero Go.wp_at_succ

theorem info_rec : (Tryz.prog.info? 70).map (fun i => (i.zero, i.size, i.bytes)) = some (some (.agg #[.string ⟨#[]⟩, .slice none 0 0]), 2, 40) := by kernel_rfl
theorem nodup_len {α : Type} [DecidableEq α] : ∀ {l m : List α}, l.Nodup → (∀ x ∈ l, x ∈ m) → l.length ≤ m.length
 | [], _, _, _ => Nat.zero_le _
 | x :: l, m, h, hs => by
  have hx := hs x (by simp)
  obtain ⟨h1, h2⟩ := List.nodup_cons.1 h
  have ih := nodup_len (l := l) (m := m.erase x) h2 fun y hy => (List.mem_erase_of_ne (fun (e : y = x) => h1 (by rw [← e]; exact hy))).2 (hs y (by simp [hy]))
  rw [List.length_erase_of_mem hx] at ih
  have := List.length_pos_of_mem hx
  simp only [List.length_cons]
  omega
def Coll (all : List Rc) (a k : Nat) (more : Rc → Prop) (ps : List Pr) : Prop :=
 (ps.map Prod.fst).Nodup ∧ ∀ r, r ∈ ps.map Prod.fst ↔ r ∈ all ∧ ((a ≤ leafN r.1 ∧ leafN r.1 < a + k) ∨ (leafN r.1 = a + k ∧ more r))
theorem coll_start (all : List Rc) (a : Nat) : Coll all a 0 (fun _ => False) [] := ⟨by simp, fun r => by simp; try (intro _ _; omega)⟩
theorem Coll.next {all : List Rc} {a k : Nat} {more : Rc → Prop} {ps : List Pr} (h : Coll all a k more ps) (hm : ∀ r, r ∈ all → leafN r.1 = a + k → more r) : Coll all a (k + 1) (fun _ => False) ps := by
 refine ⟨h.1, fun r => (h.2 r).trans ?_⟩
 constructor
 ·rintro ⟨h1, h2 | ⟨h2, _⟩⟩
  ·exact ⟨h1, .inl (by omega)⟩
  ·exact ⟨h1, .inl (by omega)⟩
 ·rintro ⟨h1, h2 | ⟨_, h2⟩⟩
  ·by_cases e : leafN r.1 = a + k
   ·exact ⟨h1, .inr ⟨e, hm r h1 e⟩⟩
   ·exact ⟨h1, .inl (by omega)⟩
  ·cases h2
theorem Coll.same {all : List Rc} {a k : Nat} {more more' : Rc → Prop} {ps : List Pr} (h : Coll all a k more ps) (hm : ∀ r, r ∈ all → leafN r.1 = a + k → (more r ↔ more' r)) : Coll all a k more' ps := by
 refine ⟨h.1, fun r => (h.2 r).trans ?_⟩
 constructor
 ·rintro ⟨h1, h2 | ⟨h2, h3⟩⟩
  ·exact ⟨h1, .inl h2⟩
  ·exact ⟨h1, .inr ⟨h2, (hm r h1 h2).1 h3⟩⟩
 ·rintro ⟨h1, h2 | ⟨h2, h3⟩⟩
  ·exact ⟨h1, .inl h2⟩
  ·exact ⟨h1, .inr ⟨h2, (hm r h1 h2).2 h3⟩⟩
theorem Coll.add {all : List Rc} {a k : Nat} {more more' : Rc → Prop} {ps : List Pr} (h : Coll all a k more ps) (p : Pr) (hp : p.1 ∈ all) (hl : leafN p.1.1 = a + k) (hno : ¬ more p.1) (hm : ∀ r, r ∈ all → leafN r.1 = a + k → (more' r ↔ more r ∨ r = p.1)) : Coll all a k more' (ps ++ [p]) := by
 refine ⟨?_, fun r => ?_⟩
 ·rw [List.map_append, List.nodup_append]
  refine ⟨h.1, by simp, fun x hx y hy e => ?_⟩
  simp at hy
  subst hy
  subst e
  rcases (h.2 _).1 hx with ⟨_, h2 | ⟨_, h3⟩⟩
  ·omega
  ·exact hno h3
 ·rw [List.map_append, List.mem_append, h.2 r]
  simp only [List.map_cons, List.map_nil, List.mem_singleton]
  constructor
  ·rintro (⟨h1, h2 | ⟨h2, h3⟩⟩ | rfl)
   ·exact ⟨h1, .inl h2⟩
   ·exact ⟨h1, .inr ⟨h2, (hm r h1 h2).2 (.inl h3)⟩⟩
   ·exact ⟨hp, .inr ⟨hl, (hm _ hp hl).2 (.inr rfl)⟩⟩
  ·rintro ⟨h1, h2 | ⟨h2, h3⟩⟩
   ·exact .inl ⟨h1, .inl h2⟩
   ·rcases (hm r h1 h2).1 h3 with h4 | rfl
    ·exact .inl ⟨h1, .inr ⟨h2, h4⟩⟩
    ·exact .inr rfl
theorem Coll.len {all : List Rc} {a k : Nat} {more : Rc → Prop} {ps : List Pr} (h : Coll all a k more ps) : ps.length ≤ all.length := by
 have := nodup_len h.1 fun x hx => ((h.2 x).1 hx).1
 simpa using this
theorem coll_end {all : List Rc} {p : List Int} (hp : okP p) (hs : Srt all) {m : Nat} (hm : toN p - fromN p = m) {ps ps' : List Pr} (h : Coll all (fromN p) m (fun _ => False) ps) (h1 : ps'.Perm ps) (h2 : ps'.Pairwise fun x y => nlt y.1.1 x.1.1 = false) : ps'.map Prod.fst = beneath all p := by
 have hf := from_lt hp
 have hmem : ∀ r, r ∈ ps'.map Prod.fst ↔ r ∈ beneath all p := fun r => by
  rw [(h1.map Prod.fst).mem_iff, h.2 r, beneath_mem, in_leaf hp]
  constructor
  ·rintro ⟨q1, q2 | ⟨_, q2⟩⟩
   ·exact ⟨q1, by omega⟩
   ·cases q2
  ·rintro ⟨q1, q2⟩
   exact ⟨q1, .inl (by omega)⟩
 have hnd : (ps'.map Prod.fst).Nodup := (h1.map Prod.fst).nodup_iff.2 h.1
 have hsrt : Srt (ps'.map Prod.fst) := by
  unfold Srt
  rw [List.pairwise_map]
  have hk : ps'.Pairwise fun x y => x.1 ≠ y.1 := by
   unfold List.Nodup at hnd
   rwa [List.pairwise_map] at hnd
  refine List.Pairwise.imp_of_mem ?_ (List.Pairwise.and hk h2)
  rintro x y hx hy ⟨e1, e2⟩
  have m1 := (beneath_mem.1 ((hmem _).1 (List.mem_map.2 ⟨x, hx, rfl⟩))).1
  have m2 := (beneath_mem.1 ((hmem _).1 (List.mem_map.2 ⟨y, hy, rfl⟩))).1
  refine nlt_tri e2 fun e => e1 ?_
  have f1 := find_mem hs m1
  have f2 := find_mem hs m2
  rw [← e, f2] at f1
  exact Prod.ext e.symm (by injection f1 with f1; exact f1.symm)
 exact srt_mem hsrt (beneath_srt hs p) hmem

theorem map_entry {D : DataW Value} {l : Vl} (hm : MapV D l) {s : Nm} {kl : Lit} (hk : keyOf Tryz.prog 9 (.string s) = some kl) {cv : Value} {yd : DataW Value} {yp : List MemPlace} (hv : heldE cv = some (yd, yp)) (hat : ∀ zd, D.atKey kl zd = yd) : (s, cv) ∈ l := by
 have e0 : DataW.held cv = yd := congrArg Prod.fst (Option.some.inj hv)
 subst e0
 cases hf : find l s with
 | none =>
  have h1 := hm s kl hk (.held (.bool true))
  have h2 := hm s kl hk (.held (.bool false))
  rw [hat, hf] at h1 h2
  have h3 := h1.symm.trans h2
  simp at h3
 | some v =>
  have h1 := hm s kl hk (.held (.bool true))
  rw [hat, hf] at h1
  have h2 : cv = v := DataW.held.inj h1
  subst h2
  exact find_some hf
def NewRs (l : List Rc) (w : World) (e : Ending) (w' : World) : Prop :=
 ∃ A n c ps, e = .returned (.slice A n c) ∧ Hid (ps.map Prod.fst = l ∧ n = l.length ∧ n ≤ c ∧ Got w.heap.size w' A ps) ∧ Below w.heap.size w w'
section
variable {F : Nat → Prop} {w : World} {tb : Nat} {mv : Nat → Option Nat} {f : Fp} {all : List Rc} {Bz : List Int → Prop}
def Going (all : List Rc) (a m : Nat) (w : World) (v q : Value) (wr : World) : Prop :=
 ∃ (k : Nat) (ps : List Pr), q = .int .i64 k ∧ k ≤ m ∧ Hid (RowT w.heap.size wr.heap.size wr v ps ∧ Coll all a k (fun _ => False) ps) ∧ Below w.heap.size w wr
set_option maxRecDepth 100000 in
set_option maxHeartbeats 2000000 in
theorem recs_any (h : TR F w tb mv f all Bz) (hN : all.length ≤ 3518437208882) (A : Option Addr) (c n : Nat) (p : List Int) (hn : p.length = n) (hp : okP p) (hbig : n ≤ 140737488355328) (hr : Ns .i64 w w.heap.size A p) :
  Calls Tryz.prog 51 #[hd tb, .slice A n c] w (NewRs (beneath all p) w) := by
 obtain ⟨i0, hi, hz0, hz1, hz2⟩ := info_parts info_rec
 have H0 := Lib.hid (isPath_any A c n p hn hbig w hr)
 rw [decide_eq_true hp] at H0
 have H1 := Lib.hid (beneath_any A c n p hn hp w hr)
 obtain ⟨f1, f2⟩ := from_lt hp
 have HE : Hid (∀ {m : Nat}, toN p - fromN p = m → ∀ {ps ps' : List Pr}, Coll all (fromN p) m (fun _ => False) ps → ps'.Perm ps → (ps'.Pairwise fun x y => nlt y.1.1 x.1.1 = false) → ps'.map Prod.fst = beneath all p) := Lib.hid (fun hm _ _ q1 q2 q3 => coll_end hp h.ok.1 hm q1 q2 q3)
 obtain ⟨a, ha⟩ : ∃ a, fromN p = a := ⟨_, rfl⟩
 obtain ⟨b, hb⟩ : ∃ b, toN p = b := ⟨_, rfl⟩
 rw [ha, hb] at H1 HE f1
 rw [hb] at f2
 obtain ⟨R, hR⟩ : ∃ R, beneath all p = R := ⟨_, rfl⟩
 rw [hR] at HE ⊢
 have HT := Lib.hid h
 have hcut := fun W => cut_maps W tb a b f1 f2
 have HN := Lib.hid hN
 clear hr hn hp ha hb hR h hN
 unfold hd
 go_enter Tryz.func51, Tryz.ntmps51
 go_wp2_with fail
 refine H0.out.mono ?_
 rintro e w1 ⟨rfl, rfl⟩
 go_wp2_with fail
 refine H1.out.mono ?_
 rintro e w1 ⟨rfl, q, rfl⟩
 have HB1 : Hid (Below w.heap.size w (w.drewN q) ∧ (w.drewN q).heap.size = w.heap.size) := Lib.hid ⟨⟨rfl, rfl, rfl, Nat.le_refl _, fun _ _ => rfl⟩, rfl⟩
 obtain ⟨W, hW⟩ : ∃ W, w.drewN q = W := ⟨_, rfl⟩
 rw [hW] at HB1 ⊢
 clear hW H1 H0
 go_wp2_with fail
 obtain ⟨m, hm⟩ : ∃ m, b - a = m := ⟨_, rfl⟩
 have hm2 : m ≤ 256 := by omega
 have HM := Lib.hid hm
 rw [hm]
 clear hm
 go_loopw [5, 27] (fun v q wr => Going all a m w v q wr) (fun _ q _ => m - (intOf q).toNat)
 case atStart => exact ⟨0, [], rfl, by omega, Lib.hid ⟨rowT_nil _ _ _, coll_start _ _⟩, HB1.out.1⟩
 case round =>
  obtain ⟨k, ps, rfl, hk, hst, hb⟩ := hrel
  by_cases hlt : k < m
  ·have d1 : (0 : Int) ≤ (k : Int) := by omega
   have d2 : (k : Int) < (m : Int) := by omega
   have hi256 : a + k < 256 := by have := HM.out; omega
   have HTr := Lib.hid (HT.out.below hb)
   have hc := HTr.out.cell hi256
   have HB := Lib.hid hb
   obtain ⟨mm, hmm⟩ : ∃ mm, mv (a + k) = mm := ⟨_, rfl⟩
   have HL := Lib.hid (HTr.out.leaf (a + k) hi256)
   rw [hmm] at hc HL
   clear hmm hb
   rcases mm with _ | mb
   ·-- no map there
    have HN' : Hid (∀ v w', RowT w.heap.size wr.heap.size wr v ps → Below wr.heap.size wr w' → Going all a m w v (.int .i64 ((k : Int) + 1)) w') := Lib.hid fun v w' h1 h2 => ⟨k + 1, ps, by go_num, by omega, Lib.hid ⟨(h1.below h2).other (Nat.le_refl _), hst.out.2.next fun r hr e => by
      have h3 := HL.out.1 rfl
      have : r ∈ leafR all (a + k) := leaf_mem.2 ⟨hr, e⟩
      rw [h3] at this
      cases this⟩, HB.out.trans (h2.mono HB.out.size)⟩
    have hrg := run_range_nilMap (P := Tryz.prog) wr 93 9 67 Tryz.underlying93
    have hnx := fun ty => run_next_nilMap (P := Tryz.prog) wr ty 0 0 #[]
    have HV := Lib.hid hst.out.1
    clear hst
    go_wp2_with fail
    refine wp_loop_rounds 1 ?_
    rw [rounds_succ]
    go_wp2_with fail
    go_roundw
    case rel => exact HN'.out _ _ HV.out ((Below.refl _ _).alloc (Nat.le_refl _) _)
    case measure => simp only [intOf]; omega
   ·obtain ⟨wo, hwo⟩ : ∃ W, W = wr := ⟨_, rfl⟩
    subst hwo
    obtain ⟨D0, n0, hown, hm, hsr, hok, hsz⟩ := (HL.out.2 mb rfl).2
    have hmb : mb < w.heap.size := HT.out.lt _ (HL.out.2 mb rfl).1
    have HMM := Lib.hid (And.intro hm (And.intro hsr hok))
    have HST := Lib.hid hst.out
    clear hm hsr hok hsz hst
    go_wp2_with (first
     | (at_range; refine wpList_range_own _ rfl _ 93 rfl 9 67 keyed Tryz.underlying93 _ mb n0 _ rfl hown ?_; intro w0 hrg0 hg0 hs0)
     | fail)
    go_frame
    have hb0 : Below wo.heap.size wo w0 := (Below.refl _ _).grown hg0 (Nat.le_refl _) (fun j hj => by cases hj)
    have HI := Lib.hid (And.intro hrg0 (And.intro hb0 hs0))
    clear hrg0 hg0 hb0 hs0 hown
    go_loopw [5] (fun v wq => ∃ (left : Lit → Bool) (cnt : Nat) (qs : List Pr), wq.ranges Tryz.prog 9 heldE mb wo.heap.size n0 D0 left cnt ∧ Hid (RowT w.heap.size wo.heap.size wq v qs ∧ Coll all a k (fun r => ∃ kl, keyOf Tryz.prog 9 (.string r.1) = some kl ∧ left kl = false) qs ∧ Below w.heap.size w wq ∧ wo.heap.size < wq.heap.size))
     (fun _ wq => wq.rangeLeft mb wo.heap.size)
    case atStart =>
     refine ⟨_, _, ps, HI.out.1, Lib.hid ⟨HST.out.1.below HI.out.2.1, HST.out.2.same fun r hr e => ⟨fun q => q.elim, ?_⟩, HB.out.trans (HI.out.2.1.mono HB.out.size), by rw [HI.out.2.2]; omega⟩⟩
     rintro ⟨kl, h1, h2⟩
     rw [HMM.out.1.has h1] at h2
     have h3 : r ∈ leafR all (a + k) := leaf_mem.2 ⟨hr, e⟩
     have h4 := find_mem (x := vOf f r) HMM.out.2.1 (List.mem_map.2 ⟨r, h3, rfl⟩)
     rw [show (vOf f r).1 = r.1 from rfl] at h4
     rw [h4] at h2
     cases h2
    case round =>
     obtain ⟨left, cnt, qs, hrg, hst⟩ := hrel
     go_wp2_with (first
      | (at_next; refine wpList_next_ranges _ rfl _ rfl 9 keyed heldE Value.string (fun v : Value => v) (fun key kl hk => by obtain ⟨x, hx, _⟩ := key_inv hk; exact ⟨x, hx⟩) (fun v y hv => ⟨v, rfl⟩) mb wo.heap.size n0 _ _ _ rfl hrg ?_ ?_)
      | fail)
     ·intro hc0 hl0
      have HN' : Hid (Going all a m w u5 (.int .i64 ((k : Int) + 1)) wr) := Lib.hid ⟨k + 1, qs, by go_num, by omega, Lib.hid ⟨hst.out.1.other (Nat.le_refl _), hst.out.2.1.next fun r hr e => by
       obtain ⟨kl, hkl⟩ := key_of (s := r.1) (by have := (HT.out.ok.2 r hr).1.2.1; unfold okN maxLen; omega)
       exact ⟨kl, hkl, hl0 kl⟩⟩, hst.out.2.2.1⟩
      clear hst hrg hl0
      go_wp2_with fail
      go_roundw
      case rel => exact HN'.out
      case measure => simp only [intOf]; omega
     ·intro x cv kl yd yp w2 cnt2 hkey hlk hv hat hrg2 hlt2 hg2 hs2 hen
      obtain ⟨r, hr, hre⟩ := List.mem_map.1 (map_entry HMM.out.1 hkey hv hat)
      have hx : r.1 = x := congrArg Prod.fst hre
      have hcv : cv = .slice (f r.1).1 r.2.length (f r.1).2 := (congrArg Prod.snd hre).symm
      have hrall := (leaf_mem.1 hr).1
      obtain ⟨hok1, hok2⟩ := HT.out.ok.2 r hrall
      have hno : ¬ ∃ kl', keyOf Tryz.prog 9 (.string r.1) = some kl' ∧ left kl' = false := by
       rintro ⟨kl', h1, h2⟩
       rw [hx, hkey] at h1
       injection h1 with h1
       subst h1
       rw [hlk] at h2
       cases h2
      have hrow2 := hst.out.1.step hg2 (row_ne_iter hst.out.1.1 hrg)
      have b2 : Below w.heap.size w w2 := hst.out.2.2.1.grown hg2 hst.out.2.2.1.size (fun j hj => by cases hj; exact HB.out.size)
      have hvs := (HT.out.below b2).rows r hrall
      have hlen : qs.length + 1 ≤ all.length := by
       have h := (hst.out.2.1.add (more' := fun q => (∃ kl, keyOf Tryz.prog 9 (.string q.1) = some kl ∧ left kl = false) ∨ q = r) (r, none, 0) hrall (leaf_mem.1 hr).2 hno (fun q _ _ => Iff.rfl)).len
       simpa using h
      have HC : Hid (∀ A1 c1, Coll all a k (fun r => ∃ kl', keyOf Tryz.prog 9 (.string r.1) = some kl' ∧ (left kl' && !kl'.sameKey kl) = false) (qs ++ [(r, A1, c1)])) := Lib.hid fun A1 c1 => hst.out.2.1.add (r, A1, c1) hrall (leaf_mem.1 hr).2 hno fun q hq he => by
       constructor
       ·rintro ⟨kl', h1, h2⟩
        by_cases e : q.1 = r.1
        ·refine .inr ?_
         have g1 := find_mem HT.out.ok.1 hq
         have g2 := find_mem HT.out.ok.1 hrall
         rw [e, g2] at g1
         exact Prod.ext e (by injection g1 with g1; exact g1.symm)
        ·refine .inl ⟨kl', h1, ?_⟩
         have hs : kl'.sameKey kl = false := by
          rw [Bool.eq_false_iff]
          intro h3
          refine e ?_
          rw [hx]
          have h4 := WideAt.sameKey_eq h3
          rw [h4] at h1
          have h5 := keyed.inj h1 hkey
          injection h5
         rw [hs] at h2
         simpa using h2
       ·rintro (⟨kl', h1, h2⟩ | rfl)
        ·exact ⟨kl', h1, by rw [h2]; rfl⟩
        ·refine ⟨kl, by rw [hx]; exact hkey, ?_⟩
         rw [WideAt.sameKey_self (keyed.key hkey)]
         simp
      have hms := hlt2
      obtain ⟨key, lv⟩ := r
      simp only at hx hcv
      subst hx
      obtain ⟨mv', hmv'⟩ : ∃ mv', lv.length = mv' := ⟨_, rfl⟩
      obtain ⟨Av, hAv⟩ : ∃ Av, (f key).1 = Av := ⟨_, rfl⟩
      obtain ⟨cvv, hcvv⟩ : ∃ cvv, (f key).2 = cvv := ⟨_, rfl⟩
      have hvs' := hvs.vs
      simp only at hvs' hok1
      rw [hAv] at hvs'
      rw [hmv', hAv, hcvv] at hcv
      subst hcv
      have hK := Lib.hid (vers_new key (by have h : key.size ≤ 32 := hok1.2.1; omega) Av cvv mv' lv hmv' hok1.2.2 w2 hvs')
      have HR2 := Lib.hid (And.intro hrow2 (And.intro b2 (And.intro hg2.size hst.out.2.2.2)))
      have HH := Lib.hid (And.intro hrg2 (And.intro hlt2 hmv'))
      have HRG := Lib.hid hrg
      have hN2 := HN.out
      clear hr hre hrall hok1 hok2 hno hrow2 b2 hvs hvs' hms hAv hcvv hst hkey hlk hv hat hrg2 hlt2 hg2 hs2 hmv' hrg
      go_wp2_with fail
      refine hK.out.mono ?_
      rintro e w3 ⟨A1, c1, rfl, hrec, b3⟩
      have hs3 := b3.size
      have hown3 := own_below HR2.out.1.1 b3 (Nat.le_refl _)
      have hb23 := HR2.out.2.1.size
      have hl2 : qs.length + 1 ≤ 3518437208882 := by omega
      have hl3 : (qs.length + 1) * 40 ≤ 140737488355328 := by omega
      have hl4 : w.heap.size ≤ w3.heap.size := by omega
      have HLL := Lib.hid hlen
      clear hlen
      go_wp2_with (at_builtin; refine wpList_append_r _ rfl (.tmp 38) (.tmp 43) 23 rfl w.heap.size 70 i0 _ 40 Tryz.underlying23 hi hz0 hz1 hz2 rfl _ qs.length qs rfl hown3 ((key, lv), A1, c1) mv' HH.out.2.2 1 rfl hl3 (by omega) hl4 ?_; intro v4 w4 o4 g4 at4)
      have hg3 : w2.grownBy w3 none := ⟨b3.os, b3.tape, b3.output, b3.size, fun j hj _ => b3.block j hj⟩
      have hrg3 := HH.out.1.kept hg3 (by simp) (by simp)
      have hrg4 := hrg3.kept g4 (row_ne_low hown3 hmb) (row_ne_iter hown3 hrg3)
      have b4 : Below w.heap.size w w4 := (HR2.out.2.1.trans (b3.mono hb23)).grown g4 hl4 (fun j hj => (hown3.lt j hj).1)
      have s4 := g4.size
      have hit2 := HR2.out.2.2.1
      have hit3 := HR2.out.2.2.2
      refine ⟨⟨_, cnt2, qs ++ [((key, lv), A1, c1)], hrg4, Lib.hid ⟨HR2.out.1.add (by omega) b3 hrec.out hb23 o4 g4 at4, HC.out A1 c1, b4, by omega⟩⟩, ?_⟩
      rw [hrg4.left_eq, HRG.out.left_eq]
      exact HH.out.2.1
  ·have hkm : k = m := by omega
   subst hkm
   obtain ⟨hrow, hcol⟩ := hst.out
   have hps := hcol.len
   have hN2 := HN.out
   have hbs := hb.size
   rcases hrow.1.2 with ⟨hv, h0⟩ | ⟨g, cap, cur, hv, hbg, hg, hnc, _⟩
   ·have hnil : ps = [] := List.eq_nil_of_length_eq_zero h0
    subst hnil
    have hR := HE.out HM.out hcol (List.Perm.refl _) List.Pairwise.nil
    have HF : Hid (NewRs R w (.returned (.slice none 0 0)) wr) := Lib.hid ⟨none, 0, 0, [], rfl, Lib.hid ⟨hR, by rw [← hR]; rfl, Nat.le_refl _, fun h => absurd h (by simp)⟩, hb⟩
    subst hv
    clear hst hrow hcol hps hR hb
    go_wp2_with fail
    refine (sort_none none 0 _ wr).mono ?_
    rintro e w2 ⟨rfl, rfl⟩
    go_wp2_with fail
    go_ret
    exact HF.out
   ·obtain ⟨nn, hnn⟩ : ∃ nn, ps.length = nn := ⟨_, rfl⟩
    have ho := hrow.1
    rw [hv, hnn] at ho
    rw [hnn] at hv hnc hps
    have hgl := (ho.lt g rfl).2
    have hS := Lib.hid (sort_any g cap nn w.heap.size ps hnn wr ho (by omega))
    have HF : Hid (∀ w', (∃ l', Hid (l'.Perm ps ∧ l'.Pairwise (fun p q => nlt q.1.1 p.1.1 = false) ∧ Prs w' g l' ∧ wr.grownBy w' (some g) ∧ ∃ cur, w'.heap[g]? = some (.cells cur 70 (0, 0)))) → NewRs R w (.returned (.slice (some ⟨g, 0, none⟩) nn cap)) w') := Lib.hid fun w' ⟨l', hh⟩ => by
     obtain ⟨h1, h2, h3, h4, h5⟩ := hh.out
     have hR := HE.out HM.out hcol h1 h2
     refine ⟨some ⟨g, 0, none⟩, nn, cap, l', rfl, Lib.hid ⟨hR, by rw [← hR, List.length_map, h1.length_eq, hnn], hnc, fun hp => ⟨g, rfl, hbg, h3, h5, fun p hp => ?_⟩⟩, hb.grown h4 hbs (fun j hj => by injection hj with hj; omega)⟩
     obtain ⟨L, B, q1, q2, q3, q4, q5⟩ := hrow.2 p (h1.mem_iff.1 hp)
     have q3' := q3 g (by rw [hv]; rfl)
     exact ⟨L, B, q1, Nat.le_trans q2 h4.size, q3', q5.keep fun j a1 a2 => h4.block j (by omega) fun e => by injection e with e; omega⟩
    subst hv
    clear hst hrow hcol hps hb ho hg hnn hnc
    go_wp2_with fail
    refine hS.out.mono ?_
    rintro e w2 ⟨rfl, hw2⟩
    have HG := Lib.hid (HF.out w2 hw2)
    clear hw2
    go_wp2_with fail
    go_ret
    exact HG.out
end
end Tree
end Go.Proofs.YtkfdplfgaddkmaaGreat

/-
 The hashes of the places one digit longer, where the hash of each can be told.
-/
namespace Go.Proofs.YtkfdplfgaddkmaaGreat
namespace Tree
open Go.RowKit Vers Num Ring Disk Blk
open Go.Proofs.YtkfdplfgaddkmaaGreat.Code hiding Bn
attribute [local go_sem ↓] Go.wp_at_zero Go.wp_at_succ

theorem info_u64 : (Tryz.prog.info? 78).map (fun i => (i.zero, i.size, i.bytes)) = some (some (.int .u64 0), 1, 8) := by kernel_rfl
def Told (F : Nat → Prop) (tb : Nat) (mv : Nat → Option Nat) (f : Fp) (all : List Rc) (Bz : List Int → Prop) (x : Int) (w : World) (e : Ending) (w' : World) : Prop :=
 e = .returned (.int .u64 x) ∧ Hid (TR F w' tb mv f all Bz ∧ Chg (fun k => k = tb) w w')
def HashC (k : Nat) : Prop := ∀ (F : Nat → Prop) (w : World) (tb : Nat) (mv : Nat → Option Nat) (f : Fp) (all : List Rc) (Bz : List Int → Prop), TR F w tb mv f all Bz → all.length ≤ 3518437208882 →
 ∀ (A : Option Addr) (c n : Nat) (p : List Int), p.length = n → okP p → p.length + k = 2 → Ns .i64 w w.heap.size A p → (∀ q, okP q → p <+: q → ¬ Bz q) → Calls Tryz.prog 74 #[hd tb, .slice A n c] w (Told F tb mv f all Bz (hF k all p) w)
def KidsP (F : Nat → Prop) (tb : Nat) (mv : Nat → Option Nat) (f : Fp) (all : List Rc) (Bz : List Int → Prop) (zs : List Int) (w : World) (e : Ending) (w' : World) : Prop :=
 ∃ g, e = .returned (.slice (some ⟨g, 0, none⟩) 16 16) ∧ Hid (w.heap.size ≤ g ∧ Bn g 78 (nums .u64 zs) w' ∧ TR F w' tb mv f all Bz ∧ Chg (fun k => k = tb) w w')
def kr (h : Nat → Int) (k : Nat) : List Int := (List.range 16).map fun d => if d < k then h d else 0
theorem kr_set (h : Nat → Int) {k : Nat} (hk : k < 16) : (nums .u64 (kr h k)).set k (.int .u64 (h k)) = nums .u64 (kr h (k + 1)) := by
 refine List.ext_getElem? fun i => ?_
 unfold nums kr
 by_cases e : i = k
 ·subst e
  rw [List.getElem?_set_self (by simpa using hk)]
  simp [hk]
 ·rw [List.getElem?_set_ne (fun q => e q.symm)]
  by_cases hi : i < 16
  ·simp only [List.map_map, List.getElem?_map, List.getElem?_range hi, Option.map_some, Function.comp_apply]
   by_cases h1 : i < k
   ·rw [if_pos h1, if_pos (by omega)]
   ·rw [if_neg h1, if_neg (by omega)]
  ·rw [List.getElem?_eq_none (by simp; omega), List.getElem?_eq_none (by simp; omega)]
theorem kr_full (h : Nat → Int) : kr h 16 = (List.range 16).map h := by
 unfold kr
 refine List.map_congr_left fun d hd => ?_
 rw [if_pos (List.mem_range.1 hd)]
theorem own_full {w : World} {base : Nat} {e : TypeId} {g n : Nat} {xs : List Value} (h : w.ownsRow base e 1 (.slice (some ⟨g, 0, none⟩) n n) n xs) : Bn g e xs w := by
 rcases h.2 with ⟨hv, h0⟩ | ⟨g', cap, cur, hv, hbg, hg, hn, hcm, hcs, htake⟩
 ·cases hv
 ·injection hv with h1 h2 h3
  injection h1 with h1
  injection h1 with h1
  subst h1 h3
  have e1 : cur.toList.take (n * 1) = cur.toList := List.take_of_length_le (by rw [Array.length_toList]; omega)
  rw [e1] at htake
  show w.heap[g]? = _
  rw [hg, ← htake]
theorem bn_ns {w : World} {g : Nat} {e : TypeId} {k : IntKind} {zs : List Int} (h : Bn g e (nums k zs) w) : Ns k w w.heap.size (some ⟨g, 0, none⟩) zs := fun _ => ⟨g, 0, rfl, h.lt, fun j hj => by
 rw [Nat.zero_add, h.cell j]
 simp [nums, List.getD_eq_getElem?_getD, hj]⟩
theorem spot_onto {s : Nat} (h : s < 273) : ∃ p, okP p ∧ spotN p = s := by
 by_cases h0 : s = 0
 ·exact ⟨[], ok_zero, h0.symm⟩
 by_cases h1 : s < 17
 ·exact ⟨[(s : Int) - 1], ok_one.2 (by omega), by simp only [spotN]; omega⟩
 ·exact ⟨[((s : Int) - 17) / 16, ((s : Int) - 17) % 16], ok_two.2 (by omega), by simp only [spotN]; omega⟩
theorem Cells.noint {L : List Value} {mv : Nat → Option Nat} {all : List Rc} {Bz : List Int → Prop} (h : Cells L mv all Bz) {j : Nat} {x : Int} (e : L[j]? = some (.int .i64 x)) : False := by
 obtain ⟨h1, h2, h3⟩ := h
 have hj : j < 1348 := by
  rcases Nat.lt_or_ge j L.length with q | q
  ·omega
  ·rw [List.getElem?_eq_none q] at e; cases e
 by_cases hs : j < 256
 ·rw [h2 j hs] at e; injection e with e; cases e
 ·obtain ⟨p, hp, hsp⟩ := spot_onto (s := (j - 256) / 4) (by omega)
  obtain ⟨d, k, y, s0, s1, s2, s3, _, _⟩ := h3 p hp
  rw [hsp] at s0 s1 s2 s3
  have hm : j = 256 + 4 * ((j - 256) / 4) ∨ j = 256 + 4 * ((j - 256) / 4) + 1 ∨ j = 256 + 4 * ((j - 256) / 4) + 2 ∨ j = 256 + 4 * ((j - 256) / 4) + 3 := by omega
  rcases hm with q | q | q | q <;> rw [q] at e
  ·rw [s0] at e; injection e with e; injection e with e; cases e
  ·rw [s1] at e; injection e with e; injection e with e; cases e
  ·rw [s2] at e; injection e with e; injection e with e; cases e
  ·rw [s3] at e; injection e with e; injection e with e; cases e
section
variable {F : Nat → Prop} {w : World} {tb : Nat} {mv : Nat → Option Nat} {f : Fp} {all : List Rc} {Bz : List Int → Prop}
theorem TR.ns {w' : World} (h : TR F w tb mv f all Bz) (hc : Chg (fun k => k = tb) w w') {A : Option Addr} {p : List Int} (hr : Ns .i64 w w.heap.size A p) : Ns .i64 w' w'.heap.size A p := fun hp => by
 obtain ⟨b, off, e, hb, hx⟩ := hr hp
 have hne : b ≠ tb := fun q => by
  subst q
  obtain ⟨⟨L, h1, h2⟩, _⟩ := h
  have h3 := hx 0 hp
  rw [h1.cell] at h3
  exact h2.noint h3
 exact ⟨b, off, e, Nat.lt_of_lt_of_le hb hc.size, fun j hj => (World.cell?_of_block (hc.block b hb hne)).trans (hx j hj)⟩
theorem vs_kept {w' : World} (hs : w.heap.size ≤ w'.heap.size) (hk : ∀ b off x, b < w.heap.size → w.cell? ⟨b, off, none⟩ = some (.int .i64 x) → w'.heap[b]? = w.heap[b]?) {A : Option Addr} {l : List Vr} (h : Vs w 0 w.heap.size A l) : Vs w' 0 w'.heap.size A l := fun hp => by
 obtain ⟨b, off, e, h1, h2, hc⟩ := h hp
 have hb : w'.heap[b]? = w.heap[b]? := by
  obtain ⟨A', c', h3⟩ := hc 0 hp
  exact hk b _ _ h2 h3.1
 refine ⟨b, off, e, h1, Nat.lt_of_lt_of_le h2 hs, fun j hj => ?_⟩
 obtain ⟨A', c', v0, v1, v2, v3, v4, hpa, q⟩ := hc j hj
 refine ⟨A', c', (World.cell?_of_block hb).trans v0, (World.cell?_of_block hb).trans v1, (World.cell?_of_block hb).trans v2, (World.cell?_of_block hb).trans v3, (World.cell?_of_block hb).trans v4, fun hp2 => ?_, q⟩
 obtain ⟨b2, off2, e2, h4, hc2⟩ := hpa hp2
 have hb2 : w'.heap[b2]? = w.heap[b2]? := hk b2 _ _ h4 (hc2 0 hp2).1
 exact ⟨b2, off2, e2, Nat.lt_of_lt_of_le h4 hs, fun j hj => ⟨(World.cell?_of_block hb2).trans (hc2 j hj).1, (World.cell?_of_block hb2).trans (hc2 j hj).2.1, (World.cell?_of_block hb2).trans (hc2 j hj).2.2⟩⟩
theorem TR.vs {w' : World} (h : TR F w tb mv f all Bz) (hc : Chg (fun k => k = tb) w w') {A : Option Addr} {l : List Vr} (hv : Vs w 0 w.heap.size A l) : Vs w' 0 w'.heap.size A l :=
 vs_kept hc.size (fun b off x hb hx => hc.block b hb fun q => by
  have q : b = tb := q
  subst q
  obtain ⟨⟨L, h1, h2⟩, _⟩ := h
  rw [h1.cell] at hx
  exact h2.noint hx) hv
set_option maxRecDepth 100000 in
set_option maxHeartbeats 2000000 in
theorem kids_some {k : Nat} (HK : HashC k) (h : TR F w tb mv f all Bz) (hN : all.length ≤ 3518437208882) (A : Option Addr) (c n : Nat) (p : List Int) (hn : p.length = n) (hp : okP p) (hk : p.length + (k + 1) = 2) (hr : Ns .i64 w w.heap.size A p) (hb : ∀ q, okP q → p <+: q → q ≠ p → ¬ Bz q) :
  Calls Tryz.prog 50 #[hd tb, .slice A n c] w (KidsP F tb mv f all Bz ((List.range 16).map fun (d : Nat) => hF k all (p ++ [(d : Int)])) w) := by
 obtain ⟨i0, hi, hz0, hz1, hz2⟩ := info_parts info_u64
 have hn2 : n ≤ 1 := by omega
 have hp2 : p.length < 2 := by omega
 have H0 := Lib.hid (isPath_any A c n p hn (by omega) w hr)
 rw [decide_eq_true hp] at H0
 have e1 : decide ((2 : Int) ≤ (n : Int)) = false := decide_eq_false (by omega)
 have HL : Hid (∀ (W : World) (d : Nat), Ns .i64 W W.heap.size A p → Calls Tryz.prog 75 #[.slice A n c, .int .i64 (d : Int)] W (OwnI (p ++ [(d : Int)]) (n + 1) W)) := Lib.hid fun W d hW => longer_any A c n p hn (by omega) d W hW
 have HH : Hid (∀ (W : World) (d : Nat) (A1 : Option Addr) (c1 : Nat), d < 16 → TR F W tb mv f all Bz → Ns .i64 W W.heap.size A1 (p ++ [(d : Int)]) → Calls Tryz.prog 74 #[hd tb, .slice A1 (n + 1) c1] W (Told F tb mv f all Bz (hF k all (p ++ [(d : Int)])) W)) := Lib.hid fun W d A1 c1 hd hT hW =>
  HK F W tb mv f all Bz hT hN A1 c1 (n + 1) (p ++ [(d : Int)]) (by simp [hn]) (ok_longer hp hp2 hd) (by simp; omega) hW fun q hq hpq => hb q hq ((List.prefix_append p _).trans hpq) fun e => by
   rw [e] at hpq
   have h9 := hpq.length_le
   simp only [List.length_append, List.length_cons, List.length_nil] at h9
   omega
 obtain ⟨h', hh'⟩ : ∃ h' : Nat → Int, (fun (d : Nat) => hF k all (p ++ [(d : Int)])) = h' := ⟨_, rfl⟩
 have HV : Hid (∀ d : Nat, hF k all (p ++ [(d : Int)]) = h' d) := Lib.hid fun d => congrFun hh' d
 rw [hh']
 have HP := Lib.hid (And.intro hn hr)
 have HT := Lib.hid h
 clear hh' hn hr hb HK hp h
 unfold hd
 go_enter Tryz.func50, Tryz.ntmps50
 go_wp2_with fail
 refine H0.out.mono ?_
 rintro e w1 ⟨rfl, rfl⟩
 go_wp2_with (at_make; refine wpList_make_full _ rfl _ _ 33 rfl w.heap.size 78 i0 _ 1 Tryz.underlying33 hi hz0 hz1 _ _ _ _ 16 rfl rfl rfl rfl (by rw [hz2]; omega) (by unfold maxLen; omega) (Nat.le_refl _) ?_; intro w1 o1 g1)
 have hlt := HT.out.lt _ HT.out.own
 have hb1 : Below w.heap.size w w1 := (Below.refl _ _).grown g1 (Nat.le_refl _) (fun j hj => by cases hj)
 obtain ⟨g, hg⟩ : ∃ g, w.heap.size = g := ⟨_, rfl⟩
 have hne : g ≠ tb := by omega
 have HI : Hid (Bn g 78 (nums .u64 (kr h' 0)) w1 ∧ TR F w1 tb mv f all Bz ∧ Chg (fun k => k = tb) w w1) := Lib.hid ⟨by
  rw [← hg]
  have := own_full o1
  rwa [show (madeCells (Value.int IntKind.u64 0).cells (16 * 1)).toList = nums .u64 (kr h' 0) by
   rw [show (Value.int .u64 0).cells = #[Value.int .u64 0] from rfl, Nat.mul_one, toList_madeCells_one]
   rfl] at this, HT.out.below hb1, Chg.of_below hb1⟩
 rw [hg]
 have HG := Lib.hid hg
 clear hg o1 g1 hb1
 go_loopw [18] (fun q wr => ∃ d : Nat, q = .int .i64 d ∧ d ≤ 16 ∧ Hid (Bn g 78 (nums .u64 (kr h' d)) wr ∧ TR F wr tb mv f all Bz ∧ Chg (fun k => k = tb) w wr)) (fun q _ => 16 - (intOf q).toNat)
 case atStart => exact ⟨0, rfl, by omega, HI.out⟩
 case round =>
  clear HI
  obtain ⟨d, rfl, hd16, hst⟩ := hrel
  by_cases hlt16 : d < 16
  ·have d1 : (0 : Int) ≤ (d : Int) := by omega
   have d2 : (d : Int) < 16 := by omega
   have hns := HT.out.ns hst.out.2.2 HP.out.2
   have hK := Lib.hid (HL.out wr d hns)
   clear hns
   go_wp2_with fail
   refine hK.out.mono ?_
   rintro e w2 ⟨A1, c1, rfl, o1, b2⟩
   have hT2 := hst.out.2.1.below b2
   have hn1 : (p ++ [(d : Int)]).length = n + 1 := by simp [HP.out.1]
   have hns2 : Ns .i64 w2 w2.heap.size A1 (p ++ [(d : Int)]) := by
    have h := o1.out
    rw [← hn1] at h
    exact own_ns h
   have hH := Lib.hid (HH.out w2 d A1 c1 hlt16 hT2 hns2)
   have HB2 := Lib.hid (And.intro b2 hst.out)
   clear hns2 hn1 hT2 o1 b2 hst hK
   go_wp2_with fail
   refine hH.out.mono ?_
   rintro e w3 ⟨rfl, h3⟩
   rw [HV.out d]
   have hB3 : Bn g 78 (nums .u64 (kr h' d)) w3 := by
    have h1 := HB2.out.2.1
    have h2 := h1.same (HB2.out.1.block g h1.lt)
    exact h2.same (h3.out.2.block g h2.lt hne)
   have c0 : w3.cell? ⟨g, d, none⟩ = some (.int .u64 0) := by
    rw [hB3.cell d]
    simp [nums, kr, hlt16]
   have z0 := hB3.frozen d
   have HF : Hid (Bn g 78 (nums .u64 (kr h' (d + 1))) (w3.setCell ⟨g, d, none⟩ (.int .u64 (h' d))) ∧ TR F (w3.setCell ⟨g, d, none⟩ (.int .u64 (h' d))) tb mv f all Bz ∧ Chg (fun k => k = tb) w (w3.setCell ⟨g, d, none⟩ (.int .u64 (h' d)))) := Lib.hid ⟨by
     rw [← kr_set h' hlt16]
     exact hB3.set d _, h3.out.1.nokept (gset _ _ _ _) (fun j hj hF => by
     injection hj with hj
     have := HT.out.lt _ hF
     have := HG.out
     omega), ((HB2.out.2.2.2.trans (Chg.of_below (F := fun k => k = tb) HB2.out.1) (fun j hj => .inl hj)).trans h3.out.2 (fun j hj => .inl hj)).trans (Chg.of_grown (F := fun j => j = g) (gset _ _ _ _) (fun j hj => by injection hj with hj; exact hj.symm)) (fun j hj => .inr (by rw [hj, HG.out]; exact Nat.le_refl _))⟩
   clear hB3 hH HB2 h3
   go_wp2_with fail
   go_roundw
   case rel => exact ⟨d + 1, by go_num, by omega, HF⟩
   case measure => simp only [intOf]; omega
  ·have hd' : d = 16 := by omega
   subst hd'
   rw [kr_full] at hst
   go_wp2_with fail
   go_ret
   exact ⟨g, rfl, Lib.hid ⟨by rw [HG.out]; exact Nat.le_refl _, hst.out⟩⟩
end
end Tree
end Go.Proofs.YtkfdplfgaddkmaaGreat

/-
 What a place's hash is made of, and the hash.
-/
namespace Go.Proofs.YtkfdplfgaddkmaaGreat
namespace Tree
open Go.RowKit Vers Num Ring Disk Blk
open Go.Proofs.YtkfdplfgaddkmaaGreat.Code hiding Bn
attribute [local go_sem ↓] Go.wp_at_zero Go.wp_at_succ

def WorkC (k : Nat) : Prop := ∀ (F : Nat → Prop) (w : World) (tb : Nat) (mv : Nat → Option Nat) (f : Fp) (all : List Rc) (Bz : List Int → Prop), TR F w tb mv f all Bz → all.length ≤ 3518437208882 →
 ∀ (A : Option Addr) (c n : Nat) (p : List Int), p.length = n → okP p → p.length + k = 2 → Ns .i64 w w.heap.size A p → (∀ q, okP q → p <+: q → q ≠ p → ¬ Bz q) → Calls Tryz.prog 95 #[hd tb, .slice A n c] w (Told F tb mv f all Bz (hF k all p) w)
def leafK (R : List Rc) (i : Nat) : List Int := leafT (R.take i)
def Written (g : Nat → List Int) (m base : Nat) (w : World) (v q : Value) (wr : World) : Prop :=
 ∃ (i n : Nat) (A : Option Addr) (c : Nat), q = .int .i64 i ∧ i ≤ m ∧ v = .slice A n c ∧ n ≤ 10 * i ∧ Hid ((g i).length = n ∧ wr.ownsRow base 5 1 (.slice A n c) n (nums .u8 (g i)) ∧ Below base w wr)
section
variable {F : Nat → Prop} {w : World} {tb : Nat} {mv : Nat → Option Nat} {f : Fp} {all : List Rc} {Bz : List Int → Prop}
theorem hF_none {k : Nat} {p : List Int} (h : beneath all p = []) : hF k all p = 0 := by cases k <;> unfold hF <;> rw [if_pos h]
set_option maxRecDepth 100000 in
set_option maxHeartbeats 2000000 in
theorem work_none {k : Nat} (h : TR F w tb mv f all Bz) (A : Option Addr) (c n : Nat) (p : List Int) (hn : p.length = n) (hp : okP p) (hr : Ns .i64 w w.heap.size A p) (he : beneath all p = []) :
  Calls Tryz.prog 95 #[hd tb, .slice A n c] w (Told F tb mv f all Bz (hF k all p) w) := by
 have H0 := Lib.hid (any_any h A c n p hn hp hr)
 rw [show decide (beneath all p ≠ []) = false from decide_eq_false (fun h => h he)] at H0
 rw [hF_none he]
 have HT := Lib.hid h
 clear h hn hp hr he
 unfold hd at H0 ⊢
 go_enter Tryz.func95, Tryz.ntmps95
 go_wp2_with fail
 refine H0.out.mono ?_
 rintro e w1 ⟨rfl, q, rfl⟩
 go_wp2_with fail
 go_ret
 exact ⟨rfl, Lib.hid ⟨HT.out.keep (Nat.le_refl _) fun _ _ => rfl, ⟨rfl, rfl, rfl, Nat.le_refl _, fun _ _ _ => rfl⟩⟩⟩

set_option maxRecDepth 100000 in
set_option maxHeartbeats 2000000 in
theorem work_zero : WorkC 0 := by
 intro F w tb mv f all Bz h hN A c n p hn hp hk hr hb
 by_cases he : beneath all p = []
 ·exact work_none h A c n p hn hp hr he
 have H0 := Lib.hid (any_any h A c n p hn hp hr)
 rw [show decide (beneath all p ≠ []) = true from decide_eq_true he] at H0
 obtain rfl : n = 2 := by omega
 have HR := Lib.hid (fun (W : World) (hT : TR F W tb mv f all Bz) (hW : Ns .i64 W W.heap.size A p) => recs_any hT hN A c 2 p hn hp (by omega) hW)
 have hx : hF 0 all p = hashL (leafT (beneath all p)) := by unfold hF; rw [if_neg he]
 have hlen := beneath_len all p
 have HOK : Hid (∀ r ∈ beneath all p, okR r) := Lib.hid fun r hr => (h.ok.2 r (beneath_mem.1 hr).1).1
 obtain ⟨R, hR⟩ : ∃ R, beneath all p = R := ⟨_, rfl⟩
 rw [hR] at hx hlen HR HOK
 rw [hx]
 have HT := Lib.hid (And.intro h hr)
 clear hx hR he h hn hp hr hk hb
 unfold hd at H0 HR ⊢
 go_enter Tryz.func95, Tryz.ntmps95
 go_wp2_with fail
 refine H0.out.mono ?_
 rintro e w1 ⟨rfl, q, rfl⟩
 obtain ⟨W, hW⟩ : ∃ W, w.drewN q = W := ⟨_, rfl⟩
 have HW : Hid (TR F W tb mv f all Bz ∧ Below w.heap.size w W ∧ W.heap.size = w.heap.size) := Lib.hid ⟨by rw [← hW]; exact HT.out.1.keep (Nat.le_refl _) fun _ _ => rfl, by rw [← hW]; exact ⟨rfl, rfl, rfl, Nat.le_refl _, fun _ _ => rfl⟩, by rw [← hW]; rfl⟩
 have hK := Lib.hid (HR.out W HW.out.1 (by rw [HW.out.2.2]; exact HT.out.2.below HW.out.2.1))
 rw [hW]
 clear hW H0
 go_wp2_with fail
 refine hK.out.mono ?_
 rintro e w2 ⟨A2, m, c2, ps, rfl, h2, b2⟩
 have HB2 := Lib.hid (And.intro b2 h2.out)
 have hm : m ≤ 3518437208882 := by have := h2.out.2.1; omega
 have HI : Hid (Written (leafK R) m w2.heap.size w2 (.slice none 0 0) (.int .i64 0) w2) := Lib.hid ⟨0, 0, none, 0, rfl, by omega, rfl, by omega, Lib.hid ⟨by simp [leafT, leafK], World.ownsRow_nil _ _ _ _, Below.refl _ _⟩⟩
 clear h2 b2 hK
 go_wp2_with fail
 go_loopw [5, 35] (fun v q wr => Written (leafK R) m w2.heap.size w2 v q wr) (fun _ q _ => m - (intOf q).toNat)
 case atStart => exact HI.out
 case round =>
  clear HI
  obtain ⟨i, n, A3, c3, rfl, hi, rfl, hn10, hst⟩ := hrel
  by_cases hlt : i < m
  ·have d1 : (0 : Int) ≤ (i : Int) := by omega
   have d2 : (i : Int) < (m : Int) := by omega
   have hRl : R.length = m := HB2.out.2.2.1.symm
   have hrs := HB2.out.2.2.2.2.rs
   rw [HB2.out.2.1] at hrs
   obtain ⟨pb, off, A4, c4, rfl, _, hbB, k0, k1, k2, k3⟩ := hrs.at hRl hst.out.2.2 hlt rfl
   have hRi : i < R.length := by omega
   have hmem : R.getD i r0 ∈ R := by
    rw [List.getD_eq_getElem?_getD, List.getElem?_eq_getElem hRi]
    exact List.getElem_mem _
   have hok := HOK.out _ hmem
   have HTk : Hid (R.take (i + 1) = R.take i ++ [R.getD i r0]) := Lib.hid (by
    rw [List.take_succ_eq_append_getElem hRi]
    simp [List.getD_eq_getElem?_getD, hRi])
   obtain ⟨r, hrr⟩ : ∃ r, R.getD i r0 = r := ⟨_, rfl⟩
   rw [hrr] at k0 k1 k2 k3 hok HTk
   obtain ⟨key, lv⟩ := r
   simp only at k0 k1 k2 k3
   obtain ⟨ml, hml⟩ : ∃ ml, lv.length = ml := ⟨_, rfl⟩
   rw [hml] at k1 k3
   have hsz := hst.out.2.2.size
   obtain ⟨V, hV⟩ : ∃ V, wr.alloc (.cells #[.string key, .slice A4 ml c4] 70) = V := ⟨_, rfl⟩
   have hbV : Below wr.heap.size wr V := by rw [← hV]; exact (Below.refl _ _).alloc (Nat.le_refl _) _
   have hBV : Bn wr.heap.size 70 [.string key, .slice A4 ml c4] V := by rw [← hV]; exact World.alloc_heap_new _ _
   have v0 := hBV.cell 0
   have v1 := hBV.cell 1
   simp only [List.getElem?_cons_zero, List.getElem?_cons_succ] at v0 v1
   have hvs : Vs V 0 V.heap.size A4 lv := ((k2.below (hbV.mono hsz)).more (Nat.le_trans hsz hbV.size)).less (Nat.zero_le _)
   have hM := Lib.hid (mark_any key A4 c4 ml lv hml hok.2.1 hok.2.2 V hvs)
   have hU : U (markF (key, lv)) := hash_range _
   obtain ⟨x, hx⟩ : ∃ x, markF (key, lv) = x := ⟨_, rfl⟩
   rw [hx] at hM hU
   have HX := Lib.hid hx
   have HO := Lib.hid (And.intro hst.out (And.intro hbV (And.intro hsz hU)))
   have hl10 := halves_len10 hU
   clear hst hvs hx hbV k2 hmem hok hml hrs hU hBV
   go_wp2_with fail
   refine hM.out.mono ?_
   rintro e w3 ⟨rfl, b3⟩
   have o3 := own_below (own_below HO.out.1.2.1 HO.out.2.1 (Nat.le_refl _)) b3 (Nat.le_refl _)
   have s3 := b3.size
   have s4 := HO.out.2.1.size
   have hw3 : w2.heap.size ≤ w3.heap.size := by omega
   have hP := Lib.hid (putHash_any A3 c3 n (leafT (R.take i)) HO.out.1.1 (by omega) x HO.out.2.2.2 w2.heap.size w3 hw3 o3)
   have HB3 := Lib.hid (HO.out.1.2.2.trans ((HO.out.2.1.mono hsz).trans (b3.mono (by omega))))
   clear b3 o3 hM
   go_wp2_with fail
   refine hP.out.mono ?_
   rintro e w4 ⟨A5, c5, rfl, o5, b5⟩
   have HK1 : Hid (leafK R (i + 1) = leafT (R.take i) ++ halves x) := Lib.hid (by unfold leafK; rw [HTk.out]; simp only [leafT, List.flatMap_append, List.flatMap_cons, List.flatMap_nil, List.append_nil, HX.out])
   have HF : Hid (Written (leafK R) m w2.heap.size w2 (.slice A5 (leafT (R.take i) ++ halves x).length c5) (.int .i64 ((i : Int) + 1)) w4) := Lib.hid ⟨i + 1, _, A5, c5, by go_num, by omega, rfl, by have h := HO.out.1.1; unfold leafK at h; rw [List.length_append, h]; omega, Lib.hid ⟨by
     rw [HK1.out], by
     have h := o5.out
     rw [HK1.out]
     exact h, HB3.out.trans b5⟩⟩
   obtain ⟨n5, hn5⟩ : ∃ n5, (leafT (R.take i) ++ halves x).length = n5 := ⟨_, rfl⟩
   rw [hn5] at HF ⊢
   clear o5 b5 hP hn5 hl10
   go_wp2_with fail
   go_roundw
   case rel => exact HF.out
   case measure => simp only [intOf]; omega
  ·have him : i = m := by omega
   subst him
   have hfull : R.take i = R := List.take_of_length_le (by have := HB2.out.2.2.1; omega)
   have hst' := hst.out
   unfold leafK at hst'
   simp only [hfull] at hst'
   have hK := Lib.hid (hash_any A3 c3 n (leafT R) hst'.1 (leafT_bytes R) wr (own_ns (n := n) (by have h := hst'.2.1; rw [hst'.1]; exact h)) (by omega))
   have HF : Hid (TR F wr tb mv f all Bz ∧ Chg (fun k => k = tb) w wr) := Lib.hid (by
    have b1 : Below w.heap.size w wr := HW.out.2.1.trans (((HB2.out.1.trans (hst'.2.2.mono HB2.out.1.size))).mono (by rw [HW.out.2.2]; exact Nat.le_refl _))
    exact ⟨HT.out.1.below b1, Chg.of_below b1⟩)
   clear hst hst' hfull
   go_wp2_with fail
   refine hK.out.mono ?_
   rintro e w4 ⟨rfl, rfl⟩
   go_wp2_with fail
   go_ret
   exact ⟨rfl, HF⟩

set_option maxRecDepth 100000 in
set_option maxHeartbeats 2000000 in
theorem work_succ {k : Nat} (HK : HashC k) : WorkC (k + 1) := by
 intro F w tb mv f all Bz h hN A c n p hn hp hk hr hb
 by_cases he : beneath all p = []
 ·exact work_none h A c n p hn hp hr he
 have H0 := Lib.hid (any_any h A c n p hn hp hr)
 rw [show decide (beneath all p ≠ []) = true from decide_eq_true he] at H0
 have hn2 : n < 2 := by omega
 have e1 : decide ((n : Int) < 2) = true := decide_eq_true (by omega)
 have HR := Lib.hid (fun (W : World) (hT : TR F W tb mv f all Bz) (hW : Ns .i64 W W.heap.size A p) => kids_some HK hT hN A c n p hn hp hk hW hb)
 have hx : hF (k + 1) all p = hashL (kidsT (fun (d : Nat) => hF k all (p ++ [(d : Int)])) 16) := by rw [hF, if_neg he]
 obtain ⟨h', hh'⟩ : ∃ h' : Nat → Int, (fun (d : Nat) => hF k all (p ++ [(d : Int)])) = h' := ⟨_, rfl⟩
 have HU : Hid (∀ d : Nat, U (h' d)) := Lib.hid fun d => by rw [← hh']; exact hF_range _ _ _
 rw [hh'] at hx HR
 rw [hx]
 have HT := Lib.hid (And.intro h hr)
 clear hx hh' he h hn hp hr hk hb HK
 unfold hd at H0 HR ⊢
 go_enter Tryz.func95, Tryz.ntmps95
 go_wp2_with fail
 refine H0.out.mono ?_
 rintro e w1 ⟨rfl, q, rfl⟩
 obtain ⟨W, hW⟩ : ∃ W, w.drewN q = W := ⟨_, rfl⟩
 have HW : Hid (TR F W tb mv f all Bz ∧ Below w.heap.size w W ∧ W.heap.size = w.heap.size) := Lib.hid ⟨by rw [← hW]; exact HT.out.1.keep (Nat.le_refl _) fun _ _ => rfl, by rw [← hW]; exact ⟨rfl, rfl, rfl, Nat.le_refl _, fun _ _ => rfl⟩, by rw [← hW]; rfl⟩
 have hK := Lib.hid (HR.out W HW.out.1 (by rw [HW.out.2.2]; exact HT.out.2.below HW.out.2.1))
 rw [hW]
 clear hW H0
 go_wp2_with fail
 refine hK.out.mono ?_
 rintro e w2 ⟨g, rfl, h2⟩
 have HB2 := Lib.hid h2.out
 have HI : Hid (Written (kidsT h') 16 w2.heap.size w2 (.slice none 0 0) (.int .i64 0) w2) := Lib.hid ⟨0, 0, none, 0, rfl, by omega, rfl, by omega, Lib.hid ⟨rfl, World.ownsRow_nil _ _ _ _, Below.refl _ _⟩⟩
 clear h2 hK
 go_wp2_with fail
 go_loopw [5, 21] (fun v q wr => Written (kidsT h') 16 w2.heap.size w2 v q wr) (fun _ q _ => 16 - (intOf q).toNat)
 case atStart => exact HI.out
 case round =>
  clear HI
  obtain ⟨i, n', A3, c3, rfl, hi, rfl, hn10, hst⟩ := hrel
  by_cases hlt : i < 16
  ·have d1 : (0 : Int) ≤ (i : Int) := by omega
   have d2 : (i : Int) < 16 := by omega
   have hB := HB2.out.2.1.same (hst.out.2.2.block g HB2.out.2.1.lt)
   have c0 : wr.cell? ⟨g, i, none⟩ = some (.int .u64 (h' i)) := by
    rw [hB.cell i]
    simp [nums, hlt]
   obtain ⟨x, hx⟩ : ∃ x, h' i = x := ⟨_, rfl⟩
   have hU : U x := by rw [← hx]; exact HU.out i
   rw [hx] at c0
   have hl10 := halves_len10 hU
   have hP := Lib.hid (putHash_any A3 c3 n' (kidsT h' i) hst.out.1 (by omega) x hU w2.heap.size wr hst.out.2.2.size hst.out.2.1)
   have HX := Lib.hid hx
   have HO := Lib.hid hst.out
   clear hB hx hst hU
   go_wp2_with fail
   refine hP.out.mono ?_
   rintro e w4 ⟨A5, c5, rfl, o5, b5⟩
   have HF : Hid (Written (kidsT h') 16 w2.heap.size w2 (.slice A5 (kidsT h' i ++ halves x).length c5) (.int .i64 ((i : Int) + 1)) w4) := Lib.hid ⟨i + 1, _, A5, c5, by go_num, by omega, rfl, by rw [List.length_append, HO.out.1]; omega, Lib.hid ⟨by
     rw [kidsT_succ, HX.out], by
     have h := o5.out
     rw [kidsT_succ, HX.out]
     exact h, HO.out.2.2.trans b5⟩⟩
   obtain ⟨n5, hn5⟩ : ∃ n5, (kidsT h' i ++ halves x).length = n5 := ⟨_, rfl⟩
   rw [hn5] at HF ⊢
   clear o5 b5 hP hn5 hl10 c0
   go_wp2_with fail
   go_roundw
   case rel => exact HF.out
   case measure => simp only [intOf]; omega
  ·have him : i = 16 := by omega
   subst him
   have hK := Lib.hid (hash_any A3 c3 n' (kidsT h' 16) hst.out.1 (kidsT_bytes h' 16 HU.out) wr (own_ns (n := n') (by have h := hst.out.2.1; rw [hst.out.1]; exact h)) (by omega))
   have HF : Hid (TR F wr tb mv f all Bz ∧ Chg (fun k => k = tb) w wr) := Lib.hid ⟨HB2.out.2.2.1.below hst.out.2.2, ((Chg.of_below (F := fun k => k = tb) HW.out.2.1).trans HB2.out.2.2.2 (fun j hj => .inl hj)).trans (Chg.of_below (F := fun k => k = tb) hst.out.2.2) (fun j hj => .inl hj)⟩
   clear hst
   go_wp2_with fail
   refine hK.out.mono ?_
   rintro e w4 ⟨rfl, rfl⟩
   go_wp2_with fail
   go_ret
   exact ⟨rfl, HF⟩
end
end Tree
end Go.Proofs.YtkfdplfgaddkmaaGreat
