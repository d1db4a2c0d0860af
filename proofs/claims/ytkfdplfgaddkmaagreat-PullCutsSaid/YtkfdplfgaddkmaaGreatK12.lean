/-
  Several texts of this family in one: PullDel.
-/
import Derived.Test.YtkfdplfgaddkmaaGreatK11
import Derived.Lib.SliceRun
import Derived.Deep.AppendLies
import Derived.Deep.RegionHeld3
import Derived.Deep.DrawnRows
import Derived.Deep.RegionLaw
import Derived.Lib.Hide
/-
 slices.Delete of one path (layer 19).
-/
namespace Go.Proofs.YtkfdplfgaddkmaaGreat
namespace Pull
open Go.RowKit Blk Go.Maps
attribute [local go_sem ↓] Go.wp_at_zero Go.wp_at_succ
theorem heap_setCells_same (g : Nat) (e : TypeId) : ∀ (vs : List Value) (o : Nat) (w : World) (cur : Array Value), w.heap[g]? = some (.cells cur e (0, 0)) → o + vs.length ≤ cur.size →
  ∃ cur', (w.setCells g o vs).heap[g]? = some (.cells cur' e (0, 0)) ∧ cur'.toList = cur.toList.take o ++ vs ++ cur.toList.drop (o + vs.length)
 | [], o, w, cur, h, _ => ⟨cur, h, by simp⟩
 | v :: r, o, w, cur, h, hl => by
  have h1 : (w.setCell ⟨g, o, none⟩ v).heap[g]? = some (.cells (cur.setIfInBounds o v) e (0, 0)) := by
   simp [World.setCell, Array.getElem?_modify, h]
  obtain ⟨cur', h2, h3⟩ := heap_setCells_same g e r (o + 1) (w.setCell ⟨g, o, none⟩ v) (cur.setIfInBounds o v) h1 (by simp at hl ⊢; omega)
  refine ⟨cur', h2, ?_⟩
  simp only [List.length_cons] at hl
  have hlo : o < cur.toList.length := by rw [Array.length_toList]; omega
  rw [h3, Array.toList_setIfInBounds, List.length_cons, show o + 1 + r.length = o + (r.length + 1) by omega, List.drop_set_of_lt (by omega), List.take_set, List.take_succ_eq_append_getElem hlo, List.set_append_right _ _ (by rw [List.length_take]; omega), List.length_take, show o - min o cur.toList.length = 0 by omega, List.set_cons_zero]
  simp

def zeroP : List Value := [.int .i64 0, .int .i64 0, .int .i64 0]
theorem run_clear_one (w : World) (ty : TypeId) (b o c : Nat) (hc : ∀ j, j < 3 → (w.cell? ⟨b, o + j, none⟩).isSome = true) (hf : ∀ j, w.frozen? ⟨b, j, none⟩ = false) :
  (Builtin.clear_ #[94] ty #[.slice (some ⟨b, o, none⟩) 1 c]).run Tryz.prog w = .ok (.tuple #[]) (w.setCells b o zeroP) := by
 have hzc : (Builtin.zeroCells (Value.agg #[.int .i64 0, .int .i64 0, .int .i64 0]).cells 1).toList = zeroP := by kernel_rfl
 have hst := run_storeCells_cells (P := Tryz.prog) b o zeroP 0 w (fun j hj => by rw [Nat.add_zero]; exact hc j hj) (fun j _ => hf _) (by intro v hv; simp [zeroP] at hv; rcases hv with rfl | rfl <;> rfl)
 simp only [Nat.add_zero] at hst
 simp [Builtin.clear_, run_underlying Tryz.underlying94, hzc, hst]
theorem info_path : (Tryz.prog.info? 101).map (fun i => (i.zero, i.size, i.bytes)) = some (some (.agg #[.int .i64 0, .int .i64 0, .int .i64 0]), 3, 24) := by kernel_rfl

set_option maxRecDepth 100000 in
set_option maxHeartbeats 1000000 in
theorem del_any {w : World} {A : Option Addr} {c n n' i j : Nat} {l : List (List Int)} (ho : w.ownsRow 0 101 3 (.slice A n c) n (pcells l)) (hl : l.length = n) (hn : n' + 1 = n) (hi : i < n) (hj : i + 1 = j) (hbig : n ≤ 4096) :
  Calls Tryz.prog 62 #[.slice A n c, .int .i64 i, .int .i64 j] w (fun e w' => e = .returned (.slice A n' c) ∧ Hid (w'.ownsRow 0 101 3 (.slice A n' c) n' (pcells (l.eraseIdx i)) ∧ w.grownBy w' (Value.slice A n c).ownBlock)) := by
 obtain ⟨i0, hi0, hz0, hz1, hz2⟩ := info_parts info_path
 rcases ho.2 with ⟨_, h0⟩ | ⟨g, cap, cur, hv, hbg, hg, hnc, hcm, hcs, htake⟩
 ·omega
 injection hv with hA _ hcap
 subst hA
 subst hcap
 have hcl : cur.toList.length = c * 3 := by rw [Array.length_toList]; exact hcs
 obtain ⟨news, hnews⟩ : ∃ news, pcells (l.drop j) = news := ⟨_, rfl⟩
 have hln : news.length = (n - j) * 3 := by rw [← hnews, pcells_length, List.length_drop, hl]
 have hdrop : (cur.toList.take (n * 3)).drop (j * 3) = news := by rw [htake, pcells_drop, hnews]
 have hcell : ∀ V : World, V.heap[g]? = some (.cells cur 101 (0, 0)) → ∀ t, V.cell? ⟨g, t, none⟩ = cur[t]? := fun V hV t => by rw [cell_of_row V g t cur 101 (0, 0) hV]
 have hfz : ∀ (V : World) (cur' : Array Value), V.heap[g]? = some (.cells cur' 101 (0, 0)) → ∀ t, V.frozen? ⟨g, t, none⟩ = false := fun V cur' hV t => by simp [World.frozen?, hV]
 obtain ⟨AA, hAA, hsrc⟩ : ∃ AA : Addr, (if c = j then some (⟨g, 0, none⟩ : Addr) else some ⟨g, j * 3, none⟩) = some AA ∧ Hid (∀ t u, news[t]? = some u → w.drew.cell? (AA.add t) = some u) := by
  by_cases h : c = j
  ·refine ⟨⟨g, 0, none⟩, by simp [h], fun t u hu => ?_⟩
   have h0 : news.length = 0 := by rw [hln]; omega
   rw [List.length_eq_zero_iff.1 h0] at hu
   simp at hu
  ·refine ⟨⟨g, j * 3, none⟩, by simp [h], fun t u hu => ?_⟩
   have ht := (List.getElem?_eq_some_iff.1 hu).1
   rw [hln] at ht
   rw [Addr.add_lit]
   show w.cell? ⟨g, j * 3 + t, none⟩ = some u
   rw [hcell w hg, ← hu, ← hdrop, List.getElem?_drop, List.getElem?_take_of_lt (by omega), Array.getElem?_toList]
 have s1 : Hid (news.length = (n - j) * 3) := hln
 have s2 : Hid (∀ u ∈ news, u.oneCell' = true) := by rw [← hnews]; exact pcells_one_cell _
 have s3 : Hid (∀ t, t < news.length → (w.drew.cell? ⟨g, 0 + i * 3 + t, none⟩).isSome = true ∧ w.drew.frozen? ⟨g, 0 + i * 3 + t, none⟩ = false) := by
  intro t ht
  rw [hln] at ht
  refine ⟨?_, hfz w cur hg _⟩
  show (w.cell? _).isSome = true
  rw [hcell w hg, Array.getElem?_eq_getElem (by omega)]
  rfl
 have hgd : w.drew.heap[g]? = some (.cells cur 101 (0, 0)) := hg
 obtain ⟨cur1, hc1, hl1⟩ := heap_setCells_same g 101 news (i * 3) w.drew cur hgd (by rw [hln]; omega)
 obtain ⟨W1, hW1⟩ : ∃ W1, W1 = w.drew.setCells g (0 + i * 3) news := ⟨_, rfl⟩
 rw [Nat.zero_add, ] at hW1
 rw [← hW1] at hc1
 have hs1 : cur1.size = c * 3 := by rw [← Array.length_toList, hl1]; simp; omega
 obtain ⟨cur2, hc2, hl2⟩ := heap_setCells_same g 101 zeroP (n' * 3) W1 cur1 hc1 (by simp [zeroP]; omega)
 have hcr : ∀ ty, (Builtin.clear_ #[94] ty #[.slice (some ⟨g, n' * 3, none⟩) 1 (c - n')]).run Tryz.prog W1 = .ok (.tuple #[]) (W1.setCells g (n' * 3) zeroP) := fun ty =>
  run_clear_one W1 ty g (n' * 3) (c - n') (fun t ht => by rw [cell_of_row W1 g _ cur1 101 (0, 0) hc1, Array.getElem?_eq_getElem (by omega)]; rfl) (hfz W1 cur1 hc1)
 obtain ⟨W2, hW2⟩ : ∃ W2, W1.setCells g (n' * 3) zeroP = W2 := ⟨_, rfl⟩
 rw [hW2] at hcr hc2
 have hown : W2.ownsRow 0 101 3 (.slice (some ⟨g, 0, none⟩) n' c) n' (pcells (l.eraseIdx i)) := by
  refine ⟨by rw [pcells_length, List.length_eraseIdx_of_lt (by omega)]; omega, .inr ⟨g, c, cur2, rfl, hbg, hc2, by omega, hcm, ?_, ?_⟩⟩
  ·rw [← Array.length_toList, hl2]
   simp [zeroP]
   omega
  ·have e1 : (cur.toList.take (i * 3) ++ news).length = n' * 3 := by rw [List.length_append, List.length_take]; omega
   have e2 : (cur1.toList.take (n' * 3)).length = n' * 3 := by rw [List.length_take, Array.length_toList]; omega
   rw [hl2, List.append_assoc, List.take_left' e2, hl1, List.take_left' e1, List.eraseIdx_eq_take_drop_succ, hj, pcells_append, hnews, ← pcells_take, ← htake, List.take_take, show min (i * 3) (n * 3) = i * 3 by omega]
 have hgr : w.grownBy W2 (some g) := by
  have k1 : ∀ (vs : List Value) (o : Nat) (V : World), V.grownBy (V.setCells g o vs) (some g) := fun vs => by
   induction vs with
   | nil => exact fun o V => World.grownBy.refl V _
   | cons v r ih => exact fun o V => grown_trans_one (gset V g o v) (ih (o + 1) _)
  rw [← hW2, hW1]
  exact grown_trans_one (gdrew (World.grownBy.refl w _)) (grown_trans_one (k1 news _ _) (k1 zeroP _ _))
 have HE := Lib.hid (And.intro hown hgr)
 have hW : Hid (W1 = w.drew.setCells g (0 + i * 3) news) := by rw [Nat.zero_add]; exact hW1
 have hic : i ≤ c := by omega
 have hjc : j ≤ c := by omega
 have hjn : j ≤ n := by omega
 have hij : i ≤ j := by omega
 have hne : ((i : Int) == (j : Int)) = false := by simp; omega
 have hsum : i + (n - j) = n' := by omega
 have hone : n - n' = 1 := by omega
 clear hc1 hc2 hl1 hl2 hs1 hown hgr hW1 hW2 hg hgd htake hdrop hcell hfz hcs hcl hnews hln ho
 go_enter Tryz.func62, Tryz.ntmps62
 go_wp2_with fail
 go_region_law (refine step_append_room rfl (.tmp 22) (.tmp 25) 94 rfl 101 i0 3 Tryz.underlying94 hi0 hz1 g 0 i c (by simp [Act.eval, Act.put]) AA (n - j) (c - j) news (by simp [Act.eval, Act.put]) s1.out hsrc.out s2.out (by omega) s3.out ?_; rw [← hW.out, hsum])
 go_wp2_with fail
 go_ret
 exact ⟨rfl, HE⟩
end Pull
end Go.Proofs.YtkfdplfgaddkmaaGreat
