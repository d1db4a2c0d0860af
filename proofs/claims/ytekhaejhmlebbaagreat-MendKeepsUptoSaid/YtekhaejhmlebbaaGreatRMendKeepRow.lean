/-
 Records that a law copies one by one, and records among its arguments with what they hold (layer 14).
-/
import Derived.Test.YtekhaejhmlebbaaGreatRMendBulk
import Derived.Test.YtekhaejhmlebbaaGreatRHMendC
import Derived.Test.YtekhaejhmlebbaaGreatRMendAwake
import Derived.Test.YtekhaejhmlebbaaGreatRTreeSpoil
import Derived.Test.YtekhaejhmlebbaaGreatROwnRec
namespace Go.Proofs.YtekhaejhmlebbaaGreat
namespace Mend
open Go.ChangeShapes Go.WideShapes Go.ChangeAt Go.RowKit Go.Joins Go.Deep Vers Num Ring Disk Blk Tree
open Go.Proofs.YtekhaejhmlebbaaGreat.Code hiding Bn
def SzR (r : Rc) : Prop := r.2.length ≤ 2199023255488 ∧ ∀ v ∈ r.2, v.past.length ≤ 5864062014800
section
variable {H : Type} {enc : TypeId × Value → H} {W : World}
theorem vs_z {n : Nat} {cs : List Value} {D : DataW H} {Pl : List MemPlace} (h : DataW.trod enc Tryz.prog W 0 (fun _ => true) true n 50 cs = some (D, Pl)) (hw : Wt Tryz.prog 50 D) :
  ∃ (A : Option Addr) (c : Nat) (l : List Vr), cs = [.slice A l.length c] ∧ Vs W 0 W.heap.size A l ∧ l.length ≤ c ∧ l.length ≤ 2199023255488 ∧ ∀ v ∈ l, v.past.length ≤ 5864062014800 := by
 obtain ⟨A, c, ps, rfl, hc, hb, hq, hp⟩ := slice_at Tryz.underlying50 h hw cells_ver bytes_ver (by omega) vcc (fun p => Pa W 0 W.heap.size p.2.1 p.2.2 p.1 ∧ p.1.past.length ≤ 5864062014800) z0 (fun _ => rfl) (fun n cs D Pl h hw => by
  obtain ⟨v, A, c, rfl, hpa, h24, _⟩ := ver_at h hw
  exact ⟨(v, A, c), rfl, hpa, by simp only; omega⟩)
 refine ⟨A, c, ps.map Prod.fst, by rw [List.length_map], fun h0 => ?_, by rw [List.length_map]; exact hc, by rw [List.length_map]; omega, fun v hv => ?_⟩
 ·rw [List.length_map] at h0
  obtain ⟨b, off, e, hbl, hat⟩ := hp h0
  refine ⟨b, off, e, Nat.zero_le _, hbl, fun j hj => ?_⟩
  rw [List.length_map] at hj
  have e2 : (ps.map Prod.fst).getD j v0 = (ps.getD j z0).1 := by simp [List.getD_eq_getElem?_getD, hj]
  have hm : ps.getD j z0 ∈ ps := by
   rw [List.getD_eq_getElem?_getD, List.getElem?_eq_getElem hj]
   exact List.getElem_mem _
  rw [e2]
  exact ⟨_, _, hat j hj 0 _ (by simp [vcc]), hat j hj 1 _ (by simp [vcc]), hat j hj 2 _ (by simp [vcc]), hat j hj 3 _ (by simp [vcc]), hat j hj 4 _ (by simp [vcc]), (hq _ hm).1⟩
 ·obtain ⟨p, hp2, rfl⟩ := List.mem_map.1 hv
  exact (hq _ hp2).2
set_option maxRecDepth 100000 in
theorem rec_z {n : Nat} {cs : List Value} {D : DataW H} {Pl : List MemPlace} (h : DataW.trod enc Tryz.prog W 0 (fun _ => true) true n 53 cs = some (D, Pl)) (hw : Wt Tryz.prog 53 D) :
  ∃ p : Pr, cs = rcc p ∧ (Vs W 0 W.heap.size p.2.1 p.1.2 ∧ (p.1.2.length ≤ p.2.2 ∧ p.1.2.length ≤ 140737488355328 ∧ p.1.1.size ≤ 140737488355328)) ∧ SzR p.1 := by
 obtain ⟨y0, y1, m, hx, hl, h0, h1⟩ := trod_struct2 Tryz.underlying53 h
 rw [cells_rec] at hl
 match cs, hl with
 | [q0, q1], _ =>
  simp only [cells_vers, cells_string, List.drop_zero, List.take_succ_cons, List.take_zero, List.drop_succ_cons] at h0 h1
  obtain ⟨x, e0, x0, hxl⟩ := DataW.trod_string Tryz.underlying9 h0
  simp only [Prod.mk.injEq] at hx
  have hww := wt_struct Tryz.underlying53 (hx.1 ▸ hw)
  obtain ⟨A, c, l, e1, hs, hlc, hlw, hpw⟩ := vs_z (D := y1.1) (Pl := y1.2) h1 (hww 1 50 y1.1 rfl rfl)
  have hv := hww 0 9 y0.1 rfl rfl
  rw [show y0 = (.lit (.string x.data.toList), []) from x0] at hv
  have hvl := wt_string hv
  have hsz : x.data.toList.length = x.size := by rw [Array.length_toList]; rfl
  rw [hsz] at hvl
  simp only [List.cons.injEq, and_true] at e0 e1
  subst e0 e1
  exact ⟨((x, l), A, c), rfl, ⟨hs, hlc, by simp only; omega, by simp only; omega⟩, hlw, hpw⟩
set_option maxRecDepth 100000 in
theorem arg_recz {v : Value} {d : DataW H} {p : List MemPlace} {r : Reach} {b0 : Nat} (hv : Value.okWide Tryz.prog W r b0 22 v) (h : DataW.Trod enc Tryz.prog W 0 (fun _ => true) true 22 v d p) (hw : Wt Tryz.prog 22 d) :
  ∃ (A : Option Addr) (c : Nat) (l : List Rc), v = .slice A l.length c ∧ Rs W 0 W.heap.size A l ∧ l.length ≤ c ∧ l.length * 40 ≤ 140737488351232 ∧ ∀ r ∈ l, SzR r := by
 obtain ⟨A0, len0, c0, rfl⟩ := okWide_slice Tryz.underlying22 hv
 obtain ⟨fuel, hf⟩ := h
 obtain ⟨A, c, ps, hcs, hc, hb, hq, hp⟩ := slice_at Tryz.underlying22 hf hw cells_rec bytes_rec (by omega) rcc (fun p => (Vs W 0 W.heap.size p.2.1 p.1.2 ∧ (p.1.2.length ≤ p.2.2 ∧ p.1.2.length ≤ 140737488355328 ∧ p.1.1.size ≤ 140737488355328)) ∧ SzR p.1) (r0, none, 0) (fun _ => rfl) (fun n cs D Pl h hw => rec_z h hw)
 simp [Value.cells] at hcs
 obtain ⟨rfl, rfl, rfl⟩ := hcs
 refine ⟨A0, c0, ps.map Prod.fst, by rw [List.length_map], fun h0 => ?_, by rw [List.length_map]; exact hc, by rw [List.length_map]; omega, fun r hr => ?_⟩
 ·rw [List.length_map] at h0
  obtain ⟨b, off, e, hbl, hat⟩ := hp h0
  refine ⟨b, off, e, Nat.zero_le _, hbl, fun j hj => ?_⟩
  rw [List.length_map] at hj
  have e2 : (ps.map Prod.fst).getD j r0 = (ps.getD j (r0, none, 0)).1 := by simp [List.getD_eq_getElem?_getD, hj]
  have hm : ps.getD j (r0, none, 0) ∈ ps := by
   rw [List.getD_eq_getElem?_getD, List.getElem?_eq_getElem hj]
   exact List.getElem_mem _
  rw [e2]
  exact ⟨_, _, hat j hj 0 _ (by simp [rcc]), hat j hj 1 _ (by simp [rcc]), (hq _ hm).1.1, (hq _ hm).1.2⟩
 ·obtain ⟨p, hp2, rfl⟩ := List.mem_map.1 hr
  exact (hq _ hp2).2
end
def RowW (base : Nat) (w : World) (v : Value) (ps : List Pr) : Prop :=
 w.ownsRow base 53 2 v ps.length (rcs ps) ∧ ∀ p ∈ ps, ∃ L B, B ≤ w.heap.size ∧ Vs w L B p.2.1 p.1.2 ∧ (∀ g, v.ownBlock = some g → g < L ∨ B ≤ g) ∧ p.1.2.length ≤ p.2.2 ∧ p.1.2.length ≤ 140737488355328 ∧ p.1.1.size ≤ 140737488355328
theorem rowW_nil (base : Nat) (w : World) : RowW base w (.slice none 0 0) [] := ⟨World.ownsRow_nil _ _ _ _, fun p hp => by cases hp⟩
section
variable {base : Nat} {w w' : World} {v v' : Value} {ps : List Pr} {p : Pr}
theorem RowW.below (h : RowW base w v ps) (hb : Below w.heap.size w w') : RowW base w' v ps :=
 ⟨own_below h.1 hb (Nat.le_refl _), fun p hp => by
  obtain ⟨L, B, h1, h2, h3⟩ := h.2 p hp
  exact ⟨L, B, Nat.le_trans h1 hb.size, h2.keep fun a _ ha => hb.cell (by omega), h3⟩⟩
theorem RowW.add (h : RowW base w v ps) (ho : w'.ownsRow base 53 2 v' (ps.length + 1) (rcs (ps ++ [p]))) (hg : w.grownBy w' v.ownBlock) (hat : v'.ownBlock = v.ownBlock ∨ ∃ g, v'.ownBlock = some g ∧ w.heap.size ≤ g)
  (hp : ∃ L B, B ≤ w.heap.size ∧ Vs w L B p.2.1 p.1.2 ∧ (∀ g, v.ownBlock = some g → g < L ∨ B ≤ g) ∧ p.1.2.length ≤ p.2.2 ∧ p.1.2.length ≤ 140737488355328 ∧ p.1.1.size ≤ 140737488355328) : RowW base w' v' (ps ++ [p]) := by
 refine ⟨by simpa using ho, fun q hq => ?_⟩
 obtain ⟨L, B, h1, h2, h3, h4⟩ : ∃ L B, B ≤ w.heap.size ∧ Vs w L B q.2.1 q.1.2 ∧ (∀ g, v.ownBlock = some g → g < L ∨ B ≤ g) ∧ q.1.2.length ≤ q.2.2 ∧ q.1.2.length ≤ 140737488355328 ∧ q.1.1.size ≤ 140737488355328 := by
  rcases List.mem_append.1 hq with hq | hq
  ·exact h.2 q hq
  ·rw [List.mem_singleton.1 hq]
   exact hp
 refine ⟨L, B, Nat.le_trans h1 hg.size, h2.keep fun a ha hb => World.cell?_of_block (hg.block a.block (by omega) fun e => ?_), fun g hgv => ?_, h4⟩
 ·rcases h3 a.block e.symm with h | h <;> omega
 ·rcases hat with e | ⟨g2, e, hg2⟩
  ·exact h3 g (e ▸ hgv)
  ·rw [e] at hgv
   injection hgv with hgv
   exact .inr (by omega)
theorem RowW.rs {n c : Nat} {A : Option Addr} (h : RowW base w (.slice A n c) ps) : Rs w 0 w.heap.size A (ps.map Prod.fst) := fun hp => by
 rw [List.length_map] at hp
 obtain ⟨ho, hpa⟩ := h
 rcases ho.2 with ⟨_, h0⟩ | ⟨g, cap, cur, hv, hbg, hg, rest⟩
 ·omega
 ·injection hv with h1 h2 h3
  subst h1
  refine ⟨g, 0, rfl, Nat.zero_le _, (Array.getElem?_eq_some_iff.1 hg).1, fun j hj => ?_⟩
  rw [List.length_map] at hj
  have e : (ps.map Prod.fst).getD j r0 = (ps.getD j (r0, none, 0)).1 := by simp [List.getD_eq_getElem?_getD, hj]
  have hm : ps.getD j (r0, none, 0) ∈ ps := by
   rw [List.getD_eq_getElem?_getD, List.getElem?_eq_getElem hj]
   exact List.getElem_mem _
  rw [e]
  have hat : ∀ r, r < 2 → ∀ u, (rcc (ps.getD j (r0, none, 0)))[r]? = some u → w.cell? ⟨g, 0 + j * 2 + r, none⟩ = some u := fun r hr u hu => by
   have hc := ho.cells (g := g) rfl (j * 2 + r) u (by rw [rcs_at ps j hj r hr]; exact hu)
   rw [Vers.add_plain] at hc
   rw [show 0 + j * 2 + r = 0 + (j * 2 + r) by omega]
   exact hc
  obtain ⟨L, B, q0, q1, _, q2, q3, q4⟩ := hpa _ hm
  exact ⟨_, _, hat 0 (by omega) _ (by simp [rcc]), hat 1 (by omega) _ (by simp [rcc]), (q1.less (Nat.zero_le _)).more q0, q2, q3, q4⟩
end
theorem now_len7 (l : List Rc) : ∀ was : List Rc, (nowF was l).length ≤ was.length + l.length := by
 induction l with
 | nil => intro was; simp [nowF]
 | cons r l ih =>
  intro was
  have h1 := ih (mergeR was r)
  have h2 := merge_len was r
  unfold nowF at h1 ⊢
  simp only [List.foldl_cons, List.length_cons]
  omega
theorem take_len7 (l l' : List Rc) : (takeR l l').1.length ≤ l.length + l'.length := by
 unfold takeR
 split
 ·unfold takeF
  have h1 := List.length_filter_le (fun r : Rc => !decide (r.2 = getF (heldF l) r.1)) (nowF (heldF l) l')
  have h2 := now_len7 l' (heldF l)
  have h3 := held_len l
  simp only
  omega
 ·simp
end Mend
end Go.Proofs.YtekhaejhmlebbaaGreat
