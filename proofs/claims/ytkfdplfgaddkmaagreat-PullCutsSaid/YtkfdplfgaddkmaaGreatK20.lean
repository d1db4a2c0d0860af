/-
  Several texts of this family in one: TreeRows, TreeTurn.
-/
import Derived.Test.YtkfdplfgaddkmaaGreatK17
import Derived.Test.YtkfdplfgaddkmaaGreatK19
import Derived.Test.YtkfdplfgaddkmaaGreatK13
/-
 Records that a call makes: a row of the call's own, each with versions of its own; where the rows stand is told, so that they can be written.
-/
namespace Go.Proofs.YtkfdplfgaddkmaaGreat
namespace Tree
open Go.RowKit Vers Num Ring Disk Blk
open Go.Proofs.YtkfdplfgaddkmaaGreat.Code hiding Bn

def RecN (w : World) (L B : Nat) (p : Pr) : Prop :=
 p.1.2.length ≤ p.2.2 ∧ p.1.1.size ≤ 140737488355328 ∧ p.1.2.length ≤ 512 ∧ ∃ ps : List Pv, ps.map Prod.fst = p.1.2 ∧ OwnVs L L B w (.slice p.2.1 p.1.2.length p.2.2) ps ∧ (∀ g, (Value.slice p.2.1 p.1.2.length p.2.2).ownBlock = some g → g < B) ∧ ∀ q ∈ ps, Tg w q.1.past.length q.2.1
theorem RecN.keep {w w' : World} {L B : Nat} {p : Pr} (h : RecN w L B p) (hk : ∀ k, L ≤ k → k < B → w'.heap[k]? = w.heap[k]?) : RecN w' L B p := by
 obtain ⟨h0, hz1, hz2, ps, h1, ⟨h2, h3⟩, h4, h5⟩ := h
 refine ⟨h0, hz1, hz2, ps, h1, ⟨own_same h2 fun g hg => hk g (h2.lt g hg).1 (h4 g hg), fun q hq => (h3 q hq).keep fun a ha hb => World.cell?_of_block (hk _ ha hb)⟩, h4, fun q hq => ?_⟩
 refine (h5 q hq).keep fun hn a ha hl => hk _ ((h3 q hq).2.2.2.2 hn a ha) ?_
 obtain ⟨b, off, e, hb, _⟩ := (h3 q hq).1 hn
 rw [e] at ha
 injection ha with ha
 rw [← ha]
 exact hb
theorem RecN.vs {w : World} {L B : Nat} {p : Pr} (h : RecN w L B p) : Vs w L B p.2.1 p.1.2 := by
 obtain ⟨h0, hz1, hz2, ps, h1, ⟨h2, h3⟩, h4, h5⟩ := h
 intro hp
 rw [← h1] at hp ⊢
 rw [List.length_map] at hp
 rcases h2.2 with ⟨_, h6⟩ | ⟨g, cap, cur, hv, hbg, hg, rest⟩
 ·omega
 ·injection hv with e1 e2 e3
  rw [e1] at h2 h4 ⊢
  refine ⟨g, 0, rfl, hbg, h4 g rfl, fun j hj => ?_⟩
  rw [List.length_map] at hj
  have e : (ps.map Prod.fst).getD j v0 = (ps.getD j z0).1 := by simp [List.getD_eq_getElem?_getD, hj]
  have hm : ps.getD j z0 ∈ ps := by
   rw [List.getD_eq_getElem?_getD, List.getElem?_eq_getElem hj]
   exact List.getElem_mem _
  rw [e]
  have hat : ∀ r, r < 5 → ∀ u, (vcc (ps.getD j z0))[r]? = some u → w.cell? ⟨g, 0 + j * 5 + r, none⟩ = some u := fun r hr u hu => by
   have hc := h2.cells (g := g) rfl (j * 5 + r) u (by rw [vcs_at ps j hj r hr]; exact hu)
   rw [Vers.add_plain] at hc
   rw [show 0 + j * 5 + r = 0 + (j * 5 + r) by omega]
   exact hc
  exact ⟨_, _, hat 0 (by omega) _ (by simp [vcc]), hat 1 (by omega) _ (by simp [vcc]), hat 2 (by omega) _ (by simp [vcc]), hat 3 (by omega) _ (by simp [vcc]), hat 4 (by omega) _ (by simp [vcc]), h3 _ hm⟩

set_option maxRecDepth 100000 in
theorem vers_new (key : Nm) (hkey : key.size ≤ 140737488355328) (A : Option Addr) (c m : Nat) (l : List Vr) (hm : l.length = m) (hl : RightV l) (w : World) (hv : Vs w 0 w.heap.size A l) :
  Calls Tryz.prog 63 #[.slice A m c] w (fun e w' => ∃ A1 c1, e = .returned (.slice A1 m c1) ∧ Hid (RecN w' w.heap.size w'.heap.size ((key, l), A1, c1)) ∧ Below w.heap.size w w') := by
 have h512 : l.length ≤ 512 := hl.1
 have hp : ∀ v ∈ l, v.past.length ≤ 4294967296 := fun v hv => by
  have h1 := (hl.2.1.1 v hv).2.1
  unfold Span.Right at h1
  have := h1.1
  omega
 have h := Lib.hid (list_own A c m l hm 0 w.heap.size w (Nat.le_refl _) hv (by omega) hp)
 have HM := Lib.hid (And.intro hm h512)
 clear hm hv hl hp h512
 go_enter Tryz.func63, Tryz.ntmps63
 go_wp2_with fail
 refine h.out.mono ?_
 rintro e w2 ⟨A1, c1, ps, rfl, h2, b2⟩
 rw [HM.out.1] at h2 ⊢
 go_wp2_with fail
 go_ret
 have h4 := h2.out.1.1
 have hl : ps.length = m := by rw [← HM.out.1, ← h2.out.2.1, List.length_map]
 rw [hl] at h4
 refine ⟨A1, c1, rfl, Lib.hid ⟨?_, hkey, HM.out.2, ps, h2.out.2.1, ?_, ?_, h2.out.2.2⟩, b2⟩
 ·show l.length ≤ c1
  rw [HM.out.1]
  exact (own_low h4).1
 ·show OwnVs _ _ _ _ (.slice A1 l.length c1) ps
  rw [HM.out.1]
  exact h2.out.1
 ·intro g hg
  have hg' : (Value.slice A1 l.length c1).ownBlock = some g := hg
  rw [HM.out.1] at hg'
  exact (h4.lt g hg').2

def RowT (base it : Nat) (w : World) (v : Value) (ps : List Pr) : Prop :=
 w.ownsRow base 70 2 v ps.length (rcs ps) ∧ ∀ p ∈ ps, ∃ L B, base ≤ L ∧ B ≤ w.heap.size ∧ (∀ g, v.ownBlock = some g → g < L ∨ B ≤ g) ∧ (it < L ∨ B ≤ it) ∧ RecN w L B p
theorem rowT_nil (base it : Nat) (w : World) : RowT base it w (.slice none 0 0) [] := ⟨World.ownsRow_nil _ _ _ _, fun p hp => by cases hp⟩
section
variable {base it : Nat} {w w' : World} {v : Value} {ps : List Pr}
theorem RowT.below (h : RowT base it w v ps) (hb : Below w.heap.size w w') : RowT base it w' v ps := by
 refine ⟨own_below h.1 hb (Nat.le_refl _), fun p hp => ?_⟩
 obtain ⟨L, B, h1, h2, h3, h4, h5⟩ := h.2 p hp
 exact ⟨L, B, h1, Nat.le_trans h2 hb.size, h3, h4, h5.keep fun k _ hk => hb.block k (by omega)⟩
theorem RowT.step (h : RowT base it w v ps) (hg : w.grownBy w' (some it)) (hne : some it ≠ v.ownBlock) : RowT base it w' v ps := by
 refine ⟨h.1.kept hg (Or.inr hne.symm), fun p hp => ?_⟩
 obtain ⟨L, B, h1, h2, h3, h4, h5⟩ := h.2 p hp
 exact ⟨L, B, h1, Nat.le_trans h2 hg.size, h3, h4, h5.keep fun k a b => hg.block k (by omega) fun e => by injection e with e; omega⟩
theorem RowT.other (h : RowT base it w v ps) {j : Nat} (hj : w.heap.size ≤ j) : RowT base j w v ps := by
 refine ⟨h.1, fun p hp => ?_⟩
 obtain ⟨L, B, h1, h2, h3, h4, h5⟩ := h.2 p hp
 exact ⟨L, B, h1, h2, h3, .inr (by omega), h5⟩
theorem RowT.add {w1 w2 : World} {v' : Value} {p : Pr} (h : RowT base it w v ps) (hit : it < w.heap.size) (hb1 : Below w.heap.size w w1) (hp : RecN w1 w.heap.size w1.heap.size p) (hb : base ≤ w.heap.size)
  (ho : w2.ownsRow base 70 2 v' (ps.length + 1) (rcs (ps ++ [p]))) (h2 : w1.grownBy w2 v.ownBlock) (hat : v'.ownBlock = v.ownBlock ∨ ∃ g, v'.ownBlock = some g ∧ w1.heap.size ≤ g) : RowT base it w2 v' (ps ++ [p]) := by
 have hs2 := h2.size
 have hs1 := hb1.size
 refine ⟨by simpa using ho, fun q hq => ?_⟩
 rcases List.mem_append.1 hq with hq | hq
 ·obtain ⟨L, B', h1, h3, h4, h5, h6⟩ := h.2 q hq
  refine ⟨L, B', h1, by omega, fun g hg' => ?_, h5, (h6.keep fun k a b => hb1.block k (by omega)).keep fun k a b => h2.block k (by omega) (fun e => ?_)⟩
  ·rcases hat with e | ⟨g', e, hge⟩
   ·exact h4 g (e ▸ hg')
   ·rw [hg'] at e
    injection e with e
    subst e
    exact .inr (by omega)
  ·have := h4 k e.symm
   omega
 ·obtain rfl := List.mem_singleton.1 hq
  refine ⟨w.heap.size, w1.heap.size, hb, hs2, fun g hg' => ?_, .inl hit, hp.keep fun k a b => h2.block k b (fun e => by have := (h.1.lt k e.symm).2; omega)⟩
  rcases hat with e | ⟨g', e, hge⟩
  ·exact .inl (h.1.lt g (e ▸ hg')).2
  ·rw [hg'] at e
   injection e with e
   subst e
   exact .inr hge
end

def Got (base : Nat) (w : World) (A : Option Addr) (ps : List Pr) : Prop :=
 0 < ps.length → ∃ g, A = some ⟨g, 0, none⟩ ∧ base ≤ g ∧ Prs w g ps ∧ (∃ cur, w.heap[g]? = some (.cells cur 70 (0, 0))) ∧ ∀ p ∈ ps, ∃ L B, base ≤ L ∧ B ≤ w.heap.size ∧ (g < L ∨ B ≤ g) ∧ RecN w L B p
theorem Got.keep {base : Nat} {w w' : World} {A : Option Addr} {ps : List Pr} (h : Got base w A ps) (hs : w.heap.size ≤ w'.heap.size) (hk : ∀ k, base ≤ k → k < w.heap.size → w'.heap[k]? = w.heap[k]?) : Got base w' A ps := fun hp => by
 obtain ⟨g, h1, h2, h3, ⟨cur, h4⟩, h5⟩ := h hp
 have hl := (Array.getElem?_eq_some_iff.1 h4).1
 refine ⟨g, h1, h2, fun j hj => ⟨(World.cell?_of_block (hk g h2 hl)).trans (h3 j hj).1, (World.cell?_of_block (hk g h2 hl)).trans (h3 j hj).2⟩, ⟨cur, (hk g h2 hl).trans h4⟩, fun p hp => ?_⟩
 obtain ⟨L, B, q1, q2, q3, q4⟩ := h5 p hp
 exact ⟨L, B, q1, Nat.le_trans q2 hs, q3, q4.keep fun k a b => hk k (by omega) (by omega)⟩
theorem Got.rs {base : Nat} {w : World} {A : Option Addr} {ps : List Pr} (h : Got base w A ps) : Rs w base w.heap.size A (ps.map Prod.fst) := fun hp => by
 rw [List.length_map] at hp
 obtain ⟨g, h1, h2, h3, ⟨cur, h4⟩, h5⟩ := h hp
 have hl := (Array.getElem?_eq_some_iff.1 h4).1
 refine ⟨g, 0, h1, h2, hl, fun j hj => ?_⟩
 rw [List.length_map] at hj
 have e : (ps.map Prod.fst).getD j r0 = (ps.getD j (r0, none, 0)).1 := by simp [List.getD_eq_getElem?_getD, hj]
 have hm : ps.getD j (r0, none, 0) ∈ ps := by
  rw [List.getD_eq_getElem?_getD, List.getElem?_eq_getElem hj]
  exact List.getElem_mem _
 obtain ⟨L, B, q1, q2, q3, q4⟩ := h5 _ hm
 rw [e]
 obtain ⟨c0, c1⟩ := h3 j hj
 rw [Nat.zero_add]
 have h512 := q4.2.2.1
 exact ⟨_, _, c0, c1, (q4.vs.more q2).less q1, q4.1, by omega, q4.2.1⟩
end Tree
end Go.Proofs.YtkfdplfgaddkmaaGreat

/-
 What becomes of a tree when a map is made, a key gets versions, a key goes: all but the spots; then the spots, one by one.
-/
namespace Go.Proofs.YtkfdplfgaddkmaaGreat
namespace Tree
open Go.RowKit Vers Num Ring Disk Blk
open Go.Proofs.YtkfdplfgaddkmaaGreat.Code hiding Bn

structure TI (F : Nat → Prop) (w : World) (tb : Nat) (mv : Nat → Option Nat) (f : Fp) (all : List Rc) : Prop where
 leaf : ∀ i, i < 256 → Leaf F w f all i (mv i)
 inj : ∀ i j k, i < 256 → j < 256 → mv i = some k → mv j = some k → i = j
 ne : ∀ i k, i < 256 → mv i = some k → k ≠ tb
 rows : ∀ r ∈ all, Row F (Mu tb mv) w f r
 ok : okAll all
 own : F tb
 lt : ∀ k, F k → k < w.heap.size
section
variable {F F' : Nat → Prop} {w w' : World} {tb : Nat} {mv : Nat → Option Nat} {f : Fp} {all : List Rc} {Bz : List Int → Prop} {r : Rc} {p : List Int}
theorem TR.ti (h : TR F w tb mv f all Bz) : TI F w tb mv f all := ⟨h.leaf, h.inj, fun _ _ hi hm => h.ne hi hm, h.rows, h.ok, h.own, h.lt⟩
theorem TI.tr (h : TI F w tb mv f all) {L : List Value} (h1 : Bn tb 139 L w) (h2 : Cells L mv all Bz) : TR F w tb mv f all Bz := ⟨⟨L, h1, h2⟩, h.leaf, h.inj, h.rows, h.ok, h.own, h.lt⟩
theorem TI.turn (h : TI F w tb mv f all) (hg : w.grownBy w' (some tb)) : TI F w' tb mv f all := by
 obtain ⟨h3, h4, hne, h5, h6, h7, h8⟩ := h
 exact ⟨fun i hi => ⟨(h3 i hi).1, fun mb hm => ⟨((h3 i hi).2 mb hm).1, ((h3 i hi).2 mb hm).2.same (hg.block _ (h8 _ ((h3 i hi).2 mb hm).1) (fun e => hne i mb hi hm (by injection e)))⟩⟩, h4, hne, fun r hr => (h5 r hr).keep hg.size fun k hk hM => hg.block k (h8 k hk) (fun e => hM (.inl (by injection e))), h6, h7, fun k hk1 => Nat.lt_of_lt_of_le (h8 k hk1) hg.size⟩
theorem TI.below (h : TI F w tb mv f all) (hb : Below w.heap.size w w') : TI F w' tb mv f all := h.turn ⟨hb.os, hb.tape, hb.output, hb.size, fun k hk _ => hb.block k hk⟩
def mkM (mv : Nat → Option Nat) (i mb : Nat) : Nat → Option Nat := fun j => if j = i then some mb else mv j
theorem TI.mkmap (h : TI F w tb mv f all) {i : Nat} (hi : i < 256) (hm : mv i = none) (hw : Below w.heap.size w w') (hn : w'.heap[w.heap.size]? = some (.map #[] 0)) : TI (fun k => F k ∨ k = w.heap.size) w' tb (mkM mv i w.heap.size) f all := by
 have h' := h.below hw
 have hlt : w.heap.size < w'.heap.size := (Array.getElem?_eq_some_iff.1 hn).1
 have hMI : MI w' w.heap.size [] := (mi_made w).same (by
  rw [hn]
  have := World.alloc_heap_new w (.map #[] 0)
  rw [this])
 refine ⟨fun j hj => ?_, fun j k b hj hk e1 e2 => ?_, fun j k hj e => ?_, fun r hr => ?_, h'.ok, .inl h'.own, fun k hk => ?_⟩
 ·unfold mkM
  by_cases e : j = i
  ·subst e
   rw [if_pos rfl]
   refine ⟨(fun e => by cases e), fun mb hmb => ?_⟩
   injection hmb with hmb
   subst hmb
   rw [(h.leaf j hj).1 hm]
   exact ⟨.inr rfl, hMI⟩
  ·rw [if_neg e]
   exact ⟨(h'.leaf j hj).1, fun mb hmb => ⟨.inl ((h'.leaf j hj).2 mb hmb).1, ((h'.leaf j hj).2 mb hmb).2⟩⟩
 ·unfold mkM at e1 e2
  by_cases q1 : j = i
  ·by_cases q2 : k = i
   ·rw [q1, q2]
   ·rw [if_pos q1] at e1
    rw [if_neg q2] at e2
    injection e1 with e1
    subst e1
    have := h.lt _ ((h.leaf k hk).2 _ e2).1
    omega
  ·rw [if_neg q1] at e1
   by_cases q2 : k = i
   ·rw [if_pos q2] at e2
    injection e2 with e2
    subst e2
    have := h.lt _ ((h.leaf j hj).2 _ e1).1
    omega
   ·rw [if_neg q2] at e2
    exact h.inj j k b hj hk e1 e2
 ·unfold mkM at e
  by_cases q : j = i
  ·rw [if_pos q] at e
   injection e with e
   have := h.lt _ h.own
   omega
  ·rw [if_neg q] at e
   exact h.ne j k hj e
 ·obtain ⟨L, B, h1, h2, h3, h4⟩ := h'.rows r hr
  obtain ⟨L0, B0, g1, g2, g3, g4⟩ := h.rows r hr
  refine ⟨L0, B0, g1.keep fun a ha hb => World.cell?_of_block (hw.block _ (by omega)), g2, Nat.le_trans g3 hw.size, fun k a b => ⟨.inl (g4 k a b).1, fun hM => ?_⟩⟩
  rcases hM with hM | ⟨j, hj, hM⟩
  ·exact (g4 k a b).2 (.inl hM)
  ·unfold mkM at hM
   by_cases q : j = i
   ·rw [if_pos q] at hM
    injection hM with hM
    omega
   ·rw [if_neg q] at hM
    exact (g4 k a b).2 (.inr ⟨j, hj, hM⟩)
 ·rcases hk with hk | rfl
  ·exact h'.lt k hk
  ·exact hlt
theorem cells_mk {L : List Value} (h : Cells L mv all Bz) {i mb : Nat} (hi : i < 256) : Cells (L.set i (.map (some mb))) (mkM mv i mb) all Bz := by
 obtain ⟨h1, h2, h3⟩ := h
 refine ⟨by simpa using h1, fun j hj => ?_, fun q hq => ?_⟩
 ·unfold mkM
  by_cases e : j = i
  ·subst e
   rw [if_pos rfl, List.getElem?_set_self (by omega)]
  ·rw [if_neg e, List.getElem?_set_ne (fun q => e q.symm)]
   exact h2 j hj
 ·obtain ⟨d, k, x, s0, s1, s2, s3, s4⟩ := h3 q hq
  exact ⟨d, k, x, (List.getElem?_set_ne (by omega)).trans s0, (List.getElem?_set_ne (by omega)).trans s1, (List.getElem?_set_ne (by omega)).trans s2, (List.getElem?_set_ne (by omega)).trans s3, s4⟩
theorem wout_map (f : Fp) (l : List Rc) (s : Nm) : wout (l.map (vOf f)) s = (wout l s).map (vOf f) := by
 unfold wout
 rw [List.filter_map]
 rfl
theorem ins_map {f f' : Fp} {s : Nm} {lv : List Vr} {b : Value} (hb : vOf f' (s, lv) = (s, b)) : ∀ (l : List Rc), (∀ x ∈ l, vOf f' x = vOf f x) → ins (l.map (vOf f)) s b = (ins l s lv).map (vOf f')
 | [], _ => by
  simp only [ins, List.map_nil, List.map_cons, hb]
 | x :: l, h => by
  have ih := ins_map hb l fun y hy => h y (by simp [hy])
  have hx := h x (by simp)
  have hl : l.map (vOf f) = l.map (vOf f') := List.map_congr_left fun y hy => (h y (by simp [hy])).symm
  simp only [List.map_cons, ins]
  rw [show (vOf f x).1 = x.1 from rfl]
  by_cases e : nlt s x.1 = true
  ·rw [if_pos e, if_pos e]
   simp only [List.map_cons, hb, hx, hl]
  ·rw [if_neg e, if_neg e]
   simp only [List.map_cons, hx, ih]
def putP (f : Fp) (key : Nm) (A : Option Addr) (c : Nat) : Fp := fun k => if k = key then (A, c) else f k
theorem TI.put (h : TI F w tb mv f all) {mb : Nat} {key : Nm} {lv : List Vr} (hne : lv ≠ []) (hok : okR (key, lv)) (hm : mv (leafN key) = some mb) {A : Option Addr} {c L B : Nat} (hv : Vs w L B A lv) (hc : lv.length ≤ c) (hB : B ≤ w.heap.size) (hL : ∀ k, L ≤ k → k < B → ¬ F k)
  (hM : MI w' mb (wit ((leafR all (leafN key)).map (vOf f)) key (.slice A lv.length c))) (hg : w.grownBy w' (some mb)) : TI (fun k => F k ∨ (L ≤ k ∧ k < B)) w' tb mv (putP f key A c) (withR all (key, lv)) := by
 have hlf := leaf_lt key
 have hmF := ((h.leaf _ hlf).2 mb hm).1
 have hold : ∀ x : Rc, x.1 ≠ key → vOf (putP f key A c) x = vOf f x := fun x hx => by unfold vOf putP; rw [if_neg hx]
 have hnew : vOf (putP f key A c) (key, lv) = (key, .slice A lv.length c) := by unfold vOf putP; rw [if_pos rfl]
 refine ⟨fun j hj => ?_, h.inj, h.ne, fun r hr => ?_, ⟨with_srt h.ok.1 _, fun r hr => ?_⟩, .inl h.own, fun k hk => ?_⟩
 ·by_cases e : j = leafN key
  ·subst e
   refine ⟨(fun e => by rw [hm] at e; cases e), fun b hb => ?_⟩
   rw [hm] at hb
   injection hb with hb
   subst hb
   refine ⟨.inl hmF, ?_⟩
   rw [show leafN key = leafN (key, lv).1 from rfl, leaf_with_eq h.ok.1]
   unfold withR
   rw [if_neg hne]
   rw [wit, wout_map] at hM
   rw [show (key, lv).1 = key from rfl, show (key, lv).2 = lv from rfl, wit]
   have hx := ins_map (f := f) hnew (wout (leafR all (leafN key)) key) fun x hx => hold x (mem_wout.1 hx).2
   rw [hx] at hM
   exact hM
  ·have hl := h.leaf j hj
   have hlr := leaf_with_ne h.ok.1 (key, lv) e
   refine ⟨(fun q => by rw [hlr]; exact hl.1 q), fun b hb => ⟨.inl (hl.2 b hb).1, ?_⟩⟩
   rw [hlr]
   have hmm : (leafR all j).map (vOf (putP f key A c)) = (leafR all j).map (vOf f) := List.map_congr_left fun x hx => hold x fun q => e (by rw [← (leaf_mem.1 hx).2, q])
   rw [hmm]
   refine (hl.2 b hb).2.same (hg.block _ (h.lt _ (hl.2 b hb).1) fun q => ?_)
   injection q with q
   subst q
   exact e (h.inj j (leafN key) b hj hlf hb hm)
 ·rcases with_mem.1 hr with ⟨rfl, _⟩ | ⟨h1, h2⟩
  ·refine ⟨L, B, ?_, ?_, Nat.le_trans hB hg.size, fun k a b => ⟨.inr ⟨a, b⟩, fun hMu => hL k a b ?_⟩⟩
   ·unfold putP
    rw [if_pos rfl]
    exact hv.keep fun a ha hb => World.cell?_of_block (hg.block _ (by omega) fun q => by
     injection q with q
     exact hL a.block ha hb (q ▸ hmF))
   ·unfold putP
    rw [if_pos rfl]
    exact hc
   ·rcases hMu with rfl | ⟨j, hj, hMu⟩
    ·exact h.own
    ·exact ((h.leaf j hj).2 k hMu).1
  ·obtain ⟨L0, B0, g1, g2, g3, g4⟩ := h.rows r h1
   refine ⟨L0, B0, ?_, ?_, Nat.le_trans g3 hg.size, fun k a b => ⟨.inl (g4 k a b).1, (g4 k a b).2⟩⟩
   ·unfold putP
    rw [if_neg h2]
    exact g1.keep fun a ha hb => World.cell?_of_block (hg.block _ (by omega) fun q => by
     injection q with q
     exact (g4 a.block ha hb).2 (.inr ⟨leafN key, hlf, q ▸ hm⟩))
   ·unfold putP
    rw [if_neg h2]
    exact g2
 ·rcases with_mem.1 hr with ⟨rfl, h1⟩ | ⟨h1, h2⟩
  ·exact ⟨hok, h1⟩
  ·exact h.ok.2 r h1
 ·rcases hk with hk | ⟨_, hk⟩
  ·exact Nat.lt_of_lt_of_le (h.lt k hk) hg.size
  ·exact Nat.lt_of_lt_of_le hk (Nat.le_trans hB hg.size)
theorem TI.drop (h : TI F w tb mv f all) {mb : Nat} {key : Nm} (hm : mv (leafN key) = some mb)
  (hM : MI w' mb (wout ((leafR all (leafN key)).map (vOf f)) key)) (hg : w.grownBy w' (some mb)) : TI F w' tb mv f (withR all (key, [])) := by
 have hlf := leaf_lt key
 refine ⟨fun j hj => ?_, h.inj, h.ne, fun r hr => ?_, ⟨with_srt h.ok.1 _, fun r hr => ?_⟩, h.own, fun k hk => Nat.lt_of_lt_of_le (h.lt k hk) hg.size⟩
 ·by_cases e : j = leafN key
  ·subst e
   refine ⟨(fun e => by rw [hm] at e; cases e), fun b hb => ?_⟩
   rw [hm] at hb
   injection hb with hb
   subst hb
   refine ⟨((h.leaf _ hlf).2 mb hm).1, ?_⟩
   rw [show leafN key = leafN (key, ([] : List Vr)).1 from rfl, leaf_with_eq h.ok.1]
   unfold withR
   rw [if_pos rfl]
   rw [wout_map] at hM
   exact hM
  ·have hl := h.leaf j hj
   have hlr := leaf_with_ne h.ok.1 (key, ([] : List Vr)) e
   refine ⟨(fun q => by rw [hlr]; exact hl.1 q), fun b hb => ⟨(hl.2 b hb).1, ?_⟩⟩
   rw [hlr]
   refine (hl.2 b hb).2.same (hg.block _ (h.lt _ (hl.2 b hb).1) fun q => ?_)
   injection q with q
   subst q
   exact e (h.inj j (leafN key) b hj hlf hb hm)
 ·rcases with_mem.1 hr with ⟨_, h1⟩ | ⟨h1, h2⟩
  ·exact absurd rfl h1
  ·refine (h.rows r h1).keep hg.size fun k hk hn => hg.block k (h.lt k hk) fun q => ?_
   injection q with q
   exact hn (.inr ⟨leafN key, hlf, q ▸ hm⟩)
 ·rcases with_mem.1 hr with ⟨_, h1⟩ | ⟨h1, h2⟩
  ·exact absurd rfl h1
  ·exact h.ok.2 r h1

/-! ### The spots on a key's path are made anew -/
def pre (key : Nm) (n : Nat) : List Int := [dig0 key, dig1 key].take n
theorem pre_ok (key : Nm) (n : Nat) : okP (pre key n) := by
 refine ⟨fun d hd => ?_, by unfold pre; rw [List.length_take]; exact Nat.min_le_right _ _⟩
 have := List.mem_of_mem_take hd
 have h0 := dig0_range key
 have h1 := dig1_range key
 simp at this
 omega
theorem pre_is {key : Nm} {p : List Int} (hp : okP p) (h : inP p key = true) : p = pre key p.length := by
 rcases ok_cases hp with rfl | ⟨a, rfl, _⟩ | ⟨a, b, rfl, _, _⟩
 ·rfl
 ·simp [inP] at h; simp [pre, h]
 ·simp [inP] at h; simp [pre, h]
def Stale (L : List Value) (mv : Nat → Option Nat) (all : List Rc) (key : Nm) (n : Nat) : Prop :=
 L.length = 1348 ∧ (∀ i, i < 256 → L[i]? = some (.map (mv i))) ∧ ∀ p, okP p → ∃ (d x : Int), L[256 + 4 * spotN p]? = some (.int .u32 d) ∧ L[256 + 4 * spotN p + 1]? = some (.int .i32 0) ∧ L[256 + 4 * spotN p + 2]? = some (.int .u32 0) ∧ L[256 + 4 * spotN p + 3]? = some (.int .u64 x) ∧
  (d = 0 ∨ d = 1) ∧ ((inP p key = false ∨ p.length < n) → d = 0 ∨ x = hashF all p)
theorem beneath_with {r : Rc} (hs : Srt all) (h : inP p r.1 = false) : beneath all p = beneath (withR all r) p := by
 refine srt_mem (beneath_srt hs p) (beneath_srt (with_srt hs r) p) fun x => ?_
 rw [beneath_mem, beneath_mem, with_mem]
 constructor
 ·rintro ⟨h1, h2⟩
  exact ⟨.inr ⟨h1, fun e => by rw [e, h] at h2; cases h2⟩, h2⟩
 ·rintro ⟨⟨rfl, _⟩ | ⟨h1, _⟩, h2⟩
  ·rw [h] at h2; cases h2
  ·exact ⟨h1, h2⟩
theorem stale_start {L : List Value} (h : Cells L mv all fun _ => False) (r : Rc) (hs : Srt all) : Stale L mv (withR all r) r.1 0 := by
 obtain ⟨h1, h2, h3⟩ := h
 refine ⟨h1, h2, fun p hp => ?_⟩
 obtain ⟨d, k, x, s0, s1, s2, s3, _, s5⟩ := h3 p hp
 obtain ⟨e1, e2⟩ := s5 id
 subst e1
 refine ⟨d, x, s0, s1, s2, s3, e2.elim .inl fun q => .inr q.1, fun hq => ?_⟩
 rcases hq with hq | hq
 ·rcases e2 with e2 | ⟨_, e2⟩
  ·exact .inl e2
  ·refine .inr ?_
   rw [e2]
   unfold hashF
   rw [if_pos hp, if_pos hp]
   exact hF_congr _ _ _ _ hp (by have := hp.2; omega) (beneath_with hs hq)
 ·omega
theorem Stale.next {L L' : List Value} {key : Nm} {n : Nat} (h : Stale L mv all key n) (_hn : n < 3) (hl : L'.length = L.length) (hk : ∀ j, j < 256 + 4 * spotN (pre key n) ∨ 256 + 4 * spotN (pre key n) + 4 ≤ j → L'[j]? = L[j]?)
  (s0 : L'[256 + 4 * spotN (pre key n)]? = some (.int .u32 0)) (s1 : L'[256 + 4 * spotN (pre key n) + 1]? = some (.int .i32 0)) (s2 : L'[256 + 4 * spotN (pre key n) + 2]? = some (.int .u32 0)) (s3 : L'[256 + 4 * spotN (pre key n) + 3]? = some (.int .u64 0)) : Stale L' mv all key (n + 1) := by
 obtain ⟨h1, h2, h3⟩ := h
 refine ⟨hl.trans h1, fun i hi => (hk i (by omega)).trans (h2 i hi), fun p hp => ?_⟩
 by_cases e : p = pre key n
 ·subst e
  exact ⟨0, 0, s0, s1, s2, s3, .inl rfl, fun _ => .inl rfl⟩
 ·have hne : spotN p ≠ spotN (pre key n) := fun q => e (spot_inj hp (pre_ok key n) q)
  obtain ⟨d, x, q0, q1, q2, q3, q4, q5⟩ := h3 p hp
  refine ⟨d, x, (hk _ (by omega)).trans q0, (hk _ (by omega)).trans q1, (hk _ (by omega)).trans q2, (hk _ (by omega)).trans q3, q4, fun hq => ?_⟩
  rcases hq with hq | hq
  ·exact q5 (.inl hq)
  ·by_cases hin : inP p key = true
   ·by_cases hln : p.length = n
    ·exact absurd (by rw [← hln]; exact pre_is hp hin) e
    ·exact q5 (.inr (by omega))
   ·exact q5 (.inl (by simpa using hin))
theorem zero_spot {V : World} {L : List Value} {key : Nm} {n o : Nat} (hB : Bn tb 139 L V) (hs : Stale L mv all key n) (hn : n < 3) (ho : o = 256 + 4 * spotN (pre key n)) : ∃ L', Bn tb 139 L' ((((V.setCell ⟨tb, o, none⟩ (.int .u32 0)).setCell ⟨tb, o + 1, none⟩ (.int .i32 0)).setCell ⟨tb, o + 2, none⟩ (.int .u32 0)).setCell ⟨tb, o + 3, none⟩ (.int .u64 0)) ∧ Stale L' mv all key (n + 1) ∧ V.grownBy ((((V.setCell ⟨tb, o, none⟩ (.int .u32 0)).setCell ⟨tb, o + 1, none⟩ (.int .i32 0)).setCell ⟨tb, o + 2, none⟩ (.int .u32 0)).setCell ⟨tb, o + 3, none⟩ (.int .u64 0)) (some tb) := by
 have hl := spot_lt (pre_ok key n)
 have hL := hs.1
 refine ⟨_, (((hB.set o (.int .u32 0)).set (o + 1) (.int .i32 0)).set (o + 2) (.int .u32 0)).set (o + 3) (.int .u64 0), hs.next hn (by simp) (fun j hj => ?_) ?_ ?_ ?_ ?_, grown_trans_one (grown_trans_one (grown_trans_one (gset _ _ _ _) (gset _ _ _ _)) (gset _ _ _ _)) (gset _ _ _ _)⟩
 ·rw [List.getElem?_set_ne (by omega), List.getElem?_set_ne (by omega), List.getElem?_set_ne (by omega), List.getElem?_set_ne (by omega)]
 ·rw [← ho, List.getElem?_set_ne (by omega), List.getElem?_set_ne (by omega), List.getElem?_set_ne (by omega), List.getElem?_set_self (by omega)]
 ·rw [← ho, List.getElem?_set_ne (by omega), List.getElem?_set_ne (by omega), List.getElem?_set_self (by simp; omega)]
 ·rw [← ho, List.getElem?_set_ne (by omega), List.getElem?_set_self (by simp; omega)]
 ·rw [← ho, List.getElem?_set_self (by simp; omega)]
theorem Stale.cells {L : List Value} {key : Nm} (h : Stale L mv all key 3) : Cells L mv all fun _ => False := by
 obtain ⟨h1, h2, h3⟩ := h
 refine ⟨h1, h2, fun p hp => ?_⟩
 obtain ⟨d, x, q0, q1, q2, q3, q4, q5⟩ := h3 p hp
 refine ⟨d, 0, x, q0, q1, q2, q3, fun q => q.elim, fun _ => ⟨rfl, ?_⟩⟩
 rcases q4 with q4 | q4
 ·exact .inl q4
 ·rcases q5 (.inr (by have := hp.2; omega)) with q6 | q6
  ·exact .inl q6
  ·exact .inr ⟨q4, q6⟩
end
end Tree
end Go.Proofs.YtkfdplfgaddkmaaGreat
