/-
  Records that a call makes: a row of the call's own, each with versions of its own; where the rows stand is told, so that they can be written.
-/
import Derived.Test.YtbaclinjimfncaaGreatTreeOwn
import Derived.Test.YtbaclinjimfncaaGreatTreeSort
import Derived.Test.YtbaclinjimfncaaGreatTreeCopy
namespace Go.Proofs.YtbaclinjimfncaaGreat
namespace Tree
open Go.RowKit Vers Num Ring Disk Blk
open Go.Proofs.YtbaclinjimfncaaGreat.Code hiding Bn

/-- A record whose versions are new, all between the blocks L and B. -/
def RecN (w : World) (L B : Nat) (p : Pr) : Prop :=
  p.1.2.length ≤ p.2.2 ∧ p.1.1.size ≤ 140737488355328 ∧ p.1.2.length ≤ 512 ∧ ∃ ps : List Pv, ps.map Prod.fst = p.1.2 ∧ OwnVs L L B w (.slice p.2.1 p.1.2.length p.2.2) ps ∧ (∀ g, (Value.slice p.2.1 p.1.2.length p.2.2).ownBlock = some g → g < B) ∧ ∀ q ∈ ps, Tg w q.1.past.length q.2.1
theorem RecN.keep {w w' : World} {L B : Nat} {p : Pr} (h : RecN w L B p) (hk : ∀ k, L ≤ k → k < B → w'.heap[k]? = w.heap[k]?) : RecN w' L B p := by
  obtain ⟨h0, hz1, hz2, ps, h1, ⟨h2, h3⟩, h4, h5⟩ := h
  refine ⟨h0, hz1, hz2, ps, h1, ⟨own_same h2 fun g hg => hk g (h2.lt g hg).1 (h4 g hg), fun q hq => (h3 q hq).keep fun a ha hb => World.cell?_of_block (hk _ ha hb)⟩, h4, fun q hq => ?_⟩
  refine (h5 q hq).keep fun hn a ha hl => hk _ ((h3 q hq).2.2.2.2 hn a ha) ?_
  obtain ⟨b, off, e, hb, _⟩ := (h3 q hq).1 hn
  rw [e] at ha
  injection ha with ha
  rw [← ha]
  exact hb
theorem RecN.vs {w : World} {L B : Nat} {p : Pr} (h : RecN w L B p) : Vs w L B p.2.1 p.1.2 := by
  obtain ⟨h0, hz1, hz2, ps, h1, ⟨h2, h3⟩, h4, h5⟩ := h
  intro hp
  rw [← h1] at hp ⊢
  rw [List.length_map] at hp
  rcases h2.2 with ⟨_, h6⟩ | ⟨g, cap, cur, hv, hbg, hg, rest⟩
  · omega
  · injection hv with e1 e2 e3
    rw [e1] at h2 h4 ⊢
    refine ⟨g, 0, rfl, hbg, h4 g rfl, fun j hj => ?_⟩
    rw [List.length_map] at hj
    have e : (ps.map Prod.fst).getD j v0 = (ps.getD j z0).1 := by simp [List.getD_eq_getElem?_getD, hj]
    have hm : ps.getD j z0 ∈ ps := by
      rw [List.getD_eq_getElem?_getD, List.getElem?_eq_getElem hj]
      exact List.getElem_mem _
    rw [e]
    have hat : ∀ r, r < 5 → ∀ u, (vcc (ps.getD j z0))[r]? = some u → w.cell? ⟨g, 0 + j * 5 + r, none⟩ = some u := fun r hr u hu => by
      have hc := h2.cells (g := g) rfl (j * 5 + r) u (by rw [vcs_at ps j hj r hr]; exact hu)
      rw [Vers.add_plain] at hc
      rw [show 0 + j * 5 + r = 0 + (j * 5 + r) by omega]
      exact hc
    exact ⟨_, _, hat 0 (by omega) _ (by simp [vcc]), hat 1 (by omega) _ (by simp [vcc]), hat 2 (by omega) _ (by simp [vcc]), hat 3 (by omega) _ (by simp [vcc]), hat 4 (by omega) _ (by simp [vcc]), h3 _ hm⟩

set_option maxRecDepth 100000 in
theorem vers_new (key : Nm) (hkey : key.size ≤ 140737488355328) (A : Option Addr) (c m : Nat) (l : List Vr) (hm : l.length = m) (hl : RightV l) (w : World) (hv : Vs w 0 w.heap.size A l) :
    Calls Tryz.prog 39 #[.slice A m c] w (fun e w' => ∃ A1 c1, e = .returned (.slice A1 m c1) ∧ Hid (RecN w' w.heap.size w'.heap.size ((key, l), A1, c1)) ∧ Below w.heap.size w w') := by
  have h512 : l.length ≤ 512 := hl.1
  have hp : ∀ v ∈ l, v.past.length ≤ 4294967296 := fun v hv => by
    have h1 := (hl.2.1.1 v hv).2.1
    unfold Span.Right at h1
    have := h1.1
    omega
  have h := Lib.hid (list_own A c m l hm 0 w.heap.size w (Nat.le_refl _) hv (by omega) hp)
  have HM := Lib.hid (And.intro hm h512)
  clear hm hv hl hp h512
  go_enter Tryz.func39, Tryz.ntmps39
  go_wp2_with fail
  refine h.out.mono ?_
  rintro e w2 ⟨A1, c1, ps, rfl, h2, b2⟩
  rw [HM.out.1] at h2 ⊢
  go_wp2_with fail
  go_ret
  have h4 := h2.out.1.1
  have hl : ps.length = m := by rw [← HM.out.1, ← h2.out.2.1, List.length_map]
  rw [hl] at h4
  refine ⟨A1, c1, rfl, Lib.hid ⟨?_, hkey, HM.out.2, ps, h2.out.2.1, ?_, ?_, h2.out.2.2⟩, b2⟩
  · show l.length ≤ c1
    rw [HM.out.1]
    exact (own_low h4).1
  · show OwnVs _ _ _ _ (.slice A1 l.length c1) ps
    rw [HM.out.1]
    exact h2.out.1
  · intro g hg
    have hg' : (Value.slice A1 l.length c1).ownBlock = some g := hg
    rw [HM.out.1] at hg'
    exact (h4.lt g hg').2

/-- Records of the call's own, from block base on; the block it is none of theirs. -/
def RowT (base it : Nat) (w : World) (v : Value) (ps : List Pr) : Prop :=
  w.ownsRow base 45 2 v ps.length (rcs ps) ∧ ∀ p ∈ ps, ∃ L B, base ≤ L ∧ B ≤ w.heap.size ∧ (∀ g, v.ownBlock = some g → g < L ∨ B ≤ g) ∧ (it < L ∨ B ≤ it) ∧ RecN w L B p
theorem rowT_nil (base it : Nat) (w : World) : RowT base it w (.slice none 0 0) [] := ⟨World.ownsRow_nil _ _ _ _, fun p hp => by cases hp⟩
section
variable {base it : Nat} {w w' : World} {v : Value} {ps : List Pr}
theorem RowT.below (h : RowT base it w v ps) (hb : Below w.heap.size w w') : RowT base it w' v ps := by
  refine ⟨own_below h.1 hb (Nat.le_refl _), fun p hp => ?_⟩
  obtain ⟨L, B, h1, h2, h3, h4, h5⟩ := h.2 p hp
  exact ⟨L, B, h1, Nat.le_trans h2 hb.size, h3, h4, h5.keep fun k _ hk => hb.block k (by omega)⟩
/-- The iterator alone is turned. -/
theorem RowT.step (h : RowT base it w v ps) (hg : w.grownBy w' (some it)) (hne : some it ≠ v.ownBlock) : RowT base it w' v ps := by
  refine ⟨h.1.kept hg (Or.inr hne.symm), fun p hp => ?_⟩
  obtain ⟨L, B, h1, h2, h3, h4, h5⟩ := h.2 p hp
  exact ⟨L, B, h1, Nat.le_trans h2 hg.size, h3, h4, h5.keep fun k a b => hg.block k (by omega) fun e => by injection e with e; omega⟩
/-- Another iterator. -/
theorem RowT.other (h : RowT base it w v ps) {j : Nat} (hj : w.heap.size ≤ j) : RowT base j w v ps := by
  refine ⟨h.1, fun p hp => ?_⟩
  obtain ⟨L, B, h1, h2, h3, h4, h5⟩ := h.2 p hp
  exact ⟨L, B, h1, h2, h3, .inr (by omega), h5⟩
/-- One record more: made behind the row, then appended. -/
theorem RowT.add {w1 w2 : World} {v' : Value} {p : Pr} (h : RowT base it w v ps) (hit : it < w.heap.size) (hb1 : Below w.heap.size w w1) (hp : RecN w1 w.heap.size w1.heap.size p) (hb : base ≤ w.heap.size)
    (ho : w2.ownsRow base 45 2 v' (ps.length + 1) (rcs (ps ++ [p]))) (h2 : w1.grownBy w2 v.ownBlock) (hat : v'.ownBlock = v.ownBlock ∨ ∃ g, v'.ownBlock = some g ∧ w1.heap.size ≤ g) : RowT base it w2 v' (ps ++ [p]) := by
  have hs2 := h2.size
  have hs1 := hb1.size
  refine ⟨by simpa using ho, fun q hq => ?_⟩
  rcases List.mem_append.1 hq with hq | hq
  · obtain ⟨L, B', h1, h3, h4, h5, h6⟩ := h.2 q hq
    refine ⟨L, B', h1, by omega, fun g hg' => ?_, h5, (h6.keep fun k a b => hb1.block k (by omega)).keep fun k a b => h2.block k (by omega) (fun e => ?_)⟩
    · rcases hat with e | ⟨g', e, hge⟩
      · exact h4 g (e ▸ hg')
      · rw [hg'] at e
        injection e with e
        subst e
        exact .inr (by omega)
    · have := h4 k e.symm
      omega
  · obtain rfl := List.mem_singleton.1 hq
    refine ⟨w.heap.size, w1.heap.size, hb, hs2, fun g hg' => ?_, .inl hit, hp.keep fun k a b => h2.block k b (fun e => by have := (h.1.lt k e.symm).2; omega)⟩
    rcases hat with e | ⟨g', e, hge⟩
    · exact .inl (h.1.lt g (e ▸ hg')).2
    · rw [hg'] at e
      injection e with e
      subst e
      exact .inr hge
end

/-- What a call has made of records: where they stand, and that they can be written. -/
def Got (base : Nat) (w : World) (A : Option Addr) (ps : List Pr) : Prop :=
  0 < ps.length → ∃ g, A = some ⟨g, 0, none⟩ ∧ base ≤ g ∧ Prs w g ps ∧ (∃ cur, w.heap[g]? = some (.cells cur 45 (0, 0))) ∧ ∀ p ∈ ps, ∃ L B, base ≤ L ∧ B ≤ w.heap.size ∧ (g < L ∨ B ≤ g) ∧ RecN w L B p
theorem Got.keep {base : Nat} {w w' : World} {A : Option Addr} {ps : List Pr} (h : Got base w A ps) (hs : w.heap.size ≤ w'.heap.size) (hk : ∀ k, base ≤ k → k < w.heap.size → w'.heap[k]? = w.heap[k]?) : Got base w' A ps := fun hp => by
  obtain ⟨g, h1, h2, h3, ⟨cur, h4⟩, h5⟩ := h hp
  have hl := (Array.getElem?_eq_some_iff.1 h4).1
  refine ⟨g, h1, h2, fun j hj => ⟨(World.cell?_of_block (hk g h2 hl)).trans (h3 j hj).1, (World.cell?_of_block (hk g h2 hl)).trans (h3 j hj).2⟩, ⟨cur, (hk g h2 hl).trans h4⟩, fun p hp => ?_⟩
  obtain ⟨L, B, q1, q2, q3, q4⟩ := h5 p hp
  exact ⟨L, B, q1, Nat.le_trans q2 hs, q3, q4.keep fun k a b => hk k (by omega) (by omega)⟩
theorem Got.rs {base : Nat} {w : World} {A : Option Addr} {ps : List Pr} (h : Got base w A ps) : Rs w base w.heap.size A (ps.map Prod.fst) := fun hp => by
  rw [List.length_map] at hp
  obtain ⟨g, h1, h2, h3, ⟨cur, h4⟩, h5⟩ := h hp
  have hl := (Array.getElem?_eq_some_iff.1 h4).1
  refine ⟨g, 0, h1, h2, hl, fun j hj => ?_⟩
  rw [List.length_map] at hj
  have e : (ps.map Prod.fst).getD j r0 = (ps.getD j (r0, none, 0)).1 := by simp [List.getD_eq_getElem?_getD, hj]
  have hm : ps.getD j (r0, none, 0) ∈ ps := by
    rw [List.getD_eq_getElem?_getD, List.getElem?_eq_getElem hj]
    exact List.getElem_mem _
  obtain ⟨L, B, q1, q2, q3, q4⟩ := h5 _ hm
  rw [e]
  obtain ⟨c0, c1⟩ := h3 j hj
  rw [Nat.zero_add]
  have h512 := q4.2.2.1
  exact ⟨_, _, c0, c1, (q4.vs.more q2).less q1, q4.1, by omega, q4.2.1⟩
end Tree
end Go.Proofs.YtbaclinjimfncaaGreat
