/-
  disk: what a change leaves that turns the map alone (layer 7).
-/
import Derived.Test.YtdcppjpjlhbanaaDiskChain
namespace Go.Proofs.Ytdcppjpjlhbanaa
namespace Disk
open Go.RowKit Blk Go.Maps
section
variable {F : Nat → Prop} {own : Nat → Nat} {w U w3 : World} {db mb n c N : Nat} {room : Int} {A : Option Addr} {es es' : Es} {r : List Un}
/-- The parts of a disk in memory. -/
def DP (F : Nat → Prop) (own : Nat → Nat) (N : Nat) (w : World) (db : Nat) (room : Int) (es : Es) (r : List Un) (mb : Nat) (A : Option Addr) (n c : Nat) : Prop :=
  Cor w db mb room A n c es ∧
  (r.length = n ∧ w.ownsRow 0 76 1 (.slice A n c) n (r.reverse.map Un.v)) ∧
  ((∀ x ∈ es, ROK F own w x.2) ∧ ∀ e ∈ r, e.ok F own w db) ∧
  (∀ x ∈ es, x.2.c ≠ x.2.d.length → ∀ e ∈ r, ∀ y ∈ e.caps, y.A = x.2.A → y.A ≠ none → y.d.length ≤ x.2.d.length) ∧
  (Chain N r (xsE es) ∧ Roomy room r (fsE es) ∧ room ≤ 1073741824 ∧ r.length ≤ N ∧ N ≤ 10000000000000) ∧
  (F db ∧ F mb ∧ (∀ g, (Value.slice A n c).ownBlock = some g → F g) ∧ ∀ j, F j → j < w.heap.size)
theorem DK.parts (h : DK F own N w db room es r) : ∃ mb A n c, DP F own N w db room es r mb A n c := h
theorem DP.row3 (h : DP F own N w db room es r mb A n c) (bU : Below w.heap.size w U) (T : Chg (Two db mb) U w3) : w3.ownsRow 0 76 1 (.slice A n c) n (r.reverse.map Un.v) := by
  have hr := own_below h.2.1.2 bU (Nat.le_refl _)
  have hC := h.1.below bU
  refine own_keep hr fun g hg => T.block g (hr.lt g hg).2 fun q => ?_
  rcases q with rfl | rfl
  · exact own_ne hr hC.1 (by decide) hg
  · obtain ⟨cur2, hc2⟩ := own_block hr hg
    exact hC.2.ne hc2 rfl
theorem DP.lift (h : DP F own N w db room es r mb A n c) (bU : Below w.heap.size w U) (T : Chg (Two db mb) U w3) {y : Fl} (hy : ROK F own w y) : ROK (fun j => F j ∨ (w.heap.size ≤ j ∧ j < w3.heap.size)) own w3 y := by
  have hC := h.1.below bU
  have h1 : ROK F own U y := hy.keep fun j hj => bU.block j (h.2.2.2.2.2.2.2.2 j hj)
  refine h1.grow (fun _ => .inl) (fun _ _ => rfl) fun g hg => T.block g ?_ fun q => ?_
  · obtain ⟨_, _, _, q⟩ := h1
    rcases q with ⟨q, _⟩ | ⟨g2, cur, q1, _, _, q2, _⟩
    · rw [q] at hg; cases hg
    · rw [q1] at hg
      injection hg with hg
      injection hg with hg
      subst hg
      exact (Array.getElem?_eq_some_iff.1 q2).1
  · rcases q with rfl | rfl
    · exact rok_ne h1 hC.1 (by decide) hg
    · exact rok_map h1 hC.2 hg
theorem DP.oklift (h : DP F own N w db room es r mb A n c) (bU : Below w.heap.size w U) (T : Chg (Two db mb) U w3) {e : Un} (he : e ∈ r) : e.ok (fun j => F j ∨ (w.heap.size ≤ j ∧ j < w3.heap.size)) own w3 db := by
  have hC := h.1.below bU
  refine Un.ok_lift (F := F) (own := own) (w := w) (db := db) (h.2.2.1.2 e he) (fun {b0 t0 v0} hb0 n1 n2 n3 => ?_) fun y hy hyk => h.lift bU T hyk
  have g1 := hb0.1.same (bU.block b0 hb0.1.lt)
  exact ⟨bn_two hC g1 n1 T, .inl hb0.2⟩
/-- What a change leaves. -/
def DoneP (F : Nat → Prop) (N : Nat) (w : World) (db : Nat) (room : Int) (es' : Es) (r : List Un) (Ex : Un → Prop) (w' : World) : Prop :=
  ∃ F' own' e, DK F' own' (N + 1) w' db room es' (e :: r) ∧ (Chg F w w' ∧ ∀ j, F' j → F j ∨ w.heap.size ≤ j) ∧ Ex e
theorem DP.tail (h : DP F own N w db room es r mb A n c) (hN : N < 10000000000000) (bU : Below w.heap.size w U) (T : Chg (Two db mb) U w3) (C3 : Cor w3 db mb room A n c es') {e : Un} {Ex : Un → Prop} (hEx : Ex e)
    (hR : ∀ x ∈ es', ROK F own w x.2) (he : e.ok (fun j => F j ∨ (w.heap.size ≤ j ∧ j < w3.heap.size)) own w3 db)
    (hcap : ∀ x ∈ es', x.2.c ≠ x.2.d.length → (∀ y ∈ e.caps, y.A = x.2.A → y.A ≠ none → y.d.length ≤ x.2.d.length) ∧ ∃ z ∈ es, z.2.A = x.2.A ∧ z.2.c ≠ z.2.d.length ∧ z.2.d.length ≤ x.2.d.length)
    (hgood : Good (N + 1) (xsE es')) (hval : valid e (xsE es')) (hundo : undoX e 0 (xsE es') = xsE es) (hu : (used (fsE es') : Int) ≤ room) {V w7 : World} {g7 cap7 : Nat} (hV : Below w3.heap.size w3 V)
    (o7 : w7.ownsRow 0 76 1 (.slice (some ⟨g7, 0, none⟩) (n + 1) cap7) (n + 1) (r.reverse.map Un.v ++ [e.v])) (gr7 : V.grownBy w7 (Value.slice A n c).ownBlock) (at7 : (Value.slice A n c).ownBlock = some g7 ∨ w3.heap.size ≤ g7) (hl7 : g7 < w7.heap.size) :
    DoneP F N w db room es' r Ex (w7.setCell ⟨db, 3, none⟩ (.slice (some ⟨g7, 0, none⟩) (n + 1) cap7)) := by
  have hsz : w.heap.size ≤ w3.heap.size := Nat.le_trans bU.size T.size
  have hres := push_done (N' := N + 1) (e := e) (F3 := fun j => F j ∨ (w.heap.size ≤ j ∧ j < w3.heap.size)) (own3 := own) C3 ⟨h.2.1.1, h.row3 bU T⟩ (fun x hx => h.lift bU T (hR x hx)) (fun e' he' => ?_) (fun x hx hc e' he' y hy q1 q2 => ?_) ⟨⟨hgood, hval, ?_⟩, ⟨hu, by have := undo_xf e 0 (xsE es'); rw [hundo, fs_xs, fs_xs] at this; rw [← this]; exact h.2.2.2.2.1.2.1⟩, h.2.2.2.2.1.2.2.1, ?_, by omega⟩ ⟨.inl h.2.2.2.2.2.1, .inl h.2.2.2.2.2.2.1, fun g hg => .inl (h.2.2.2.2.2.2.2.1 g hg), fun j hj => ?_⟩ hV o7 gr7 at7 hl7
  · refine ⟨_, own, e, hres.1, ⟨?_, fun j hj => ?_⟩, hEx⟩
    · have c1 : Chg F w U := Chg.of_below bU
      have c3 : Chg F U w3 := T.mono fun j hj => by
        rcases hj with rfl | rfl
        · exact h.2.2.2.2.2.1
        · exact h.2.2.2.2.2.2.1
      exact (c1.trans c3 fun _ => .inl).trans hres.2 fun j hj => hj.imp id fun q => q.1
    · rcases hj with hj | hj
      · exact hj.imp id fun q => q.1
      · exact .inr (by omega)
  · rcases List.mem_cons.1 he' with rfl | he'
    · exact he
    · exact h.oklift bU T he'
  · obtain ⟨k1, z, hz, k2, k3, k4⟩ := hcap x hx hc
    rcases List.mem_cons.1 he' with rfl | he'
    · exact k1 y hy q1 q2
    · exact Nat.le_trans (h.2.2.2.1 z hz k3 e' he' y hy (q1.trans k2.symm) q2) k4
  · rw [hundo]
    exact Chain.mono (by omega) h.2.2.2.2.1.1
  · have := h.2.2.2.2.1.2.2.2.1
    simp only [List.length_cons]
    omega
  · rcases hj with hj | hj
    · have := h.2.2.2.2.2.2.2.2 j hj
      omega
    · exact hj.2
theorem DP.good (h : DP F own N w db room es r mb A n c) : Good N (xsE es) := h.2.2.2.2.1.1.good
theorem DP.len (h : DP F own N w db room es r mb A n c) : es.length ≤ N := by
  have : (es.map fun x => (x.1, Fl.x x.2)).length ≤ N := h.good.2.2.2.2.2
  rwa [List.length_map] at this
/-- One block, made. -/
theorem one_new (U : World) (t1 : TypeId) (v1 : Value) : Bn U.heap.size t1 [v1] (U.alloc (.cells #[v1] t1)) ∧ Below U.heap.size U (U.alloc (.cells #[v1] t1)) := ⟨heap_alloc_new U _, (Below.refl _ U).alloc (Nat.le_refl _) _⟩
end
end Disk
end Go.Proofs.Ytdcppjpjlhbanaa
