/-
  disk: the whole disk in memory (layer 7).
-/
import Derived.Test.YtdcppjpjlhbanaaDiskApp
namespace Go.Proofs.Ytdcppjpjlhbanaa
namespace Disk
open Go.RowKit Blk Go.Maps
/-- The files that a closure brings back. -/
def Un.caps : Un → List Fl
  | .app .. => []
  | .put _ _ _ _ _ y => [y]
  | .ren _ _ _ _ _ _ _ _ _ y2 y => [y2, y]
/-- The disk in memory, over a set F of blocks, each with its owner. -/
def DK (F : Nat → Prop) (own : Nat → Nat) (N : Nat) (w : World) (db : Nat) (room : Int) (es : Es) (r : List Un) : Prop :=
  ∃ mb A n c, Cor w db mb room A n c es ∧
  (r.length = n ∧ w.ownsRow 0 76 1 (.slice A n c) n (r.reverse.map Un.v)) ∧
  ((∀ x ∈ es, ROK F own w x.2) ∧ ∀ e ∈ r, e.ok F own w db) ∧
  (∀ x ∈ es, x.2.c ≠ x.2.d.length → ∀ e ∈ r, ∀ y ∈ e.caps, y.A = x.2.A → y.A ≠ none → y.d.length ≤ x.2.d.length) ∧
  (Chain N r (xsE es) ∧ Roomy room r (fsE es) ∧ room ≤ 1073741824 ∧ r.length ≤ N ∧ N ≤ 10000000000000) ∧
  (F db ∧ F mb ∧ (∀ g, (Value.slice A n c).ownBlock = some g → F g) ∧ ∀ j, F j → j < w.heap.size)
theorem info_undo : (Try.prog.info? 76).map (fun i => (i.zero, i.size, i.bytes)) = some (some .nilFunc, 1, 8) := by kernel_rfl
section
variable {F : Nat → Prop} {own : Nat → Nat} {w w' : World} {db mb N : Nat} {room : Int} {es : Es} {r : List Un}
theorem DK.lt (h : DK F own N w db room es r) : ∀ j, F j → j < w.heap.size := by
  obtain ⟨mb, A, n, c, _, _, _, _, _, _, _, _, h⟩ := h
  exact h
theorem DK.keep (h : DK F own N w db room es r) (hs : w.heap.size ≤ w'.heap.size) (hk : ∀ j, F j → w'.heap[j]? = w.heap[j]?) : DK F own N w' db room es r := by
  obtain ⟨mb, A, n, c, h1, ⟨h2, h3⟩, ⟨h4, h5⟩, h6, h7, h8, h9, h10, h11⟩ := h
  exact ⟨mb, A, n, c, h1.same (hk _ h8) (hk _ h9), ⟨h2, own_keep h3 fun g hg => hk g (h10 g hg)⟩, ⟨fun x hx => (h4 x hx).keep hk, fun e he => Un.ok_keep (h5 e he) hk⟩, h6, h7, h8, h9, h10, fun j hj => Nat.lt_of_lt_of_le (h11 j hj) hs⟩
theorem DK.below (h : DK F own N w db room es r) (hb : Below w.heap.size w w') : DK F own N w' db room es r := h.keep hb.size fun j hj => hb.block j (h.lt j hj)
theorem DK.chg {G : Nat → Prop} (h : DK F own N w db room es r) (hb : Chg G w w') (hG : ∀ j, F j → ¬ G j) : DK F own N w' db room es r := h.keep hb.size fun j hj => hb.block j (h.lt j hj) (hG j hj)
/-- Two blocks, made one behind the other. -/
theorem two_new (U : World) (t1 t2 : TypeId) (v1 v2 : Value) : Bn U.heap.size t1 [v1] ((U.alloc (.cells #[v1] t1)).alloc (.cells #[v2] t2)) ∧ Bn (U.heap.size + 1) t2 [v2] ((U.alloc (.cells #[v1] t1)).alloc (.cells #[v2] t2)) ∧ Below U.heap.size U ((U.alloc (.cells #[v1] t1)).alloc (.cells #[v2] t2)) := by
  have h1 : Bn U.heap.size t1 [v1] (U.alloc (.cells #[v1] t1)) := heap_alloc_new U _
  have h2 : Bn (U.alloc (.cells #[v1] t1)).heap.size t2 [v2] ((U.alloc (.cells #[v1] t1)).alloc (.cells #[v2] t2)) := heap_alloc_new _ _
  refine ⟨h1.same (Below.heap_alloc _ _ _ (by simp)), ?_, ((Below.refl _ U).alloc (Nat.le_refl _) _).alloc (by simp) _⟩
  rw [show U.heap.size + 1 = (U.alloc (.cells #[v1] t1)).heap.size by simp]
  exact h2
theorem find_in {β : Type} {l : List (Nm × β)} {s : Nm} {b : β} (h : find l s = some b) : ∃ x ∈ l, x.2 = b ∧ x.1 = s := ⟨_, find_some h, rfl, rfl⟩
/-- A change more may be taken back. -/
theorem push_done {F3 : Nat → Prop} {own3 : Nat → Nat} {W3 w7 : World} {A : Option Addr} {n c g7 cap7 N' : Nat} {e : Un} (hC : Cor W3 db mb room A n c es) (hrow : r.length = n ∧ W3.ownsRow 0 76 1 (.slice A n c) n (r.reverse.map Un.v))
    (hR : ∀ x ∈ es, ROK F3 own3 W3 x.2) (hE : ∀ e' ∈ e :: r, e'.ok F3 own3 W3 db)
    (hRR : ∀ x ∈ es, x.2.c ≠ x.2.d.length → ∀ e' ∈ e :: r, ∀ y ∈ e'.caps, y.A = x.2.A → y.A ≠ none → y.d.length ≤ x.2.d.length)
    (hP : Chain N' (e :: r) (xsE es) ∧ Roomy room (e :: r) (fsE es) ∧ room ≤ 1073741824 ∧ (e :: r).length ≤ N' ∧ N' ≤ 10000000000000)
    (hF : F3 db ∧ F3 mb ∧ (∀ g, (Value.slice A n c).ownBlock = some g → F3 g) ∧ ∀ j, F3 j → j < W3.heap.size) {V : World} (hV : Below W3.heap.size W3 V)
    (o7 : w7.ownsRow 0 76 1 (.slice (some ⟨g7, 0, none⟩) (n + 1) cap7) (n + 1) (r.reverse.map Un.v ++ [e.v])) (gr7 : V.grownBy w7 (Value.slice A n c).ownBlock) (at7 : (Value.slice A n c).ownBlock = some g7 ∨ W3.heap.size ≤ g7) (hl7 : g7 < w7.heap.size) :
    DK (fun j => F3 j ∨ (W3.heap.size ≤ j ∧ j < w7.heap.size)) own3 N' (w7.setCell ⟨db, 3, none⟩ (.slice (some ⟨g7, 0, none⟩) (n + 1) cap7)) db room es (e :: r) ∧
    Chg F3 W3 (w7.setCell ⟨db, 3, none⟩ (.slice (some ⟨g7, 0, none⟩) (n + 1) cap7)) := by
  obtain ⟨hrl, hro⟩ := hrow
  obtain ⟨f1, f2, f3, f4⟩ := hF
  have hg := gset w7 db 3 (.slice (some ⟨g7, 0, none⟩) (n + 1) cap7)
  have hsz : W3.heap.size ≤ w7.heap.size := Nat.le_trans hV.size gr7.size
  -- blocks that are neither the row's nor the disk's stay
  have keep : ∀ j, F3 j → (Value.slice A n c).ownBlock ≠ some j → j ≠ db → (w7.setCell ⟨db, 3, none⟩ (.slice (some ⟨g7, 0, none⟩) (n + 1) cap7)).heap[j]? = W3.heap[j]? := fun j hj h1 h2 => by
    have hl := f4 j hj
    exact ((hg.block j (by omega) (fun e => h2 (by injection e))).trans (gr7.block j (Nat.lt_of_lt_of_le hl hV.size) (fun e => h1 e.symm))).trans (hV.block j hl)
  have hdbrow : (Value.slice A n c).ownBlock ≠ some db := own_ne hro hC.1 (by decide)
  have hb7 : Bn db 60 [.int .i64 room, .int .i64 (used (fsE es)), .map (some mb), .slice A n c] w7 := hC.1.same ((gr7.block db (Nat.lt_of_lt_of_le (f4 db f1) hV.size) (fun e => hdbrow e.symm)).trans (hV.block db (f4 db f1)))
  have hM := hC.2
  have hne := hC.ne
  -- a block with other cells than rows of undos and disks
  have kb : ∀ {b : Nat} {t : TypeId} {v : Value}, Box F3 W3 b t v → t ≠ 60 → t ≠ 76 → Box F3 (w7.setCell ⟨db, 3, none⟩ (.slice (some ⟨g7, 0, none⟩) (n + 1) cap7)) b t v := fun {b t v} hb h1 h2 => by
    refine ⟨hb.1.same (keep b hb.2 (fun e => own_ne hro hb.1 (fun q => h2 q.symm) e) fun e => ?_), hb.2⟩
    subst e
    exact h1 (hb.1.type hC.1)
  have kr : ∀ {x : Fl}, ROK F3 own3 W3 x → ROK F3 own3 (w7.setCell ⟨db, 3, none⟩ (.slice (some ⟨g7, 0, none⟩) (n + 1) cap7)) x := fun {x} hx => by
    obtain ⟨x1, x2, x3, x4⟩ := hx
    refine ⟨x1, x2, x3, x4.imp id fun ⟨g, cur, q1, q2, q3, q4, q5⟩ => ⟨g, cur, q1, q2, q3, (keep g q2 (fun e => ?_) fun e => ?_).trans q4, q5⟩⟩
    · obtain ⟨cur2, hc2⟩ := own_block hro e
      rw [q4] at hc2
      injection hc2 with hc2
      injection hc2 with _ hc2
      exact absurd hc2 (by decide)
    · subst e
      have hd : W3.heap[g]? = _ := hC.1
      rw [q4] at hd
      injection hd with hd
      injection hd with _ hd
      exact absurd hd (by decide)
  have up : ∀ {x : Fl}, ROK F3 own3 (w7.setCell ⟨db, 3, none⟩ (.slice (some ⟨g7, 0, none⟩) (n + 1) cap7)) x → ROK (fun j => F3 j ∨ (W3.heap.size ≤ j ∧ j < w7.heap.size)) own3 (w7.setCell ⟨db, 3, none⟩ (.slice (some ⟨g7, 0, none⟩) (n + 1) cap7)) x := fun hx => hx.grow (fun _ => .inl) (fun _ _ => rfl) fun _ _ => rfl
  have ub : ∀ {b : Nat} {t : TypeId} {v : Value}, Box F3 (w7.setCell ⟨db, 3, none⟩ (.slice (some ⟨g7, 0, none⟩) (n + 1) cap7)) b t v → Box (fun j => F3 j ∨ (W3.heap.size ≤ j ∧ j < w7.heap.size)) (w7.setCell ⟨db, 3, none⟩ (.slice (some ⟨g7, 0, none⟩) (n + 1) cap7)) b t v := fun hb => ⟨hb.1, .inl hb.2⟩
  refine ⟨⟨mb, some ⟨g7, 0, none⟩, n + 1, cap7, ⟨hb7.set 3 _, hM.same (keep mb f2 (fun e => ?_) fun e => hne e.symm)⟩, ⟨by rw [List.length_cons, hrl], ?_⟩, ⟨fun x hx => up (kr (hR x hx)), fun e' he => ?_⟩, hRR, hP, .inl f1, .inl f2, fun g hg' => ?_, fun j hj => ?_⟩, ?_⟩
  · obtain ⟨cur2, hc2⟩ := own_block hro e
    exact hM.ne hc2 rfl
  · rw [List.reverse_cons, List.map_append]
    refine own_keep o7 fun g hg' => hg.block g (o7.lt g hg').2 fun e => ?_
    exact own_ne o7 hb7 (by decide) (by rw [hg', e])
  · have h0 := hE e' he
    rcases e' with ⟨b1, b2, b3, b4, b5, s, wd, k, there, A0, c0⟩ | ⟨cut, b1, b2, b3, s, y⟩ | ⟨b1, b2, b3, b4, b5, b6, to, from_, other, y2, y⟩
    · obtain ⟨q1, q2, q3, q4, q5, q6⟩ := h0
      exact ⟨ub (kb q1 (by decide) (by decide)), ub (kb q2 (by decide) (by decide)), ub (kb q3 (by decide) (by decide)), ub (kb q4 (by decide) (by decide)), ub (kb q5 (by decide) (by decide)), q6⟩
    · obtain ⟨q1, q2, q3, q4, q5⟩ := h0
      exact ⟨ub (kb q1 (by decide) (by decide)), ub (kb q2 (by decide) (by decide)), ub (kb q3 (by decide) (by decide)), q4, up (kr q5)⟩
    · obtain ⟨q1, q2, q3, q4, q5, q6, q7, q8, q9, q10⟩ := h0
      exact ⟨ub (kb q1 (by decide) (by decide)), ub (kb q2 (by decide) (by decide)), ub (kb q3 (by decide) (by decide)), ub (kb q4 (by decide) (by decide)), ub (kb q5 (by decide) (by decide)), ub (kb q6 (by decide) (by decide)), q7, q8, up (kr q9), up (kr q10)⟩
  · have hg2 : g7 = g := by injection hg'
    subst hg2
    rcases at7 with q | q
    · exact .inl (f3 _ q)
    · exact .inr ⟨q, hl7⟩
  · have := hg.size
    rcases hj with hj | hj
    · have := f4 j hj
      omega
    · omega
  · exact ((Chg.of_below hV).trans (Chg.of_grown gr7 fun g hg' => f3 g hg') fun _ => .inl).trans (Chg.of_grown hg fun g hg' => by injection hg' with hg'; subst hg'; exact f1) fun _ => .inl
end
end Disk
end Go.Proofs.Ytdcppjpjlhbanaa
