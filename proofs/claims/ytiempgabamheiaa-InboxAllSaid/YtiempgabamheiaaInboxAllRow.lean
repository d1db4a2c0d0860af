/-
  The list of writes that a law builds, in memory; a vector that a law writes into.
-/
import Derived.Test.YtiempgabamheiaaInboxAllPlain
import Derived.Test.YtiempgabamheiaaInboxDrop
namespace Go.Proofs.Ytiempgabamheiaa
namespace InboxAll
open Go.RowKit Inbox Vers Span Blk
attribute [local go_sem ↓] Go.wp_at_zero Go.wp_at_succ

def Row (base : Nat) (w : World) (A : Option Addr) (c n : Nat) (P : List Fr) : Prop :=
  ∃ l : List FE, l.map Prod.fst = P ∧ w.ownsRow base 35 5 (.slice A n c) n (fcs l) ∧ l.length = n ∧ ∀ x ∈ l, SzF x.1 ∧ ∃ L B, Hd w L B x ∧ base ≤ L ∧ B ≤ w.heap.size ∧ ∀ k, L ≤ k → k < B → (Value.slice A n c).ownBlock ≠ some k
theorem Row.nil (base : Nat) (w : World) : Row base w none 0 0 [] := ⟨[], rfl, World.ownsRow_nil _ _ _ _, rfl, fun x hx => by cases hx⟩
section
variable {base : Nat} {w w' v w7 : World} {A : Option Addr} {c n : Nat} {P : List Fr}
theorem Row.keep (h : Row base w A c n P) (hs : w.heap.size ≤ w'.heap.size) (hk : ∀ k, base ≤ k → k < w.heap.size → w'.heap[k]? = w.heap[k]?) : Row base w' A c n P := by
  obtain ⟨l, h1, h2, h3, h4⟩ := h
  refine ⟨l, h1, own_keep h2 fun g hg => hk g (h2.lt g hg).1 (h2.lt g hg).2, h3, fun x hx => ?_⟩
  obtain ⟨s, L, B, g1, g2, g3, g4⟩ := h4 x hx
  exact ⟨s, L, B, g1.heap fun k a b => hk k (by omega) (by omega), g2, by omega, g4⟩
theorem Row.fs (h : Row base w A c n P) : Fs w w.heap.size A P := fun hp => by
  obtain ⟨l, rfl, h2, h3, h4⟩ := h
  rw [List.length_map] at hp
  obtain ⟨g, cap, e, _, hg⟩ := h2.form (by omega)
  injection e with e1 e2 e3
  subst e1
  refine ⟨g, 0, rfl, hg, fun j x hx => ?_⟩
  rw [List.getElem?_map] at hx
  obtain ⟨y, hy, rfl⟩ := Option.map_eq_some_iff.1 hx
  have hj := (List.getElem?_eq_some_iff.1 hy).1
  obtain ⟨s, L, B, g1, g2, g3, g4⟩ := h4 y (List.mem_of_getElem? hy)
  refine ⟨y.2.1, y.2.2, fun r u hu => ?_, (g1.1.less (Nat.zero_le _)).more g3, g1.2.1.more g3, s, g1.2.2.2⟩
  have hr : r < 5 := by
    rcases Nat.lt_or_ge r 5 with h | h
    · exact h
    · rw [List.getElem?_eq_none (by simpa [fc] using h)] at hu; cases hu
  subst e3
  rw [show 0 + j * 5 + r = j * 5 + r by omega, h2.cellAt (j * 5 + r) (by omega), fcs_at l hy r hr]
  exact hu
end
theorem Row.add {base : Nat} {w v w7 : World} {A : Option Addr} {c n : Nat} {l : List FE} {x : FE} {g7 cap7 : Nat}
    (h2 : w.ownsRow base 35 5 (.slice A n c) n (fcs l)) (h3 : l.length = n) (h4 : ∀ x ∈ l, SzF x.1 ∧ ∃ L B, Hd w L B x ∧ base ≤ L ∧ B ≤ w.heap.size ∧ ∀ k, L ≤ k → k < B → (Value.slice A n c).ownBlock ≠ some k)
    (hs : w.heap.size ≤ v.heap.size) (hk : ∀ k, base ≤ k → k < w.heap.size → v.heap[k]? = w.heap[k]?) {L B : Nat} (hx : Hd v L B x) (hL : w.heap.size ≤ L) (hbL : base ≤ L) (hB : B ≤ v.heap.size) (hz : SzF x.1)
    (ho7 : w7.ownsRow base 35 5 (.slice (some ⟨g7, 0, none⟩) (n + 1) cap7) (n + 1) (fcs (l ++ [x]))) (hg7 : v.grownBy w7 (Value.slice A n c).ownBlock) (hat : (Value.slice (some ⟨g7, 0, none⟩) (n + 1) cap7).ownBlock = (Value.slice A n c).ownBlock ∨ ∃ g, (Value.slice (some ⟨g7, 0, none⟩) (n + 1) cap7).ownBlock = some g ∧ v.heap.size ≤ g) :
    Row base w7 (some ⟨g7, 0, none⟩) cap7 (n + 1) (l.map Prod.fst ++ [x.1]) := by
  have hgs := hg7.size
  have hrow : ∀ k, (Value.slice A n c).ownBlock = some k → k < w.heap.size := fun k hk => (h2.lt k hk).2
  refine ⟨l ++ [x], by simp, ho7, by simp [h3], fun y hy => ?_⟩
  rcases List.mem_append.1 hy with hy | hy
  · obtain ⟨s, L', B', g1, g2, g3, g4⟩ := h4 y hy
    refine ⟨s, L', B', (g1.heap fun k a b => hk k (by omega) (by omega)).heap fun k a b => hg7.block k (by omega) fun q => g4 k a b q.symm, g2, by omega, fun k a b q => ?_⟩
    rcases hat with e | ⟨g, e, hge⟩
    · exact g4 k a b (e ▸ q)
    · rw [q] at e
      injection e with e
      omega
  · obtain rfl := List.mem_singleton.1 hy
    refine ⟨hz, L, B, hx.heap fun k a b => hg7.block k (by omega) fun q => by have := hrow k q.symm; omega, hbL, by omega, fun k a b q => ?_⟩
    rcases hat with e | ⟨g, e, hge⟩
    · have := hrow k (e ▸ q)
      omega
    · rw [q] at e
      injection e with e
      omega
theorem fs_same {w w' : World} {B : Nat} {A : Option Addr} {l : List Fr} (h : Fs w B A l) (hk : ∀ k, k < B → w'.heap[k]? = w.heap[k]?) : Fs w' B A l := fun hp => by
  obtain ⟨b, off, e, hb, h2⟩ := h hp
  refine ⟨b, off, e, hb, fun j x hx => ?_⟩
  obtain ⟨p1, p2, g1, g2, g3, g4, g5⟩ := h2 j x hx
  exact ⟨p1, p2, fun r u hu => (World.cell?_of_block (hk b hb)).trans (g1 r u hu), g2.keep fun p _ hp => World.cell?_of_block (hk p.block hp), g3.keep fun p hp => World.cell?_of_block (hk p.block hp), g4, g5⟩
/-- A cell of what is held is written. -/
theorem sit_put {X : Nat → Prop} {w V : World} {nb : Nat} {room : Int} {P : List Fr} (h : Sit X w nb room P V) {B : Nat} (hX : X B) (hB : w.heap.size ≤ B) (k : Nat) (u : Value) : Sit X w nb room P (V.setCell ⟨B, k, none⟩ u) := by
  obtain ⟨F, h1, h2, h3, h4⟩ := h
  have hg := gset V B k u
  refine ⟨F, h1.chg (Chg.of_grown (F := fun j => j = B) hg fun g e => by injection e with e; exact e.symm) fun j hj e => (h4 B hX).2 (e ▸ hj), h2, h3.setCell hB u, fun j hj => ⟨Nat.lt_of_lt_of_le (h4 j hj).1 hg.size, (h4 j hj).2⟩⟩
/-- The inbox, the vector in a block of its own, and what was there. -/
def Stt (h : Hs) (w wl : World) (S1 NB nb n : Nat) (P : List Fr) (now : List Int) (V : World) : Prop :=
  Sit (fun j => j < S1 ∨ j = NB) w nb (n : Int) P V ∧ Bn NB 2 (nums .i64 now) V ∧ (∀ q, q < S1 → V.heap[q]? = wl.heap[q]?) ∧ Inv h P now ∧ w.heap.size ≤ S1 ∧ S1 ≤ NB
section
variable {h : Hs} {w wl V V' : World} {S1 NB nb n : Nat} {P P' : List Fr} {now : List Int}
theorem Stt.ns (hs : Stt h w wl S1 NB nb n P now V) : Ns .i64 V V.heap.size (some ⟨NB, 0, none⟩) now := fun _ =>
  ⟨NB, 0, rfl, hs.2.1.lt, fun j hj => by rw [Nat.zero_add, hs.2.1.cell j, nums, List.getElem?_map, List.getElem?_eq_getElem hj, List.getD_eq_getElem?_getD, List.getElem?_eq_getElem hj]; rfl⟩
theorem Stt.step (hs : Stt h w wl S1 NB nb n P now V) (h1 : Sit (fun j => j < S1 ∨ j = NB) w nb (n : Int) P' V') (h2 : Kept (fun j => j < S1 ∨ j = NB) V V') (h3 : Inv h P' now) : Stt h w wl S1 NB nb n P' now V' :=
  ⟨h1, hs.2.1.same (h2.2 NB (.inr rfl)), fun q hq => (h2.2 q (.inl hq)).trans (hs.2.2.1 q hq), h3, hs.2.2.2.2⟩
theorem Stt.below (hs : Stt h w wl S1 NB nb n P now V) (hb : Below V.heap.size V V') : Stt h w wl S1 NB nb n P now V' :=
  ⟨hs.1.below hb, hs.2.1.same (hb.block _ hs.2.1.lt), fun q hq => (hb.block q (Nat.lt_of_lt_of_le hq (Nat.le_trans hs.2.2.2.2.2 (Nat.le_of_lt hs.2.1.lt)))).trans (hs.2.2.1 q hq), hs.2.2.2⟩
end
theorem stt_put' {h : Hs} {w wl V : World} {S1 NB nb n : Nat} {P' : List Fr} {now : List Int} (h1 : Sit (fun j => j < S1 ∨ j = NB) w nb (n : Int) P' V) (h2 : Bn NB 2 (nums .i64 now) V) (h4 : ∀ q, q < S1 → V.heap[q]? = wl.heap[q]?) (h5 : w.heap.size ≤ S1 ∧ S1 ≤ NB) (t : Nat) (z : Int) (h3 : Inv h P' (now.set t z)) : Stt h w wl S1 NB nb n P' (now.set t z) (V.setCell ⟨NB, t, none⟩ (.int .i64 z)) := by
  have hg := gset V NB t (.int .i64 z)
  refine ⟨sit_put h1 (.inr rfl) (Nat.le_trans h5.1 h5.2) t _, ?_, fun q hq => (hg.block q (Nat.lt_of_lt_of_le hq (Nat.le_trans h5.2 (Nat.le_of_lt h2.lt))) fun e => ?_).trans (h4 q hq), h3, h5⟩
  · have := h2.set t (.int .i64 z)
    rwa [show (nums .i64 now).set t (.int .i64 z) = nums .i64 (now.set t z) by simp [nums, List.map_set]] at this
  · injection e with e
    have := h5.2
    omega
end InboxAll
end Go.Proofs.Ytiempgabamheiaa
