/-
  Sessions in memory.
-/
import Derived.Test.YtnmkhccgaedigaaSessPlain
import Derived.Test.YtnmkhccgaedigaaBlk
import Derived.Test.YtnmkhccgaedigaaFacts
import Derived.Laws.Rows
namespace Go.Proofs.Ytnmkhccgaedigaa
namespace Sess
open Go.RowKit Blk Go.Maps

theorem law64 : Keyed Try.prog 2 := int_keyed Try.underlying2
/-- Where a session is: its block, and its token's slice. -/
abbrev Se := Nat × Option Addr × Nat
def ptr (e : Se) : Value := .pointer (some ⟨e.1, 0, none⟩)
def ptrs (es : List Se) : List Value := es.map ptr
def tokV (x : Sn) (e : Se) : Value := .slice e.2.1 x.2.1.length e.2.2
def cellsS (x : Sn) (e : Se) : List Value := [.int .i64 x.1, tokV x e, .int .i64 x.2.2]
/-- One session. -/
def SeOK (F : Nat → Prop) (w : World) (x : Sn) (e : Se) : Prop :=
  Bn e.1 67 (cellsS x e) w ∧ w.ownsRow 0 5 1 (tokV x e) x.2.1.length (nums .u8 x.2.1) ∧ F e.1 ∧ ∀ g, (tokV x e).ownBlock = some g → F g
/-- All sessions: the head's block, the map's, the list's slice, where each session is. -/
def SO (F : Nat → Prop) (w : World) (sb mb : Nat) (N : Int) (A : Option Addr) (c n : Nat) (es : List Se) (L : List Sn) (m : Nat) (D : DataW Unit) : Prop :=
  (Bn sb 63 [.int .i64 N, .slice A n c, .map (some mb)] w ∧ w.ownsRow 0 65 1 (.slice A n c) n (ptrs es) ∧ w.ownsMap Try.prog 2 (plainElem Try.prog 3) mb m D) ∧
  (L.length = n ∧ es.length = n ∧ (es.map Prod.fst).Nodup ∧ ∀ (i : Nat) (x : Sn) (e : Se), L[i]? = some x → es[i]? = some e → SeOK F w x e) ∧
  (F sb ∧ F mb ∧ (∀ g, (Value.slice A n c).ownBlock = some g → F g) ∧ ∀ k, F k → k < w.heap.size)
section
variable {F F' : Nat → Prop} {w w' : World} {sb mb n m c : Nat} {N : Int} {A : Option Addr} {es : List Se} {L : List Sn} {D : DataW Unit} {x y : Sn} {e e' : Se} {k : Nat}
theorem map_same (h : w.ownsMap Try.prog 2 (plainElem Try.prog 3) mb m D) (hk : w'.heap[mb]? = w.heap[mb]?) : w'.ownsMap Try.prog 2 (plainElem Try.prog 3) mb m D := by
  obtain ⟨q, clock, h1, h2⟩ := h
  exact ⟨q, clock, hk.trans h1, h2⟩
theorem SeOK.keep (h : SeOK F w x e) (hk : ∀ k, F k → w'.heap[k]? = w.heap[k]?) : SeOK F w' x e := ⟨h.1.same (hk _ h.2.2.1), own_keep h.2.1 fun g hg => hk g (h.2.2.2 g hg), h.2.2⟩
theorem SO.keep (h : SO F w sb mb N A c n es L m D) (hs : w.heap.size ≤ w'.heap.size) (hk : ∀ k, F k → w'.heap[k]? = w.heap[k]?) : SO F w' sb mb N A c n es L m D := by
  obtain ⟨⟨h1, h2, h3⟩, ⟨h4, h5, h6, h7⟩, h8, h9, h10, h11⟩ := h
  exact ⟨⟨h1.same (hk _ h8), own_keep h2 fun g hg => hk g (h10 g hg), map_same h3 (hk _ h9)⟩, ⟨h4, h5, h6, fun i x e hx he => (h7 i x e hx he).keep hk⟩, h8, h9, h10, fun k hk => Nat.lt_of_lt_of_le (h11 k hk) hs⟩
theorem SO.lt (h : SO F w sb mb N A c n es L m D) : ∀ k, F k → k < w.heap.size := h.2.2.2.2.2
theorem SO.below (h : SO F w sb mb N A c n es L m D) (hb : Below w.heap.size w w') : SO F w' sb mb N A c n es L m D := h.keep hb.size fun k hk => hb.block k (h.lt k hk)
/-- What else is turned doesn't touch them. -/
theorem SO.chg {G : Nat → Prop} (h : SO F w sb mb N A c n es L m D) (hb : Chg G w w') (hG : ∀ k, F k → ¬ G k) : SO F w' sb mb N A c n es L m D := h.keep hb.size fun k hk => hb.block k (h.lt k hk) (hG k hk)
theorem SO.at (h : SO F w sb mb N A c n es L m D) (hk : k < n) : ∃ x e, L[k]? = some x ∧ es[k]? = some e ∧ SeOK F w x e := by
  obtain ⟨_, ⟨h4, h5, h6, h7⟩, _⟩ := h
  have hx : L[k]? = some (L[k]'(by omega)) := List.getElem?_eq_getElem _
  have he : es[k]? = some (es[k]'(by omega)) := List.getElem?_eq_getElem _
  exact ⟨_, _, hx, he, h7 k _ _ hx he⟩
theorem nodup_ne {es : List Se} (h : (es.map Prod.fst).Nodup) {i k : Nat} {e e' : Se} (hi : es[i]? = some e) (hk : es[k]? = some e') (hne : i ≠ k) : e.1 ≠ e'.1 := fun he => by
  have h1 : (es.map Prod.fst)[i]? = some e.1 := by rw [List.getElem?_map, hi]; rfl
  have h2 : (es.map Prod.fst)[k]? = some e.1 := by rw [List.getElem?_map, hk, he]; rfl
  obtain ⟨a1, b1⟩ := List.getElem?_eq_some_iff.1 h1
  obtain ⟨a2, b2⟩ := List.getElem?_eq_some_iff.1 h2
  have hp := List.pairwise_iff_getElem.1 h
  rcases Nat.lt_or_gt_of_ne hne with h3 | h3
  · exact hp i k a1 a2 h3 (b1.trans b2.symm)
  · exact hp k i a2 a1 h3 (b2.trans b1.symm)
/-- A session's block is written, and perhaps it has a new token. -/
theorem SO.turn (h : SO F w sb mb N A c n es L m D) (hx : L[k]? = some x) (he : es[k]? = some e) (he1 : e'.1 = e.1) (hg : w.grownBy w' (some e.1)) (hok : SeOK F' w' y e') (hF : ∀ j, F j → F' j) (hF' : ∀ j, F' j → j < w'.heap.size) :
    SO F' w' sb mb N A c n (es.set k e') (L.set k y) m D := by
  obtain ⟨⟨h1, h2, h3⟩, ⟨h4, h5, h6, h7⟩, h8, h9, h10, h11⟩ := h
  have hse := h7 k x e hx he
  have b1 : sb ≠ e.1 := fun q => by
    have := h1.type (q ▸ hse.1)
    exact absurd this (by decide)
  have b2 : mb ≠ e.1 := fun q => by
    obtain ⟨q1, q2, q3, _⟩ := h3
    rw [q, show w.heap[e.1]? = _ from hse.1] at q3
    injection q3 with q3
    cases q3
  have b3 := own_ne h2 hse.1 (by decide)
  have hlt : k < es.length := (List.getElem?_eq_some_iff.1 he).1
  have hp : ptrs (es.set k e') = ptrs es := by
    unfold ptrs
    rw [List.map_set]
    have : ptr e' = ptr e := by unfold ptr; rw [he1]
    rw [this]
    refine List.ext_getElem? fun i => ?_
    by_cases hi : i = k
    · subst hi
      rw [List.getElem?_set_self (by simpa using hlt), List.getElem?_map, he]
      rfl
    · rw [List.getElem?_set_ne (fun q => hi q.symm)]
  have hf : (es.set k e').map Prod.fst = es.map Prod.fst := by
    rw [List.map_set, he1]
    refine List.ext_getElem? fun i => ?_
    by_cases hi : i = k
    · subst hi
      rw [List.getElem?_set_self (by simpa using hlt), List.getElem?_map, he]
      rfl
    · rw [List.getElem?_set_ne (fun q => hi q.symm)]
  refine ⟨⟨h1.kept hg (fun q => b1 (by injection q)), ?_, map_same h3 (hg.block mb (h11 mb h9) fun q => b2 (by injection q))⟩, ⟨by simpa using h4, by simpa using h5, by rw [hf]; exact h6, fun i z q hz hq => ?_⟩, hF _ h8, hF _ h9, fun g hg' => hF _ (h10 g hg'), hF'⟩
  · rw [hp]
    exact own_keep h2 fun g hg' => hg.block g (h11 g (h10 g hg')) fun q => b3 (by rw [hg', q])
  · by_cases hi : i = k
    · subst hi
      have hl2 : i < L.length := by omega
      rw [List.getElem?_set_self hl2] at hz
      rw [List.getElem?_set_self hlt] at hq
      injection hz with hz
      injection hq with hq
      subst hz hq
      exact hok
    · rw [List.getElem?_set_ne (fun q => hi q.symm)] at hz hq
      obtain ⟨g1, g2, g3, g4⟩ := h7 i z q hz hq
      have hne := nodup_ne h6 hq he hi
      exact ⟨g1.kept hg (fun q => hne (by injection q)), own_keep g2 fun g hg' => hg.block g (h11 g (g4 g hg')) fun q => own_ne g2 hse.1 (by decide) (by rw [hg', q]), hF _ g3, fun g hg' => hF _ (g4 g hg')⟩
/-- The map is written. -/
theorem SO.mapped {m' : Nat} {D' : DataW Unit} (h : SO F w sb mb N A c n es L m D) (hg : w.grownBy w' (some mb)) (ho : w'.ownsMap Try.prog 2 (plainElem Try.prog 3) mb m' D') : SO F w' sb mb N A c n es L m' D' := by
  obtain ⟨⟨h1, h2, h3⟩, ⟨h4, h5, h6, h7⟩, h8, h9, h10, h11⟩ := h
  obtain ⟨q1, q2, q3, _⟩ := h3
  have hne : ∀ {t : TypeId} {cs : Array Value} {fr : Nat × Nat} {g : Nat}, w.heap[g]? = some (.cells cs t fr) → some g ≠ some mb := fun hc q => by
    injection q with q
    rw [q, q3] at hc
    injection hc with hc
    cases hc
  have hown : ∀ {t : TypeId} {s : Nat} {v : Value} {j : Nat} {xs : List Value}, w.ownsRow 0 t s v j xs → w'.ownsRow 0 t s v j xs := fun ho => own_keep ho fun g hg' => by
    obtain ⟨cur, hc⟩ := own_block ho hg'
    exact hg.block g (Array.getElem?_eq_some_iff.1 hc).1 (hne hc)
  exact ⟨⟨h1.kept hg (hne h1), hown h2, ho⟩, ⟨h4, h5, h6, fun i x e hx he => by
    obtain ⟨g1, g2, g3⟩ := h7 i x e hx he
    exact ⟨g1.kept hg (hne g1), hown g2, g3⟩⟩, h8, h9, h10, fun k hk => Nat.lt_of_lt_of_le (h11 k hk) hg.size⟩
/-- A session more: its block, and the list's row, which may lie elsewhere now. -/
theorem SO.push {U w7 : World} {g7 cap7 site0 : Nat} {site : Int} (h : SO F w sb mb N A c n es L m D) (hU : (w.alloc (.cells #[.int .i64 site, .slice none 0 0, .int .i64 0] 67)).alloc (.cells #[.pointer (some ⟨w.heap.size, 0, none⟩)] 65) = U)
    (o7 : w7.ownsRow 0 65 1 (.slice (some ⟨g7, 0, none⟩) (n + 1) cap7) (n + 1) (ptrs es ++ [.pointer (some ⟨w.heap.size, 0, none⟩)])) (gr7 : U.grownBy w7 (Value.slice A n c).ownBlock) (at7 : (Value.slice A n c).ownBlock = some g7 ∨ g7 = U.heap.size) (hs : site0 = w.heap.size) :
    SO (fun k => F k ∨ (site0 ≤ k ∧ k < w7.heap.size)) (w7.setCell ⟨sb, 1, none⟩ (.slice (some ⟨g7, 0, none⟩) (n + 1) cap7)) sb mb N (some ⟨g7, 0, none⟩) cap7 (n + 1) (es ++ [(w.heap.size, none, 0)]) (L ++ [(site, [], 0)]) m D := by
  subst hs
  obtain ⟨⟨h1, h2, h3⟩, ⟨h4, h5, h6, h7⟩, h8, h9, h10, h11⟩ := h
  have hgU : w.grownBy U none := by
    have a1 := World.grownBy_alloc w (.cells #[.int .i64 site, .slice none 0 0, .int .i64 0] 67) none
    have a2 := World.grownBy_alloc (w.alloc (.cells #[.int .i64 site, .slice none 0 0, .int .i64 0] 67)) (.cells #[.pointer (some ⟨w.heap.size, 0, none⟩)] 65) none
    rw [hU] at a2
    exact ⟨a2.os.trans a1.os, a2.tape.trans a1.tape, a2.output.trans a1.output, Nat.le_trans a1.size a2.size, fun k hk hn => (a2.block k (Nat.lt_of_lt_of_le hk a1.size) hn).trans (a1.block k hk hn)⟩
  have hUs : U.heap.size = w.heap.size + 2 := by rw [← hU]; simp
  have hN0 : Bn w.heap.size 67 [.int .i64 site, .slice none 0 0, .int .i64 0] U := by
    rw [← hU]
    exact (show Bn _ _ _ _ from heap_alloc_new w _).kept (World.grownBy_alloc _ _ none) (by simp)
  have hrow : ∀ g, (Value.slice A n c).ownBlock = some g → g < w.heap.size := fun g hg => h11 g (h10 g hg)
  -- what is kept up to w7: blocks below the old size that are not the list's row
  have k7 : ∀ {g : Nat}, g < w.heap.size → (Value.slice A n c).ownBlock ≠ some g → w7.heap[g]? = w.heap[g]? := fun hg hne => (gr7.block _ (by omega) fun q => hne q.symm).trans (hgU.block _ hg (by simp))
  have hs7 := gr7.size
  have b1 : Bn sb 63 [.int .i64 N, .slice A n c, .map (some mb)] w7 := h1.same (k7 (h11 sb h8) (own_ne h2 h1 (by decide)))
  have hg8 := gset w7 sb 1 (.slice (some ⟨g7, 0, none⟩) (n + 1) cap7)
  have b2 := b1.set 1 (.slice (some ⟨g7, 0, none⟩) (n + 1) cap7)
  have hN7 : Bn w.heap.size 67 [.int .i64 site, .slice none 0 0, .int .i64 0] w7 := hN0.same (gr7.block _ (by omega) fun q => by have := hrow _ q.symm; omega)
  have n1 : sb ≠ w.heap.size := by have := h11 sb h8; omega
  have mbc : ∃ q clock, w.heap[mb]? = some (.map q clock) := by obtain ⟨q, clock, q1, _⟩ := h3; exact ⟨q, clock, q1⟩
  obtain ⟨mq, mcl, hmq⟩ := mbc
  have m1 : (Value.slice A n c).ownBlock ≠ some mb := fun q => by
    obtain ⟨cur, hc⟩ := own_block h2 q
    rw [hmq] at hc
    injection hc with hc
    cases hc
  have m2 : mb ≠ sb := fun q => by
    rw [q, show w.heap[sb]? = _ from h1] at hmq
    injection hmq with hmq
    cases hmq
  have hg7 : g7 < w7.heap.size := (o7.lt g7 rfl).2
  have hpp : ptrs (es ++ [(w.heap.size, none, 0)]) = ptrs es ++ [.pointer (some ⟨w.heap.size, 0, none⟩)] := by unfold ptrs ptr; simp
  refine ⟨⟨b2, by rw [hpp]; exact own_keep o7 fun g hg => hg8.block g (o7.lt g hg).2 fun q => own_ne o7 b1 (by decide) (by rw [hg, q]), map_same (map_same h3 (k7 (h11 mb h9) m1)) (hg8.block mb (by have := h11 mb h9; omega) fun q => m2 (by injection q))⟩, ⟨by simp [h4], by simp [h5], ?_, fun i x e hx he => ?_⟩, .inl h8, .inl h9, fun g hg => ?_, fun k hk => ?_⟩
  · rw [List.map_append, List.nodup_append]
    refine ⟨h6, by simp, fun a ha b hb => ?_⟩
    rw [List.map_cons, List.map_nil, List.mem_singleton] at hb
    subst hb
    obtain ⟨e, he, rfl⟩ := List.mem_map.1 ha
    obtain ⟨i, hi⟩ := List.getElem?_of_mem he
    have hil : i < L.length := by have := (List.getElem?_eq_some_iff.1 hi).1; omega
    have := h11 e.1 (h7 i _ e (List.getElem?_eq_getElem hil) hi).2.2.1
    omega
  · rcases Nat.lt_trichotomy i n with hi | hi | hi
    · rw [List.getElem?_append_left (by omega)] at hx he
      obtain ⟨g1, g2, g3, g4⟩ := h7 i x e hx he
      have e1 := h11 e.1 g3
      refine ⟨(g1.same (k7 e1 (own_ne h2 g1 (by decide)))).kept hg8 (fun q => ?_), own_keep (own_keep g2 fun g hg => k7 (h11 g (g4 g hg)) fun q => own_ne2 g2 h2 (by decide) hg q) fun g hg => hg8.block g (by have := h11 g (g4 g hg); omega) fun q => own_ne g2 h1 (by decide) (by rw [hg, q]), .inl g3, fun g hg => .inl (g4 g hg)⟩
      injection q with q
      have := h1.type (q ▸ g1)
      exact absurd this (by decide)
    · subst hi
      rw [← h4, List.getElem?_concat_length] at hx
      rw [← h5, List.getElem?_concat_length] at he
      injection hx with hx
      injection he with he
      subst hx he
      refine ⟨hN7.kept hg8 (fun q => n1 (by injection q with q; exact q.symm)), World.ownsRow_nil _ _ _ _, .inr ⟨Nat.le_refl _, by simp only; omega⟩, fun g hg => by cases hg⟩
    · rw [List.getElem?_eq_none (by simp; omega)] at hx
      cases hx
  · have hg' : g7 = g := by injection hg
    subst hg'
    rcases at7 with q | q
    · exact .inl (h10 _ q)
    · exact .inr ⟨by omega, hg7⟩
  · have := hg8.size
    rcases hk with hk | hk
    · have := h11 k hk
      omega
    · omega
end
end Sess
end Go.Proofs.Ytnmkhccgaedigaa
