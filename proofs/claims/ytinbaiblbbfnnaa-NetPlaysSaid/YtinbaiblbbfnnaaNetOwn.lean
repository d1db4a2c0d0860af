/-
  A network in memory; what a step turns of it.
-/
import Derived.Test.YtinbaiblbbfnnaaNetPlain
namespace Go.Proofs.Ytinbaiblbbfnnaa
namespace Net
open Go.RowKit Blk Go.Maps

theorem own_base0 {w : World} {base : Nat} {e : TypeId} {size : Nat} {v : Value} {n : Nat} {xs : List Value} (h : w.ownsRow base e size v n xs) : w.ownsRow 0 e size v n xs := own_base h (Nat.zero_le _)
/-- A packet's data: a row of bytes in a block of the network's. -/
def PkOK (F : Nat → Prop) (w : World) (x : PE) : Prop :=
  w.ownsRow 0 5 1 (dV x) x.1.2.2.length (nums .u8 x.1.2.2) ∧ (∀ g, (dV x).ownBlock = some g → F g) ∧ OkP x.1
/-- Two packets' data lie apart. -/
def Apart (x y : PE) : Prop := ∀ g, (dV x).ownBlock = some g → (dV y).ownBlock ≠ some g
theorem Apart.symm {x y : PE} (h : Apart x y) : Apart y x := fun g h1 h2 => h g h2 h1
def NO (F : Nat → Prop) (w : World) (nb mb : Nat) (A : Option Addr) (c n : Nat) (l : List PE) (s t u : Int) (m : Nat) (D : DataW Unit) : Prop :=
  (Bn nb 63 [.slice A n c, .map (some mb), .int .i64 s, .int .i64 t, .int .i64 u] w ∧ w.ownsRow 0 36 5 (.slice A n c) n (pcs l) ∧ w.ownsMap Try.prog 66 unitElem mb m D) ∧
  (l.length = n ∧ l.Pairwise Apart ∧ ∀ x ∈ l, PkOK F w x) ∧
  (F nb ∧ F mb ∧ (∀ g, (Value.slice A n c).ownBlock = some g → F g) ∧ ∀ k, F k → k < w.heap.size)
section
variable {F F' : Nat → Prop} {w w' : World} {nb mb n m c : Nat} {A : Option Addr} {l : List PE} {s t u : Int} {D : DataW Unit} {x y : PE} {k : Nat}
theorem map_same (h : w.ownsMap Try.prog 66 unitElem mb m D) (hk : w'.heap[mb]? = w.heap[mb]?) : w'.ownsMap Try.prog 66 unitElem mb m D := by
  obtain ⟨q, clock, h1, h2⟩ := h
  exact ⟨q, clock, hk.trans h1, h2⟩
theorem PkOK.keep (h : PkOK F w x) (hk : ∀ k, F k → w'.heap[k]? = w.heap[k]?) : PkOK F w' x := ⟨own_keep h.1 fun g hg => hk g (h.2.1 g hg), h.2.1, h.2.2⟩
theorem NO.keep (h : NO F w nb mb A c n l s t u m D) (hs : w.heap.size ≤ w'.heap.size) (hk : ∀ k, F k → w'.heap[k]? = w.heap[k]?) : NO F w' nb mb A c n l s t u m D := by
  obtain ⟨⟨h1, h2, h3⟩, ⟨h4, h5, h6⟩, h8, h9, h10, h11⟩ := h
  exact ⟨⟨h1.same (hk _ h8), own_keep h2 fun g hg => hk g (h10 g hg), map_same h3 (hk _ h9)⟩, ⟨h4, h5, fun x hx => (h6 x hx).keep hk⟩, h8, h9, h10, fun k hk => Nat.lt_of_lt_of_le (h11 k hk) hs⟩
theorem NO.lt (h : NO F w nb mb A c n l s t u m D) : ∀ k, F k → k < w.heap.size := h.2.2.2.2.2
theorem NO.below (h : NO F w nb mb A c n l s t u m D) (hb : Below w.heap.size w w') : NO F w' nb mb A c n l s t u m D := h.keep hb.size fun k hk => hb.block k (h.lt k hk)
theorem NO.chg {G : Nat → Prop} (h : NO F w nb mb A c n l s t u m D) (hb : Chg G w w') (hG : ∀ k, F k → ¬ G k) : NO F w' nb mb A c n l s t u m D := h.keep hb.size fun k hk => hb.block k (h.lt k hk) (hG k hk)
theorem cells_ne_map {t : TypeId} {cs : Array Value} {fr : Nat × Nat} {g : Nat} (h3 : w.ownsMap Try.prog 66 unitElem mb m D) (hc : w.heap[g]? = some (.cells cs t fr)) : g ≠ mb := fun q => by
  obtain ⟨q1, q2, q3, _⟩ := h3
  rw [q, q3] at hc
  injection hc with hc
  cases hc
theorem own_ne_map {t : TypeId} {sz j g : Nat} {v : Value} {xs : List Value} (h3 : w.ownsMap Try.prog 66 unitElem mb m D) (ho : w.ownsRow 0 t sz v j xs) (hg : v.ownBlock = some g) : g ≠ mb := by
  obtain ⟨cur, hc⟩ := own_block ho hg
  exact cells_ne_map h3 hc
/-- The network's own cells are written: none but counters. -/
theorem NO.count (h : NO F w nb mb A c n l s t u m D) {r : Nat} {v : Value} {s' t' u' : Int} (hc : ([.slice A n c, .map (some mb), .int .i64 s, .int .i64 t, .int .i64 u] : List Value).set r v = [.slice A n c, .map (some mb), .int .i64 s', .int .i64 t', .int .i64 u']) :
    NO F (w.setCell ⟨nb, r, none⟩ v) nb mb A c n l s' t' u' m D := by
  have hg := gset w nb r v
  obtain ⟨⟨h1, h2, h3⟩, ⟨h4, h5, h6⟩, h8, h9, h10, h11⟩ := h
  have hb := h1.set r v
  rw [hc] at hb
  refine ⟨⟨hb, own_keep h2 fun g hg' => hg.block g (h11 g (h10 g hg')) fun q => own_ne h2 h1 (by decide) (by rw [hg', q]), map_same h3 (hg.block mb (h11 mb h9) fun q => cells_ne_map h3 h1 (by injection q with q; exact q.symm))⟩,
    ⟨h4, h5, fun x hx => ?_⟩, h8, h9, h10, fun k hk => Nat.lt_of_lt_of_le (h11 k hk) hg.size⟩
  obtain ⟨g1, g2, g3⟩ := h6 x hx
  exact ⟨own_keep g1 fun g hg' => hg.block g (h11 g (g2 g hg')) fun q => own_ne g1 h1 (by decide) (by rw [hg', q]), g2, g3⟩
/-- The map is written. -/
theorem NO.mapped {m' : Nat} {D' : DataW Unit} (h : NO F w nb mb A c n l s t u m D) (hg : w.grownBy w' (some mb)) (ho : w'.ownsMap Try.prog 66 unitElem mb m' D') : NO F w' nb mb A c n l s t u m' D' := by
  obtain ⟨⟨h1, h2, h3⟩, ⟨h4, h5, h6⟩, h8, h9, h10, h11⟩ := h
  refine ⟨⟨h1.kept hg (fun q => cells_ne_map h3 h1 (by injection q)), own_keep h2 fun g hg' => hg.block g (h11 g (h10 g hg')) fun q => own_ne_map h3 h2 hg' (by injection q), ho⟩, ⟨h4, h5, fun x hx => ?_⟩, h8, h9, h10, fun k hk => Nat.lt_of_lt_of_le (h11 k hk) hg.size⟩
  obtain ⟨g1, g2, g3⟩ := h6 x hx
  exact ⟨own_keep g1 fun g hg' => hg.block g (h11 g (g2 g hg')) fun q => own_ne_map h3 g1 hg' (by injection q), g2, g3⟩
/-- A packet more: its data are new, the list's row may lie elsewhere now. -/
theorem NO.push {v w7 : World} {g7 cap7 B : Nat} (h : NO F w nb mb A c n l s t u m D) (hb : Below w.heap.size w v) (x : PE) (hx : v.ownsRow w.heap.size 5 1 (dV x) x.1.2.2.length (nums .u8 x.1.2.2)) (hok : OkP x.1)
    (ho7 : w7.ownsRow 0 36 5 (.slice (some ⟨g7, 0, none⟩) (n + 1) cap7) (n + 1) (pcs l ++ pc x)) (hg7 : v.grownBy w7 (Value.slice A n c).ownBlock) (hat : (Value.slice A n c).ownBlock = some g7 ∨ g7 = B) (hB : w.heap.size ≤ B) (hlt : g7 < w7.heap.size) :
    NO (fun k => F k ∨ (w.heap.size ≤ k ∧ k < w7.heap.size)) (w7.setCell ⟨nb, 0, none⟩ (.slice (some ⟨g7, 0, none⟩) (n + 1) cap7)) nb mb (some ⟨g7, 0, none⟩) cap7 (n + 1) (l ++ [x]) s t u m D := by
  have h' := h.below hb
  obtain ⟨⟨_, h2w, _⟩, ⟨h4, h5, h6w⟩, h8, h9, h10, h11w⟩ := h
  obtain ⟨⟨h1, h2, h3⟩, ⟨_, _, h6⟩, _, _, _, h11⟩ := h'
  have k7 : ∀ {k}, k < v.heap.size → (Value.slice A n c).ownBlock ≠ some k → w7.heap[k]? = v.heap[k]? := fun hk hne => hg7.block _ hk fun q => hne q.symm
  have n1 : nb ≠ g7 := fun q => by
    rcases hat with e | e
    · exact own_ne h2 h1 (by decide) (by rw [e, q])
    · have := h11w nb h8
      omega
  have b7 : Bn nb 63 [.slice A n c, .map (some mb), .int .i64 s, .int .i64 t, .int .i64 u] w7 := h1.same (k7 (h11 nb h8) (own_ne h2 h1 (by decide)))
  have hgs := gset w7 nb 0 (.slice (some ⟨g7, 0, none⟩) (n + 1) cap7)
  have ne8 : ∀ {t' : TypeId} {sz j g : Nat} {v' : Value} {xs : List Value}, v.ownsRow 0 t' sz v' j xs → t' ≠ 63 → v'.ownBlock = some g → some g ≠ some nb := fun ho ht hg q => own_ne ho h1 ht (by rw [hg, q])
  have hdat : ∀ {z : PE} {base : Nat}, v.ownsRow base 5 1 (dV z) z.1.2.2.length (nums .u8 z.1.2.2) → (w7.setCell ⟨nb, 0, none⟩ (.slice (some ⟨g7, 0, none⟩) (n + 1) cap7)).ownsRow 0 5 1 (dV z) z.1.2.2.length (nums .u8 z.1.2.2) := fun {z base} hz => by
    have hz0 := own_base0 hz
    refine own_keep (own_keep hz0 fun g hg => k7 (hz0.lt g hg).2 fun q => own_ne2 hz0 h2 (by decide) hg q) fun g hg => hgs.block g ?_ (ne8 hz0 (by decide) hg)
    have := (hz0.lt g hg).2
    have := hg7.size
    omega
  refine ⟨⟨b7.set 0 _, ?_, ?_⟩, ⟨by simp [h4], ?_, fun z hz => ?_⟩, .inl h8, .inl h9, fun g hg => ?_, fun k hk => ?_⟩
  · rw [pcs_append, pcs_one]
    refine own_keep ho7 fun g hg => hgs.block g ?_ fun q => ?_
    · have hg' : g7 = g := by injection hg
      omega
    · have hg' : g7 = g := by injection hg
      injection q with q
      exact n1 (q.symm.trans hg'.symm)
  · refine map_same (map_same h3 (k7 (h11 mb h9) fun q => own_ne_map h3 h2 q rfl)) (hgs.block mb (by have := h11 mb h9; have := hg7.size; omega) fun q => ?_)
    injection q with q
    exact cells_ne_map h3 h1 q.symm
  · rw [List.pairwise_append]
    refine ⟨h5, List.pairwise_singleton _ _, fun z hz y hy g hg1 hg2 => ?_⟩
    rw [List.mem_singleton] at hy
    subst hy
    have e1 := h11w g ((h6w z hz).2.1 g hg1)
    have e2 := (hx.lt g hg2).1
    omega
  · rcases List.mem_append.1 hz with hz | hz
    · obtain ⟨g1, g2, g3⟩ := h6 z hz
      exact ⟨hdat g1, fun g hg => .inl (g2 g hg), g3⟩
    · rw [List.mem_singleton] at hz
      subst hz
      refine ⟨hdat hx, fun g hg => .inr ?_, hok⟩
      have := hx.lt g hg
      have := hg7.size
      omega
  · have hg' : g7 = g := by injection hg
    subst hg'
    rcases hat with q | q
    · exact .inl (h10 _ q)
    · exact .inr ⟨by omega, hlt⟩
  · have := hgs.size
    have := hg7.size
    rcases hk with hk | hk
    · have := h11 k hk
      omega
    · omega
/-- What the network is made of without a packet's data. -/
def Less (F : Nat → Prop) (x : PE) : Nat → Prop := fun k => F k ∧ (dV x).ownBlock ≠ some k
theorem apart_del {i : Nat} (h : l.Pairwise Apart) (hx : l[i]? = some x) : ∀ y ∈ l.eraseIdx i, Apart y x := fun y hy => by
  obtain ⟨hi, hxi⟩ := List.getElem?_eq_some_iff.1 hx
  have hp := List.pairwise_iff_getElem.1 h
  obtain ⟨j, hj, hji, hyj⟩ := List.mem_eraseIdx_iff_getElem.1 hy
  rcases Nat.lt_or_gt_of_ne hji with q | q
  · have := hp j i hj hi q
    rw [hxi, hyj] at this
    exact this
  · have := hp i j hi hj q
    rw [hxi, hyj] at this
    exact this.symm
/-- A packet less: the list's row was shifted in its place. -/
theorem NO.less {n' i : Nat} (h : NO F w nb mb A c n l s t u m D) (hx : l[i]? = some x) (hn : n' + 1 = n) (ho7 : w'.ownsRow 0 36 5 (.slice A n' c) n' (pcs (l.eraseIdx i))) (hg7 : w.grownBy w' (Value.slice A n c).ownBlock) :
    NO (Less F x) (w'.setCell ⟨nb, 0, none⟩ (.slice A n' c)) nb mb A c n' (l.eraseIdx i) s t u m D ∧ (w'.setCell ⟨nb, 0, none⟩ (.slice A n' c)).ownsRow 0 5 1 (dV x) x.1.2.2.length (nums .u8 x.1.2.2) := by
  obtain ⟨⟨h1, h2, h3⟩, ⟨h4, h5, h6⟩, h8, h9, h10, h11⟩ := h
  have k7 : ∀ {k}, k < w.heap.size → (Value.slice A n c).ownBlock ≠ some k → w'.heap[k]? = w.heap[k]? := fun hk hne => hg7.block _ hk fun q => hne q.symm
  have hxm := List.mem_of_getElem? hx
  have hi := (List.getElem?_eq_some_iff.1 hx).1
  have b7 : Bn nb 63 [.slice A n c, .map (some mb), .int .i64 s, .int .i64 t, .int .i64 u] w' := h1.same (k7 (h11 nb h8) (own_ne h2 h1 (by decide)))
  have hgs := gset w' nb 0 (.slice A n' c)
  have hA : (Value.slice A n' c).ownBlock = (Value.slice A n c).ownBlock := by cases A <;> rfl
  have hdat : ∀ {z : PE}, w.ownsRow 0 5 1 (dV z) z.1.2.2.length (nums .u8 z.1.2.2) → (w'.setCell ⟨nb, 0, none⟩ (.slice A n' c)).ownsRow 0 5 1 (dV z) z.1.2.2.length (nums .u8 z.1.2.2) := fun {z} hz =>
    own_keep (own_keep hz fun g hg => k7 (hz.lt g hg).2 fun q => own_ne2 hz h2 (by decide) hg q) fun g hg => hgs.block g (by have := (hz.lt g hg).2; have := hg7.size; omega) fun q => own_ne hz h1 (by decide) (by rw [hg, q])
  obtain ⟨x1, x2, x3⟩ := h6 x hxm
  refine ⟨⟨⟨b7.set 0 _, ?_, ?_⟩, ⟨?_, h5.sublist (List.eraseIdx_sublist ..), fun z hz => ?_⟩, ⟨h8, own_ne x1 h1 (by decide)⟩, ⟨h9, fun q => own_ne_map h3 x1 q rfl⟩, fun g hg => ⟨h10 g (hA ▸ hg), fun q => own_ne2 x1 h2 (by decide) q (hA ▸ hg)⟩, fun k hk => ?_⟩, hdat x1⟩
  · refine own_keep ho7 fun g hg => hgs.block g (by have := (ho7.lt g hg).2; omega) fun q => ?_
    exact own_ne h2 h1 (by decide) (by rw [← hA, hg, q])
  · refine map_same (map_same h3 (k7 (h11 mb h9) fun q => own_ne_map h3 h2 q rfl)) (hgs.block mb (by have := h11 mb h9; have := hg7.size; omega) fun q => ?_)
    injection q with q
    exact cells_ne_map h3 h1 q.symm
  · rw [List.length_eraseIdx_of_lt hi]
    omega
  · obtain ⟨g1, g2, g3⟩ := h6 z (List.mem_of_mem_eraseIdx hz)
    exact ⟨hdat g1, fun g hg => ⟨g2 g hg, fun q => apart_del h5 hx z hz g hg q⟩, g3⟩
  · have := h11 k hk.1
    have := hgs.size
    have := hg7.size
    omega
end
end Net
end Go.Proofs.Ytinbaiblbbfnnaa
