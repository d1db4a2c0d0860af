/-
  An inbox in memory: a row of far writes, each with a record and a route in blocks apart from the row's and the inbox's own.
-/
import Derived.Test.YtiempgabamheiaaGPut
import Derived.Test.YtiempgabamheiaaGFill
namespace Go.Proofs.Ytiempgabamheiaa
namespace Inbox
open Go.RowKit Vers Span Blk

abbrev Plc := Option Addr × Nat
/-- A far write, the place of its versions, the place of its route. -/
abbrev FE := Fr × Plc × Plc
def e0 : FE := (f0, (none, 0), (none, 0))
def fc (x : FE) : List Value := [.int .i64 x.1.1.1, .int .i64 x.1.1.2, .string x.1.2.1.1, .slice x.2.1.1 x.1.2.1.2.length x.2.1.2, .slice x.2.2.1 x.1.2.2.length x.2.2.2]
def fcs (l : List FE) : List Value := l.flatMap fc
theorem fc_length (x : FE) : (fc x).length = 5 := rfl
theorem fcs_cons (x : FE) (l : List FE) : fcs (x :: l) = fc x ++ fcs l := by simp [fcs]
theorem fcs_append (l m : List FE) : fcs (l ++ m) = fcs l ++ fcs m := by simp [fcs]
theorem fcs_one (x : FE) : fcs [x] = fc x := by simp [fcs]
theorem fcs_length (l : List FE) : (fcs l).length = l.length * 5 := by
  induction l with
  | nil => rfl
  | cons x l ih =>
    rw [fcs_cons, List.length_append, ih, fc_length, List.length_cons]
    omega
theorem fcs_take (l : List FE) : ∀ j, (fcs l).take (j * 5) = fcs (l.take j) := by
  induction l with
  | nil => intro j; simp [fcs]
  | cons x l ih =>
    intro j
    rcases j with _ | j
    · simp [fcs]
    · rw [List.take_succ_cons, fcs_cons, fcs_cons, ← ih j, List.take_append, fc_length, List.take_of_length_le (by rw [fc_length]; omega), show (j + 1) * 5 - 5 = j * 5 by omega]
theorem fcs_drop (l : List FE) : ∀ j, (fcs l).drop (j * 5) = fcs (l.drop j) := by
  induction l with
  | nil => intro j; simp [fcs]
  | cons x l ih =>
    intro j
    rcases j with _ | j
    · simp [fcs]
    · rw [List.drop_succ_cons, fcs_cons, ← ih j, List.drop_append, fc_length, List.drop_of_length_le (by rw [fc_length]; omega), show (j + 1) * 5 - 5 = j * 5 by omega, List.nil_append]
theorem fcs_at (l : List FE) {j : Nat} {x : FE} (hj : l[j]? = some x) (r : Nat) (hr : r < 5) : (fcs l)[j * 5 + r]? = (fc x)[r]? := by
  have h1 : (fcs l)[j * 5 + r]? = ((fcs l).drop (j * 5))[r]? := by rw [List.getElem?_drop]
  obtain ⟨hlt, hx⟩ := List.getElem?_eq_some_iff.1 hj
  rw [h1, fcs_drop, List.drop_eq_getElem_cons hlt, hx, fcs_cons, List.getElem?_append_left (by rw [fc_length]; exact hr)]
theorem fcs_cell (l : List FE) : ∀ u ∈ fcs l, u.oneCell' = true := by
  intro u hu
  obtain ⟨x, _, hx⟩ := List.mem_flatMap.1 hu
  simp [fc] at hx
  rcases hx with rfl | rfl | rfl | rfl | rfl <;> rfl

/-- What a far write leads to: in blocks from L on and below B. -/
def Hd (w : World) (L B : Nat) (x : FE) : Prop := Vs w L B x.2.1.1 x.1.2.1.2 ∧ Ns .i64 w B x.2.2.1 x.1.2.2 ∧ (0 < x.1.2.2.length → ∀ a, x.2.2.1 = some a → L ≤ a.block) ∧ x.1.2.1.2.length ≤ x.2.1.2
def SzF (x : Fr) : Prop := x.2.1.1.size ≤ 140737488355328 ∧ x.2.1.2.length ≤ 140737488355328 ∧ x.2.2.length ≤ 17592186043904
section
variable {w w' : World} {L L' B B' : Nat} {x : FE}
theorem Hd.keep (h : Hd w L B x) (hk : ∀ p : Addr, L ≤ p.block → p.block < B → w'.cell? p = w.cell? p) : Hd w' L B x := by
  refine ⟨h.1.keep hk, fun hp => ?_, h.2.2⟩
  obtain ⟨b, off, e, hb, hc⟩ := h.2.1 hp
  have hl := h.2.2.1 hp _ e
  exact ⟨b, off, e, hb, fun j hj => (hk ⟨b, off + j, none⟩ hl hb).trans (hc j hj)⟩
theorem Hd.heap (h : Hd w L B x) (hk : ∀ k, L ≤ k → k < B → w'.heap[k]? = w.heap[k]?) : Hd w' L B x := h.keep fun p h1 h2 => World.cell?_of_block (hk p.block h1 h2)
theorem Hd.more (h : Hd w L B x) (hB : B ≤ B') : Hd w L B' x := ⟨h.1.more hB, h.2.1.more hB, h.2.2⟩
theorem Hd.less (h : Hd w L B x) (hL : L' ≤ L) : Hd w L' B x := ⟨h.1.less hL, h.2.1, fun hp a ha => Nat.le_trans hL (h.2.2.1 hp a ha), h.2.2.2⟩
theorem Hd.below (h : Hd w L B x) (hb : Below B w w') : Hd w' L B x := h.keep fun _ _ hp => hb.cell hp
end

/-- An inbox of the type T in the block nb, its row of the type e. -/
def IO (T e : TypeId) (F : Nat → Prop) (w : World) (nb : Nat) (room : Int) (A : Option Addr) (c n : Nat) (l : List FE) : Prop :=
  (Bn nb T [.int .i64 room, .slice A n c] w ∧ w.ownsRow 0 e 5 (.slice A n c) n (fcs l)) ∧
  (l.length = n ∧ ∀ x ∈ l, SzF x.1 ∧ ∃ L B, Hd w L B x ∧ B ≤ w.heap.size ∧ ∀ k, L ≤ k → k < B → F k ∧ k ≠ nb ∧ (Value.slice A n c).ownBlock ≠ some k) ∧
  (F nb ∧ (∀ g, (Value.slice A n c).ownBlock = some g → F g) ∧ ∀ k, F k → k < w.heap.size)
section
variable {T e : TypeId} {F F' : Nat → Prop} {w w' v : World} {nb n n' c c' : Nat} {room : Int} {A A' : Option Addr} {l l' : List FE} {x : FE}
theorem IO.lt (h : IO T e F w nb room A c n l) : ∀ k, F k → k < w.heap.size := h.2.2.2.2
theorem IO.keep (h : IO T e F w nb room A c n l) (hs : w.heap.size ≤ w'.heap.size) (hk : ∀ k, F k → w'.heap[k]? = w.heap[k]?) : IO T e F w' nb room A c n l := by
  obtain ⟨⟨h1, h2⟩, ⟨h3, h4⟩, h5, h6, h7⟩ := h
  refine ⟨⟨h1.same (hk _ h5), own_keep h2 fun g hg => hk g (h6 g hg)⟩, ⟨h3, fun x hx => ?_⟩, h5, h6, fun k hk => Nat.lt_of_lt_of_le (h7 k hk) hs⟩
  obtain ⟨s, L, B, g1, g2, g3⟩ := h4 x hx
  exact ⟨s, L, B, g1.heap fun k a b => hk k (g3 k a b).1, by omega, g3⟩
theorem IO.below (h : IO T e F w nb room A c n l) (hb : Below w.heap.size w w') : IO T e F w' nb room A c n l := h.keep hb.size fun k hk => hb.block k (h.lt k hk)
theorem IO.chg {G : Nat → Prop} (h : IO T e F w nb room A c n l) (hb : Chg G w w') (hG : ∀ k, F k → ¬ G k) : IO T e F w' nb room A c n l := h.keep hb.size fun k hk => hb.block k (h.lt k hk) (hG k hk)
/-- One of them. -/
theorem IO.at (h : IO T e F w nb room A c n l) {i : Nat} (hx : l[i]? = some x) : ∃ g, A = some ⟨g, 0, none⟩ ∧ g < w.heap.size ∧ (∀ r u, (fc x)[r]? = some u → w.cell? ⟨g, i * 5 + r, none⟩ = some u) ∧ SzF x.1 ∧ Vs w 0 w.heap.size x.2.1.1 x.1.2.1.2 ∧ Ns .i64 w w.heap.size x.2.2.1 x.1.2.2 := by
  obtain ⟨⟨h1, h2⟩, ⟨h3, h4⟩, h5, h6, h7⟩ := h
  have hi := (List.getElem?_eq_some_iff.1 hx).1
  obtain ⟨g, cap, hv, _, hg⟩ := h2.form (by omega)
  injection hv with hA _ hcap
  subst hA
  obtain ⟨s, L, B, g1, g2, g3⟩ := h4 x (List.mem_of_getElem? hx)
  refine ⟨g, rfl, h7 g (h6 g rfl), fun r u hu => ?_, s, (g1.1.less (Nat.zero_le _)).more g2, g1.2.1.more g2⟩
  have hr : r < 5 := by
    rcases Nat.lt_or_ge r 5 with h | h
    · exact h
    · rw [List.getElem?_eq_none (by simpa [fc] using h)] at hu; cases hu
  rw [hcap] at h2
  rw [h2.cellAt (i * 5 + r) (by omega), fcs_at l hx r hr]
  exact hu
theorem g7eq {g7 n cap nb g : Nat} (hg : (Value.slice (some ⟨g7, 0, none⟩) n cap).ownBlock = some g) (q : some g = some nb) : g7 = nb := by
  have e1 : g7 = g := by injection hg
  have e2 : g = nb := by injection q
  omega
/-- One more: its data are new, the row may lie elsewhere now. -/
theorem IO.push {w7 : World} {g7 cap7 : Nat} (hT : e ≠ T) (h : IO T e F w nb room A c n l) (hb : Below w.heap.size w v) {L B : Nat} (hx : Hd v L B x) (hL : w.heap.size ≤ L) (hB : B ≤ v.heap.size) (hs : SzF x.1)
    (ho7 : w7.ownsRow 0 e 5 (.slice (some ⟨g7, 0, none⟩) (n + 1) cap7) (n + 1) (fcs l ++ fc x)) (hg7 : v.grownBy w7 (Value.slice A n c).ownBlock) (hat : (Value.slice A n c).ownBlock = some g7 ∨ v.heap.size ≤ g7) :
    IO T e (fun k => F k ∨ (w.heap.size ≤ k ∧ k < w7.heap.size)) (w7.setCell ⟨nb, 1, none⟩ (.slice (some ⟨g7, 0, none⟩) (n + 1) cap7)) nb room (some ⟨g7, 0, none⟩) cap7 (n + 1) (l ++ [x]) := by
  have hlt := ho7.lt g7 rfl
  obtain ⟨⟨h1, h2⟩, ⟨h3, h4⟩, h5, h6, h7⟩ := h
  have hne : (Value.slice A n c).ownBlock ≠ some nb := own_ne h2 h1 hT
  have hvs := hb.size
  have h7s := hg7.size
  have hgs := gset w7 nb 1 (.slice (some ⟨g7, 0, none⟩) (n + 1) cap7)
  have k7 : ∀ {k}, k < v.heap.size → (Value.slice A n c).ownBlock ≠ some k → w7.heap[k]? = v.heap[k]? := fun hk hne => hg7.block _ hk fun q => hne q.symm
  have hnb := h7 nb h5
  have b7 : Bn nb T [.int .i64 room, .slice A n c] w7 := (h1.same (hb.block nb hnb)).same (k7 (by omega) hne)
  have n1 : g7 ≠ nb := fun q => by
    rcases hat with e' | e'
    · exact hne (by rw [e', q])
    · omega
  rw [← fcs_one, ← fcs_append] at ho7
  refine ⟨⟨b7.set 1 _, own_keep ho7 fun g hg => hgs.block g (ho7.lt g hg).2 fun q => n1 (g7eq hg q)⟩, ⟨by simp [h3], fun y hy => ?_⟩, .inl h5, fun g hg => ?_, fun k hk => ?_⟩
  · rcases List.mem_append.1 hy with hy | hy
    · obtain ⟨s, L', B', g1, g2, g3⟩ := h4 y hy
      refine ⟨s, L', B', (((g1.heap fun k a b => hb.block k (by omega)).heap fun k a b => k7 (by omega) (g3 k a b).2.2).heap fun k a b => hgs.block k (by omega) fun q => (g3 k a b).2.1 (by injection q)), by have := hgs.size; omega, fun k a b => ⟨.inl (g3 k a b).1, (g3 k a b).2.1, fun q => ?_⟩⟩
      have q : g7 = k := by injection q
      rcases hat with e' | e'
      · exact (g3 k a b).2.2 (by rw [e', q])
      · omega
    · obtain rfl := List.mem_singleton.1 hy
      have hrow : ∀ g, (Value.slice A n c).ownBlock = some g → g < w.heap.size := fun g hg => h7 g (h6 g hg)
      refine ⟨hs, L, B, ((hx.heap fun k a b => k7 (by omega) fun q => by have := hrow k q; omega).heap fun k a b => hgs.block k (by omega) fun q => by injection q with q; omega), by have := hgs.size; omega, fun k a b => ⟨.inr ⟨by omega, by omega⟩, by omega, fun q => ?_⟩⟩
      have q : g7 = k := by injection q
      rcases hat with e' | e'
      · have := hrow g7 e'
        omega
      · omega
  · have hg' : g7 = g := by injection hg
    subst hg'
    rcases hat with q | q
    · exact .inl (h6 _ q)
    · exact .inr ⟨by omega, hlt.2⟩
  · have := hgs.size
    rcases hk with hk | hk
    · have := h7 k hk
      omega
    · omega
/-- Another row, of some of those that were there. -/
theorem IO.relist (h : IO T e F w nb room A c n l) (hb : Below w.heap.size w v) (ho : v.ownsRow w.heap.size e 5 (.slice A' n' c') n' (fcs l')) (hl : l'.length = n') (hm : ∀ x ∈ l', x ∈ l) :
    IO T e (fun k => F k ∨ (w.heap.size ≤ k ∧ k < v.heap.size)) (v.setCell ⟨nb, 1, none⟩ (.slice A' n' c')) nb room A' c' n' l' := by
  obtain ⟨⟨h1, h2⟩, ⟨h3, h4⟩, h5, h6, h7⟩ := h
  have hgs := gset v nb 1 (.slice A' n' c')
  have hvs := hb.size
  have hnb := h7 nb h5
  have b7 : Bn nb T [.int .i64 room, .slice A n c] v := h1.same (hb.block nb hnb)
  have ho0 : v.ownsRow 0 e 5 (.slice A' n' c') n' (fcs l') := own_base ho (Nat.zero_le _)
  refine ⟨⟨b7.set 1 _, own_keep ho0 fun g hg => hgs.block g (ho.lt g hg).2 fun q => ?_⟩, ⟨hl, fun y hy => ?_⟩, .inl h5, fun g hg => .inr (ho.lt g hg), fun k hk => ?_⟩
  · have := (ho.lt g hg).1
    injection q with q
    omega
  · obtain ⟨s, L', B', g1, g2, g3⟩ := h4 y (hm y hy)
    refine ⟨s, L', B', ((g1.heap fun k a b => hb.block k (by omega)).heap fun k a b => hgs.block k (by omega) fun q => (g3 k a b).2.1 (by injection q)), by have := hgs.size; omega, fun k a b => ⟨.inl (g3 k a b).1, (g3 k a b).2.1, fun q => ?_⟩⟩
    have := (ho.lt k q).1
    omega
  · have := hgs.size
    rcases hk with hk | hk
    · have := h7 k hk
      omega
    · omega
/-- More blocks may be counted among its own. -/
theorem IO.wide (h : IO T e F w nb room A c n l) (hF : ∀ k, F k → F' k) (hlt : ∀ k, F' k → k < w.heap.size) : IO T e F' w nb room A c n l := by
  obtain ⟨h1, ⟨h3, h4⟩, h5, h6, h7⟩ := h
  refine ⟨h1, ⟨h3, fun x hx => ?_⟩, hF _ h5, fun g hg => hF _ (h6 g hg), hlt⟩
  obtain ⟨s, L, B, g1, g2, g3⟩ := h4 x hx
  exact ⟨s, L, B, g1, g2, fun k a b => ⟨hF _ (g3 k a b).1, (g3 k a b).2⟩⟩
end
/-- The inbox with what waits. -/
def IN (T e : TypeId) (F : Nat → Prop) (w : World) (nb : Nat) (room : Int) (P : List Fr) : Prop := ∃ A c n l, l.map Prod.fst = P ∧ IO T e F w nb room A c n l
section
variable {T e : TypeId} {F F' : Nat → Prop} {w w' v : World} {nb : Nat} {room : Int} {P : List Fr}
theorem IN.lt (h : IN T e F w nb room P) : ∀ k, F k → k < w.heap.size := by obtain ⟨A, c, n, l, _, h⟩ := h; exact h.lt
theorem IN.below (h : IN T e F w nb room P) (hb : Below w.heap.size w w') : IN T e F w' nb room P := by obtain ⟨A, c, n, l, e, h⟩ := h; exact ⟨A, c, n, l, e, h.below hb⟩
theorem IN.chg {G : Nat → Prop} (h : IN T e F w nb room P) (hb : Chg G w w') (hG : ∀ k, F k → ¬ G k) : IN T e F w' nb room P := by obtain ⟨A, c, n, l, e, h⟩ := h; exact ⟨A, c, n, l, e, h.chg hb hG⟩
end
end Inbox
end Go.Proofs.Ytiempgabamheiaa
