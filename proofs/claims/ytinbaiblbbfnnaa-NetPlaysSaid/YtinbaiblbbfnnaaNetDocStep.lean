/-
  The document's network in memory: its list, its pairs, its numbers are turned (layer 8).
-/
import Derived.Test.YtinbaiblbbfnnaaNetDocRow
import Derived.Test.YtinbaiblbbfnnaaNetAdd
namespace Go.Proofs.Ytinbaiblbbfnnaa
namespace Net
open Go.RowKit Blk
section
variable {F F' : Nat → Prop} {w w' : World} {mb : Nat} {A A' : Option Addr} {c c' n n' : Nat} {l l' : List PE} {B B' : Option Addr} {q q' k k' : Nat} {cs cs' : List Ct} {s t u s' t' u' : Int}
theorem RN.mbF (h : RN F w mb A c n l B q k cs s t u) : F mb := h.2.2.2.1
theorem RN.mblt (h : RN F w mb A c n l B q k cs s t u) : mb < w.heap.size := h.lt mb h.mbF
/-- The packets are still there where all but the row's own block is kept. -/
theorem RN.pks (h : RN F w mb A c n l B q k cs s t u) (hk : ∀ j, F j → (Value.slice A n c).ownBlock ≠ some j → w'.heap[j]? = w.heap[j]?) (hF : ∀ j, F j → F' j) : ∀ x ∈ l, PkOK F' w' x := fun x hx => by
  obtain ⟨h1, h2, h3⟩ := h.2.1.2.2 x hx
  exact ⟨own_keep h1 fun g hg => hk g (h2 g hg) (own_ne2 h1 h.2.1.2.1 (by decide) hg), fun g hg => hF g (h2 g hg), h3⟩
/-- The list is another one. -/
theorem RN.relist (h : RN F w mb A c n l B q k cs s t u) (_hs : w.heap.size ≤ w'.heap.size) (hk : ∀ j, F j → (Value.slice A n c).ownBlock ≠ some j → w'.heap[j]? = w.heap[j]?) (hF : ∀ j, F j → F' j) (hF' : ∀ j, F' j → j < w'.heap.size)
    (hl : l'.length = n') (ho : w'.ownsRow 0 36 5 (.slice A' n' c') n' (pcs l')) (hA : ∀ g, (Value.slice A' n' c').ownBlock = some g → F' g) (hx : ∀ x ∈ l', PkOK F' w' x) :
    RN F' (w'.setCell ⟨mb, 0, none⟩ (.slice A' n' c')) mb A' c' n' l' B q k cs s t u := by
  obtain ⟨h1, ⟨_, h3, _⟩, ⟨h5, h6, h7⟩, h8, _, h10, _⟩ := h
  have b1 : Bn mb 30 [.slice A n c, .slice B k q, .int .i64 s, .int .i64 t, .int .i64 u] w' := h1.same (hk mb h8 (own_ne h3 h1 (by decide)))
  have hg := gset w' mb 0 (.slice A' n' c')
  have kp : ∀ {t' : TypeId} {sz j base : Nat} {v' : Value} {xs : List Value}, w'.ownsRow base t' sz v' j xs → t' ≠ 30 → (w'.setCell ⟨mb, 0, none⟩ (.slice A' n' c')).ownsRow base t' sz v' j xs := fun ho ht =>
    own_keep ho fun g hg' => hg.block g (ho.lt g hg').2 fun e => own_ne ho b1 ht (by rw [hg', e])
  have h6' : w'.ownsRow 0 66 4 (.slice B k q) k (ccs cs) := own_keep h6 fun g hg' => hk g (h10 g hg') (own_ne2 h6 h3 (by decide) hg')
  exact ⟨b1.set 0 _, ⟨hl, kp ho (by decide), fun x hx' => ⟨kp (hx x hx').1 (by decide), (hx x hx').2⟩⟩, ⟨h5, kp h6' (by decide), h7⟩, ⟨hF mb h8, hA, fun g hg' => hF g (h10 g hg'), fun j hj => Nat.lt_of_lt_of_le (hF' j hj) hg.size⟩⟩
/-- The pairs are others. -/
theorem RN.recut (h : RN F w mb A c n l B q k cs s t u) (_hs : w.heap.size ≤ w'.heap.size) (hk : ∀ j, F j → w'.heap[j]? = w.heap[j]?) (hF : ∀ j, F j → F' j) (hF' : ∀ j, F' j → j < w'.heap.size)
    (hl : cs'.length = k') (ho : w'.ownsRow 0 66 4 (.slice B' k' q') k' (ccs cs')) (hA : ∀ g, (Value.slice B' k' q').ownBlock = some g → F' g) (hx : ∀ e ∈ cs', okA e.1 ∧ okA e.2) :
    RN F' (w'.setCell ⟨mb, 1, none⟩ (.slice B' k' q')) mb A c n l B' q' k' cs' s t u := by
  obtain ⟨h1, ⟨h2, h3, h4⟩, ⟨_, _, _⟩, h8, h9, h10, _⟩ := h
  have b1 : Bn mb 30 [.slice A n c, .slice B k q, .int .i64 s, .int .i64 t, .int .i64 u] w' := h1.same (hk mb h8)
  have hg := gset w' mb 1 (.slice B' k' q')
  have kp : ∀ {t' : TypeId} {sz j base : Nat} {v' : Value} {xs : List Value}, w'.ownsRow base t' sz v' j xs → t' ≠ 30 → (w'.setCell ⟨mb, 1, none⟩ (.slice B' k' q')).ownsRow base t' sz v' j xs := fun ho ht =>
    own_keep ho fun g hg' => hg.block g (ho.lt g hg').2 fun e => own_ne ho b1 ht (by rw [hg', e])
  have h3' : w'.ownsRow 0 36 5 (.slice A n c) n (pcs l) := own_keep h3 fun g hg' => hk g (h9 g hg')
  exact ⟨b1.set 1 _, ⟨h2, kp h3' (by decide), fun x hx' => ⟨kp (own_keep (h4 x hx').1 fun g hg' => hk g ((h4 x hx').2.1 g hg')) (by decide), fun g hg' => hF g ((h4 x hx').2.1 g hg'), (h4 x hx').2.2⟩⟩, ⟨hl, kp ho (by decide), hx⟩, ⟨hF mb h8, fun g hg' => hF g (h9 g hg'), hA, fun j hj => Nat.lt_of_lt_of_le (hF' j hj) hg.size⟩⟩
/-- A number is another one. -/
theorem RN.count (h : RN F w mb A c n l B q k cs s t u) {r : Nat} {v : Value} (hc : ([.slice A n c, .slice B k q, .int .i64 s, .int .i64 t, .int .i64 u] : List Value).set r v = [.slice A n c, .slice B k q, .int .i64 s', .int .i64 t', .int .i64 u']) :
    RN F (w.setCell ⟨mb, r, none⟩ v) mb A c n l B q k cs s' t' u' ∧ Stp F w F (w.setCell ⟨mb, r, none⟩ v) := by
  obtain ⟨h1, ⟨h2, h3, h4⟩, ⟨h5, h6, h7⟩, h8, h9, h10, h11⟩ := h
  have hg := gset w mb r v
  have kp : ∀ {t' : TypeId} {sz j base : Nat} {v' : Value} {xs : List Value}, w.ownsRow base t' sz v' j xs → t' ≠ 30 → (w.setCell ⟨mb, r, none⟩ v).ownsRow base t' sz v' j xs := fun ho ht =>
    own_keep ho fun g hg' => hg.block g (ho.lt g hg').2 fun e => own_ne ho h1 ht (by rw [hg', e])
  have hb := h1.set r v
  rw [hc] at hb
  exact ⟨⟨hb, ⟨h2, kp h3 (by decide), fun x hx' => ⟨kp (h4 x hx').1 (by decide), (h4 x hx').2⟩⟩, ⟨h5, kp h6 (by decide), h7⟩, ⟨h8, h9, h10, fun j hj => Nat.lt_of_lt_of_le (h11 j hj) hg.size⟩⟩, Chg.of_grown hg fun g hg' => by injection hg' with hg'; subst hg'; exact h8, fun _ => .inl⟩
theorem RN.frozen (h : RN F w mb A c n l B q k cs s t u) (r : Nat) : w.frozen? ⟨mb, r, none⟩ = false := h.1.frozen r
end
end Net
end Go.Proofs.Ytinbaiblbbfnnaa
