/-
  The document's network in memory (layer 8).
-/
import Derived.Test.YtinbaiblbbfnnaaNetOwn
namespace Go.Proofs.Ytinbaiblbbfnnaa
namespace Net
open Go.RowKit Blk
abbrev Ct := Ad × Ad
def cc (e : Ct) : List Value := [.int .i64 e.1.1, .int .i64 e.1.2, .int .i64 e.2.1, .int .i64 e.2.2]
def ccs (cs : List Ct) : List Value := cs.flatMap cc
theorem ccs_append (l m : List Ct) : ccs (l ++ m) = ccs l ++ ccs m := by simp [ccs]
theorem ccs_one (e : Ct) : ccs [e] = cc e := by simp [ccs]
theorem ccs_at (cs : List Ct) : ∀ (j : Nat) (e : Ct), cs[j]? = some e → ∀ r, r < 4 → (ccs cs)[j * 4 + r]? = (cc e)[r]? := by
  induction cs with
  | nil => intro j e h; simp at h
  | cons y cs ih =>
    intro j e h r hr
    have he : ccs (y :: cs) = cc y ++ ccs cs := by simp [ccs]
    rw [he]
    rcases j with _ | j
    · simp only [List.getElem?_cons_zero, Option.some.injEq] at h
      subst h
      rw [List.getElem?_append_left (by simp [cc]; omega), Nat.zero_mul, Nat.zero_add]
    · rw [List.getElem?_append_right (by simp [cc]; omega)]
      have : (j + 1) * 4 + r - (cc y).length = j * 4 + r := by simp [cc]; omega
      rw [this]
      exact ih j e (by simpa using h) r hr
/-- Is one of the pairs these two places, in either direction? -/
def cutC (cs : List Ct) (a b : Ad) : Bool := cs.any fun e => ((e.1 == a) && (e.2 == b)) || ((e.1 == b) && (e.2 == a))
theorem cut_snoc (cs : List Ct) (e : Ct) (a b : Ad) : cutC (cs ++ [e]) a b = (cutC cs a b || (((e.1 == a) && (e.2 == b)) || ((e.1 == b) && (e.2 == a)))) := by simp [cutC]
/-- The document's network, all of it in the blocks F. -/
def RN (F : Nat → Prop) (w : World) (mb : Nat) (A : Option Addr) (c n : Nat) (l : List PE) (B : Option Addr) (q k : Nat) (cs : List Ct) (s t u : Int) : Prop :=
  Bn mb 30 [.slice A n c, .slice B k q, .int .i64 s, .int .i64 t, .int .i64 u] w ∧
  (l.length = n ∧ w.ownsRow 0 36 5 (.slice A n c) n (pcs l) ∧ ∀ x ∈ l, PkOK F w x) ∧
  (cs.length = k ∧ w.ownsRow 0 66 4 (.slice B k q) k (ccs cs) ∧ ∀ e ∈ cs, okA e.1 ∧ okA e.2) ∧
  (F mb ∧ (∀ g, (Value.slice A n c).ownBlock = some g → F g) ∧ (∀ g, (Value.slice B k q).ownBlock = some g → F g) ∧ ∀ j, F j → j < w.heap.size)
section
variable {F : Nat → Prop} {w w' : World} {mb : Nat} {A : Option Addr} {c n : Nat} {l : List PE} {B : Option Addr} {q k : Nat} {cs : List Ct} {s t u : Int}
theorem RN.lt (h : RN F w mb A c n l B q k cs s t u) : ∀ j, F j → j < w.heap.size := h.2.2.2.2.2.2
theorem RN.keep (h : RN F w mb A c n l B q k cs s t u) (hs : w.heap.size ≤ w'.heap.size) (hk : ∀ j, F j → w'.heap[j]? = w.heap[j]?) : RN F w' mb A c n l B q k cs s t u :=
  ⟨h.1.same (hk mb h.2.2.2.1), ⟨h.2.1.1, own_keep h.2.1.2.1 fun g hg => hk g (h.2.2.2.2.1 g hg), fun x hx => (h.2.1.2.2 x hx).keep hk⟩, ⟨h.2.2.1.1, own_keep h.2.2.1.2.1 fun g hg => hk g (h.2.2.2.2.2.1 g hg), h.2.2.1.2.2⟩, ⟨h.2.2.2.1, h.2.2.2.2.1, h.2.2.2.2.2.1, fun j hj => Nat.lt_of_lt_of_le (h.lt j hj) hs⟩⟩
theorem RN.below (h : RN F w mb A c n l B q k cs s t u) (hb : Below w.heap.size w w') : RN F w' mb A c n l B q k cs s t u := h.keep hb.size fun j hj => hb.block j (h.lt j hj)
theorem RN.chg {G : Nat → Prop} (h : RN F w mb A c n l B q k cs s t u) (hb : Chg G w w') (hG : ∀ j, F j → ¬ G j) : RN F w' mb A c n l B q k cs s t u := h.keep hb.size fun j hj => hb.block j (h.lt j hj) (hG j hj)
theorem RN.head (h : RN F w mb A c n l B q k cs s t u) : w.cell? ⟨mb, 0, none⟩ = some (.slice A n c) ∧ w.cell? ⟨mb, 1, none⟩ = some (.slice B k q) ∧ w.cell? ⟨mb, 2, none⟩ = some (.int .i64 s) ∧ w.cell? ⟨mb, 3, none⟩ = some (.int .i64 t) ∧ w.cell? ⟨mb, 4, none⟩ = some (.int .i64 u) :=
  ⟨(h.1.cell 0).trans rfl, (h.1.cell 1).trans rfl, (h.1.cell 2).trans rfl, (h.1.cell 3).trans rfl, (h.1.cell 4).trans rfl⟩
/-- The document's network as it begins. -/
theorem rn_start (w : World) : RN (fun j => w.heap.size ≤ j ∧ j < (w.alloc (.cells #[.slice none 0 0, .slice none 0 0, .int .i64 0, .int .i64 0, .int .i64 0] 30)).heap.size) (w.alloc (.cells #[.slice none 0 0, .slice none 0 0, .int .i64 0, .int .i64 0, .int .i64 0] 30)) w.heap.size none 0 0 [] none 0 0 [] 0 0 0 :=
  ⟨heap_alloc_new w _, ⟨rfl, World.ownsRow_nil _ _ _ _, by simp⟩, ⟨rfl, World.ownsRow_nil _ _ _ _, by simp⟩, ⟨⟨Nat.le_refl _, by simp⟩, by simp [Value.ownBlock], by simp [Value.ownBlock], fun _ h => h.2⟩⟩
/-- A pair's cells. -/
theorem RN.cut_at (h : RN F w mb A c n l B q k cs s t u) {j : Nat} {e : Ct} (he : cs[j]? = some e) : ∃ g, B = some ⟨g, 0, none⟩ ∧ F g ∧ w.cell? ⟨g, j * 4, none⟩ = some (.int .i64 e.1.1) ∧ w.cell? ⟨g, j * 4 + 1, none⟩ = some (.int .i64 e.1.2) ∧ w.cell? ⟨g, j * 4 + 2, none⟩ = some (.int .i64 e.2.1) ∧ w.cell? ⟨g, j * 4 + 3, none⟩ = some (.int .i64 e.2.2) := by
  have hj := (List.getElem?_eq_some_iff.1 he).1
  have hk := h.2.2.1.1
  rcases h.2.2.1.2.1.2 with ⟨hv, h2⟩ | ⟨g, cap, cur, hv, _, hc, hnc, hcs⟩
  · omega
  · injection hv with hB
    subst hB
    have hat : ∀ r, r < 4 → w.cell? ⟨g, j * 4 + r, none⟩ = (cc e)[r]? := fun r hr => by
      rw [h.2.2.1.2.1.cellAt (j * 4 + r) (by omega), ccs_at cs j e he r hr]
    exact ⟨g, rfl, h.2.2.2.2.2.1 g rfl, hat 0 (by omega), hat 1 (by omega), hat 2 (by omega), hat 3 (by omega)⟩
end
end Net
end Go.Proofs.Ytinbaiblbbfnnaa
