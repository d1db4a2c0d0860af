/-
  A range over a function whose rounds are told, beside what is told, what holds of it in the world of the telling (new memory of the iterator's, say).
-/
import Derived.RangeFuncNested
import Derived.RangeFuncBound
import Derived.RangeFuncCalls
import Derived.RangeFuncLeaves
namespace Go.Proofs.Ytgiojcjnljmaiaa
namespace Rounds
open Go.RowKit
variable {F : Fence} {n : Nat} {P : Program}

/-- The two blocks that a loop lays lie as they lay. -/
structure Held (D : Nat) (X Y : World) : Prop where
  size : X.heap.size ≤ Y.heap.size
  one : Y.heap[D]? = X.heap[D]?
  two : Y.heap[D + 1]? = X.heap[D + 1]?

theorem Held.refl (D : Nat) (X : World) : Held D X X := ⟨Nat.le_refl _, rfl, rfl⟩
theorem Held.trans {D : Nat} {X Y Z : World} (h : Held D X Y) (k : Held D Y Z) : Held D X Z := ⟨Nat.le_trans h.size k.size, k.one.trans h.one, k.two.trans h.two⟩
theorem Held.below {D B : Nat} {X Y : World} (h : Below B X Y) (hB : D + 1 < B) : Held D X Y := ⟨h.size, h.block _ (by omega), h.block _ hB⟩
theorem Held.grown {D : Nat} {X Y : World} {row : Option Nat} (h : X.grownBy Y row) (hD : D + 1 < X.heap.size) (hr : ∀ k, row = some k → k ≠ D ∧ k ≠ D + 1) : Held D X Y :=
  ⟨h.size, h.block _ (by omega) (fun e => (hr _ e.symm).1 rfl), h.block _ hD (fun e => (hr _ e.symm).2 rfl)⟩
theorem Held.setCell {D : Nat} (X : World) (p : Addr) (v : Value) (h : p.block ≠ D) (h' : p.block ≠ D + 1) : Held D X (X.setCell p v) :=
  ⟨by simp [World.setCell], Below.heap_setCell _ _ _ _ (fun e => h e.symm), Below.heap_setCell _ _ _ _ (fun e => h' e.symm)⟩
theorem Held.alloc {D : Nat} (X : World) (o : Obj) (hD : D + 1 < X.heap.size) : Held D X (X.alloc o) :=
  ⟨by simp, Below.heap_alloc _ _ _ (by omega), Below.heap_alloc _ _ _ hD⟩

/-- How a round's body may be left. -/
def toldPost {α : Type} (D : Nat) (Kp : World → World → Prop) (I : List α → World → Prop) (Ix : Code → List α → World → Prop) (xs : List α) (W1 Wb : World) : Exit → Act → World → Prop
  | .normal, _, W => Held D Wb W ∧ I xs W ∧ ∀ o, Kp W1 (W.putObj (D + 1) o)
  | .ret, _, W => Held D Wb W ∧ Ix .ret xs W
  | .exit id, _, W => Held D Wb W ∧ Ix (.exit id) xs W
  | .goto t, _, W => Held D Wb W ∧ Ix (.goto t) xs W
  | .panic _, _, _ => False
  | .outgrown, _, _ => False

theorem range_told {α : Type} {g : Operand} {ps : Array Tmp} {assign body : Code} {Q : Exit → Act → World → Prop} {a : Act} {w : World} {D : Nat} (hD : w.heap.size = D)
    (hro : F.round = none) (h1 : 1 ≤ n) {gf : Nat} {lb : Array Value} (hg : a.eval g = .func (.func gf) #[] lb) (hFg : F.fn gf) (eg : ∀ args w, (callFunc gf args).run P w = .ok (.enter gf args) w)
    (encs : α → Array Value) (hps : ∀ x, (encs x).size = ps.size) (T : List α → World → α → World → Prop) (hT : ∀ pre W0 x W1, T pre W0 x W1 → Below W0.heap.size W0 W1) (Kp : World → World → Prop)
    (I : List α → World → Prop) (Ix : Code → List α → World → Prop) (hI : ∀ xs W o, I xs W → I xs (W.putObj (D + 1) o)) (hIx : ∀ c xs W o, Ix c xs W → Ix c xs (W.putObj (D + 1) o)) (Ej Ex : List α → Prop)
    (hseq : ∀ (J Jx : List α → World → Prop) (W : World), Below D w W → W.heap.size = D + 2 → J [] W →
      (∀ pre x W0 W1, T pre W0 x W1 → J pre W0 → YieldAt F (n - 1 - 1) P (D + 1) (encs x) W1 fun e W' => (e = .returned (.bool true) ∧ J (pre ++ [x]) W' ∧ Kp W1 W') ∨ (e = .returned (.bool false) ∧ Jx (pre ++ [x]) W')) →
      CallsIn F (n - 1) P gf (#[.func (.yield (D + 1)) #[] #[]] ++ lb) W fun e W' => (∃ v, e = .returned v) ∧ ((∃ xs, Ej xs ∧ J xs W') ∨ (∃ xs, Ex xs ∧ Jx xs W')))
    (h0 : ∀ W, Below D w W → W.heap.size = D + 2 → I [] W)
    (hround : ∀ pre x W0 W1, D + 2 ≤ W0.heap.size → I pre W0 → T pre W0 x W1 → assign.wpIn (F.inRound (D + 1)) (n - 1 - 1) P
      (Exit.then (fun a' Wa => Held D W1 Wa ∧ ∀ o, body.wpIn (F.inRound (D + 1)) (n - 1 - 1) P (toldPost D Kp I Ix (pre ++ [x]) W1 (Wa.putObj (D + 1) o)) a' (Wa.putObj (D + 1) o)) (fun _ _ _ => False))
      { tmps := (ps.zip (encs x)).foldl (fun t (p, v) => t.setIfInBounds p v) a.tmps, defers := [] } W1)
    (hdone : ∀ xs W, Ej xs → I xs W → W.heap[D]? = some (.deferred (some [])) → Q .normal { a with defers := { target := .collected D, args := #[] } :: a.defers } W)
    (hstop : ∀ c xs W, Ex xs → Ix c xs W → W.heap[D]? = some (.deferred (some [])) → c.wpIn F n P Q { a with defers := { target := .collected D, args := #[] } :: a.defers } W) :
    (Code.rangeFunc g ps assign body).wpIn F n P Q a w := by
  subst hD
  refine wpIn_rangeFunc fun fn hfn => ?_
  rw [hro]
  obtain ⟨rec, hrec⟩ : ∃ rec : LoopState → Option Code → Loop, rec = fun st pe => { state := st, pending := pe, fn, tmps := a.tmps, params := ps, assign, body, defers := w.heap.size } := ⟨_, rfl⟩
  obtain ⟨Wl, hWl⟩ : ∃ Wl, (w.alloc (.deferred (some []))).alloc (.loop (rec .ready none)) = Wl := ⟨_, rfl⟩
  have two : Wl.heap[w.heap.size + 1]? = some (.loop (rec .ready none)) := by
    rw [← hWl]; simpa using World.alloc_heap_new (w.alloc (.deferred (some []))) (.loop (rec .ready none))
  have one : Wl.heap[w.heap.size]? = some (.deferred (some [])) := by
    rw [← hWl, Below.heap_alloc _ _ _ (by simp), World.alloc_heap_new]
  have bel : Below w.heap.size w Wl := by
    rw [← hWl]; exact ((Below.refl _ w).alloc (Nat.le_refl _) _).alloc (by simp) _
  have siz : Wl.heap.size = w.heap.size + 2 := by rw [← hWl]; simp
  refine ⟨w.heap.size + 1, [{ target := .collected w.heap.size, args := #[] }], Wl, { target := .fn (.func gf) lb, args := #[.func (.yield (w.heap.size + 1)) #[] #[]] }, Wl, gf,
    #[.func (.yield (w.heap.size + 1)) #[] #[]] ++ lb, Wl, ?_, ?_, ?_, ?_, fun _ => h1, ?_⟩
  · rw [← hWl, hrec]; exact run_enterLoop_outer _ _ _ _ _
  · simp only [resolve, hg]
    simp [go_sem]
  · intro f' hf'; simp [Target.leads] at hf'; subst hf'; exact hFg
  · simp [invoke, go_sem, eg]
  have two_lt : ∀ {W : World} {o : Obj}, W.heap[w.heap.size + 1]? = some o → w.heap.size + 1 < W.heap.size := fun h => (Array.getElem?_eq_some_iff.1 h).1
  refine (hseq (fun xs W => I xs W ∧ W.heap[w.heap.size + 1]? = some (.loop (rec .ready none)) ∧ W.heap[w.heap.size]? = some (.deferred (some [])))
    (fun xs W => ∃ c, Ix c xs W ∧ W.heap[w.heap.size + 1]? = some (.loop (rec .done (some c))) ∧ W.heap[w.heap.size]? = some (.deferred (some []))) Wl bel siz ⟨h0 _ bel siz, two, one⟩ ?_).mono ?_
  · rintro pre x W0 W1 ht ⟨hi, hl, hk⟩
    have lt0 := two_lt hl
    have h01 : Held w.heap.size W0 W1 := Held.below (hT _ _ _ _ ht) lt0
    have hl1 := h01.two.trans hl
    have hk1 := h01.one.trans hk
    have hy := run_yield (P := P) (args := encs x) hl1 (by rw [hrec]; exact hps x)
    rw [hrec] at hy
    refine ⟨fn, _, assign, body, hy, roundIn_of_wpIn hfn (wpIn_mono (hround pre x W0 W1 lt0 hi ht) ?_)⟩
    intro e a' Wa hp
    cases e with
    | normal =>
      obtain ⟨h1a, hbody⟩ := hp
      have hla := h1a.two.trans hl1
      have hka := h1a.one.trans hk1
      refine ⟨_, run_beginRound hla (by rw [hrec]), ?_⟩
      have lta := two_lt hla
      have hl2 : (Wa.putObj (w.heap.size + 1) (.loop { rec .ready none with state := .busy })).heap[w.heap.size + 1]? = some (.loop { rec .ready none with state := .busy }) := World.putObj_heap_same lta
      have hk2 : (Wa.putObj (w.heap.size + 1) (.loop { rec .ready none with state := .busy })).heap[w.heap.size]? = some (.deferred (some [])) := (World.putObj_heap_other (by omega)).trans hka
      refine wpIn_mono (hbody _) ?_
      have fin : ∀ (jump : Option Code) (W3 : World), Held w.heap.size (Wa.putObj (w.heap.size + 1) (.loop { rec .ready none with state := .busy })) W3 →
          (Instr.endRound (w.heap.size + 1) jump).run P W3 = .ok (.bool jump.isNone) (W3.putObj (w.heap.size + 1) (.loop (rec (if jump.isNone then .ready else .done) jump))) ∧
          (W3.putObj (w.heap.size + 1) (.loop (rec (if jump.isNone then .ready else .done) jump))).heap[w.heap.size + 1]? = some (.loop (rec (if jump.isNone then .ready else .done) jump)) ∧
          (W3.putObj (w.heap.size + 1) (.loop (rec (if jump.isNone then .ready else .done) jump))).heap[w.heap.size]? = some (.deferred (some [])) := fun jump W3 h3 => by
        have hl3 := h3.two.trans hl2
        have hr := run_endRound (P := P) jump hl3
        rw [hrec] at hr ⊢
        exact ⟨hr, World.putObj_heap_same (two_lt hl3), (World.putObj_heap_other (by omega)).trans (h3.one.trans hk2)⟩
      rintro e a3 W3 hp3
      cases e with
      | normal =>
        obtain ⟨h3, hi3, hkp⟩ := hp3
        obtain ⟨hr, hl4, hk4⟩ := fin none W3 h3
        exact ⟨_, _, hr, .inl ⟨rfl, ⟨hI _ _ _ hi3, hl4, hk4⟩, hkp _⟩⟩
      | ret =>
        obtain ⟨hr, hl4, hk4⟩ := fin (some .ret) W3 hp3.1
        exact ⟨_, _, hr, .inr ⟨rfl, .ret, hIx _ _ _ _ hp3.2, hl4, hk4⟩⟩
      | exit id =>
        obtain ⟨hr, hl4, hk4⟩ := fin (some (.exit id)) W3 hp3.1
        exact ⟨_, _, hr, .inr ⟨rfl, .exit id, hIx _ _ _ _ hp3.2, hl4, hk4⟩⟩
      | goto t =>
        obtain ⟨hr, hl4, hk4⟩ := fin (some (.goto t)) W3 hp3.1
        exact ⟨_, _, hr, .inr ⟨rfl, .goto t, hIx _ _ _ _ hp3.2, hl4, hk4⟩⟩
      | panic ch => exact hp3.elim
      | outgrown => exact hp3.elim
    | ret => exact hp.elim
    | exit id => exact hp.elim
    | goto t => exact hp.elim
    | panic ch => exact hp.elim
    | outgrown => exact hp.elim
  · rintro e W2 ⟨⟨v, rfl⟩, ⟨xs, hE, hi, hl, hk⟩ | ⟨xs, hE, c, hi, hl, hk⟩⟩
    · have hr := run_endLoop (P := P) hl (by rw [hrec]; simp)
      rw [hrec] at hr
      exact ⟨none, _, hr, hdone xs _ hE (hI _ _ _ hi) ((World.putObj_heap_other (by omega)).trans hk)⟩
    · have hr := run_endLoop (P := P) hl (by rw [hrec]; simp)
      rw [hrec] at hr
      exact ⟨some c, _, hr, hstop c xs _ hE (hIx _ _ _ _ hi) ((World.putObj_heap_other (by omega)).trans hk)⟩
end Rounds
end Go.Proofs.Ytgiojcjnljmaiaa
