/-
  Moves: rows of partitions with those who keep them by old and by new members.
-/
import Derived.Test.YtfnjengcemokpaaRingAwake
namespace Go.Proofs.Ytfnjengcemokpaa
namespace Ring
open Go.RowKit
attribute [local go_sem ↓] Go.wp_at_zero Go.wp_at_succ

set_option maxRecDepth 100000 in
set_option maxHeartbeats 1000000 in
theorem equal_any (A A' : Option Addr) (c c' n n' : Nat) (l m : List Int) (hn : l.length = n) (hn' : m.length = n') (w : World) (hr : Ns .i64 w w.heap.size A l) (hr' : Ns .i64 w w.heap.size A' m) (hbig : n ≤ 140737488355328) (hbig' : n' ≤ 140737488355328) :
    Calls Try.prog 29 #[.slice A n c, .slice A' n' c'] w fun e w' => e = .returned (.bool (decide (l = m))) ∧ Below w.heap.size w w' := by
  obtain ⟨R, hR⟩ : ∃ R, decide (l = m) = R := ⟨_, rfl⟩
  rw [hR]
  by_cases hlen : n = n'
  · subst hlen
    have HV := Lib.hid (And.intro hr (And.intro hr' (And.intro hn (And.intro hn' hR))))
    clear hr hr' hn hn' hR
    go_enter Try.func29, Try.ntmps29
    go_wp2_with fail
    go_loopw [13] (fun q wr => ∃ k : Nat, q = .int .i64 k ∧ k ≤ n ∧ Below w.heap.size w wr ∧ Hid (l.take k = m.take k)) (fun q _ => n - (intOf q).toNat)
    case atStart => exact ⟨0, rfl, by omega, Below.refl _ _, Lib.hid rfl⟩
    case round =>
      obtain ⟨k, rfl, hk, hb, hst⟩ := hrel
      by_cases hlt : k < n
      · obtain ⟨b, off, rfl, _, hc⟩ := (HV.out.1.below hb) (by have := HV.out.2.2.1; omega)
        obtain ⟨b', off', rfl, _, hc'⟩ := (HV.out.2.1.below hb) (by have := HV.out.2.2.2.1; omega)
        have c0 := hc k (by have := HV.out.2.2.1; omega)
        have c0' := hc' k (by have := HV.out.2.2.2.1; omega)
        have hy := takeI_eq (l := l) (m := m) (by have := HV.out.2.2.1; omega) (by have := HV.out.2.2.2.1; omega) hst.out
        have hz := takeI_ne (l := l) (m := m) (k := k)
        obtain ⟨x, hx⟩ : ∃ x, l.getD k 0 = x := ⟨_, rfl⟩
        obtain ⟨y, hyy⟩ : ∃ y, m.getD k 0 = y := ⟨_, rfl⟩
        rw [hx] at c0 hy hz
        rw [hyy] at c0' hy hz
        have HY := Lib.hid hy
        have HZ := Lib.hid (fun h => show R = false by rw [← HV.out.2.2.2.2]; exact decide_eq_false (hz h))
        have d1 : (0 : Int) ≤ (k : Int) := by omega
        have d2 : (k : Int) < (n : Int) := by omega
        have HB := Lib.hid (fun j => hb.trans (below_drewN w.heap.size wr j))
        clear hy hz hx hyy hc hc' hst hb
        by_cases he : x = y
        · have HF := Lib.hid (HY.out he)
          subst he
          have g1 : (x != x) = false := by simp
          clear HY HZ
          go_wp2_with fail
          go_quiet (fail)
          go_wp2_with fail
          exact ⟨⟨k + 1, rfl, by omega, HB.out _, HF⟩, by simp only [intOf]; omega⟩
        · have HF := Lib.hid (HZ.out he)
          have g1 : (x != y) = true := by simpa using he
          have g2 : (x == y) = false := by simpa using he
          clear HY HZ
          go_wp2_with fail
          go_quiet (fail)
          go_wp2_with fail
          go_ret
          exact ⟨by rw [HF.out]; rfl, HB.out _⟩
      · have hkn : k = n := by omega
        subst hkn
        have HF := Lib.hid (show R = true by
          rw [← HV.out.2.2.2.2]
          refine decide_eq_true ?_
          have := hst.out
          rwa [List.take_of_length_le (by have := HV.out.2.2.1; omega), List.take_of_length_le (by have := HV.out.2.2.2.1; omega)] at this)
        clear hst
        go_wp2_with fail
        go_ret
        exact ⟨by rw [HF.out]; rfl, hb⟩
  · have HF := Lib.hid (show R = false by rw [← hR]; exact decide_eq_false fun h => hlen (by rw [← hn, ← hn', h]))
    have g1 : ((n : Int) == (n' : Int)) = false := by simp; omega
    have g2 : ((n : Int) != (n' : Int)) = true := by simp; omega
    clear hr hr' hn hn' hR
    go_enter Try.func29, Try.ntmps29
    go_wp2_with fail
    go_ret
    exact ⟨by rw [HF.out]; rfl, Below.refl _ _⟩


/-! ### A row of moves -/
structure Mv where
  p : Nat
  A : Option Addr
  n : Nat
  c : Nat
  A' : Option Addr
  n' : Nat
  c' : Nat
def mvc (e : Mv) : List Value := [.int .i64 e.p, .slice e.A e.n e.c, .slice e.A' e.n' e.c']
def mvs (es : List Mv) : List Value := es.flatMap mvc
theorem mvs_append (es fs : List Mv) : mvs (es ++ fs) = mvs es ++ mvs fs := by simp [mvs]
theorem mvs_one (e : Mv) : mvs [e] = mvc e := by simp [mvs]
theorem mvs_at : ∀ {es : List Mv} {j : Nat} (h : j < es.length), (mvs es)[j * 3]? = some (.int .i64 es[j].p) ∧ (mvs es)[j * 3 + 1]? = some (.slice es[j].A es[j].n es[j].c) ∧ (mvs es)[j * 3 + 2]? = some (.slice es[j].A' es[j].n' es[j].c')
  | [], _, h => absurd h (by simp)
  | e :: es, 0, _ => by simp [mvs, mvc]
  | e :: es, j + 1, h => by
    have ih := mvs_at (es := es) (j := j) (by simp at h; omega)
    have e1 : mvs (e :: es) = mvc e ++ mvs es := by simp [mvs]
    have h3 : (mvc e).length = 3 := rfl
    rw [e1]
    simp only [List.getElem_cons_succ]
    refine ⟨?_, ?_, ?_⟩
    · rw [List.getElem?_append_right (by omega), h3, show (j + 1) * 3 - 3 = j * 3 by omega]; exact ih.1
    · rw [List.getElem?_append_right (by omega), h3, show (j + 1) * 3 + 1 - 3 = j * 3 + 1 by omega]; exact ih.2.1
    · rw [List.getElem?_append_right (by omega), h3, show (j + 1) * 3 + 2 - 3 = j * 3 + 2 by omega]; exact ih.2.2

/-- Numbers that stand in memory outside a row's block. -/
def NsF (V : World) (r : Option Nat) (A : Option Addr) (zs : List Int) : Prop :=
  0 < zs.length → ∃ b off, A = some ⟨b, off, none⟩ ∧ b < V.heap.size ∧ some b ≠ r ∧ ∀ j < zs.length, V.cell? ⟨b, off + j, none⟩ = some (.int .i64 (zs.getD j 0))
theorem NsF.below {V V' : World} {r : Option Nat} {A : Option Addr} {zs : List Int} (h : NsF V r A zs) (hb : Below V.heap.size V V') : NsF V' r A zs := fun hp => by
  obtain ⟨b, off, e, h1, h2, h3⟩ := h hp
  exact ⟨b, off, e, Nat.lt_of_lt_of_le h1 hb.size, h2, fun j hj => (hb.cell h1).trans (h3 j hj)⟩
theorem NsF.grown {V V' : World} {r r' : Option Nat} {A : Option Addr} {zs : List Int} (h : NsF V r A zs) (hg : V.grownBy V' r) (hat : r' = r ∨ ∃ g, r' = some g ∧ V.heap.size ≤ g) : NsF V' r' A zs := fun hp => by
  obtain ⟨b, off, e, h1, h2, h3⟩ := h hp
  refine ⟨b, off, e, Nat.lt_of_lt_of_le h1 hg.size, ?_, fun j hj => hg.cell (h3 j hj) h2⟩
  rcases hat with rfl | ⟨g, rfl, hg2⟩
  · exact h2
  · intro he
    injection he with he
    omega
theorem NsF.of {V : World} {r : Option Nat} {A : Option Addr} {zs : List Int} {low : Nat} (h : Ns .i64 V V.heap.size A zs) (lo : ∀ b off, A = some ⟨b, off, none⟩ → low ≤ b) (hr : ∀ g, r = some g → g < low) : NsF V r A zs := fun hp => by
  obtain ⟨b, off, e, h1, h2⟩ := h hp
  refine ⟨b, off, e, h1, fun he => ?_, h2⟩
  have h3 := lo b off e
  have h4 := hr b he.symm
  omega
theorem NsF.ns {V : World} {r : Option Nat} {A : Option Addr} {zs : List Int} (h : NsF V r A zs) : Ns .i64 V V.heap.size A zs := fun hp => by
  obtain ⟨b, off, e, h1, _, h2⟩ := h hp
  exact ⟨b, off, e, h1, h2⟩
/-- What stands in an entry. -/
def MvOK (V : World) (r : Option Nat) (ms ms' : List Int) (x : Int) (e : Mv) : Prop :=
  e.n = (listF ms e.p x).length ∧ e.n' = (listF ms' e.p x).length ∧ NsF V r e.A (listF ms e.p x) ∧ NsF V r e.A' (listF ms' e.p x)
def OwnM (base : Nat) (V : World) (v : Value) (m : Nat) (ms ms' : List Int) (x : Int) (es : List Mv) : Prop :=
  es.length = m ∧ V.ownsRow base 33 3 v m (mvs es) ∧ ∀ e ∈ es, MvOK V v.ownBlock ms ms' x e
theorem OwnM.below {base : Nat} {V V' : World} {v : Value} {m : Nat} {ms ms' : List Int} {x : Int} {es : List Mv} (h : OwnM base V v m ms ms' x es) (hb : Below V.heap.size V V') : OwnM base V' v m ms ms' x es :=
  ⟨h.1, own_below h.2.1 hb (Nat.le_refl _), fun e he => ⟨(h.2.2 e he).1, (h.2.2 e he).2.1, (h.2.2 e he).2.2.1.below hb, (h.2.2 e he).2.2.2.below hb⟩⟩
/-- The partitions below k that move. -/
noncomputable def movs (ms ms' : List Int) (x : Int) : Nat → List Nat
  | 0 => []
  | k + 1 => if listF ms (k : Int) x = listF ms' (k : Int) x then movs ms ms' x k else movs ms ms' x k ++ [k]
theorem list_low {ms L : List Int} {part n : Int} {k : Nat} (hL : listF ms part n = L) (hk : L.length = k) (w w' : World) (e : Ending) (h : ListPost ms part n w e w') :
    ∃ A c, e = .returned (.slice A k c) ∧ k ≤ c ∧ k ≤ 8 ∧ Ns .i64 w' w'.heap.size A L ∧ Below w.heap.size w w' ∧ ∀ b off, A = some ⟨b, off, none⟩ → w.heap.size ≤ b := by
  have h0 := h
  obtain ⟨A, c, h1, h2, h3, h4, h5⟩ := list_got hL hk w w' e h
  refine ⟨A, c, h1, h2, h3, h4, h5, fun b off hA => ?_⟩
  obtain ⟨A', c', cx, g1, g2, g3, g4, g5⟩ := h0
  rw [h1] at g1
  injection g1 with g1
  injection g1 with g1 _ _
  subst g1
  subst hA
  exact (g4.lt b rfl).1

section
variable {P : Program} (w : World)
/-- append of one move that was just laid in a block of its own, onto a row of the call's own. -/
theorem wpList_append_mv {ops : Array Oper} {rest : List Oper} {o : Oper} {a : Act} {Q : Exit → Act → World → Prop} (hgd : o.guard = none) (s x : Operand) (t : TypeId)
    (ho : o.op = .call { callee := .builtin .append, args := #[s, x], argTypes := #[t, t] })
    (base : Nat) (e : TypeId) (i : TypeInfo) (z : Value) (bytes : Nat) (ht : P.underlying t = some (.slice e)) (hi : P.info? e = some i) (hz : i.zero = some z)
    (hsize : i.size = 3) (hby : i.bytes = bytes) (hzs : z.cells.size = 3)
    (v : Value) (n : Nat) (l : List Mv) (hs : a.eval s = v) (hown : w.ownsRow base e 3 v n (mvs l)) (y : Mv) (c : Nat)
    (hx : a.eval x = .slice (some ⟨w.heap.size, 0, none⟩) 1 c)
    (hbytes : (n + 1) * bytes ≤ 140737488355328) (hn : n + 1 ≤ 140737488355328) (hbase : base ≤ w.heap.size)
    (h : ∀ v' w', w'.ownsRow base e 3 v' (n + 1) (mvs (l ++ [y])) → w.grownBy w' v.ownBlock → (v'.ownBlock = v.ownBlock ∨ ∃ g, v'.ownBlock = some g ∧ w.heap.size ≤ g) → wpList P ops Q rest (a.put o.dst v') w') :
    wpList P ops Q (o :: rest) a (w.alloc (.cells #[.int .i64 y.p, .slice y.A y.n y.c, .slice y.A' y.n' y.c'] e)) := by
  refine wpList_append_own_at _ hgd s x t ho base e i z 3 bytes ht hi hz hsize hby hzs (by omega) v n (mvs l) hs (hown.alloc _) ⟨w.heap.size, 0, none⟩ 1 c (mvc y) hx rfl ?_ ?_ (by unfold maxLen; omega) hbytes (by simp; omega) ?_
  · intro j u' hj
    match j, hj with
    | 0, hj => simp [mvc] at hj; subst hj; simp [Addr.add]
    | 1, hj => simp [mvc] at hj; subst hj; simp [Addr.add]
    | 2, hj => simp [mvc] at hj; subst hj; simp [Addr.add]
  · intro u' hu
    simp [mvc] at hu
    rcases hu with rfl | rfl | rfl <;> rfl
  · intro v' w' hown' hg _ hat
    refine h v' w' ?_ ?_ ?_
    · rw [mvs_append, mvs_one]; exact hown'
    · exact ⟨hg.os, hg.tape, hg.output, Nat.le_trans (by simp) hg.size, fun k hk hne => (hg.block k (by simp; omega) hne).trans (Below.heap_alloc w _ k hk)⟩
    · rcases hat with h1 | h1
      · exact .inl h1
      · exact .inr ⟨_, h1, by simp⟩
end
theorem OwnM.add {base : Nat} {V V' : World} {v v' : Value} {m : Nat} {ms ms' : List Int} {x : Int} {es : List Mv} {e : Mv} (h : OwnM base V v m ms ms' x es) (he : MvOK V v.ownBlock ms ms' x e) (o : V'.ownsRow base 33 3 v' (m + 1) (mvs (es ++ [e]))) (hg : V.grownBy V' v.ownBlock) (hat : v'.ownBlock = v.ownBlock ∨ ∃ g, v'.ownBlock = some g ∧ V.heap.size ≤ g) : OwnM base V' v' (m + 1) ms ms' x (es ++ [e]) :=
  ⟨by rw [List.length_append, h.1]; rfl, o, fun f hf => by
    have hf2 : MvOK V v.ownBlock ms ms' x f := by
      rcases List.mem_append.1 hf with hf | hf
      · exact h.2.2 f hf
      · rw [List.mem_singleton.1 hf]; exact he
    exact ⟨hf2.1, hf2.2.1, hf2.2.2.1.grown hg hat, hf2.2.2.2.grown hg hat⟩⟩
end Ring
end Go.Proofs.Ytfnjengcemokpaa
