/-
  frame.All tells what allF tells.
-/
import Derived.Test.YtgiojcjnljmaiaaTold
import Derived.Test.YtgiojcjnljmaiaaAppendIn
import Derived.Test.YtgiojcjnljmaiaaWent
import Derived.Test.YtgiojcjnljmaiaaAllRef
namespace Go.Proofs.Ytgiojcjnljmaiaa
namespace Frm
open Go.RowKit Go.Shelf Num Rounds
attribute [local go_sem] Oper.semAt_some

/-- What holds between two rounds: the boxes at m, m + 1, m + 2 hold the list, the end and OK. -/
def Mid (m : Nat) (w : World) (pre : List Tell) (W : World) : Prop :=
  Below m w W ∧ m + 6 ≤ W.heap.size ∧ (∃ v, Boxed W m 23 v ∧ HighLists (m + 6) 22 W v (pre.map Tell.ys)) ∧ Boxed W (m + 1) 3 (.int .i64 (((pre.getLast?).map Tell.q).getD 0 : Nat)) ∧ Boxed W (m + 2) 24 (.int .i64 0) ∧ (∀ x ∈ pre, x.e = 0)

/-- What holds where a round has broken the loop off. -/
def Off (m : Nat) (w : World) (c : Code) (xs : List Tell) (W : World) : Prop :=
  ∃ pre x, xs = pre ++ [x] ∧ c = .exit 0 ∧ x.e ≠ 0 ∧ Below m w W ∧ m + 6 ≤ W.heap.size ∧ (∃ v, Boxed W m 23 v ∧ HighLists (m + 6) 22 W v (pre.map Tell.ys)) ∧ Boxed W (m + 1) 3 (.int .i64 (((pre.getLast?).map Tell.q).getD 0 : Nat)) ∧ Boxed W (m + 2) 24 (.int .i64 x.e)

theorem boxed_put {W : World} {B l : Nat} {t : TypeId} {v : Value} {o : Obj} (h : Boxed W B t v) (hl : B ≠ l) : Boxed (W.putObj l o) B t v := (World.putObj_heap_other hl).trans h
theorem below_put {W w : World} {B l : Nat} {o : Obj} (h : Below B w W) (hl : B ≤ l) : Below B w (W.putObj l o) := ⟨h.os, h.tape, h.output, by simpa using h.size, fun k hk => (World.putObj_heap_other (by omega)).trans (h.block k hk)⟩

theorem mid_put {m : Nat} {w : World} (pre : List Tell) (W : World) (o : Obj) (h : Mid m w pre W) : Mid m w pre (W.putObj (m + 4 + 1) o) := by
  obtain ⟨h1, h2, ⟨v, h3, h4⟩, h5, h6, h7⟩ := h
  exact ⟨below_put h1 (by omega), by simpa using h2, ⟨v, boxed_put h3 (by omega), h4.keep (by simp) (fun k hk _ => World.putObj_heap_other (by omega))⟩, boxed_put h5 (by omega), boxed_put h6 (by omega), h7⟩

theorem off_put {m : Nat} {w : World} (c : Code) (xs : List Tell) (W : World) (o : Obj) (h : Off m w c xs W) : Off m w c xs (W.putObj (m + 4 + 1) o) := by
  obtain ⟨pre, x, e1, e2, e3, h1, h2, ⟨v, h3, h4⟩, h5, h6⟩ := h
  exact ⟨pre, x, e1, e2, e3, below_put h1 (by omega), by simpa using h2, ⟨v, boxed_put h3 (by omega), h4.keep (by simp) (fun k hk _ => World.putObj_heap_other (by omega))⟩, boxed_put h5 (by omega), boxed_put h6 (by omega)⟩

set_option maxRecDepth 100000 in
theorem all_any (A : Option Addr) (c : Nat) (zs : List Int) (w : World) (hr : Ns .u8 w w.heap.size A zs) (hby : ∀ z ∈ zs, 0 ≤ z ∧ z ≤ 255) (hlc : zs.length ≤ c) (hbig : zs.length ≤ 1099511627776) :
    Calls Try.prog 5 #[.slice A zs.length c] w (Alls 22 (allF zs zs.length 0) w) := by
  obtain ⟨i0, hi0, hz0, hz1, hz2⟩ := info_parts info_lists
  refine (callsIn_wide (n := 3)).1 ?_
  refine callsIn_of_wp_marks Try.func5 rfl trivial ?_ rfl
  simp only [Try.ntmps5, List.size_toArray, List.length_cons, List.length_nil, Nat.reduceAdd, Nat.reduceSub, Array.replicate_succ, Array.replicate_zero, List.push_toArray, List.append_toArray, List.nil_append, List.cons_append]
  have H1 := Lib.hid (fun W => frames_made A zs.length c W)
  obtain ⟨m, hm⟩ : ∃ m, w.heap.size = m := ⟨_, rfl⟩
  obtain ⟨R, hR⟩ : ∃ R, allF zs zs.length 0 = R := ⟨_, rfl⟩
  have HR := Lib.hid hR
  have H0 := Lib.hid (And.intro hr hby)
  rw [hR]
  clear hr hby hR
  gi_wp2_with (refine ⟨trivial, ?_⟩; gi_at_call 9; refine (callsIn_wide.2 (H1.out _)).mono ?_; rintro e1 w1 ⟨rfl, rfl⟩)
  obtain ⟨W4, hW4⟩ : ∃ W4, ((((w.alloc (Obj.cells #[Value.slice none 0 0] 23)).alloc (Obj.cells #[Value.int IntKind.i64 0] 3)).alloc (Obj.cells #[Value.int IntKind.i64 0] 24)).alloc (Obj.cells #[Value.slice A zs.length c] 22)) = W4 := ⟨_, rfl⟩
  have s4 : W4.heap.size = m + 4 := by rw [← hW4]; simp [hm]
  have b4 : Below m w W4 := by
    rw [← hW4]; exact ((((Below.refl _ w).alloc (by omega) _).alloc (by simp; omega) _).alloc (by simp; omega) _).alloc (by simp; omega) _
  have x0 : Boxed W4 m 23 (.slice none 0 0) := by
    rw [← hW4]; unfold Boxed
    rw [Below.heap_alloc _ _ _ (by simp; omega), Below.heap_alloc _ _ _ (by simp; omega), Below.heap_alloc _ _ _ (by simp; omega), ← hm, World.alloc_heap_new]
  have x1 : Boxed W4 (m + 1) 3 (.int .i64 0) := by
    rw [← hW4]; unfold Boxed
    rw [Below.heap_alloc _ _ _ (by simp; omega), Below.heap_alloc _ _ _ (by simp; omega), ← hm, ← World.size_alloc w (Obj.cells #[Value.slice none 0 0] 23), World.alloc_heap_new]
  have x2 : Boxed W4 (m + 2) 24 (.int .i64 0) := by
    rw [← hW4]; unfold Boxed
    rw [Below.heap_alloc _ _ _ (by simp; omega)]
    have e : m + 2 = ((w.alloc (Obj.cells #[Value.slice none 0 0] 23)).alloc (Obj.cells #[Value.int IntKind.i64 0] 3)).heap.size := by simp; omega
    rw [e, World.alloc_heap_new]
  have x3 : W4.cell? ⟨m + 3, 0, none⟩ = some (.slice A zs.length c) := by
    rw [← hW4]
    have e : m + 3 = (((w.alloc (Obj.cells #[Value.slice none 0 0] 23)).alloc (Obj.cells #[Value.int IntKind.i64 0] 3)).alloc (Obj.cells #[Value.int IntKind.i64 0] 24)).heap.size := by simp; omega
    unfold World.cell?
    simp only
    rw [e, World.alloc_heap_new]
    rfl
  rw [hW4]
  clear hW4
  have HX := Lib.hid (And.intro x0 (And.intro x1 (And.intro x2 x3)))
  have HM := Lib.hid hm
  clear x0 x1 x2 x3 hm H1
  refine range_told (F := Fence.wide) (n := 3) (α := Tell) (D := m + 4) s4 rfl (by omega) (gf := 13) (lb := #[Value.pointer (some { block := m + 1 + 1 + 1, off := 0 })]) rfl trivial (enters_of Try.func13 (by kernel_rfl) rfl)
    (fun x => #[x.val]) (fun x => rfl)
    (fun pre W0 x W1 => pre.length ≤ zs.length ∧ Below W0.heap.size W0 W1 ∧ W1.ownsRow W0.heap.size 5 1 (.slice x.A x.ys.length x.c) x.ys.length (nums .u8 x.ys))
    (fun pre W0 x W1 h => h.2.1)
    (fun W1 W' => Below m W1 W' ∧ W'.cell? ⟨m + 3, 0, none⟩ = W1.cell? ⟨m + 3, 0, none⟩)
    (Mid m w) (Off m w) mid_put off_put
    (fun xs => Went zs xs zs.length ∨ ∃ pre x, xs = pre ++ [x] ∧ x.e ≠ 0)
    (fun xs => ∃ pre x k, xs = pre ++ [x] ∧ Went zs pre k ∧ k < zs.length ∧ nextF zs k = (x.ys, x.q, x.e))
    ?seq ?start ?round ?done ?stop
  case seq =>
    intro J Jx W hb hs h0 hY
    have hmm : m ≤ w.heap.size := Nat.le_of_eq HM.out.symm
    have hr4 : Ns .u8 W m A zs := by
      have h1 := H0.out.1
      rw [HM.out] at h1
      exact (h1.below b4).below (hb.mono (by omega))
    refine (frames_in 2 (by omega) (m + 4 + 1) (m + 3) m c A zs H0.out.2 hlc (by omega) J Jx (fun pre x W0 W1 h1 h2 h3 h4 => (hY pre x W0 W1 ⟨h1, h3, h4⟩ h2).mono fun e W' h => h) W (by omega) (by omega)
      ((hb.cell (p := ⟨m + 3, 0, none⟩) (by simp only; omega)).trans HX.out.2.2.2) hr4 h0).mono ?_
    rintro e W' ⟨hv, ⟨xs, h1, h2⟩ | ⟨pre, x, k, h1, h2, h3, ⟨h4, h5⟩ | h4⟩⟩
    · exact ⟨hv, .inl ⟨xs, .inl h1, h2⟩⟩
    · exact ⟨hv, .inl ⟨_, .inr ⟨pre, x, rfl, h5⟩, h4⟩⟩
    · exact ⟨hv, .inr ⟨_, ⟨pre, x, k, rfl, h1, h2, h3⟩, h4⟩⟩
  case start =>
    intro W hb hs
    refine ⟨b4.trans (hb.mono (by omega)), by omega, ⟨_, (hb.block m (by omega)).trans HX.out.1, HighLists.start _ _ _⟩, (hb.block (m + 1) (by omega)).trans HX.out.2.1, (hb.block (m + 2) (by omega)).trans HX.out.2.2.1, by simp⟩
  case round =>
    rintro pre x W0 W1 hs0 ⟨i1, i2, ⟨v, i3, i4⟩, i5, i6, i7⟩ ⟨t1, t2, t3⟩
    obtain ⟨A1, c1, Y, q, e⟩ := x
    simp only [Tell.val] at t3 ⊢
    have s1 := t2.size
    have f1 : ∀ k, k < W0.heap.size → W1.heap[k]? = W0.heap[k]? := fun k hk => t2.block k hk
    have g1 : Below m w W1 := i1.trans (t2.mono (by omega))
    have g3 : Boxed W1 m 23 v := (f1 m (by omega)).trans i3
    have g4 : HighLists (m + 6) 22 W1 v (pre.map Tell.ys) := i4.keep s1 (fun k _ hk => f1 k hk)
    have g5 : Boxed W1 (m + 1) 3 (.int .i64 (((pre.getLast?).map Tell.q).getD 0 : Nat)) := (f1 _ (by omega)).trans i5
    have g6 : Boxed W1 (m + 2) 24 (.int .i64 0) := (f1 _ (by omega)).trans i6
    have gY := own_ns t3
    have gl := (own_len t3).2
    have gB : 0 < Y.length → ∀ a, A1 = some a → v.ownBlock ≠ some a.block ∧ m + 6 ≤ a.block := by
      rintro _ a rfl
      have h1 := (t3.lt a.block rfl).1
      refine ⟨fun hv => ?_, by omega⟩
      obtain ⟨us, ho, _⟩ := i4
      have h2 := (ho.lt _ hv).2
      omega
    have hvK : ∀ k, v.ownBlock = some k → k < W1.heap.size ∧ m + 6 ≤ k := fun k hk => by
      obtain ⟨us, ho, _⟩ := i4
      have h2 := ho.lt _ hk
      omega
    have HI := Lib.hid i7
    clear t2 t3 i1 i3 i4 i5 i6 i7 f1
    gi_wp2
    refine ⟨Held.alloc _ _ (by omega), fun o => ?_⟩
    obtain ⟨Wb, hWb⟩ : ∃ Wb, (W1.alloc (Obj.cells #[Value.slice A1 Y.length c1, Value.int IntKind.i64 ↑q, Value.int IntKind.i64 e] 38)).putObj (m + 4 + 1) o = Wb := ⟨_, rfl⟩
    have sb : Wb.heap.size = W1.heap.size + 1 := by rw [← hWb]; simp
    have fb : ∀ k, k < W1.heap.size → k ≠ m + 4 + 1 → Wb.heap[k]? = W1.heap[k]? := fun k hk hne => by
      rw [← hWb, World.putObj_heap_other hne, Below.heap_alloc _ _ _ hk]
    have nb : Wb.heap[W1.heap.size]? = some (Obj.cells #[Value.slice A1 Y.length c1, Value.int IntKind.i64 ↑q, Value.int IntKind.i64 e] 38) := by
      rw [← hWb, World.putObj_heap_other (by omega), World.alloc_heap_new]
    have p1 : Below m w Wb := by rw [← hWb]; exact below_put (g1.alloc (by omega) _) (by omega)
    have pk : Below m W1 Wb := by rw [← hWb]; exact below_put ((Below.refl _ _).alloc (by omega) _) (by omega)
    rw [hWb]
    clear hWb
    have p3 : Boxed Wb m 23 v := (fb _ (by omega) (by omega)).trans g3
    have p4 : HighLists (m + 6) 22 Wb v (pre.map Tell.ys) := g4.keep (by omega) (fun k hk hk2 => fb k hk2 (by omega))
    have p5 : Boxed Wb (m + 1) 3 (.int .i64 (((pre.getLast?).map Tell.q).getD 0 : Nat)) := (fb _ (by omega) (by omega)).trans g5
    have p6 : Boxed Wb (m + 2) 24 (.int .i64 0) := (fb _ (by omega) (by omega)).trans g6
    have p7 : Wb.cell? ⟨m + 3, 0, none⟩ = W1.cell? ⟨m + 3, 0, none⟩ := World.cell?_of_block (fb _ (by simp only; omega) (by simp only; omega))
    have pY : Ns .u8 Wb Wb.heap.size A1 Y := fun hp => by
      obtain ⟨b, off, rfl, hb, hc⟩ := gY hp
      have hB := (gB hp _ rfl).2
      simp only at hB
      exact ⟨b, off, rfl, by omega, fun j hj => by rw [← hc j hj]; exact World.cell?_of_block (fb _ hb (by simp only; omega))⟩
    have n0 : Wb.cell? ⟨W1.heap.size, 0, none⟩ = some (Value.slice A1 Y.length c1) := by simp [World.cell?, nb]
    have n1 : Wb.cell? ⟨W1.heap.size, 1, none⟩ = some (Value.int IntKind.i64 ↑q) := by simp [World.cell?, nb]
    have n2 : Wb.cell? ⟨W1.heap.size, 2, none⟩ = some (Value.int IntKind.i64 e) := by simp [World.cell?, nb]
    obtain ⟨K, hK⟩ : ∃ K, W1.heap.size = K := ⟨_, rfl⟩
    rw [hK] at n0 n1 n2 sb s1 hvK ⊢
    have hK6 : m + 6 ≤ K := by omega
    clear fb nb g1 g3 g4 g5 g6 gY hK s1
    have c6 := p6.cell
    have z6 := p6.frozen
    by_cases he : e = 0
    · subst he
      obtain ⟨us, ho, hj⟩ := p4
      have HO := Lib.hid (And.intro ho (And.intro hj (And.intro pY gB)))
      have c3 := p3.cell
      have P := Lib.hid (And.intro p1 (And.intro p3 (And.intro p5 (And.intro p6 (And.intro p7 pk)))))
      have SB := Lib.hid sb
      have ln : (pre.map Tell.ys).length = pre.length := by simp
      clear p1 p3 p5 p6 p7 pY gB hj ho sb pk
      have N1 := Lib.hid n1
      have HV := Lib.hid hvK
      clear hvK
      gi_wp2_with (gi_at_builtin; refine wpListIn_append_one _ rfl (.tmp 17) (.tmp 20) 23 rfl (m + 6) 22 i0 (.slice none 0 0) 24 Try.underlying23 hi0 hz0 hz1 hz2 rfl v pre.length us rfl (by rw [← ln]; exact HO.out.1) (.slice A1 Y.length c1) 1 rfl rfl (by omega) (by omega) (by have := SB.out; omega) ?_; intro v2 w2 o2 g2 at2; obtain ⟨A2, c2, rfl⟩ := own_form o2
                   have q3 : Boxed w2 m 23 v := P.out.2.1.kept g2 (fun e => by have := HV.out _ e.symm; omega)
                   have q5 := P.out.2.2.1.kept g2 (fun e => by have := HV.out _ e.symm; omega)
                   have q6 := P.out.2.2.2.1.kept g2 (fun e => by have := HV.out _ e.symm; omega)
                   have k1 : w2.cell? ⟨K, 1, none⟩ = some (.int .i64 q) := (World.cell?_of_block (g2.block K (by have := SB.out; omega) (fun e => by have := HV.out _ e.symm; omega))).trans N1.out
                   have c3' := q3.cell
                   have z3' := q3.frozen
                   have c5' := q5.cell
                   have z5' := q5.frozen
                   have Q3 := Lib.hid (And.intro q3 (And.intro q5 (And.intro q6 (And.intro o2 (And.intro g2 at2)))))
                   have hmK : ¬ (m = K) := by omega
                   have hKm : ¬ (K = m) := by omega
                   clear q3 q5 q6 o2 g2 at2)
      obtain ⟨q3, q5, q6, o2, g2, at2⟩ := Q3.out
      obtain ⟨p1, p3, p5, p6, p7, pk⟩ := P.out
      have sb := SB.out
      have hvb := HV.out
      have ho := HO.out.1
      rw [← ln] at o2 at2
      have hl := high_more ho HO.out.2.1 HO.out.2.2.1 gl HO.out.2.2.2 o2 g2 at2
      rw [ln] at hl
      have hrow : ∀ k, v.ownBlock = some k → m ≤ k := fun k hk => by have := hvb k hk; omega
      have h2s : ∀ (u u' : Value) (k : Nat), k ≠ m → k ≠ m + 1 → ((w2.setCell { block := m, off := 0 } u).setCell { block := m + 1, off := 0 } u').heap[k]? = w2.heap[k]? := fun u u' k h1 h2 => by
        rw [Below.heap_setCell _ _ _ _ (by simp only; omega), Below.heap_setCell _ _ _ _ (by simp only; omega)]
      have hsz2 := g2.size
      refine ⟨((Held.grown g2 (by omega) (fun k hk => by have := hvb k hk; omega)).trans (Held.setCell _ _ _ (by simp only; omega) (by simp only; omega))).trans (Held.setCell _ _ _ (by simp only; omega) (by simp only; omega)), ⟨?_, ?_, ⟨_, (q3.set _).other (by omega) _, ?_⟩, ?_, (q6.other (by omega) _).other (by omega) _, ?_⟩, fun o => ⟨?_, ?_⟩⟩
      · exact ((p1.grown g2 (by omega) hrow).setCell (by simp only; omega) _).setCell (by simp only; omega) _
      · simp [World.setCell]; omega
      · rw [List.map_append]
        have hl' := hl.keep (w' := ((w2.setCell { block := m, off := 0 } (Value.slice A2 (pre.length + 1) c2)).setCell { block := m + 1, off := 0 } (Value.int IntKind.i64 ↑q))) (by simp [World.setCell]) (fun k hk _ => h2s _ _ _ (by omega) (by omega))
        exact hl'
      · simp only [List.getLast?_append, List.getLast?_singleton, Option.some_or, Option.map_some, Option.getD_some]
        exact (q5.other (by omega) _).set _
      · intro x hx
        rcases List.mem_append.1 hx with hx | hx
        · exact HI.out x hx
        · rw [List.mem_singleton.1 hx]
      · exact below_put (((pk.grown g2 (by omega) hrow).setCell (by simp only; omega) _).setCell (by simp only; omega) _) (by omega)
      · rw [← p7]
        refine World.cell?_of_block ?_
        rw [World.putObj_heap_other (by simp only; omega), h2s _ _ _ (by simp only; omega) (by simp only; omega)]
        exact g2.block _ (by simp only; omega) (fun e => by have := hvb _ e.symm; simp only at this; omega)
    · have hb0 : (e == 0) = false := by simpa using he
      have HE := Lib.hid he
      clear he
      gi_wp2
      refine ⟨Held.setCell _ _ _ (by simp only; omega) (by simp only; omega), pre, ⟨A1, c1, Y, q, e⟩, rfl, rfl, HE.out, p1.setCell (by simp only; omega) _, by simp [World.setCell]; omega, ⟨v, p3.other (by omega) _, p4.keep (by simp [World.setCell]) (fun k hk _ => Below.heap_setCell _ _ _ _ (by simp only; omega))⟩, p5.other (by omega) _, p6.set _⟩
  case done =>
    rintro xs W hE ⟨j1, j2, ⟨v, j3, j4⟩, j5, j6, j7⟩ hd
    have hwent : Went zs xs zs.length := by
      rcases hE with h | ⟨pre, x, rfl, h⟩
      · exact h
      · exact absurd (j7 x (by simp)) h
    have hall := went_end H0.out.2 hwent
    have hlast := went_last hwent
    rw [HR.out] at hall
    rw [← hlast] at j5
    have c0 := j3.cell
    have c1 := j5.cell
    have c2 := j6.cell
    have j4' := j4
    obtain ⟨us, ho, _⟩ := j4
    obtain ⟨Ar, cr, rfl⟩ := own_form ho
    have J := Lib.hid (And.intro j1 j4')
    have HA := Lib.hid hall
    clear ho hall hlast j1 j4' j3 j5 j6 j7 hE hwent
    gi_wp2
    refine wpIn_wide.2 ?_
    go_quiet (fail)
    gi_wp2
    refine ⟨by simp, .inl ⟨_, _, rfl, run_takeDeferred (w := W.drewN nq) hd, ?_⟩⟩
    refine ⟨_, results_tmp3 rfl _ _ _, ?_⟩
    rw [HA.out]
    obtain ⟨j1, j4⟩ := J.out
    have hb : Below m w ((W.drewN nq).putObj (m + 4) (.deferred none)) := below_put (j1.trans ⟨rfl, rfl, rfl, Nat.le_refl _, fun _ _ => rfl⟩) (by omega)
    rw [← HM.out] at hb ⊢
    refine ⟨Ar, cr, by simp, ?_, hb⟩
    refine OwnLists.from (B := w.heap.size + 6) ?_ (by omega)
    rw [HM.out]
    exact (j4.keep (w' := (W.drewN nq).putObj (m + 4) (.deferred none)) (by simp [World.drewN]) (fun k hk _ => World.putObj_heap_other (by omega))).low
  case stop =>
    rintro c0 xs W ⟨pre0, x0, k, e0, hw0, hk, hF⟩ ⟨pre, x, e1, rfl, hne, j1, j2, ⟨v, j3, j4⟩, j5, j6⟩ hd
    obtain ⟨rfl, e2⟩ := List.append_inj' (e0.symm.trans e1) rfl
    obtain rfl : x0 = x := by simpa using e2
    have hall := went_err H0.out.2 hw0 hk hF hne
    have hlast := went_last hw0
    rw [HR.out] at hall
    rw [← hlast] at j5
    have c0 := j3.cell
    have c1 := j5.cell
    have c2 := j6.cell
    have j4' := j4
    obtain ⟨us, ho, _⟩ := j4
    obtain ⟨Ar, cr, rfl⟩ := own_form ho
    have J := Lib.hid (And.intro j1 j4')
    have HA := Lib.hid hall
    clear ho hall hlast j1 j4' j3 j5 j6 hw0 e0 e1 hF
    gi_wp2
    refine wpIn_wide.2 ?_
    go_quiet (fail)
    gi_wp2
    refine ⟨by simp, .inl ⟨_, _, rfl, run_takeDeferred (w := W.drewN nq) hd, ?_⟩⟩
    refine ⟨_, results_tmp3 rfl _ _ _, ?_⟩
    rw [HA.out]
    obtain ⟨j1, j4⟩ := J.out
    have hb : Below m w ((W.drewN nq).putObj (m + 4) (.deferred none)) := below_put (j1.trans ⟨rfl, rfl, rfl, Nat.le_refl _, fun _ _ => rfl⟩) (by omega)
    rw [← HM.out] at hb ⊢
    refine ⟨Ar, cr, by simp, ?_, hb⟩
    refine OwnLists.from (B := w.heap.size + 6) ?_ (by omega)
    rw [HM.out]
    exact (j4.keep (w' := (W.drewN nq).putObj (m + 4) (.deferred none)) (by simp [World.drewN]) (fun k hk _ => World.putObj_heap_other (by omega))).low
end Frm
end Go.Proofs.Ytgiojcjnljmaiaa
