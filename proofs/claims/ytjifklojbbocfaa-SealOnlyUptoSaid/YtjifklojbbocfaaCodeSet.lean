/-
  code.Set: a set read from all of some bytes.
-/
import Derived.Test.YtjifklojbbocfaaCodeCatch
namespace Go.Proofs.Ytjifklojbbocfaa
namespace Code
open Go.RowKit Num Span
attribute [local go_sem ↓] Go.wp_at_zero Go.wp_at_succ

/-- A set and an error, the set in memory of the call's own. -/
def GotSet (B : Nat) (r : List Sp × Int) (w : World) (e : Ending) (w' : World) : Prop :=
  ∃ A c, e = .returned (.tuple #[.slice A r.1.length c, .int .i64 r.2]) ∧ w'.ownsRow B 45 3 (.slice A r.1.length c) r.1.length (sps r.1) ∧ Below B w w'

/-- The call that is left to be made at the door. -/
abbrev doorSet (m : Nat) : List Deferred := [{ target := Target.fn (Fn.func 51) #[.pointer (some ⟨m, 0, none⟩), .pointer (some ⟨m + 1, 0, none⟩)], args := #[] }]

theorem door_bad (tmps : Array Value) (R : Ending → World → Prop) (m : Nat) (v0 e0 : Value) (w1 : World) (hX : Boxed w1 m 24 v0) (hE : Boxed w1 (m + 1) 26 e0)
    (h6 : tmps.getD 6 undef = .pointer (some ⟨m, 0, none⟩)) (h7 : tmps.getD 7 undef = .pointer (some ⟨m + 1, 0, none⟩)) (hR : ∀ w2, Below m w1 w2 → R (.returned (.tuple #[.slice none 0 0, .int .i64 2])) w2) :
    Leaves Try.prog Try.f47 tmps R (doorSet m) (.panicking [{ v := spoiltV, recovered := false }]) w1 := by
  refine leaves_cons (f := 51) (args := #[.pointer (some ⟨m, 0, none⟩), .pointer (some ⟨m + 1, 0, none⟩)]) (by simp) (by simp [go_sem]) ?_
  refine (catch_set m m (m + 1) (by omega) v0 e0 w1 (Nat.le_refl _) (by omega) hX hE).mono ?_
  rintro e u' w2 ⟨rfl, rfl, hB, h1, h2⟩
  have hr := hR w2 hB.out
  have c1 := h1.cell
  have c2 := h2.cell
  simp only [Array.getD_eq_getD_getElem?] at h6 h7
  simp [Leaves, settle, results, Try.results47, go_sem, h6, h7, c1, c2, hr]

theorem door_good (tmps : Array Value) (R : Ending → World → Prop) (m : Nat) (A : Option Addr) (k c : Nat) (e0 : Int) (w1 : World) (hX : Boxed w1 m 24 (.slice A k c)) (hE : Boxed w1 (m + 1) 26 (.int .i64 e0))
    (h6 : tmps.getD 6 undef = .pointer (some ⟨m, 0, none⟩)) (h7 : tmps.getD 7 undef = .pointer (some ⟨m + 1, 0, none⟩)) (hR : R (.returned (.tuple #[.slice A k c, .int .i64 e0])) w1) :
    Leaves Try.prog Try.f47 tmps R (doorSet m) .returning w1 := by
  refine leaves_cons (f := 51) (args := #[.pointer (some ⟨m, 0, none⟩), .pointer (some ⟨m + 1, 0, none⟩)]) (by simp) (by simp [go_sem]) ?_
  refine (idle_set ⟨m, 0, none⟩ ⟨m + 1, 0, none⟩ w1).mono ?_
  rintro e u' w2 ⟨rfl, rfl, rfl⟩
  have c1 := hX.cell
  have c2 := hE.cell
  simp only [Array.getD_eq_getD_getElem?] at h6 h7
  simp [Leaves, settle, results, Try.results47, go_sem, h6, h7, c1, c2, hR]

theorem below_of_grown {w w' W : World} {m g : Nat} (hb : Below m w W) (h : W.grownBy w' (some g)) (hm : m ≤ g) (hs : m ≤ W.heap.size) : Below m w w' := hb.grown h hs (fun k hk => by injection hk with hk; omega)

set_option maxRecDepth 100000 in
theorem readset_any (A : Option Addr) (c n : Nat) (zs : List Int) (hn : zs.length = n) (w : World) (hN : Ns .u8 w w.heap.size A zs) (hby : ∀ z ∈ zs, 0 ≤ z ∧ z ≤ 255) (hc : n ≤ c) (hbig : n ≤ 4294967296) :
    Calls Try.prog 47 #[.slice A n c, .func (.func 48) #[] #[], .func (.func 33) #[] #[]] w (GotSet w.heap.size (setF zs) w) := by
  have hmf : ∀ (fn : Fn) (first cap : Array Value) (w : World), (Instr.makeFunc fn first cap).run Try.prog w = .ok (.func fn first cap) w := fun _ _ _ _ => rfl
  obtain ⟨W, hW⟩ : ∃ W, ((w.alloc (.cells #[.slice none 0 0] 24)).alloc (.cells #[.int .i64 0] 26)).alloc (.cells #[.slice A n c, .int .i64 0] 95) = W := ⟨_, rfl⟩
  have hX : Boxed W w.heap.size 24 (.slice none 0 0) := by rw [← hW]; exact ((Boxed.new w _ _).alloc _).alloc _
  have hE : Boxed W (w.heap.size + 1) 26 (.int .i64 0) := by rw [← hW]; exact (by simpa using Boxed.new (w.alloc (.cells #[.slice none 0 0] 24)) 26 (.int .i64 0) : Boxed _ (w.heap.size + 1) _ _).alloc _
  have hr : Rd (w.heap.size + 1 + 1) A c n 0 W := by
    have h := heap_alloc_new ((w.alloc (.cells #[.slice none 0 0] 24)).alloc (.cells #[.int .i64 0] 26)) (.cells #[.slice A n c, .int .i64 0] 95)
    rw [hW] at h
    show W.heap[w.heap.size + 1 + 1]? = some (.cells #[.slice A n c, .int .i64 ((0 : Nat) : Int)] 95 (0, 0))
    simpa using h
  have hbW : Below w.heap.size w W := by
    rw [← hW]
    exact (((Below.refl _ w).alloc (Nat.le_refl _) _).alloc (by simp) _).alloc (by simp; omega) _
  have hsz : W.heap.size = w.heap.size + 3 := by rw [← hW]; simp
  have hs : Src (w.heap.size + 1 + 1) A c n zs W := ⟨(hN.below hbW).more (by omega), hby, hn, hc, hbig⟩
  have h1 := rset_any (w.heap.size + 1 + 1) A c n 0 zs W hs hr (by omega)
  have hgo := fun (P : Option (List Sp × Nat)) (h : setP zs 0 = P) => (show setF zs = wholeF P zs.length Right [] by unfold setF; rw [h])
  have HW := Lib.hid hW
  clear hW
  rcases hP : setP zs 0 with _ | ⟨l, q⟩
  · have hF := hgo _ hP
    rw [hF, wholeF_bad (fun x q h => by cases h)]
    rw [hP] at h1
    have H1 := Lib.hid h1
    have HX := Lib.hid (And.intro hX (And.intro hE hbW))
    clear h1 hP hF hgo hs hX hE hbW hr hN hby
    go_enter_defers Try.func47, Try.ntmps47
    go_wp2_with fail
    rw [HW.out]
    refine H1.out.mono ?_
    intro e w1 hT
    obtain ⟨hg, rfl⟩ := hT.none
    have x1 := HX.out.1.kept hg (by simp; omega)
    have x2 := HX.out.2.1.kept hg (by simp)
    refine door_bad _ _ w.heap.size _ _ w1 x1 x2 rfl rfl fun w2 hb2 => ?_
    exact ⟨none, 0, rfl, World.ownsRow_nil _ _ _ _, (below_of_grown HX.out.2.2 hg (by omega) (by omega)).trans hb2⟩
  · have hF := hgo _ hP
    rw [hP] at h1
    have hql := (setP_ok hby (by omega) hP).1
    have hll : l.length ≤ n := by
      have := setP_len hby (by omega) hP
      omega
    rw [hF]
    have H1 := Lib.hid h1
    have HX := Lib.hid (And.intro hX (And.intro hE hbW))
    have HN := Lib.hid hn
    clear h1 hP hF hgo hs hX hE hbW hr hN hby
    go_enter_defers Try.func47, Try.ntmps47
    go_wp2_with fail
    rw [HW.out]
    refine H1.out.mono ?_
    intro e w1 hT
    obtain ⟨v, rfl, hr1, ⟨A', c', rfl, ho⟩, hg⟩ := hT.some
    have x1 := HX.out.1.kept hg (by simp; omega)
    have x2 := HX.out.2.1.kept hg (by simp)
    have hb1 := below_of_grown HX.out.2.2 hg (by omega) (by omega)
    have k1 := x1.cell
    have k2 := x1.frozen
    obtain ⟨V, hV⟩ : ∃ V, w1.setCell ⟨w.heap.size, 0, none⟩ (.slice A' l.length c') = V := ⟨_, rfl⟩
    have y1 : Boxed V w.heap.size 24 (.slice A' l.length c') := by rw [← hV]; exact x1.set _
    have y2 : Boxed V (w.heap.size + 1) 26 (.int .i64 0) := by rw [← hV]; exact x2.kept (grownBy_setCell' _ _ _) (by simp)
    have y3 : Rd (w.heap.size + 1 + 1) A c n q V := by rw [← hV]; exact hr1.kept (grownBy_setCell' _ _ _) (by simp; omega)
    have y4 : Below w.heap.size w V := by rw [← hV]; exact hb1.setCell (Nat.le_refl _) _
    have y5 : V.ownsRow W.heap.size 45 3 (.slice A' l.length c') l.length (sps l) := by
      rw [← hV]
      exact ho.kept (grownBy_setCell' _ _ _) (own_apart ho (by omega))
    have hsV : W.heap.size ≤ V.heap.size := by rw [← hV]; exact Nat.le_trans hg.size (grownBy_setCell' _ _ _).size
    have d1 := y3.c1
    have d2 := y1.cell
    have d3 := y1.frozen
    have d4 := y2.cell
    have d5 := y2.frozen
    have h2 := right_any A' c' l.length l rfl V (own_ss y5) (by omega)
    have H2 := Lib.hid h2
    have HV := Lib.hid (And.intro y1 (And.intro y2 (And.intro y4 y5)))
    clear x1 x2 hb1 y1 y2 y3 y4 y5 h2 hT hr1 ho hg
    have hnz := HN.out
    by_cases hqn : q = n
    · have e1 : ((q : Int) != (n : Int)) = false := by simp [hqn]
      have HQ := Lib.hid hqn
      clear hqn
      by_cases hR : Right l
      · have hF := wholeF_ok (R := Right) (x0 := ([] : List Sp)) (m := zs.length) (P := some (l, q)) rfl (by rw [HQ.out]; exact hnz.symm) hR
        rw [show decide (Right l) = true from decide_eq_true hR] at H2
        have HF := Lib.hid hF
        clear hF
        go_wp2_with fail
        refine H2.out.mono ?_
        rintro e w2 ⟨rfl, hb2⟩
        have lx := HV.out.1.lt
        have le := HV.out.2.1.lt
        have z1 : Boxed w2 w.heap.size 24 (.slice A' l.length c') := (hb2.block _ lx).trans HV.out.1
        have z2 : Boxed w2 (w.heap.size + 1) 26 (.int .i64 0) := (hb2.block _ le).trans HV.out.2.1
        have z3 := own_below HV.out.2.2.2 hb2 (Nat.le_refl _)
        have z4 := HV.out.2.2.1.trans (hb2.mono (by omega))
        have c1 := z1.cell
        have c2 := z1.frozen
        have c3 := z2.cell
        have c4 := z2.frozen
        obtain ⟨U, hU⟩ : ∃ U, (w2.setCell ⟨w.heap.size, 0, none⟩ (.slice A' l.length c')).setCell ⟨w.heap.size + 1, 0, none⟩ (.int .i64 0) = U := ⟨_, rfl⟩
        have u1 : Boxed U w.heap.size 24 (.slice A' l.length c') := by rw [← hU]; exact (z1.set _).kept (grownBy_setCell' _ _ _) (by simp)
        have u2 : Boxed U (w.heap.size + 1) 26 (.int .i64 0) := by rw [← hU]; exact (z2.kept (grownBy_setCell' _ _ _) (by simp)).set _
        have u3 : U.ownsRow W.heap.size 45 3 (.slice A' l.length c') l.length (sps l) := by
          rw [← hU]
          have q1 := z3.kept (grownBy_setCell' w2 w.heap.size (.slice A' l.length c')) (own_apart z3 (by omega))
          exact q1.kept (grownBy_setCell' _ _ _) (own_apart q1 (by omega))
        have u4 : Below w.heap.size w U := by rw [← hU]; exact (z4.setCell (Nat.le_refl _) _).setCell (by simp) _
        have HU := Lib.hid (And.intro u1 (And.intro u2 (And.intro u3 u4)))
        clear z1 z2 z3 z4 u1 u2 u3 u4 hb2
        go_wp2_with fail
        rw [HF.out]
        exact door_good _ _ w.heap.size A' l.length c' 0 _ HU.out.1 HU.out.2.1 rfl rfl ⟨A', c', rfl, own_base HU.out.2.2.1 (by omega), HU.out.2.2.2⟩
      · have hF := wholeF_bad (R := Right) (x0 := ([] : List Sp)) (m := n) (P := some (l, q)) (fun x r h k => hR (by
          simp only [Option.some.injEq, Prod.mk.injEq] at h
          exact h.1 ▸ k.2))
        rw [show decide (Right l) = false from decide_eq_false hR] at H2
        have HF := Lib.hid hF
        clear hF
        go_wp2_with fail
        refine H2.out.mono ?_
        rintro e w2 ⟨rfl, hb2⟩
        have lx := HV.out.1.lt
        have le := HV.out.2.1.lt
        have z1 : Boxed w2 w.heap.size 24 (.slice A' l.length c') := (hb2.block _ lx).trans HV.out.1
        have z2 : Boxed w2 (w.heap.size + 1) 26 (.int .i64 0) := (hb2.block _ le).trans HV.out.2.1
        have z4 := HV.out.2.2.1.trans (hb2.mono (by omega))
        have HZ := Lib.hid (And.intro z1 (And.intro z2 z4))
        clear z1 z2 z4 hb2
        go_wp2_with fail
        refine (giveUp_any _ _).mono ?_
        rintro e w3 ⟨rfl, rfl⟩
        rw [HF.out]
        refine door_bad _ _ w.heap.size _ _ _ HZ.out.1 HZ.out.2.1 rfl rfl fun w4 hb4 => ?_
        exact ⟨none, 0, rfl, World.ownsRow_nil _ _ _ _, HZ.out.2.2.trans hb4⟩
    · have e1 : ((q : Int) != (n : Int)) = true := by simp; omega
      have hF := wholeF_bad (R := Right) (x0 := ([] : List Sp)) (m := n) (P := some (l, q)) (fun x r h k => hqn (by
          simp only [Option.some.injEq, Prod.mk.injEq] at h
          omega))
      have HF := Lib.hid hF
      clear hF hqn
      go_wp2_with fail
      refine (giveUp_any _ _).mono ?_
      rintro e w3 ⟨rfl, rfl⟩
      rw [HF.out]
      refine door_bad _ _ w.heap.size _ _ _ HV.out.1 HV.out.2.1 rfl rfl fun w4 hb4 => ?_
      exact ⟨none, 0, rfl, World.ownsRow_nil _ _ _ _, HV.out.2.2.1.trans hb4⟩

/-- What code.Set tells of some bytes: their set, in memory of its own. -/
theorem set_any (A : Option Addr) (c n : Nat) (zs : List Int) (hn : zs.length = n) (w : World) (hN : Ns .u8 w w.heap.size A zs) (hby : ∀ z ∈ zs, 0 ≤ z ∧ z ≤ 255) (hc : n ≤ c) (hbig : n ≤ 4294967296) :
    Calls Try.prog 41 #[.slice A n c] w (GotSet w.heap.size (setF zs) w) := by
  have h1 := readset_any A c n zs hn w hN hby hc hbig
  have H1 := Lib.hid h1
  clear h1 hN hby hn
  go_enter Try.func41, Try.ntmps41
  go_wp2_with fail
  refine H1.out.mono ?_
  rintro e w1 ⟨A', c', rfl, ho, hb⟩
  have HO := Lib.hid (And.intro ho hb)
  clear ho hb
  go_wp2_with fail
  go_ret2
  exact ⟨A', c', rfl, HO.out.1, HO.out.2⟩
end Code
end Go.Proofs.Ytjifklojbbocfaa
