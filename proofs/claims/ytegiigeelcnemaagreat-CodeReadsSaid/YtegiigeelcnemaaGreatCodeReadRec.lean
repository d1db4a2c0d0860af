/-
  code.Rec: a record read from all of some bytes; the reader's panic is caught. code.PutRec.
-/
import Derived.Test.YtegiigeelcnemaaGreatCodeRdRec
import Derived.Test.YtegiigeelcnemaaGreatGCodeA
import Derived.Test.YtegiigeelcnemaaGreatCodeRight
import Derived.Test.YtegiigeelcnemaaGreatCodeWrRec
import Derived.Test.YtegiigeelcnemaaGreatStructRow
import Derived.Test.YtegiigeelcnemaaGreatCodeRecs
import Derived.Test.YtegiigeelcnemaaGreatCodeMsg
namespace Go.Proofs.YtegiigeelcnemaaGreat
namespace Code
open Go.RowKit Num Span Vers
attribute [local go_sem ↓] Go.wp_at_zero Go.wp_at_succ

set_option maxRecDepth 100000 in
set_option maxHeartbeats 4000000 in
theorem catch_rec (base bx be : Nat) (hne : bx ≠ be) (x0 x1 : Value) (e0 : Value) (w : World) (hbx : base ≤ bx) (hbe : base ≤ be) (hx : Bn bx 24 [x0, x1] w) (he : Boxed w be 26 e0) :
    CallsD Tryz.prog 64 #[.pointer (some ⟨bx, 0, none⟩), .pointer (some ⟨be, 0, none⟩)] (.panicking [{ v := spoiltV, recovered := false }]) w fun e u' w' =>
      e = .returned (.tuple #[]) ∧ u' = .panicking [{ v := spoiltV, recovered := true }] ∧ Hid (Below base w w') ∧ Bn bx 24 [.string ⟨#[]⟩, .slice none 0 0] w' ∧ Boxed w' be 26 (.int .i64 2) := by
  obtain ⟨W, hW⟩ : ∃ W, (w.alloc (.cells #[] 114)).alloc (.cells #[.string ⟨#[]⟩, .slice none 0 0] 24) = W := ⟨_, rfl⟩
  have lw : base ≤ w.heap.size := Nat.le_trans hbx (Nat.le_of_lt hx.lt)
  have hx1 : Bn bx 24 [x0, x1] W := by rw [← hW]; exact (hx.kept (World.grownBy_alloc _ _ none) (by simp)).kept (World.grownBy_alloc _ _ none) (by simp)
  have he1 : Boxed W be 26 e0 := by rw [← hW]; exact (he.alloc _).alloc _
  have hN : Bn (w.heap.size + 1) 24 [.string ⟨#[]⟩, .slice none 0 0] W := by
    rw [← hW]
    have h := heap_alloc_new (w.alloc (.cells #[] 114)) (.cells #[.string ⟨#[]⟩, .slice none 0 0] 24)
    rw [World.size_alloc] at h
    exact h
  obtain ⟨X, hX⟩ : ∃ X, W.setCells bx 0 [.string ⟨#[]⟩, .slice none 0 0] = X := ⟨_, rfl⟩
  have hxX : Bn bx 24 [.string ⟨#[]⟩, .slice none 0 0] X := by rw [← hX]; exact setCells_all (old := [x0, x1]) rfl hx1
  have hgX : W.grownBy X (some bx) := by rw [← hX]; exact setCells_grown _ _ _ _
  have heX : Boxed X be 26 e0 := he1.kept hgX (by simpa using Ne.symm hne)
  have hBW : Below base w W := by rw [← hW]; exact ((Below.refl base w).alloc lw _).alloc (by simp; omega) _
  have hBX : Below base w X := hBW.grown hgX (Nat.le_trans lw hBW.size) (fun k hk => by injection hk with hk; omega)
  have hB : Hid (Below base w (X.setCell ⟨be, 0, none⟩ (.int .i64 2))) := Lib.hid (hBX.setCell (p := ⟨be, 0, none⟩) hbe _)
  have h3 := heX.cell
  have h4 := heX.frozen
  have h5 : Bn bx 24 [.string ⟨#[]⟩, .slice none 0 0] (X.setCell ⟨be, 0, none⟩ (.int .i64 2)) := hxX.kept (grown_set1 _ _ _ _) (by simpa using hne)
  have h6 : Boxed (X.setCell ⟨be, 0, none⟩ (.int .i64 2)) be 26 (.int .i64 2) := heX.set _
  have y0 := hx1.cell 0
  have n0 := hN.cell 0
  have z0 := hx1.frozen 0
  have y1 := hx1.cell 1
  have n1 := hN.cell 1
  have z1 := hx1.frozen 1
  simp only [List.getElem?_cons_zero, List.getElem?_cons_succ] at y0 n0 y1 n1
  have hX' : (W.setCell ⟨bx, 0, none⟩ (.string ⟨#[]⟩)).setCell ⟨bx, 1, none⟩ (.slice none 0 0) = X := hX
  have HB := Lib.hid (And.intro hB (And.intro h5 h6))
  have hta := run_typeAssert_same
  clear hB h5 h6 hx he hN hx1 he1 hX hxX hgX heX hBW hBX
  refine callsD_of_wpS Tryz.func64 rfl fun c₀ cs hu => ?_
  apply wpS_seq
  apply wpS_region
  simp [wpOpsS, go_sem, recoverD, hu, Tryz.ntmps64, Exit.thenS, spoiltV]
  refine wpS_of_wp ?_
  rw [show (#[Value.pointer (some { block := bx, off := 0 }), Value.pointer (some { block := be, off := 0 })] ++ (Array.replicate 11 undef).setIfInBounds 4 (Value.iface 114 (Value.agg #[]))) = #[Value.pointer (some { block := bx, off := 0 }), Value.pointer (some { block := be, off := 0 }), undef, undef, undef, undef, Value.iface 114 (Value.agg #[]), undef, undef, undef, undef, undef, undef] from rfl]
  go_wp2
  exact ⟨rfl, _, rfl, _, results_none rfl _ _ _, rfl, rfl, HB.out.1, HB.out.2.1, HB.out.2.2⟩

theorem idle_rec (p q : Addr) (w : World) :
    CallsD Tryz.prog 64 #[.pointer (some p), .pointer (some q)] .returning w fun e u' w' => e = .returned (.tuple #[]) ∧ u' = .returning ∧ w' = w := by
  refine callsD_of_wpS Tryz.func64 rfl fun c₀ cs hu => ?_
  apply wpS_seq
  apply wpS_region
  simp [wpOpsS, go_sem, recoverD, hu, Tryz.ntmps64, Exit.thenS]
  refine wpS_of_wp ?_
  rw [show (#[Value.pointer (some p), Value.pointer (some q)] ++ (Array.replicate 11 undef).setIfInBounds 4 Value.nilIface) = #[Value.pointer (some p), Value.pointer (some q), undef, undef, undef, undef, Value.nilIface, undef, undef, undef, undef, undef, undef] from rfl]
  go_wp2
  exact ⟨rfl, _, rfl, _, results_none rfl _ _ _, rfl, hu, rfl⟩

/-- A record that a reader made. -/
def RcO (B : Nat) (w : World) (r : Rc) (a : Option Addr × Nat) : Prop := RecO w B w.heap.size (r, a.1, a.2)
theorem RcO.keep {B : Nat} {w w' : World} {r : Rc} {a : Option Addr × Nat} (h : RcO B w r a) (hs : w.heap.size ≤ w'.heap.size) (hk : ∀ k, B ≤ k → k < w.heap.size → w'.heap[k]? = w.heap[k]?) : RcO B w' r a := by
  obtain ⟨h0, ps, h1, h2⟩ := h
  exact ⟨h0, ps, h1, (h2.keep hk).more hs⟩
theorem RcO.less {B B' : Nat} {w : World} {r : Rc} {a : Option Addr × Nat} (h : RcO B w r a) (hB : B' ≤ B) : RcO B' w r a := by
  obtain ⟨h0, ps, h1, h2⟩ := h
  exact ⟨h0, ps, h1, h2.less hB⟩
theorem RcO.vs {B : Nat} {w : World} {r : Rc} {a : Option Addr × Nat} (h : RcO B w r a) : Vs w 0 w.heap.size a.1 r.2 := by
  obtain ⟨h0, ps, h1, h2⟩ := h
  have := h2.vs (Nat.le_refl _)
  rw [h1] at this
  exact this.less (Nat.zero_le _)
theorem rcO_zero (B : Nat) (w : World) : RcO B w r0 (none, 0) := ⟨Nat.le_refl _, [], rfl, rowV_nil _ _ _⟩
/-- A record and an error. -/
def GotRec (B : Nat) (r : Rc × Int) (w : World) (e : Ending) (w' : World) : Prop :=
  ∃ a : Option Addr × Nat, e = .returned (.tuple #[.agg #[.string r.1.1, .slice a.1 r.1.2.length a.2], .int .i64 r.2]) ∧ RcO B w' r.1 a ∧ Below B w w'
/-- The call that is left to be made at the door. -/
abbrev doorRec (m : Nat) : List Deferred := [{ target := Target.fn (Fn.func 64) #[.pointer (some ⟨m, 0, none⟩), .pointer (some ⟨m + 1, 0, none⟩)], args := #[] }]

theorem doorr_bad (tmps : Array Value) (R : Ending → World → Prop) (m : Nat) (x0 x1 e0 : Value) (w1 : World) (hX : Bn m 24 [x0, x1] w1) (hE : Boxed w1 (m + 1) 26 e0)
    (h6 : tmps.getD 6 undef = .pointer (some ⟨m, 0, none⟩)) (h7 : tmps.getD 7 undef = .pointer (some ⟨m + 1, 0, none⟩)) (hR : ∀ w2, Below m w1 w2 → R (.returned (.tuple #[.agg #[.string ⟨#[]⟩, .slice none 0 0], .int .i64 2])) w2) :
    Leaves Tryz.prog Tryz.f24 tmps R (doorRec m) (.panicking [{ v := spoiltV, recovered := false }]) w1 := by
  refine leaves_cons (f := 64) (args := #[.pointer (some ⟨m, 0, none⟩), .pointer (some ⟨m + 1, 0, none⟩)]) (by simp) (by simp [go_sem]) ?_
  refine (catch_rec m m (m + 1) (by omega) x0 x1 e0 w1 (Nat.le_refl _) (by omega) hX hE).mono ?_
  rintro e u' w2 ⟨rfl, rfl, hB, h1, h2⟩
  have hr := hR w2 hB.out
  have k0 := h1.cell 0
  have k1 := h1.cell 1
  simp only [List.getElem?_cons_zero, List.getElem?_cons_succ] at k0 k1
  have c2 := h2.cell
  simp only [Array.getD_eq_getD_getElem?] at h6 h7
  simp [Leaves, settle, results, Tryz.results24, go_sem, h6, h7, k0, k1, c2, hr]

theorem doorr_good (tmps : Array Value) (R : Ending → World → Prop) (m : Nat) (x0 x1 : Value) (e0 : Int) (w1 : World) (hX : Bn m 24 [x0, x1] w1) (hE : Boxed w1 (m + 1) 26 (.int .i64 e0))
    (h6 : tmps.getD 6 undef = .pointer (some ⟨m, 0, none⟩)) (h7 : tmps.getD 7 undef = .pointer (some ⟨m + 1, 0, none⟩)) (hR : R (.returned (.tuple #[.agg #[x0, x1], .int .i64 e0])) w1) :
    Leaves Tryz.prog Tryz.f24 tmps R (doorRec m) .returning w1 := by
  refine leaves_cons (f := 64) (args := #[.pointer (some ⟨m, 0, none⟩), .pointer (some ⟨m + 1, 0, none⟩)]) (by simp) (by simp [go_sem]) ?_
  refine (idle_rec ⟨m, 0, none⟩ ⟨m + 1, 0, none⟩ w1).mono ?_
  rintro e u' w2 ⟨rfl, rfl, rfl⟩
  have k0 := hX.cell 0
  have k1 := hX.cell 1
  simp only [List.getElem?_cons_zero, List.getElem?_cons_succ] at k0 k1
  have c2 := hE.cell
  simp only [Array.getD_eq_getD_getElem?] at h6 h7
  simp [Leaves, settle, results, Tryz.results24, go_sem, h6, h7, k0, k1, c2, hR]

def recF (zs : List Int) : Rc × Int := wholeF (recP zs 0) zs.length okR r0

set_option maxRecDepth 100000 in
set_option maxHeartbeats 4000000 in
theorem readrec_any (A : Option Addr) (c n : Nat) (zs : List Int) (hn : zs.length = n) (w : World) (hN : Ns .u8 w w.heap.size A zs) (hby : ∀ z ∈ zs, 0 ≤ z ∧ z ≤ 255) (hc : n ≤ c) (hbig : n ≤ 4294967296) :
    Calls Tryz.prog 24 #[.slice A n c, .func (.func 25) #[] #[], .func (.func 12) #[] #[]] w (GotRec w.heap.size (recF zs) w) := by
  have hmf : ∀ (fn : Fn) (first cap : Array Value) (w : World), (Instr.makeFunc fn first cap).run Tryz.prog w = .ok (.func fn first cap) w := fun _ _ _ _ => rfl
  obtain ⟨m, hm⟩ : ∃ m, w.heap.size = m := ⟨_, rfl⟩
  obtain ⟨W, hW⟩ : ∃ W, ((w.alloc (.cells #[.string ⟨#[]⟩, .slice none 0 0] 24)).alloc (.cells #[.int .i64 0] 26)).alloc (.cells #[.slice A n c, .int .i64 0] 116) = W := ⟨_, rfl⟩
  have hX : Bn m 24 [.string ⟨#[]⟩, .slice none 0 0] W := by rw [← hW, ← hm]; exact (Bn.kept (heap_alloc_new _ _) (World.grownBy_alloc _ _ none) (by simp)).kept (World.grownBy_alloc _ _ none) (by simp)
  have hE : Boxed W (m + 1) 26 (.int .i64 0) := by rw [← hW, ← hm]; exact (by simpa using Boxed.new (w.alloc (.cells #[.string ⟨#[]⟩, .slice none 0 0] 24)) 26 (.int .i64 0) : Boxed _ (w.heap.size + 1) _ _).alloc _
  have hr : Rd (m + 1 + 1) A c n 0 W := by
    have h := heap_alloc_new ((w.alloc (.cells #[.string ⟨#[]⟩, .slice none 0 0] 24)).alloc (.cells #[.int .i64 0] 26)) (.cells #[.slice A n c, .int .i64 0] 116)
    rw [hW] at h
    show W.heap[m + 1 + 1]? = some (.cells #[.slice A n c, .int .i64 ((0 : Nat) : Int)] 116 (0, 0))
    rw [← hm]
    simpa using h
  have hbW : Below m w W := by
    rw [← hW, ← hm]
    exact (((Below.refl _ w).alloc (Nat.le_refl _) _).alloc (by simp) _).alloc (by simp; omega) _
  have hsz : W.heap.size = m + 3 := by rw [← hW, ← hm]; simp
  rw [hm] at hN ⊢
  have hs : Src (m + 1 + 1) A c n zs W := ⟨(hN.below hbW).more (by omega), hby, hn, hc, hbig⟩
  have h1 := rrec_any (m + 1 + 1) A c n 0 zs W hs hr (by omega)
  have hgo := fun (P : Option (Rc × Nat)) (h : recP zs 0 = P) => (show recF zs = wholeF P zs.length okR r0 by unfold recF; rw [h])
  have hmw : m ≤ w.heap.size := by omega
  have HW := Lib.hid hW
  clear hW
  rcases hP : recP zs 0 with _ | ⟨x, q⟩
  · have hF := hgo _ hP
    rw [hF, wholeF_bad (fun x q h => by cases h)]
    rw [hP] at h1
    have H1 := Lib.hid h1
    have HX := Lib.hid (And.intro hX (And.intro hE hbW))
    clear h1 hP hF hgo hs hX hE hbW hr hN hby
    go_enter_defers Tryz.func24, Tryz.ntmps24
    go_wp2_with fail
    rw [HW.out]
    refine H1.out.mono ?_
    intro e w1 hT
    obtain ⟨hg, rfl⟩ := hT.none
    have x1 := HX.out.1.kept hg (by simp; omega)
    have x2 := HX.out.2.1.kept hg (by simp)
    refine doorr_bad _ _ m (.string ⟨#[]⟩) (.slice none 0 0) _ w1 x1 x2 rfl rfl fun w2 hb2 => ?_
    exact ⟨(none, 0), rfl, rcO_zero _ _, (below_of_grown HX.out.2.2 hg (by omega) (by omega)).trans hb2⟩
  · have hF := hgo _ hP
    rw [hP] at h1
    obtain ⟨⟨_, hqn⟩, ⟨hks, hrl⟩, _⟩ := recP_ok hby _ _ _ (by omega) hP
    rw [hF]
    obtain ⟨key, recs⟩ := x
    simp only at hks hrl
    have H1 := Lib.hid h1
    have HX := Lib.hid (And.intro hX (And.intro hE hbW))
    have HN := Lib.hid (And.intro hn hks)
    have hks' : key.size ≤ 140737488355328 := by omega
    clear h1 hP hF hgo hs hX hE hbW hr hN hby
    go_enter_defers Tryz.func24, Tryz.ntmps24
    go_wp2_with fail
    rw [HW.out]
    refine H1.out.mono ?_
    intro e w1 hT
    obtain ⟨v, rfl, hr1, ⟨A8, c8, hv, ho⟩, hg⟩ := hT.some
    have ho : RcO W.heap.size w1 (key, recs) (A8, c8) := ho
    obtain ⟨n8, e8⟩ : ∃ n, recs.length = n := ⟨_, rfl⟩
    have hvv : (Value.agg #[.string key, .slice A8 recs.length c8]) = .agg #[.string key, .slice A8 n8 c8] := by rw [e8]
    have hv' : v = .agg #[.string key, .slice A8 n8 c8] := hv.trans hvv
    subst hv'
    have x1 := HX.out.1.kept hg (by simp; omega)
    have x2 := HX.out.2.1.kept hg (by simp)
    have hb1 := below_of_grown HX.out.2.2 hg (by omega) (by omega)
    have k0 := x1.cell 0
    have fr0 := x1.frozen 0
    have k1 := x1.cell 1
    have fr1 := x1.frozen 1
    simp only [List.getElem?_cons_zero, List.getElem?_cons_succ] at k0 k1
    obtain ⟨V, hV⟩ : ∃ V, w1.setCells m 0 [.string key, .slice A8 n8 c8] = V := ⟨_, rfl⟩
    have hgV : w1.grownBy V (some m) := by rw [← hV]; exact setCells_grown _ _ _ _
    have y1 : Bn m 24 [.string key, .slice A8 n8 c8] V := by rw [← hV]; exact setCells_all (old := [.string ⟨#[]⟩, .slice none 0 0]) rfl x1
    have y2 : Boxed V (m + 1) 26 (.int .i64 0) := x2.kept hgV (by simp)
    have y3 : Rd (m + 1 + 1) A c n q V := hr1.kept hgV (by simp; omega)
    have hm1 : m ≤ w1.heap.size := by have := x1.lt; omega
    have y4 : Below m w V := hb1.grown hgV hm1 (fun k hk => by injection hk with hk; omega)
    have y5 : RcO W.heap.size V (key, recs) (A8, c8) := ho.keep hgV.size (grown_keep hgV (by omega))
    have hsV : W.heap.size ≤ V.heap.size := Nat.le_trans hg.size hgV.size
    have hV' : (w1.setCell ⟨m, 0, none⟩ (.string key)).setCell ⟨m, 1, none⟩ (.slice A8 n8 c8) = V := hV
    have k0 := y1.cell 0
    have fr0 := y1.frozen 0
    have k1 := y1.cell 1
    have fr1 := y1.frozen 1
    simp only [List.getElem?_cons_zero, List.getElem?_cons_succ] at k0 k1
    have d1 := y3.c1
    have d4 := y2.cell
    have d5 := y2.frozen
    have h2 := rrecord_any A8 c8 n8 key recs e8 (by omega) hks' V y5.vs
    have H2 := Lib.hid h2
    have HV := Lib.hid (And.intro y1 (And.intro y2 (And.intro y4 y5)))
    have HVV := Lib.hid hvv
    clear x1 x2 hb1 y1 y2 y3 y4 y5 h2 hT hr1 ho hg hV hgV hv hvv
    have hnz := HN.out.1
    by_cases hqn : q = n
    · have e1 : ((q : Int) != (n : Int)) = false := by simp [hqn]
      have HQ := Lib.hid hqn
      clear hqn
      by_cases hR : okR (key, recs)
      · have hF := wholeF_ok (R := okR) (x0 := r0) (m := zs.length) (P := some ((key, recs), q)) rfl (by rw [HQ.out]; exact hnz.symm) hR
        rw [show decide (okR (key, recs)) = true from decide_eq_true hR] at H2
        have HF := Lib.hid hF
        clear hF hR
        go_wp2_with fail
        refine H2.out.mono ?_
        rintro e w2 ⟨rfl, hb2⟩
        have lx := HV.out.1.lt
        have le := HV.out.2.1.lt
        have z1 : Bn m 24 [.string key, .slice A8 n8 c8] w2 := (hb2.block _ lx).trans HV.out.1
        have z2 : Boxed w2 (m + 1) 26 (.int .i64 0) := (hb2.block _ le).trans HV.out.2.1
        have z3 : RcO W.heap.size w2 (key, recs) (A8, c8) := HV.out.2.2.2.keep hb2.size (fun k _ h => hb2.block k h)
        have z4 := HV.out.2.2.1.trans (hb2.mono (by omega))
        have k0 := z1.cell 0
        have fr0 := z1.frozen 0
        have k1 := z1.cell 1
        have fr1 := z1.frozen 1
        simp only [List.getElem?_cons_zero, List.getElem?_cons_succ] at k0 k1
        obtain ⟨U, hU⟩ : ∃ U, w2.setCells m 0 [.string key, .slice A8 n8 c8] = U := ⟨_, rfl⟩
        have hgU : w2.grownBy U (some m) := by rw [← hU]; exact setCells_grown _ _ _ _
        have u1 : Bn m 24 [.string key, .slice A8 n8 c8] U := by rw [← hU]; exact setCells_all (old := [.string key, .slice A8 n8 c8]) rfl z1
        have u2 : Boxed U (m + 1) 26 (.int .i64 0) := z2.kept hgU (by simp)
        have u3 : RcO W.heap.size U (key, recs) (A8, c8) := z3.keep hgU.size (grown_keep hgU (by omega))
        have u4 : Below m w U := z4.grown hgU (by have := z4.size; omega) (fun k hk => by injection hk with hk; omega)
        have hU' : (w2.setCell ⟨m, 0, none⟩ (.string key)).setCell ⟨m, 1, none⟩ (.slice A8 n8 c8) = U := hU
        have c3 := u2.cell
        have c4 := u2.frozen
        obtain ⟨T, hT⟩ : ∃ T, U.setCell ⟨m + 1, 0, none⟩ (.int .i64 0) = T := ⟨_, rfl⟩
        have t1' : Bn m 24 [.string key, .slice A8 n8 c8] T := by rw [← hT]; exact u1.kept (grown_set1 _ _ _ _) (by simp)
        have t2' : Boxed T (m + 1) 26 (.int .i64 0) := by rw [← hT]; exact u2.set _
        have t3' : RcO W.heap.size T (key, recs) (A8, c8) := by rw [← hT]; exact u3.keep (grown_set1 _ _ _ _).size (grown_keep (grown_set1 _ _ _ _) (by omega))
        have t4' : Below m w T := by rw [← hT]; exact u4.setCell (p := ⟨m + 1, 0, none⟩) (by simp) _
        have HU := Lib.hid (And.intro t1' (And.intro t2' (And.intro t3' t4')))
        clear z1 z2 z3 z4 u1 u2 u3 u4 t1' t2' t3' t4' hb2 hU hgU
        go_wp2_with fail
        first | rw [HF.out] | (have hF2 := HF.out; rw [hnz] at hF2; rw [hF2])
        refine doorr_good _ _ m (.string key) (.slice A8 n8 c8) 0 _ HU.out.1 HU.out.2.1 rfl rfl ?_
        exact ⟨(A8, c8), by rw [HVV.out], HU.out.2.2.1.less (by omega), HU.out.2.2.2⟩
      · have hF := wholeF_bad (R := okR) (x0 := r0) (m := zs.length) (P := some ((key, recs), q)) (fun x r h k => hR (by
          simp only [Option.some.injEq, Prod.mk.injEq] at h
          exact h.1 ▸ k.2))
        rw [show decide (okR (key, recs)) = false from decide_eq_false hR] at H2
        have HF := Lib.hid hF
        clear hF hR
        go_wp2_with fail
        refine H2.out.mono ?_
        rintro e w2 ⟨rfl, hb2⟩
        have lx := HV.out.1.lt
        have le := HV.out.2.1.lt
        have z1 : Bn m 24 [.string key, .slice A8 n8 c8] w2 := (hb2.block _ lx).trans HV.out.1
        have z2 : Boxed w2 (m + 1) 26 (.int .i64 0) := (hb2.block _ le).trans HV.out.2.1
        have z4 := HV.out.2.2.1.trans (hb2.mono (by omega))
        have HZ := Lib.hid (And.intro z1 (And.intro z2 z4))
        clear z1 z2 z4 hb2
        go_wp2_with fail
        refine (giveUp_any _ _).mono ?_
        rintro e w3 ⟨rfl, rfl⟩
        first | rw [HF.out] | (have hF2 := HF.out; rw [hnz] at hF2; rw [hF2])
        refine doorr_bad _ _ m (.string key) (.slice A8 n8 c8) _ _ HZ.out.1 HZ.out.2.1 rfl rfl fun w4 hb4 => ?_
        exact ⟨(none, 0), rfl, rcO_zero _ _, HZ.out.2.2.trans hb4⟩
    · have e1 : ((q : Int) != (n : Int)) = true := by simp; omega
      have hF := wholeF_bad (R := okR) (x0 := r0) (m := zs.length) (P := some ((key, recs), q)) (fun x r h k => hqn (by
          have h' : q = r := by injection h with h; injection h
          omega))
      have HF := Lib.hid hF
      clear hF hqn
      go_wp2_with fail
      refine (giveUp_any _ _).mono ?_
      rintro e w3 ⟨rfl, rfl⟩
      first | rw [HF.out] | (have hF2 := HF.out; rw [hnz] at hF2; rw [hF2])
      refine doorr_bad _ _ m (.string key) (.slice A8 n8 c8) _ _ HV.out.1 HV.out.2.1 rfl rfl fun w4 hb4 => ?_
      exact ⟨(none, 0), rfl, rcO_zero _ _, HV.out.2.2.1.trans hb4⟩

/-- What code.Rec tells of some bytes. -/
theorem r0_eq : r0 = (⟨#[]⟩, []) := rfl
theorem info_rec2 : (Tryz.prog.info? 24).map (·.size) = some 2 := by kernel_rfl
set_option maxRecDepth 100000 in
set_option maxHeartbeats 1000000 in
theorem rec_any (A : Option Addr) (c n : Nat) (zs : List Int) (hn : zs.length = n) (w : World) (hN : Ns .u8 w w.heap.size A zs) (hby : ∀ z ∈ zs, 0 ≤ z ∧ z ≤ 255) (hc : n ≤ c) (hbig : n ≤ 4294967296) :
    Calls Tryz.prog 9 #[.slice A n c] w (GotRec w.heap.size (recF zs) w) := by
  obtain ⟨B, hB⟩ : ∃ B, w.heap.size = B := ⟨_, rfl⟩
  obtain ⟨W, hW⟩ : ∃ W, w.alloc (.cells #[.string ⟨#[]⟩, .slice none 0 0] 24) = W := ⟨_, rfl⟩
  have hX : Bn B 24 [.string ⟨#[]⟩, .slice none 0 0] W := by rw [← hW, ← hB]; exact heap_alloc_new _ _
  have hbW : Below B w W := by rw [← hW, ← hB]; exact (Below.refl _ w).alloc (Nat.le_refl _) _
  rw [hB] at hN ⊢
  have h1 := readrec_any A c n zs hn W ((hN.below hbW).more (by have := hX.lt; omega)) hby hc hbig
  have H1 := Lib.hid h1
  have HX := Lib.hid (And.intro hX hbW)
  clear h1 hX hbW hN hby hn
  go_enter Tryz.func9, Tryz.ntmps9
  go_wp2_with fail
  refine H1.out.mono ?_
  rintro e w1 ⟨⟨A1, c1⟩, rfl, o1, b1⟩
  obtain ⟨⟨⟨key, l⟩, er⟩, hR⟩ : ∃ r, recF zs = r := ⟨_, rfl⟩
  rw [hR] at o1 ⊢
  simp only at o1 ⊢
  obtain ⟨k, hk⟩ : ∃ k, l.length = k := ⟨_, rfl⟩
  rw [hk]
  have hX1 := HX.out.1.below b1 HX.out.1.lt
  have hb1 := HX.out.2.trans (b1.mono (by have := HX.out.1.lt; omega))
  have k0 := hX1.cell 0
  have k1 := hX1.cell 1
  have f0 := hX1.frozen 0
  have f1 := hX1.frozen 1
  simp only [List.getElem?_cons_zero, List.getElem?_cons_succ] at k0 k1
  obtain ⟨X, hXe⟩ : ∃ X, w1.setCells B 0 [.string key, .slice A1 k c1] = X := ⟨_, rfl⟩
  have hgX : w1.grownBy X (some B) := by rw [← hXe]; exact setCells_grown _ _ _ _
  have y1 : Bn B 24 [.string key, .slice A1 k c1] X := by rw [← hXe]; exact setCells_all (old := [.string ⟨#[]⟩, .slice none 0 0]) rfl hX1
  have hlt := HX.out.1.lt
  have y5 : RcO B X (key, l) (A1, c1) := (o1.keep hgX.size (grown_keep hgX (by omega))).less (by omega)
  have y4 : Below B w X := hb1.grown hgX (by have := hb1.size; omega) (fun k hk => by injection hk with hk; omega)
  have hX' : (w1.setCell ⟨B, 0, none⟩ (.string key)).setCell ⟨B, 1, none⟩ (.slice A1 k c1) = X := hXe
  have j0 := y1.cell 0
  have j1 := y1.cell 1
  simp only [List.getElem?_cons_zero, List.getElem?_cons_succ] at j0 j1
  have HE := Lib.hid (And.intro y5 (And.intro y4 (And.intro hk hR)))
  clear hX1 hb1 b1 o1 hXe hgX y1 y5 y4 hk hR H1
  go_wp2_with fail
  refine bodyPost_ret (v := .tuple #[.agg #[.string key, .slice A1 k c1], .int .i64 er]) ?_ rfl ?_
  · rw [results_cell_tmp rfl]
    go_simp
  · rw [HE.out.2.2.2]
    exact ⟨(A1, c1), by simp only; rw [HE.out.2.2.1], HE.out.1, HE.out.2.1⟩

def putRecF (r : Rc) : List Int × Int := if okR r then (recL r, 0) else ([], 1)
set_option maxRecDepth 100000 in
set_option maxHeartbeats 1000000 in
theorem putrec_any (A : Option Addr) (c m : Nat) (key : ByteArray) (l : List Vr) (hm : l.length = m) (hm2 : m ≤ 140737488355328) (hk2 : key.size ≤ 140737488355328) (w : World) (hv : Vs w 0 w.heap.size A l) (hlen : okR (key, l) → (recL (key, l)).length ≤ 70368744000000) :
    Calls Tryz.prog 6 #[.agg #[.string key, .slice A m c]] w (PutOut w.heap.size (putRecF (key, l)) w) := by
  obtain ⟨B, hB⟩ : ∃ B, w.heap.size = B := ⟨_, rfl⟩
  obtain ⟨W, hW⟩ : ∃ W, w.alloc (.cells #[.string key, .slice A m c] 24) = W := ⟨_, rfl⟩
  have hX : Bn B 24 [.string key, .slice A m c] W := by rw [← hW, ← hB]; exact heap_alloc_new _ _
  have hbW : Below B w W := by rw [← hW, ← hB]; exact (Below.refl _ w).alloc (Nat.le_refl _) _
  rw [hB] at hv ⊢
  have hBW : B < W.heap.size := hX.lt
  have h1 := rrecord_any A c m key l hm hm2 hk2 W ((hv.below hbW).more (by omega))
  have k0 := hX.cell 0
  have k1 := hX.cell 1
  simp only [List.getElem?_cons_zero, List.getElem?_cons_succ] at k0 k1
  by_cases hR : okR (key, l)
  · rw [decide_eq_true hR] at h1
    have hF : putRecF (key, l) = (recL (key, l), 0) := if_pos hR
    rw [hF]
    have hll := hlen hR
    have H1 := Lib.hid h1
    have HX := Lib.hid (And.intro hX (And.intro hbW (And.intro hv (And.intro hm hR))))
    clear h1 hX hbW hv hm hR hF hlen
    go_enter Tryz.func6, Tryz.ntmps6
    go_wp2_with fail
    refine H1.out.mono ?_
    rintro e w1 ⟨rfl, b1⟩
    have hX1 := HX.out.1.below b1 HX.out.1.lt
    have hb1 := HX.out.2.1.trans (b1.mono (Nat.le_of_lt hBW))
    obtain ⟨W2, hW2⟩ : ∃ W2, w1.alloc (.cells #[.slice none 0 0] 57) = W2 := ⟨_, rfl⟩
    have hw : Wr (B + 1) w1.heap.size [] (.slice none 0 0) W2 := by rw [← hW2]; exact ⟨Boxed.new _ _ _, ⟨none, 0, rfl⟩, World.ownsRow_nil _ _ _ _, hX1.lt⟩
    have hX2 : Bn B 24 [.string key, .slice A m c] W2 := by rw [← hW2]; exact hX1.kept (World.grownBy_alloc _ _ none) (by simp)
    have hb2 : Below B w W2 := by rw [← hW2]; exact hb1.alloc (by have := hX1.lt; omega) _
    have k0 := hX2.cell 0
    have k1 := hX2.cell 1
    simp only [List.getElem?_cons_zero, List.getElem?_cons_succ] at k0 k1
    obtain ⟨g, hg⟩ : ∃ g, w1.heap.size = g := ⟨_, rfl⟩
    rw [hg] at hw
    have h2 := wrec_any (B + 1) g [] (.slice none 0 0) A c m key l HX.out.2.2.2.1 HX.out.2.2.2.2 0 (B + 1) W2 ((HX.out.2.2.1.below hb2).more (by omega)) (Nat.le_refl _) hw (by simpa using hll)
    rw [List.nil_append] at h2
    have H2 := Lib.hid h2
    have HB := Lib.hid (And.intro hb2 hw)
    clear h2 hb2 hw hX1 hb1 hX2 b1
    go_wp2_with fail
    refine H2.out.mono ?_
    rintro e w2 ⟨rfl, u, hw2, hk2⟩
    obtain ⟨hbx, ⟨A', c', rfl⟩, ho, _⟩ := hw2
    have c0 := hbx.cell
    have HE := Lib.hid (And.intro (own_base ho (Nat.le_succ B)) (HB.out.1.trans ((hk2.below HB.out.2).mono (Nat.le_succ B))))
    clear hbx ho hk2 H2
    go_wp2_with fail
    go_ret2
    exact ⟨A', c', rfl, HE.out.1, HE.out.2⟩
  · rw [decide_eq_false hR] at h1
    have hF : putRecF (key, l) = ([], 1) := if_neg hR
    rw [hF]
    have H1 := Lib.hid h1
    have HX := Lib.hid hbW
    clear h1 hX hbW hv hm hR hF hlen
    go_enter Tryz.func6, Tryz.ntmps6
    go_wp2_with fail
    refine H1.out.mono ?_
    rintro e w1 ⟨rfl, hb1⟩
    have HB := Lib.hid (HX.out.trans (hb1.mono (Nat.le_of_lt hBW)))
    clear hb1
    go_wp2_with fail
    go_ret2
    exact ⟨none, 0, rfl, World.ownsRow_nil _ _ _ _, HB.out⟩
end Code
end Go.Proofs.YtegiigeelcnemaaGreat
