/-
  code.read of a message.
-/
import Derived.Test.YtegiigeelcnemaaGreatCodeCatchMsg
import Derived.Test.YtegiigeelcnemaaGreatCodeRightMsg
namespace Go.Proofs.YtegiigeelcnemaaGreat
namespace Code
open Go.RowKit Num Span Vers
attribute [local go_sem ↓] Go.wp_at_zero Go.wp_at_succ

theorem MsgO.keep {B : Nat} {w w' : World} {m : Ms} {a : Pl} (h : MsgO B w m a) (hs : w.heap.size ≤ w'.heap.size) (hk : ∀ k, B ≤ k → k < w.heap.size → w'.heap[k]? = w.heap[k]?) : MsgO B w' m a := by
  obtain ⟨kind, fr, to_, id, n, for_, code, key, recs, vec, path, hashes, route⟩ := m
  obtain ⟨a8, a9, a10, a11, a12⟩ := a
  obtain ⟨⟨h1, ps, h2, h3⟩, h4, h5, h6, h7⟩ := h
  exact ⟨⟨h1, ps, h2, (h3.keep hk).more hs⟩, own_same h4 fun g hg => hk g (h4.lt g hg).1 (h4.lt g hg).2, own_same h5 fun g hg => hk g (h5.lt g hg).1 (h5.lt g hg).2, own_same h6 fun g hg => hk g (h6.lt g hg).1 (h6.lt g hg).2, own_same h7 fun g hg => hk g (h7.lt g hg).1 (h7.lt g hg).2⟩
theorem MsgO.less {B B' : Nat} {w : World} {m : Ms} {a : Pl} (h : MsgO B w m a) (hB : B' ≤ B) : MsgO B' w m a := by
  obtain ⟨kind, fr, to_, id, n, for_, code, key, recs, vec, path, hashes, route⟩ := m
  obtain ⟨a8, a9, a10, a11, a12⟩ := a
  obtain ⟨⟨h1, ps, h2, h3⟩, h4, h5, h6, h7⟩ := h
  exact ⟨⟨h1, ps, h2, h3.less hB⟩, own_base h4 hB, own_base h5 hB, own_base h6 hB, own_base h7 hB⟩
theorem MsgO.msgI {B : Nat} {w : World} {m : Ms} {a : Pl} (h : MsgO B w m a) (hz : ∀ x ∈ m.2.2.2.2.2.2.2.2.1, x.1.size ≤ 140737488355328 ∧ x.2.length ≤ 140737488355328) : MsgI w B w.heap.size m a := by
  obtain ⟨kind, fr, to_, id, n, for_, code, key, recs, vec, path, hashes, route⟩ := m
  obtain ⟨a8, a9, a10, a11, a12⟩ := a
  obtain ⟨⟨h1, ps, h2, h3⟩, h4, h5, h6, h7⟩ := h
  simp only at hz
  subst h2
  exact ⟨h3.rs (Nat.le_refl _) fun p hp => hz p.1 (List.mem_map_of_mem hp), own_ns h4, own_ns h5, own_ns h6, own_ns h7⟩
theorem MsgI.less {L L' B : Nat} {w : World} {m : Ms} {a : Pl} (h : MsgI w L B m a) (hL : L' ≤ L) : MsgI w L' B m a := by
  obtain ⟨kind, fr, to_, id, n, for_, code, key, recs, vec, path, hashes, route⟩ := m
  obtain ⟨a8, a9, a10, a11, a12⟩ := a
  obtain ⟨h3, h4, h5, h6, h7⟩ := h
  exact ⟨h3.less hL, h4, h5, h6, h7⟩

/-- The call that is left to be made at the door. -/
abbrev doorMsg (m : Nat) : List Deferred := [{ target := Target.fn (Fn.func 93) #[.pointer (some ⟨m, 0, none⟩), .pointer (some ⟨m + 1, 0, none⟩)], args := #[] }]

theorem doorm_bad (tmps : Array Value) (R : Ending → World → Prop) (m : Nat) (x0 x1 x2 x3 x4 x5 x6 x7 x8 x9 x10 x11 x12 x13 x14 e0 : Value) (w1 : World) (hX : Bn m 45 [x0, x1, x2, x3, x4, x5, x6, x7, x8, x9, x10, x11, x12, x13, x14] w1) (hE : Boxed w1 (m + 1) 26 e0)
    (h6 : tmps.getD 6 undef = .pointer (some ⟨m, 0, none⟩)) (h7 : tmps.getD 7 undef = .pointer (some ⟨m + 1, 0, none⟩)) (hR : ∀ w2, Below m w1 w2 → R (.returned (.tuple #[.agg #[.int .i64 0, .int .i64 0, .int .i64 0, .int .i64 0, .int .i64 0, .int .i64 0, .int .i64 0, .int .i64 0, .int .i64 0, .string ⟨#[]⟩, .slice none 0 0, .slice none 0 0, .slice none 0 0, .slice none 0 0, .slice none 0 0], .int .i64 2])) w2) :
    Leaves Tryz.prog Tryz.f45 tmps R (doorMsg m) (.panicking [{ v := spoiltV, recovered := false }]) w1 := by
  refine leaves_cons (f := 93) (args := #[.pointer (some ⟨m, 0, none⟩), .pointer (some ⟨m + 1, 0, none⟩)]) (by simp) (by simp [go_sem]) ?_
  refine (catch_msg m m (m + 1) (by omega) x0 x1 x2 x3 x4 x5 x6 x7 x8 x9 x10 x11 x12 x13 x14 e0 w1 (Nat.le_refl _) (by omega) hX hE).mono ?_
  rintro e u' w2 ⟨rfl, rfl, hB, h1, h2⟩
  have hr := hR w2 hB.out
  have k0 := h1.cell 0
  have k1 := h1.cell 1
  have k2 := h1.cell 2
  have k3 := h1.cell 3
  have k4 := h1.cell 4
  have k5 := h1.cell 5
  have k6 := h1.cell 6
  have k7 := h1.cell 7
  have k8 := h1.cell 8
  have k9 := h1.cell 9
  have k10 := h1.cell 10
  have k11 := h1.cell 11
  have k12 := h1.cell 12
  have k13 := h1.cell 13
  have k14 := h1.cell 14
  simp only [List.getElem?_cons_zero, List.getElem?_cons_succ] at k0 k1 k2 k3 k4 k5 k6 k7 k8 k9 k10 k11 k12 k13 k14
  have c2 := h2.cell
  simp only [Array.getD_eq_getD_getElem?] at h6 h7
  simp [Leaves, settle, results, Tryz.results45, go_sem, h6, h7, k0, k1, k2, k3, k4, k5, k6, k7, k8, k9, k10, k11, k12, k13, k14, c2, hr]

theorem doorm_good (tmps : Array Value) (R : Ending → World → Prop) (m : Nat) (x0 x1 x2 x3 x4 x5 x6 x7 x8 x9 x10 x11 x12 x13 x14 : Value) (e0 : Int) (w1 : World) (hX : Bn m 45 [x0, x1, x2, x3, x4, x5, x6, x7, x8, x9, x10, x11, x12, x13, x14] w1) (hE : Boxed w1 (m + 1) 26 (.int .i64 e0))
    (h6 : tmps.getD 6 undef = .pointer (some ⟨m, 0, none⟩)) (h7 : tmps.getD 7 undef = .pointer (some ⟨m + 1, 0, none⟩)) (hR : R (.returned (.tuple #[.agg #[x0, x1, x2, x3, x4, x5, x6, x7, x8, x9, x10, x11, x12, x13, x14], .int .i64 e0])) w1) :
    Leaves Tryz.prog Tryz.f45 tmps R (doorMsg m) .returning w1 := by
  refine leaves_cons (f := 93) (args := #[.pointer (some ⟨m, 0, none⟩), .pointer (some ⟨m + 1, 0, none⟩)]) (by simp) (by simp [go_sem]) ?_
  refine (idle_msg ⟨m, 0, none⟩ ⟨m + 1, 0, none⟩ w1).mono ?_
  rintro e u' w2 ⟨rfl, rfl, rfl⟩
  have k0 := hX.cell 0
  have k1 := hX.cell 1
  have k2 := hX.cell 2
  have k3 := hX.cell 3
  have k4 := hX.cell 4
  have k5 := hX.cell 5
  have k6 := hX.cell 6
  have k7 := hX.cell 7
  have k8 := hX.cell 8
  have k9 := hX.cell 9
  have k10 := hX.cell 10
  have k11 := hX.cell 11
  have k12 := hX.cell 12
  have k13 := hX.cell 13
  have k14 := hX.cell 14
  simp only [List.getElem?_cons_zero, List.getElem?_cons_succ] at k0 k1 k2 k3 k4 k5 k6 k7 k8 k9 k10 k11 k12 k13 k14
  have c2 := hE.cell
  simp only [Array.getD_eq_getD_getElem?] at h6 h7
  simp [Leaves, settle, results, Tryz.results45, go_sem, h6, h7, k0, k1, k2, k3, k4, k5, k6, k7, k8, k9, k10, k11, k12, k13, k14, c2, hR]

def msgF (zs : List Int) : Ms × Int := wholeF (msgP zs 0) zs.length okM m0

set_option maxRecDepth 100000 in
set_option maxHeartbeats 4000000 in
theorem readmsg_any (A : Option Addr) (c n : Nat) (zs : List Int) (hn : zs.length = n) (w : World) (hN : Ns .u8 w w.heap.size A zs) (hby : ∀ z ∈ zs, 0 ≤ z ∧ z ≤ 255) (hc : n ≤ c) (hbig : n ≤ 4294967296) :
    Calls Tryz.prog 45 #[.slice A n c, .func (.func 46) #[] #[], .func (.func 16) #[] #[]] w (GotMsg w.heap.size (msgF zs) w) := by
  have hmf : ∀ (fn : Fn) (first cap : Array Value) (w : World), (Instr.makeFunc fn first cap).run Tryz.prog w = .ok (.func fn first cap) w := fun _ _ _ _ => rfl
  obtain ⟨m, hm⟩ : ∃ m, w.heap.size = m := ⟨_, rfl⟩
  obtain ⟨W, hW⟩ : ∃ W, ((w.alloc (.cells #[.int .i64 0, .int .i64 0, .int .i64 0, .int .i64 0, .int .i64 0, .int .i64 0, .int .i64 0, .int .i64 0, .int .i64 0, .string ⟨#[]⟩, .slice none 0 0, .slice none 0 0, .slice none 0 0, .slice none 0 0, .slice none 0 0] 45)).alloc (.cells #[.int .i64 0] 26)).alloc (.cells #[.slice A n c, .int .i64 0] 116) = W := ⟨_, rfl⟩
  have hX : Bn m 45 [.int .i64 0, .int .i64 0, .int .i64 0, .int .i64 0, .int .i64 0, .int .i64 0, .int .i64 0, .int .i64 0, .int .i64 0, .string ⟨#[]⟩, .slice none 0 0, .slice none 0 0, .slice none 0 0, .slice none 0 0, .slice none 0 0] W := by rw [← hW, ← hm]; exact (Bn.kept (heap_alloc_new _ _) (World.grownBy_alloc _ _ none) (by simp)).kept (World.grownBy_alloc _ _ none) (by simp)
  have hE : Boxed W (m + 1) 26 (.int .i64 0) := by rw [← hW, ← hm]; exact (by simpa using Boxed.new (w.alloc (.cells #[.int .i64 0, .int .i64 0, .int .i64 0, .int .i64 0, .int .i64 0, .int .i64 0, .int .i64 0, .int .i64 0, .int .i64 0, .string ⟨#[]⟩, .slice none 0 0, .slice none 0 0, .slice none 0 0, .slice none 0 0, .slice none 0 0] 45)) 26 (.int .i64 0) : Boxed _ (w.heap.size + 1) _ _).alloc _
  have hr : Rd (m + 1 + 1) A c n 0 W := by
    have h := heap_alloc_new ((w.alloc (.cells #[.int .i64 0, .int .i64 0, .int .i64 0, .int .i64 0, .int .i64 0, .int .i64 0, .int .i64 0, .int .i64 0, .int .i64 0, .string ⟨#[]⟩, .slice none 0 0, .slice none 0 0, .slice none 0 0, .slice none 0 0, .slice none 0 0] 45)).alloc (.cells #[.int .i64 0] 26)) (.cells #[.slice A n c, .int .i64 0] 116)
    rw [hW] at h
    show W.heap[m + 1 + 1]? = some (.cells #[.slice A n c, .int .i64 ((0 : Nat) : Int)] 116 (0, 0))
    rw [← hm]
    simpa using h
  have hbW : Below m w W := by
    rw [← hW, ← hm]
    exact (((Below.refl _ w).alloc (Nat.le_refl _) _).alloc (by simp) _).alloc (by simp; omega) _
  have hsz : W.heap.size = m + 3 := by rw [← hW, ← hm]; simp
  rw [hm] at hN ⊢
  have hs : Src (m + 1 + 1) A c n zs W := ⟨(hN.below hbW).more (by omega), hby, hn, hc, hbig⟩
  have h1 := rmsg_any (m + 1 + 1) A c n 0 zs W hs hr (by omega)
  have hgo := fun (P : Option (Ms × Nat)) (h : msgP zs 0 = P) => (show msgF zs = wholeF P zs.length okM m0 by unfold msgF; rw [h])
  have hmw : m ≤ w.heap.size := by omega
  have HW := Lib.hid hW
  clear hW
  rcases hP : msgP zs 0 with _ | ⟨x, q⟩
  · have hF := hgo _ hP
    rw [hF, wholeF_bad (fun x q h => by cases h)]
    rw [hP] at h1
    have H1 := Lib.hid h1
    have HX := Lib.hid (And.intro hX (And.intro hE hbW))
    clear h1 hP hF hgo hs hX hE hbW hr hN hby
    go_enter_defers Tryz.func45, Tryz.ntmps45
    go_wp2_with fail
    rw [HW.out]
    refine H1.out.mono ?_
    intro e w1 hT
    obtain ⟨hg, rfl⟩ := hT.none
    have x1 := HX.out.1.kept hg (by simp; omega)
    have x2 := HX.out.2.1.kept hg (by simp)
    refine doorm_bad _ _ m (.int .i64 0) (.int .i64 0) (.int .i64 0) (.int .i64 0) (.int .i64 0) (.int .i64 0) (.int .i64 0) (.int .i64 0) (.int .i64 0) (.string ⟨#[]⟩) (.slice none 0 0) (.slice none 0 0) (.slice none 0 0) (.slice none 0 0) (.slice none 0 0) _ w1 x1 x2 rfl rfl fun w2 hb2 => ?_
    exact ⟨pl0, rfl, msgO_zero _ _, (below_of_grown HX.out.2.2 hg (by omega) (by omega)).trans hb2⟩
  · have hF := hgo _ hP
    rw [hP] at h1
    obtain ⟨⟨_, hqn⟩, hks, hrl, hrs⟩ := msgP_gets hby (by omega) (by omega) hP
    rw [hF]
    obtain ⟨kind, ⟨f1, f2⟩, ⟨t1, t2⟩, id, nn, for_, code, key, recs, vec, path, hashes, route⟩ := x
    simp only at hks hrl hrs
    have H1 := Lib.hid h1
    have HX := Lib.hid (And.intro hX (And.intro hE hbW))
    have HN := Lib.hid (And.intro hn hrs)
    have hks' : key.size ≤ 140737488355328 := by omega
    clear h1 hP hF hgo hs hX hE hbW hr hN hby hrs
    go_enter_defers Tryz.func45, Tryz.ntmps45
    go_wp2_with fail
    rw [HW.out]
    refine H1.out.mono ?_
    intro e w1 hT
    obtain ⟨v, rfl, hr1, ⟨⟨⟨A8, c8⟩, ⟨A9, c9⟩, ⟨A10, c10⟩, ⟨A11, c11⟩, ⟨A12, c12⟩⟩, hv, ho⟩, hg⟩ := hT.some
    obtain ⟨n8, e8⟩ : ∃ n, recs.length = n := ⟨_, rfl⟩
    obtain ⟨n9, e9⟩ : ∃ n, vec.length = n := ⟨_, rfl⟩
    obtain ⟨n10, e10⟩ : ∃ n, path.length = n := ⟨_, rfl⟩
    obtain ⟨n11, e11⟩ : ∃ n, hashes.length = n := ⟨_, rfl⟩
    obtain ⟨n12, e12⟩ : ∃ n, route.length = n := ⟨_, rfl⟩
    have hvv : (Value.agg (mcc (kind, (f1, f2), (t1, t2), id, nn, for_, code, key, recs, vec, path, hashes, route) ((A8, c8), (A9, c9), (A10, c10), (A11, c11), (A12, c12))).toArray) = .agg #[.int .i64 kind, .int .i64 f1, .int .i64 f2, .int .i64 t1, .int .i64 t2, .int .i64 id, .int .i64 nn, .int .i64 for_, .int .i64 code, .string key, .slice A8 n8 c8, .slice A9 n9 c9, .slice A10 n10 c10, .slice A11 n11 c11, .slice A12 n12 c12] := by rw [← e8, ← e9, ← e10, ← e11, ← e12]; rfl
    have hv' : v = .agg #[.int .i64 kind, .int .i64 f1, .int .i64 f2, .int .i64 t1, .int .i64 t2, .int .i64 id, .int .i64 nn, .int .i64 for_, .int .i64 code, .string key, .slice A8 n8 c8, .slice A9 n9 c9, .slice A10 n10 c10, .slice A11 n11 c11, .slice A12 n12 c12] := hv.trans hvv
    subst hv'
    have x1 := HX.out.1.kept hg (by simp; omega)
    have x2 := HX.out.2.1.kept hg (by simp)
    have hb1 := below_of_grown HX.out.2.2 hg (by omega) (by omega)
    have k0 := x1.cell 0
    have fr0 := x1.frozen 0
    have k1 := x1.cell 1
    have fr1 := x1.frozen 1
    have k2 := x1.cell 2
    have fr2 := x1.frozen 2
    have k3 := x1.cell 3
    have fr3 := x1.frozen 3
    have k4 := x1.cell 4
    have fr4 := x1.frozen 4
    have k5 := x1.cell 5
    have fr5 := x1.frozen 5
    have k6 := x1.cell 6
    have fr6 := x1.frozen 6
    have k7 := x1.cell 7
    have fr7 := x1.frozen 7
    have k8 := x1.cell 8
    have fr8 := x1.frozen 8
    have k9 := x1.cell 9
    have fr9 := x1.frozen 9
    have k10 := x1.cell 10
    have fr10 := x1.frozen 10
    have k11 := x1.cell 11
    have fr11 := x1.frozen 11
    have k12 := x1.cell 12
    have fr12 := x1.frozen 12
    have k13 := x1.cell 13
    have fr13 := x1.frozen 13
    have k14 := x1.cell 14
    have fr14 := x1.frozen 14
    simp only [List.getElem?_cons_zero, List.getElem?_cons_succ] at k0 k1 k2 k3 k4 k5 k6 k7 k8 k9 k10 k11 k12 k13 k14
    obtain ⟨V, hV⟩ : ∃ V, w1.setCells m 0 [.int .i64 kind, .int .i64 f1, .int .i64 f2, .int .i64 t1, .int .i64 t2, .int .i64 id, .int .i64 nn, .int .i64 for_, .int .i64 code, .string key, .slice A8 n8 c8, .slice A9 n9 c9, .slice A10 n10 c10, .slice A11 n11 c11, .slice A12 n12 c12] = V := ⟨_, rfl⟩
    have hgV : w1.grownBy V (some m) := by rw [← hV]; exact setCells_grown _ _ _ _
    have y1 : Bn m 45 [.int .i64 kind, .int .i64 f1, .int .i64 f2, .int .i64 t1, .int .i64 t2, .int .i64 id, .int .i64 nn, .int .i64 for_, .int .i64 code, .string key, .slice A8 n8 c8, .slice A9 n9 c9, .slice A10 n10 c10, .slice A11 n11 c11, .slice A12 n12 c12] V := by rw [← hV]; exact setCells_all (old := [.int .i64 0, .int .i64 0, .int .i64 0, .int .i64 0, .int .i64 0, .int .i64 0, .int .i64 0, .int .i64 0, .int .i64 0, .string ⟨#[]⟩, .slice none 0 0, .slice none 0 0, .slice none 0 0, .slice none 0 0, .slice none 0 0]) rfl x1
    have y2 : Boxed V (m + 1) 26 (.int .i64 0) := x2.kept hgV (by simp)
    have y3 : Rd (m + 1 + 1) A c n q V := hr1.kept hgV (by simp; omega)
    have hm1 : m ≤ w1.heap.size := by have := x1.lt; omega
    have y4 : Below m w V := hb1.grown hgV hm1 (fun k hk => by injection hk with hk; omega)
    have y5 : MsgO W.heap.size V (kind, (f1, f2), (t1, t2), id, nn, for_, code, key, recs, vec, path, hashes, route) ((A8, c8), (A9, c9), (A10, c10), (A11, c11), (A12, c12)) := ho.keep hgV.size (grown_keep hgV (by omega))
    have hsV : W.heap.size ≤ V.heap.size := Nat.le_trans hg.size hgV.size
    have hV' : ((((((((((((((w1.setCell ⟨m, 0, none⟩ (.int .i64 kind)).setCell ⟨m, 1, none⟩ (.int .i64 f1)).setCell ⟨m, 2, none⟩ (.int .i64 f2)).setCell ⟨m, 3, none⟩ (.int .i64 t1)).setCell ⟨m, 4, none⟩ (.int .i64 t2)).setCell ⟨m, 5, none⟩ (.int .i64 id)).setCell ⟨m, 6, none⟩ (.int .i64 nn)).setCell ⟨m, 7, none⟩ (.int .i64 for_)).setCell ⟨m, 8, none⟩ (.int .i64 code)).setCell ⟨m, 9, none⟩ (.string key)).setCell ⟨m, 10, none⟩ (.slice A8 n8 c8)).setCell ⟨m, 11, none⟩ (.slice A9 n9 c9)).setCell ⟨m, 12, none⟩ (.slice A10 n10 c10)).setCell ⟨m, 13, none⟩ (.slice A11 n11 c11)).setCell ⟨m, 14, none⟩ (.slice A12 n12 c12) = V := hV
    have k0 := y1.cell 0
    have fr0 := y1.frozen 0
    have k1 := y1.cell 1
    have fr1 := y1.frozen 1
    have k2 := y1.cell 2
    have fr2 := y1.frozen 2
    have k3 := y1.cell 3
    have fr3 := y1.frozen 3
    have k4 := y1.cell 4
    have fr4 := y1.frozen 4
    have k5 := y1.cell 5
    have fr5 := y1.frozen 5
    have k6 := y1.cell 6
    have fr6 := y1.frozen 6
    have k7 := y1.cell 7
    have fr7 := y1.frozen 7
    have k8 := y1.cell 8
    have fr8 := y1.frozen 8
    have k9 := y1.cell 9
    have fr9 := y1.frozen 9
    have k10 := y1.cell 10
    have fr10 := y1.frozen 10
    have k11 := y1.cell 11
    have fr11 := y1.frozen 11
    have k12 := y1.cell 12
    have fr12 := y1.frozen 12
    have k13 := y1.cell 13
    have fr13 := y1.frozen 13
    have k14 := y1.cell 14
    have fr14 := y1.frozen 14
    simp only [List.getElem?_cons_zero, List.getElem?_cons_succ] at k0 k1 k2 k3 k4 k5 k6 k7 k8 k9 k10 k11 k12 k13 k14
    have d1 := y3.c1
    have d4 := y2.cell
    have d5 := y2.frozen
    have h2 := rightmsg_any kind f1 f2 t1 t2 id nn for_ code key recs vec path hashes route A8 A9 A10 A11 A12 c8 c9 c10 c11 c12 n8 n9 n10 n11 n12 e8 e9 e10 e11 e12 (by omega) hks' V ((y5.msgI (fun x hx => by have := HN.out.2 x hx; omega)).less (Nat.zero_le _))
    have H2 := Lib.hid h2
    have HV := Lib.hid (And.intro y1 (And.intro y2 (And.intro y4 y5)))
    have HVV := Lib.hid hvv
    clear x1 x2 hb1 y1 y2 y3 y4 y5 h2 hT hr1 ho hg hV hgV hv hvv
    have hnz := HN.out.1
    by_cases hqn : q = n
    · have e1 : ((q : Int) != (n : Int)) = false := by simp [hqn]
      have HQ := Lib.hid hqn
      clear hqn
      by_cases hR : okM (kind, (f1, f2), (t1, t2), id, nn, for_, code, key, recs, vec, path, hashes, route)
      · have hF := wholeF_ok (R := okM) (x0 := m0) (m := zs.length) (P := some ((kind, (f1, f2), (t1, t2), id, nn, for_, code, key, recs, vec, path, hashes, route), q)) rfl (by rw [HQ.out]; exact hnz.symm) hR
        rw [show decide (okM (kind, (f1, f2), (t1, t2), id, nn, for_, code, key, recs, vec, path, hashes, route)) = true from decide_eq_true hR] at H2
        have HF := Lib.hid hF
        clear hF hR
        go_wp2_with fail
        refine H2.out.mono ?_
        rintro e w2 ⟨rfl, hb2⟩
        have lx := HV.out.1.lt
        have le := HV.out.2.1.lt
        have z1 : Bn m 45 [.int .i64 kind, .int .i64 f1, .int .i64 f2, .int .i64 t1, .int .i64 t2, .int .i64 id, .int .i64 nn, .int .i64 for_, .int .i64 code, .string key, .slice A8 n8 c8, .slice A9 n9 c9, .slice A10 n10 c10, .slice A11 n11 c11, .slice A12 n12 c12] w2 := (hb2.block _ lx).trans HV.out.1
        have z2 : Boxed w2 (m + 1) 26 (.int .i64 0) := (hb2.block _ le).trans HV.out.2.1
        have z3 : MsgO W.heap.size w2 (kind, (f1, f2), (t1, t2), id, nn, for_, code, key, recs, vec, path, hashes, route) ((A8, c8), (A9, c9), (A10, c10), (A11, c11), (A12, c12)) := HV.out.2.2.2.keep hb2.size (fun k _ h => hb2.block k h)
        have z4 := HV.out.2.2.1.trans (hb2.mono (by omega))
        have k0 := z1.cell 0
        have fr0 := z1.frozen 0
        have k1 := z1.cell 1
        have fr1 := z1.frozen 1
        have k2 := z1.cell 2
        have fr2 := z1.frozen 2
        have k3 := z1.cell 3
        have fr3 := z1.frozen 3
        have k4 := z1.cell 4
        have fr4 := z1.frozen 4
        have k5 := z1.cell 5
        have fr5 := z1.frozen 5
        have k6 := z1.cell 6
        have fr6 := z1.frozen 6
        have k7 := z1.cell 7
        have fr7 := z1.frozen 7
        have k8 := z1.cell 8
        have fr8 := z1.frozen 8
        have k9 := z1.cell 9
        have fr9 := z1.frozen 9
        have k10 := z1.cell 10
        have fr10 := z1.frozen 10
        have k11 := z1.cell 11
        have fr11 := z1.frozen 11
        have k12 := z1.cell 12
        have fr12 := z1.frozen 12
        have k13 := z1.cell 13
        have fr13 := z1.frozen 13
        have k14 := z1.cell 14
        have fr14 := z1.frozen 14
        simp only [List.getElem?_cons_zero, List.getElem?_cons_succ] at k0 k1 k2 k3 k4 k5 k6 k7 k8 k9 k10 k11 k12 k13 k14
        obtain ⟨U, hU⟩ : ∃ U, w2.setCells m 0 [.int .i64 kind, .int .i64 f1, .int .i64 f2, .int .i64 t1, .int .i64 t2, .int .i64 id, .int .i64 nn, .int .i64 for_, .int .i64 code, .string key, .slice A8 n8 c8, .slice A9 n9 c9, .slice A10 n10 c10, .slice A11 n11 c11, .slice A12 n12 c12] = U := ⟨_, rfl⟩
        have hgU : w2.grownBy U (some m) := by rw [← hU]; exact setCells_grown _ _ _ _
        have u1 : Bn m 45 [.int .i64 kind, .int .i64 f1, .int .i64 f2, .int .i64 t1, .int .i64 t2, .int .i64 id, .int .i64 nn, .int .i64 for_, .int .i64 code, .string key, .slice A8 n8 c8, .slice A9 n9 c9, .slice A10 n10 c10, .slice A11 n11 c11, .slice A12 n12 c12] U := by rw [← hU]; exact setCells_all (old := [.int .i64 kind, .int .i64 f1, .int .i64 f2, .int .i64 t1, .int .i64 t2, .int .i64 id, .int .i64 nn, .int .i64 for_, .int .i64 code, .string key, .slice A8 n8 c8, .slice A9 n9 c9, .slice A10 n10 c10, .slice A11 n11 c11, .slice A12 n12 c12]) rfl z1
        have u2 : Boxed U (m + 1) 26 (.int .i64 0) := z2.kept hgU (by simp)
        have u3 : MsgO W.heap.size U (kind, (f1, f2), (t1, t2), id, nn, for_, code, key, recs, vec, path, hashes, route) ((A8, c8), (A9, c9), (A10, c10), (A11, c11), (A12, c12)) := z3.keep hgU.size (grown_keep hgU (by omega))
        have u4 : Below m w U := z4.grown hgU (by have := z4.size; omega) (fun k hk => by injection hk with hk; omega)
        have hU' : ((((((((((((((w2.setCell ⟨m, 0, none⟩ (.int .i64 kind)).setCell ⟨m, 1, none⟩ (.int .i64 f1)).setCell ⟨m, 2, none⟩ (.int .i64 f2)).setCell ⟨m, 3, none⟩ (.int .i64 t1)).setCell ⟨m, 4, none⟩ (.int .i64 t2)).setCell ⟨m, 5, none⟩ (.int .i64 id)).setCell ⟨m, 6, none⟩ (.int .i64 nn)).setCell ⟨m, 7, none⟩ (.int .i64 for_)).setCell ⟨m, 8, none⟩ (.int .i64 code)).setCell ⟨m, 9, none⟩ (.string key)).setCell ⟨m, 10, none⟩ (.slice A8 n8 c8)).setCell ⟨m, 11, none⟩ (.slice A9 n9 c9)).setCell ⟨m, 12, none⟩ (.slice A10 n10 c10)).setCell ⟨m, 13, none⟩ (.slice A11 n11 c11)).setCell ⟨m, 14, none⟩ (.slice A12 n12 c12) = U := hU
        have c3 := u2.cell
        have c4 := u2.frozen
        obtain ⟨T, hT⟩ : ∃ T, U.setCell ⟨m + 1, 0, none⟩ (.int .i64 0) = T := ⟨_, rfl⟩
        have t1' : Bn m 45 [.int .i64 kind, .int .i64 f1, .int .i64 f2, .int .i64 t1, .int .i64 t2, .int .i64 id, .int .i64 nn, .int .i64 for_, .int .i64 code, .string key, .slice A8 n8 c8, .slice A9 n9 c9, .slice A10 n10 c10, .slice A11 n11 c11, .slice A12 n12 c12] T := by rw [← hT]; exact u1.kept (grown_set1 _ _ _ _) (by simp)
        have t2' : Boxed T (m + 1) 26 (.int .i64 0) := by rw [← hT]; exact u2.set _
        have t3' : MsgO W.heap.size T (kind, (f1, f2), (t1, t2), id, nn, for_, code, key, recs, vec, path, hashes, route) ((A8, c8), (A9, c9), (A10, c10), (A11, c11), (A12, c12)) := by rw [← hT]; exact u3.keep (grown_set1 _ _ _ _).size (grown_keep (grown_set1 _ _ _ _) (by omega))
        have t4' : Below m w T := by rw [← hT]; exact u4.setCell (p := ⟨m + 1, 0, none⟩) (by simp) _
        have HU := Lib.hid (And.intro t1' (And.intro t2' (And.intro t3' t4')))
        clear z1 z2 z3 z4 u1 u2 u3 u4 t1' t2' t3' t4' hb2 hU hgU
        go_wp2_with fail
        first | rw [HF.out] | (have hF2 := HF.out; rw [hnz] at hF2; rw [hF2])
        refine doorm_good _ _ m (.int .i64 kind) (.int .i64 f1) (.int .i64 f2) (.int .i64 t1) (.int .i64 t2) (.int .i64 id) (.int .i64 nn) (.int .i64 for_) (.int .i64 code) (.string key) (.slice A8 n8 c8) (.slice A9 n9 c9) (.slice A10 n10 c10) (.slice A11 n11 c11) (.slice A12 n12 c12) 0 _ HU.out.1 HU.out.2.1 rfl rfl ?_
        exact ⟨((A8, c8), (A9, c9), (A10, c10), (A11, c11), (A12, c12)), by rw [HVV.out], HU.out.2.2.1.less (by omega), HU.out.2.2.2⟩
      · have hF := wholeF_bad (R := okM) (x0 := m0) (m := zs.length) (P := some ((kind, (f1, f2), (t1, t2), id, nn, for_, code, key, recs, vec, path, hashes, route), q)) (fun x r h k => hR (by
          simp only [Option.some.injEq, Prod.mk.injEq] at h
          exact h.1 ▸ k.2))
        rw [show decide (okM (kind, (f1, f2), (t1, t2), id, nn, for_, code, key, recs, vec, path, hashes, route)) = false from decide_eq_false hR] at H2
        have HF := Lib.hid hF
        clear hF hR
        go_wp2_with fail
        refine H2.out.mono ?_
        rintro e w2 ⟨rfl, hb2⟩
        have lx := HV.out.1.lt
        have le := HV.out.2.1.lt
        have z1 : Bn m 45 [.int .i64 kind, .int .i64 f1, .int .i64 f2, .int .i64 t1, .int .i64 t2, .int .i64 id, .int .i64 nn, .int .i64 for_, .int .i64 code, .string key, .slice A8 n8 c8, .slice A9 n9 c9, .slice A10 n10 c10, .slice A11 n11 c11, .slice A12 n12 c12] w2 := (hb2.block _ lx).trans HV.out.1
        have z2 : Boxed w2 (m + 1) 26 (.int .i64 0) := (hb2.block _ le).trans HV.out.2.1
        have z4 := HV.out.2.2.1.trans (hb2.mono (by omega))
        have HZ := Lib.hid (And.intro z1 (And.intro z2 z4))
        clear z1 z2 z4 hb2
        go_wp2_with fail
        refine (giveUp_any _ _).mono ?_
        rintro e w3 ⟨rfl, rfl⟩
        first | rw [HF.out] | (have hF2 := HF.out; rw [hnz] at hF2; rw [hF2])
        refine doorm_bad _ _ m (.int .i64 kind) (.int .i64 f1) (.int .i64 f2) (.int .i64 t1) (.int .i64 t2) (.int .i64 id) (.int .i64 nn) (.int .i64 for_) (.int .i64 code) (.string key) (.slice A8 n8 c8) (.slice A9 n9 c9) (.slice A10 n10 c10) (.slice A11 n11 c11) (.slice A12 n12 c12) _ _ HZ.out.1 HZ.out.2.1 rfl rfl fun w4 hb4 => ?_
        exact ⟨pl0, rfl, msgO_zero _ _, HZ.out.2.2.trans hb4⟩
    · have e1 : ((q : Int) != (n : Int)) = true := by simp; omega
      have hF := wholeF_bad (R := okM) (x0 := m0) (m := zs.length) (P := some ((kind, (f1, f2), (t1, t2), id, nn, for_, code, key, recs, vec, path, hashes, route), q)) (fun x r h k => hqn (by
          have h' : q = r := by injection h with h; injection h
          omega))
      have HF := Lib.hid hF
      clear hF hqn
      go_wp2_with fail
      refine (giveUp_any _ _).mono ?_
      rintro e w3 ⟨rfl, rfl⟩
      first | rw [HF.out] | (have hF2 := HF.out; rw [hnz] at hF2; rw [hF2])
      refine doorm_bad _ _ m (.int .i64 kind) (.int .i64 f1) (.int .i64 f2) (.int .i64 t1) (.int .i64 t2) (.int .i64 id) (.int .i64 nn) (.int .i64 for_) (.int .i64 code) (.string key) (.slice A8 n8 c8) (.slice A9 n9 c9) (.slice A10 n10 c10) (.slice A11 n11 c11) (.slice A12 n12 c12) _ _ HV.out.1 HV.out.2.1 rfl rfl fun w4 hb4 => ?_
      exact ⟨pl0, rfl, msgO_zero _ _, HV.out.2.2.1.trans hb4⟩
end Code
end Go.Proofs.YtegiigeelcnemaaGreat
