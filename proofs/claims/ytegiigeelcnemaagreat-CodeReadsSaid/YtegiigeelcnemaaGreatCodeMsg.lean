/-
  code.Msg: a message read from all of some bytes.
-/
import Derived.Test.YtegiigeelcnemaaGreatCodeReadMsg
import Derived.Test.YtegiigeelcnemaaGreatGFrm
namespace Go.Proofs.YtegiigeelcnemaaGreat
namespace Code
open Go.RowKit Num Span Vers Frm
attribute [local go_sem ↓] Go.wp_at_zero Go.wp_at_succ

/-- What code.Msg tells of some bytes. -/
theorem own_cap' {w : World} {base : Nat} {e : TypeId} {size : Nat} {A : Option Addr} {n c : Nat} {xs : List Value} (h : w.ownsRow base e size (.slice A n c) n xs) : n ≤ c := by
  rcases h.2 with ⟨hv, h0⟩ | ⟨g, cap, cur, he, _, _, hn, _⟩
  · omega
  · injection he with e1 e2 e3
    omega
def msgWF (zs : List Int) : Ms × Int := if (nextF zs 0).2.2 ≠ 0 then (m0, (nextF zs 0).2.2) else if (nextF zs 0).2.1 ≠ zs.length then (m0, 2) else msgF (nextF zs 0).1
theorem results_cell_tmp {fn : Func} {p q : Tmp} {ty : TypeId} (h : fn.results = #[.cell p ty, .tmp q]) (tmps : Array Value) (P : Program) (w : World) :
    (results fn tmps).run P w = ((asAddr (tmps.getD p undef)).run P w).andThen fun a w₁ => ((loadVar ty a).run P w₁).andThen fun v w₂ => .ok (.tuple #[v, tmps.getD q undef]) w₂ := by
  simp only [results, h]
  simp [Sem.run_bind, Result.andThen]

set_option maxRecDepth 100000 in
set_option maxHeartbeats 4000000 in
theorem msg_any (A : Option Addr) (c n : Nat) (zs : List Int) (hn : zs.length = n) (w : World) (hN : Ns .u8 w w.heap.size A zs) (hby : ∀ z ∈ zs, 0 ≤ z ∧ z ≤ 255) (hc : n ≤ c) (hbig : n ≤ 140737488351232) :
    Calls Tryz.prog 18 #[.slice A n c] w (GotMsg w.heap.size (msgWF zs) w) := by
  obtain ⟨m, hm⟩ : ∃ m, w.heap.size = m := ⟨_, rfl⟩
  obtain ⟨W, hW⟩ : ∃ W, w.alloc (.cells #[.int .i64 0, .int .i64 0, .int .i64 0, .int .i64 0, .int .i64 0, .int .i64 0, .int .i64 0, .int .i64 0, .int .i64 0, .string ⟨#[]⟩, .slice none 0 0, .slice none 0 0, .slice none 0 0, .slice none 0 0, .slice none 0 0] 45) = W := ⟨_, rfl⟩
  have hX : Bn m 45 [.int .i64 0, .int .i64 0, .int .i64 0, .int .i64 0, .int .i64 0, .int .i64 0, .int .i64 0, .int .i64 0, .int .i64 0, .string ⟨#[]⟩, .slice none 0 0, .slice none 0 0, .slice none 0 0, .slice none 0 0, .slice none 0 0] W := by rw [← hW, ← hm]; exact heap_alloc_new _ _
  have hbW : Below m w W := by rw [← hW, ← hm]; exact (Below.refl _ w).alloc (Nat.le_refl _) _
  have hsz : W.heap.size = m + 1 := by rw [← hW, ← hm]; simp
  rw [hm] at hN ⊢
  have h1 := next_any A c zs 0 W ((hN.below hbW).more (by omega)) hby (by omega) (by omega) (by omega)
  rw [hn] at h1
  obtain ⟨⟨Y, q, e⟩, hF⟩ : ∃ r, nextF zs 0 = r := ⟨_, rfl⟩
  rw [hF] at h1
  have hG : msgWF zs = if e ≠ 0 then (m0, e) else if q ≠ zs.length then (m0, 2) else msgF Y := by unfold msgWF; rw [hF]
  rw [hn] at hG
  obtain ⟨X, hXe⟩ : ∃ X, W = X := ⟨_, rfl⟩
  have H1 := Lib.hid h1
  have HX := Lib.hid (And.intro hX hbW)
  have HN := Lib.hid (And.intro hN (And.intro hby (And.intro hn (And.intro hF hG))))
  clear h1 hX hbW hN hby hG hn hF hXe X
  go_enter Tryz.func18, Tryz.ntmps18
  go_wp2_with fail
  refine H1.out.mono ?_
  rintro e1 w1 ⟨A1, c1, rfl, o1, b1⟩
  obtain ⟨yl, hyl⟩ : ∃ yl, Y.length = yl := ⟨_, rfl⟩
  rw [show (Y, q, e).1 = Y from rfl, hyl] at o1
  rw [show (Y, q, e).1.length = yl from hyl]
  have x1 : Bn m 45 [.int .i64 0, .int .i64 0, .int .i64 0, .int .i64 0, .int .i64 0, .int .i64 0, .int .i64 0, .int .i64 0, .int .i64 0, .string ⟨#[]⟩, .slice none 0 0, .slice none 0 0, .slice none 0 0, .slice none 0 0, .slice none 0 0] w1 := HX.out.1.below b1 HX.out.1.lt
  have b2 : Below m w w1 := HX.out.2.trans (b1.mono (by omega))
  have hsz1 := b1.size
  have k0 := x1.cell 0
  have fr0 := x1.frozen 0
  have k1 := x1.cell 1
  have fr1 := x1.frozen 1
  have k2 := x1.cell 2
  have fr2 := x1.frozen 2
  have k3 := x1.cell 3
  have fr3 := x1.frozen 3
  have k4 := x1.cell 4
  have fr4 := x1.frozen 4
  have k5 := x1.cell 5
  have fr5 := x1.frozen 5
  have k6 := x1.cell 6
  have fr6 := x1.frozen 6
  have k7 := x1.cell 7
  have fr7 := x1.frozen 7
  have k8 := x1.cell 8
  have fr8 := x1.frozen 8
  have k9 := x1.cell 9
  have fr9 := x1.frozen 9
  have k10 := x1.cell 10
  have fr10 := x1.frozen 10
  have k11 := x1.cell 11
  have fr11 := x1.frozen 11
  have k12 := x1.cell 12
  have fr12 := x1.frozen 12
  have k13 := x1.cell 13
  have fr13 := x1.frozen 13
  have k14 := x1.cell 14
  have fr14 := x1.frozen 14
  simp only [List.getElem?_cons_zero, List.getElem?_cons_succ] at k0 k1 k2 k3 k4 k5 k6 k7 k8 k9 k10 k11 k12 k13 k14
  by_cases he : e = 0
  · subst he
    have hy := next_ok HN.out.2.1 HN.out.2.2.2.1
    by_cases hq : q = n
    · have e2 : ((q : Int) != (n : Int)) = false := by simp [hq]
      obtain ⟨R, hR⟩ : ∃ R, msgF Y = R := ⟨_, rfl⟩
      have hG : msgWF zs = R := by rw [HN.out.2.2.2.2, if_neg (by simp), if_neg (by simp [hq]), hR]
      have h2 := readmsg_any A1 c1 yl Y hyl w1 (own_ns (by rw [hyl]; exact o1)) hy.2.2.2.2 (own_cap' o1) (by have := hy.2.2.2.1; omega)
      rw [hR] at h2
      obtain ⟨⟨kind, ⟨f1, f2⟩, ⟨t1, t2⟩, id, nn, for_, code, key, recs, vec, path, hashes, route⟩, er⟩ := R
      have H2 := Lib.hid h2
      have HZ := Lib.hid (And.intro x1 (And.intro b2 hG))
      clear h2 x1 b2 hG o1 b1 hR hy H1 hq
      go_wp2_with fail
      refine H2.out.mono ?_
      rintro e3 w2 ⟨⟨⟨A8, c8⟩, ⟨A9, c9⟩, ⟨A10, c10⟩, ⟨A11, c11⟩, ⟨A12, c12⟩⟩, hv, ho, hb2⟩
      obtain ⟨n8, e8⟩ : ∃ n, recs.length = n := ⟨_, rfl⟩
      obtain ⟨n9, e9⟩ : ∃ n, vec.length = n := ⟨_, rfl⟩
      obtain ⟨n10, e10⟩ : ∃ n, path.length = n := ⟨_, rfl⟩
      obtain ⟨n11, e11⟩ : ∃ n, hashes.length = n := ⟨_, rfl⟩
      obtain ⟨n12, e12⟩ : ∃ n, route.length = n := ⟨_, rfl⟩
      have hvv : (Value.agg (mcc (kind, (f1, f2), (t1, t2), id, nn, for_, code, key, recs, vec, path, hashes, route) ((A8, c8), (A9, c9), (A10, c10), (A11, c11), (A12, c12))).toArray) = .agg #[.int .i64 kind, .int .i64 f1, .int .i64 f2, .int .i64 t1, .int .i64 t2, .int .i64 id, .int .i64 nn, .int .i64 for_, .int .i64 code, .string key, .slice A8 n8 c8, .slice A9 n9 c9, .slice A10 n10 c10, .slice A11 n11 c11, .slice A12 n12 c12] := by rw [← e8, ← e9, ← e10, ← e11, ← e12]; rfl
      have hv' : e3 = .returned (.tuple #[.agg #[.int .i64 kind, .int .i64 f1, .int .i64 f2, .int .i64 t1, .int .i64 t2, .int .i64 id, .int .i64 nn, .int .i64 for_, .int .i64 code, .string key, .slice A8 n8 c8, .slice A9 n9 c9, .slice A10 n10 c10, .slice A11 n11 c11, .slice A12 n12 c12], .int .i64 er]) := hv.trans (by rw [hvv])
      subst hv'
      have x2 : Bn m 45 [.int .i64 0, .int .i64 0, .int .i64 0, .int .i64 0, .int .i64 0, .int .i64 0, .int .i64 0, .int .i64 0, .int .i64 0, .string ⟨#[]⟩, .slice none 0 0, .slice none 0 0, .slice none 0 0, .slice none 0 0, .slice none 0 0] w2 := HZ.out.1.below hb2 HZ.out.1.lt
      have hb3 := HZ.out.2.1.trans (hb2.mono (by omega))
      have k0 := x2.cell 0
      have fr0 := x2.frozen 0
      have k1 := x2.cell 1
      have fr1 := x2.frozen 1
      have k2 := x2.cell 2
      have fr2 := x2.frozen 2
      have k3 := x2.cell 3
      have fr3 := x2.frozen 3
      have k4 := x2.cell 4
      have fr4 := x2.frozen 4
      have k5 := x2.cell 5
      have fr5 := x2.frozen 5
      have k6 := x2.cell 6
      have fr6 := x2.frozen 6
      have k7 := x2.cell 7
      have fr7 := x2.frozen 7
      have k8 := x2.cell 8
      have fr8 := x2.frozen 8
      have k9 := x2.cell 9
      have fr9 := x2.frozen 9
      have k10 := x2.cell 10
      have fr10 := x2.frozen 10
      have k11 := x2.cell 11
      have fr11 := x2.frozen 11
      have k12 := x2.cell 12
      have fr12 := x2.frozen 12
      have k13 := x2.cell 13
      have fr13 := x2.frozen 13
      have k14 := x2.cell 14
      have fr14 := x2.frozen 14
      simp only [List.getElem?_cons_zero, List.getElem?_cons_succ] at k0 k1 k2 k3 k4 k5 k6 k7 k8 k9 k10 k11 k12 k13 k14
      obtain ⟨X, hX⟩ : ∃ X, w2.setCells m 0 [.int .i64 kind, .int .i64 f1, .int .i64 f2, .int .i64 t1, .int .i64 t2, .int .i64 id, .int .i64 nn, .int .i64 for_, .int .i64 code, .string key, .slice A8 n8 c8, .slice A9 n9 c9, .slice A10 n10 c10, .slice A11 n11 c11, .slice A12 n12 c12] = X := ⟨_, rfl⟩
      have hgX : w2.grownBy X (some m) := by rw [← hX]; exact setCells_grown _ _ _ _
      have y1 : Bn m 45 [.int .i64 kind, .int .i64 f1, .int .i64 f2, .int .i64 t1, .int .i64 t2, .int .i64 id, .int .i64 nn, .int .i64 for_, .int .i64 code, .string key, .slice A8 n8 c8, .slice A9 n9 c9, .slice A10 n10 c10, .slice A11 n11 c11, .slice A12 n12 c12] X := by rw [← hX]; exact setCells_all (old := [.int .i64 0, .int .i64 0, .int .i64 0, .int .i64 0, .int .i64 0, .int .i64 0, .int .i64 0, .int .i64 0, .int .i64 0, .string ⟨#[]⟩, .slice none 0 0, .slice none 0 0, .slice none 0 0, .slice none 0 0, .slice none 0 0]) rfl x2
      have y5 : MsgO w1.heap.size X (kind, (f1, f2), (t1, t2), id, nn, for_, code, key, recs, vec, path, hashes, route) ((A8, c8), (A9, c9), (A10, c10), (A11, c11), (A12, c12)) := ho.keep hgX.size (grown_keep hgX (by omega))
      have y4 : Below m w X := hb3.grown hgX (by have := hb3.size; omega) (fun k hk => by injection hk with hk; omega)
      have hX' : ((((((((((((((w2.setCell ⟨m, 0, none⟩ (.int .i64 kind)).setCell ⟨m, 1, none⟩ (.int .i64 f1)).setCell ⟨m, 2, none⟩ (.int .i64 f2)).setCell ⟨m, 3, none⟩ (.int .i64 t1)).setCell ⟨m, 4, none⟩ (.int .i64 t2)).setCell ⟨m, 5, none⟩ (.int .i64 id)).setCell ⟨m, 6, none⟩ (.int .i64 nn)).setCell ⟨m, 7, none⟩ (.int .i64 for_)).setCell ⟨m, 8, none⟩ (.int .i64 code)).setCell ⟨m, 9, none⟩ (.string key)).setCell ⟨m, 10, none⟩ (.slice A8 n8 c8)).setCell ⟨m, 11, none⟩ (.slice A9 n9 c9)).setCell ⟨m, 12, none⟩ (.slice A10 n10 c10)).setCell ⟨m, 13, none⟩ (.slice A11 n11 c11)).setCell ⟨m, 14, none⟩ (.slice A12 n12 c12) = X := hX
      have j0 := y1.cell 0
      have j1 := y1.cell 1
      have j2 := y1.cell 2
      have j3 := y1.cell 3
      have j4 := y1.cell 4
      have j5 := y1.cell 5
      have j6 := y1.cell 6
      have j7 := y1.cell 7
      have j8 := y1.cell 8
      have j9 := y1.cell 9
      have j10 := y1.cell 10
      have j11 := y1.cell 11
      have j12 := y1.cell 12
      have j13 := y1.cell 13
      have j14 := y1.cell 14
      simp only [List.getElem?_cons_zero, List.getElem?_cons_succ] at j0 j1 j2 j3 j4 j5 j6 j7 j8 j9 j10 j11 j12 j13 j14
      have HE := Lib.hid (And.intro hvv (And.intro (y5.less (show m ≤ w1.heap.size by omega)) y4))
      clear hv hvv ho hb2 x2 hb3 hX hgX y1 y5 y4 H2
      go_wp2_with fail
      refine bodyPost_ret (v := .tuple #[.agg #[.int .i64 kind, .int .i64 f1, .int .i64 f2, .int .i64 t1, .int .i64 t2, .int .i64 id, .int .i64 nn, .int .i64 for_, .int .i64 code, .string key, .slice A8 n8 c8, .slice A9 n9 c9, .slice A10 n10 c10, .slice A11 n11 c11, .slice A12 n12 c12], .int .i64 er]) ?_ rfl ?_
      · rw [results_cell_tmp rfl]
        go_simp
      · rw [HZ.out.2.2]
        exact ⟨((A8, c8), (A9, c9), (A10, c10), (A11, c11), (A12, c12)), by rw [HE.out.1], HE.out.2.1, HE.out.2.2⟩
    · have e2 : ((q : Int) != (n : Int)) = true := by simp; omega
      have hG : msgWF zs = (m0, 2) := by rw [HN.out.2.2.2.2, if_neg (by simp), if_pos hq]
      obtain ⟨X, hX⟩ : ∃ X, w1.setCells m 0 [.int .i64 0, .int .i64 0, .int .i64 0, .int .i64 0, .int .i64 0, .int .i64 0, .int .i64 0, .int .i64 0, .int .i64 0, .string ⟨#[]⟩, .slice none 0 0, .slice none 0 0, .slice none 0 0, .slice none 0 0, .slice none 0 0] = X := ⟨_, rfl⟩
      have hgX : w1.grownBy X (some m) := by rw [← hX]; exact setCells_grown _ _ _ _
      have y1 : Bn m 45 [.int .i64 0, .int .i64 0, .int .i64 0, .int .i64 0, .int .i64 0, .int .i64 0, .int .i64 0, .int .i64 0, .int .i64 0, .string ⟨#[]⟩, .slice none 0 0, .slice none 0 0, .slice none 0 0, .slice none 0 0, .slice none 0 0] X := by rw [← hX]; exact setCells_all (old := [.int .i64 0, .int .i64 0, .int .i64 0, .int .i64 0, .int .i64 0, .int .i64 0, .int .i64 0, .int .i64 0, .int .i64 0, .string ⟨#[]⟩, .slice none 0 0, .slice none 0 0, .slice none 0 0, .slice none 0 0, .slice none 0 0]) rfl x1
      have y4 : Below m w X := b2.grown hgX (by have := b2.size; omega) (fun k hk => by injection hk with hk; omega)
      have hX' : ((((((((((((((w1.setCell ⟨m, 0, none⟩ (.int .i64 0)).setCell ⟨m, 1, none⟩ (.int .i64 0)).setCell ⟨m, 2, none⟩ (.int .i64 0)).setCell ⟨m, 3, none⟩ (.int .i64 0)).setCell ⟨m, 4, none⟩ (.int .i64 0)).setCell ⟨m, 5, none⟩ (.int .i64 0)).setCell ⟨m, 6, none⟩ (.int .i64 0)).setCell ⟨m, 7, none⟩ (.int .i64 0)).setCell ⟨m, 8, none⟩ (.int .i64 0)).setCell ⟨m, 9, none⟩ (.string ⟨#[]⟩)).setCell ⟨m, 10, none⟩ (.slice none 0 0)).setCell ⟨m, 11, none⟩ (.slice none 0 0)).setCell ⟨m, 12, none⟩ (.slice none 0 0)).setCell ⟨m, 13, none⟩ (.slice none 0 0)).setCell ⟨m, 14, none⟩ (.slice none 0 0) = X := hX
      have j0 := y1.cell 0
      have j1 := y1.cell 1
      have j2 := y1.cell 2
      have j3 := y1.cell 3
      have j4 := y1.cell 4
      have j5 := y1.cell 5
      have j6 := y1.cell 6
      have j7 := y1.cell 7
      have j8 := y1.cell 8
      have j9 := y1.cell 9
      have j10 := y1.cell 10
      have j11 := y1.cell 11
      have j12 := y1.cell 12
      have j13 := y1.cell 13
      have j14 := y1.cell 14
      simp only [List.getElem?_cons_zero, List.getElem?_cons_succ] at j0 j1 j2 j3 j4 j5 j6 j7 j8 j9 j10 j11 j12 j13 j14
      have HE := Lib.hid (And.intro y4 hG)
      clear hG x1 b2 o1 b1 H1 hX hgX y1 y4
      go_wp2_with fail
      refine bodyPost_ret (v := .tuple #[.agg #[.int .i64 0, .int .i64 0, .int .i64 0, .int .i64 0, .int .i64 0, .int .i64 0, .int .i64 0, .int .i64 0, .int .i64 0, .string ⟨#[]⟩, .slice none 0 0, .slice none 0 0, .slice none 0 0, .slice none 0 0, .slice none 0 0], .int .i64 2]) ?_ rfl ?_
      · rw [results_cell_tmp rfl]
        go_simp
      · rw [HE.out.2]
        exact ⟨pl0, rfl, msgO_zero _ _, HE.out.1⟩
  · have e2 : (e != 0) = true := by simpa using he
    have hG : msgWF zs = (m0, e) := by rw [HN.out.2.2.2.2, if_pos he]
    obtain ⟨X, hX⟩ : ∃ X, w1.setCells m 0 [.int .i64 0, .int .i64 0, .int .i64 0, .int .i64 0, .int .i64 0, .int .i64 0, .int .i64 0, .int .i64 0, .int .i64 0, .string ⟨#[]⟩, .slice none 0 0, .slice none 0 0, .slice none 0 0, .slice none 0 0, .slice none 0 0] = X := ⟨_, rfl⟩
    have hgX : w1.grownBy X (some m) := by rw [← hX]; exact setCells_grown _ _ _ _
    have y1 : Bn m 45 [.int .i64 0, .int .i64 0, .int .i64 0, .int .i64 0, .int .i64 0, .int .i64 0, .int .i64 0, .int .i64 0, .int .i64 0, .string ⟨#[]⟩, .slice none 0 0, .slice none 0 0, .slice none 0 0, .slice none 0 0, .slice none 0 0] X := by rw [← hX]; exact setCells_all (old := [.int .i64 0, .int .i64 0, .int .i64 0, .int .i64 0, .int .i64 0, .int .i64 0, .int .i64 0, .int .i64 0, .int .i64 0, .string ⟨#[]⟩, .slice none 0 0, .slice none 0 0, .slice none 0 0, .slice none 0 0, .slice none 0 0]) rfl x1
    have y4 : Below m w X := b2.grown hgX (by have := b2.size; omega) (fun k hk => by injection hk with hk; omega)
    have hX' : ((((((((((((((w1.setCell ⟨m, 0, none⟩ (.int .i64 0)).setCell ⟨m, 1, none⟩ (.int .i64 0)).setCell ⟨m, 2, none⟩ (.int .i64 0)).setCell ⟨m, 3, none⟩ (.int .i64 0)).setCell ⟨m, 4, none⟩ (.int .i64 0)).setCell ⟨m, 5, none⟩ (.int .i64 0)).setCell ⟨m, 6, none⟩ (.int .i64 0)).setCell ⟨m, 7, none⟩ (.int .i64 0)).setCell ⟨m, 8, none⟩ (.int .i64 0)).setCell ⟨m, 9, none⟩ (.string ⟨#[]⟩)).setCell ⟨m, 10, none⟩ (.slice none 0 0)).setCell ⟨m, 11, none⟩ (.slice none 0 0)).setCell ⟨m, 12, none⟩ (.slice none 0 0)).setCell ⟨m, 13, none⟩ (.slice none 0 0)).setCell ⟨m, 14, none⟩ (.slice none 0 0) = X := hX
    have j0 := y1.cell 0
    have j1 := y1.cell 1
    have j2 := y1.cell 2
    have j3 := y1.cell 3
    have j4 := y1.cell 4
    have j5 := y1.cell 5
    have j6 := y1.cell 6
    have j7 := y1.cell 7
    have j8 := y1.cell 8
    have j9 := y1.cell 9
    have j10 := y1.cell 10
    have j11 := y1.cell 11
    have j12 := y1.cell 12
    have j13 := y1.cell 13
    have j14 := y1.cell 14
    simp only [List.getElem?_cons_zero, List.getElem?_cons_succ] at j0 j1 j2 j3 j4 j5 j6 j7 j8 j9 j10 j11 j12 j13 j14
    have HE := Lib.hid (And.intro y4 hG)
    clear hG x1 b2 o1 b1 H1 hX hgX y1 y4
    go_wp2_with fail
    refine bodyPost_ret (v := .tuple #[.agg #[.int .i64 0, .int .i64 0, .int .i64 0, .int .i64 0, .int .i64 0, .int .i64 0, .int .i64 0, .int .i64 0, .int .i64 0, .string ⟨#[]⟩, .slice none 0 0, .slice none 0 0, .slice none 0 0, .slice none 0 0, .slice none 0 0], .int .i64 e]) ?_ rfl ?_
    · rw [results_cell_tmp rfl]
      go_simp
    · rw [HE.out.2]
      exact ⟨pl0, rfl, msgO_zero _ _, HE.out.1⟩
end Code
end Go.Proofs.YtegiigeelcnemaaGreat
