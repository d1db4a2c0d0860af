/-
  firthref06.Msg: a message read from some bytes, as the document says.
-/
import Derived.Test.YtegiigeelcnemaaGreatCodeRefMst
import Derived.Test.YtegiigeelcnemaaGreatCodeMsg
import Derived.Test.YtegiigeelcnemaaGreatGFrm
import Derived.Test.YtegiigeelcnemaaGreatCodeRefRight
import Derived.Test.YtegiigeelcnemaaGreatStructRow
import Derived.Deep.DeepCutAuto
import Derived.Deep.CutBlock
namespace Go.Proofs.YtegiigeelcnemaaGreat
namespace Code
open Go.RowKit Num Span Vers Frm
attribute [local go_sem ↓] Go.wp_at_zero Go.wp_at_succ

theorem msg_size (L : List Value) (h : L.length = 15) : (Tryz.prog.info? 45).map (·.size) = some L.toArray.size := by rw [info_msg, List.size_toArray, h]
theorem info_i64 : (Tryz.prog.info? 2).map (fun i => (i.zero, i.size, i.bytes)) = some (some (.int .i64 0), 1, 8) := by kernel_rfl
theorem info_int : (Tryz.prog.info? 3).map (fun i => (i.zero, i.size, i.bytes)) = some (some (.int .i64 0), 1, 8) := by kernel_rfl
theorem info_u64 : (Tryz.prog.info? 95).map (fun i => (i.zero, i.size, i.bytes)) = some (some (.int .u64 0), 1, 8) := by kernel_rfl

/-- A record, with how many versions it has as a letter. -/
theorem qrec_at (R : Nat) (A : Option Addr) (c n p : Nat) (bad : Bool) (zs : List Int) (w : World) (hs : Src R A c n zs w) (hr : Rq R A c n p bad w) (hp : p ≤ n) :
    Calls Tryz.prog 26 #[.pointer (some ⟨R, 0, none⟩)] w (fun e w' => ∃ (key : ByteArray) (A' : Option Addr) (c' m p' : Nat) (b' : Bool), e = .returned (.agg #[.string key, .slice A' m c']) ∧ Rq R A c n p' b' w' ∧ p' ≤ n ∧ w.grownBy w' (some R) ∧
      ∃ l : List Vr, Hid (l.length = m ∧ RcO w.heap.size w' (key, l) (A', c') ∧ (key.size ≤ n ∧ l.length ≤ n) ∧ One (recQ zs) p bad (key, l) p' b')) :=
  (qrec_any R A c n p bad zs w hs hr hp).mono fun _ _ h => by
    obtain ⟨⟨key, l⟩, A', c', p', b', rfl, h1, h2, h3, h4, h5, h6⟩ := h
    exact ⟨key, A', c', l.length, p', b', rfl, h2, h3, h4, l, Lib.hid ⟨rfl, h1, h5, h6⟩⟩
theorem ends_bad {n : Nat} {Y : List Int} {q : Nat} {G : Ms × Int} {x : Ms} {p : Nat} {b : Bool} (hby : ∀ z ∈ Y, 0 ≤ z ∧ z ≤ 255) (hb : Y.length ≤ 4294967296) (hG : G = if q ≠ n then (m0, 2) else msgF Y) (h : One (msgQ Y) 0 false x p b) (hbad : b = true ∨ p ≠ Y.length ∨ q ≠ n ∨ ¬ okM x) : G = (m0, 2) := by
  rw [hG]
  by_cases hq : q = n
  · rw [if_neg (by simp [hq])]
    unfold msgF
    rw [← msgQ_ref hby hb]
    refine wholeF_bad fun y r hy hk => ?_
    rcases hb' : b with _ | _
    · obtain ⟨_, hx⟩ := h.some hb'
      rw [hx] at hy
      simp only [Option.some.injEq, Prod.mk.injEq] at hy
      obtain ⟨rfl, rfl⟩ := hy
      rcases hbad with e | e | e | e
      · rw [hb'] at e; cases e
      · exact e hk.1
      · exact e hq
      · exact e hk.2
    · rcases h.none hb' with e | e
      · cases e
      · rw [e] at hy; cases hy
  · rw [if_pos hq]
theorem ends_ok {n : Nat} {Y : List Int} {q : Nat} {G : Ms × Int} {x : Ms} {p : Nat} (hby : ∀ z ∈ Y, 0 ≤ z ∧ z ≤ 255) (hb : Y.length ≤ 4294967296) (hG : G = if q ≠ n then (m0, 2) else msgF Y) (h : One (msgQ Y) 0 false x p false) (hp : p = Y.length) (hq : q = n) (hR : okM x) : G = (x, 0) := by
  rw [hG, if_neg (by simp [hq])]
  unfold msgF
  rw [← msgQ_ref hby hb, (h.some rfl).2]
  exact wholeF_ok rfl hp hR

set_option maxRecDepth 100000 in
set_option maxHeartbeats 16000000 in
theorem refmsg_any (A : Option Addr) (c n : Nat) (zs : List Int) (hn : zs.length = n) (w : World) (hN : Ns .u8 w w.heap.size A zs) (hby : ∀ z ∈ zs, 0 ≤ z ∧ z ≤ 255) (hc : n ≤ c) (hbig : n ≤ 140737488351232) :
    Calls Tryz.prog 19 #[.slice A n c] w (GotMsg w.heap.size (msgWF zs) w) := by
  obtain ⟨B0, hB0⟩ : ∃ B0, w.heap.size = B0 := ⟨_, rfl⟩
  obtain ⟨W, hW⟩ : ∃ W, w.alloc (.cells #[.int .i64 0, .int .i64 0, .int .i64 0, .int .i64 0, .int .i64 0, .int .i64 0, .int .i64 0, .int .i64 0, .int .i64 0, .string ⟨#[]⟩, .slice none 0 0, .slice none 0 0, .slice none 0 0, .slice none 0 0, .slice none 0 0] 45) = W := ⟨_, rfl⟩
  have hX : Bn B0 45 [.int .i64 0, .int .i64 0, .int .i64 0, .int .i64 0, .int .i64 0, .int .i64 0, .int .i64 0, .int .i64 0, .int .i64 0, .string ⟨#[]⟩, .slice none 0 0, .slice none 0 0, .slice none 0 0, .slice none 0 0, .slice none 0 0] W := by rw [← hW, ← hB0]; exact heap_alloc_new _ _
  have hbW : Below B0 w W := by rw [← hW, ← hB0]; exact (Below.refl _ w).alloc (Nat.le_refl _) _
  have hsz : W.heap.size = B0 + 1 := by rw [← hW, ← hB0]; simp
  rw [hB0] at hN ⊢
  have h1 := ref_next_any A c zs 0 W ((hN.below hbW).more (by omega)) hby (by omega) (by omega) (by omega)
  rw [hn] at h1
  obtain ⟨⟨Y, q, e⟩, hF⟩ : ∃ r, nextF zs 0 = r := ⟨_, rfl⟩
  rw [hF] at h1
  have hG : msgWF zs = if e ≠ 0 then (m0, e) else if q ≠ zs.length then (m0, 2) else msgF Y := by unfold msgWF; rw [hF]
  rw [hn] at hG
  have H1 := Lib.hid h1
  have HX := Lib.hid (And.intro hX hbW)
  have HN := Lib.hid (And.intro hby (And.intro hn (And.intro hF hG)))
  have hBw := Nat.le_of_eq hB0.symm
  have HW := Lib.hid hW
  clear h1 hX hbW hN hby hG hn hF hW
  go_enter Tryz.func19, Tryz.ntmps19
  go_wp2_with fail
  rw [HW.out]
  refine H1.out.mono ?_
  rintro e1 w1 ⟨A1, c1, rfl, o1, b1⟩
  obtain ⟨yl, hyl⟩ : ∃ yl, Y.length = yl := ⟨_, rfl⟩
  rw [show (Y, q, e).1 = Y from rfl, hyl] at o1
  rw [show (Y, q, e).1.length = yl from hyl]
  have x1 : Bn B0 45 [.int .i64 0, .int .i64 0, .int .i64 0, .int .i64 0, .int .i64 0, .int .i64 0, .int .i64 0, .int .i64 0, .int .i64 0, .string ⟨#[]⟩, .slice none 0 0, .slice none 0 0, .slice none 0 0, .slice none 0 0, .slice none 0 0] w1 := HX.out.1.below b1 HX.out.1.lt
  have b2 : Below B0 w w1 := HX.out.2.trans (b1.mono (by omega))
  have hsz1 := b1.size
  have HX1 := Lib.hid (And.intro x1 (And.intro b2 (And.intro o1 hyl)))
  clear x1 b2 b1 o1 hyl H1
  by_cases he : e = 0
  case neg =>
    have e2 : (e != 0) = true := by simpa using he
    obtain ⟨X, hX⟩ : ∃ X, w1.setRow B0 #[.int .i64 0, .int .i64 0, .int .i64 0, .int .i64 0, .int .i64 0, .int .i64 0, .int .i64 0, .int .i64 0, .int .i64 0, .string ⟨#[]⟩, .slice none 0 0, .slice none 0 0, .slice none 0 0, .slice none 0 0, .slice none 0 0] = X := ⟨_, rfl⟩
    have hX0 : X.heap[B0]? = some (.cells #[.int .i64 0, .int .i64 0, .int .i64 0, .int .i64 0, .int .i64 0, .int .i64 0, .int .i64 0, .int .i64 0, .int .i64 0, .string ⟨#[]⟩, .slice none 0 0, .slice none 0 0, .slice none 0 0, .slice none 0 0, .slice none 0 0] 45 (0, 0)) := by rw [← hX]; exact setRow_heap _ _ _ _ _ _ HX1.out.1
    have hgx : w1.grownBy X (some B0) := by rw [← hX]; exact ⟨rfl, rfl, rfl, by simp, fun j _ hj => setRow_other _ _ _ _ (fun e => hj (by rw [e]))⟩
    have HE : Hid (GotMsg B0 (m0, e) w (.returned (.tuple #[.agg #[.int .i64 0, .int .i64 0, .int .i64 0, .int .i64 0, .int .i64 0, .int .i64 0, .int .i64 0, .int .i64 0, .int .i64 0, .string ⟨#[]⟩, .slice none 0 0, .slice none 0 0, .slice none 0 0, .slice none 0 0, .slice none 0 0], .int .i64 e])) X) := Lib.hid ⟨pl0, rfl, msgO_zero _ _, HX1.out.2.1.grown hgx (by omega) (fun j hj => by injection hj with hj; omega)⟩
    have HG : Hid (msgWF zs = (m0, e)) := Lib.hid (by rw [HN.out.2.2.2, if_pos he])
    have HHX := Lib.hid (And.intro hX hX0)
    clear hX hX0 hgx he
    go_wp2_with (first
      | (refine wpList_store_row rfl 45 _ _ rfl B0 #[.int .i64 0, .int .i64 0, .int .i64 0, .int .i64 0, .int .i64 0, .int .i64 0, .int .i64 0, .int .i64 0, .int .i64 0, .string ⟨#[]⟩, .slice none 0 0, .slice none 0 0, .slice none 0 0, .slice none 0 0, .slice none 0 0] rfl rfl 45 _ HX1.out.1 (msg_size [.int .i64 0, .int .i64 0, .int .i64 0, .int .i64 0, .int .i64 0, .int .i64 0, .int .i64 0, .int .i64 0, .int .i64 0, .string ⟨#[]⟩, .slice none 0 0, .slice none 0 0, .slice none 0 0, .slice none 0 0, .slice none 0 0] rfl) rfl (by simp [Value.oneCell']) ?_; rw [HHX.out.1]))
    refine bodyPost_ret (v := .tuple #[.agg #[.int .i64 0, .int .i64 0, .int .i64 0, .int .i64 0, .int .i64 0, .int .i64 0, .int .i64 0, .int .i64 0, .int .i64 0, .string ⟨#[]⟩, .slice none 0 0, .slice none 0 0, .slice none 0 0, .slice none 0 0, .slice none 0 0], .int .i64 e]) ?_ rfl ?_
    · exact results_row_tmp (fn := Tryz.f19) rfl _ _ B0 45 _ _ _ (by rfl) HHX.out.2 Tryz.underlying45 rfl (msg_size [.int .i64 0, .int .i64 0, .int .i64 0, .int .i64 0, .int .i64 0, .int .i64 0, .int .i64 0, .int .i64 0, .int .i64 0, .string ⟨#[]⟩, .slice none 0 0, .slice none 0 0, .slice none 0 0, .slice none 0 0, .slice none 0 0] rfl)
    rw [HG.out]
    exact HE.out
  subst he
  have hy := next_ok HN.out.1 HN.out.2.2.1
  have hyb := hy.2.2.2.1
  obtain ⟨R, hR⟩ : ∃ R, w1.heap.size = R := ⟨_, rfl⟩
  obtain ⟨W2, hW2⟩ : ∃ W2, w1.alloc (.cells #[.slice A1 yl c1, .int .i64 0, .bool false] 67) = W2 := ⟨_, rfl⟩
  have hr2 : Rq R A1 c1 yl 0 false W2 := by
    have h := heap_alloc_new w1 (.cells #[.slice A1 yl c1, .int .i64 0, .bool false] 67)
    rw [hW2, hR] at h
    exact h
  have hgW2 : w1.grownBy W2 none := by rw [← hW2]; exact World.grownBy_alloc _ _ _
  have hs2 : Src R A1 c1 yl Y W2 := ⟨by rw [← hR, ← hW2]; exact (own_ns (by rw [HX1.out.2.2.2]; exact HX1.out.2.2.1)).alloc (Nat.le_refl _) _, hy.2.2.2.2, HX1.out.2.2.2, own_cap' HX1.out.2.2.1, by have := HX1.out.2.2.2; omega⟩
  have hX2 := HX1.out.1.kept hgW2 (by simp)
  have hb2 : Below B0 w W2 := HX1.out.2.1.grown hgW2 (by omega) (fun j hj => by cases hj)
  have hRs : R < W2.heap.size := hr2.lt
  have hBR : B0 < R := by omega
  have HY := Lib.hid (And.intro hs2.2.1 (And.intro hs2.2.2.1 (And.intro hs2.2.2.2.2 (show msgWF zs = if q ≠ n then (m0, 2) else msgF Y by rw [HN.out.2.2.2, if_neg (by simp)]))))
  have h2 := qnum_one R A1 c1 yl 0 false Y W2 hs2 hr2 (by omega)
  have H2 := Lib.hid h2
  have HM0 := Lib.hid (And.intro hs2 (And.intro hX2 hb2))
  have HR2 := Lib.hid (And.intro hR hW2)
  have hyl32 := HY.out.2.2.1
  clear h2 hs2 hr2 hX2 hb2 hgW2 hy hR hW2 hyb
  go_wp2_with fail
  rw [HR2.out.2, HR2.out.1]
  refine H2.out.mono ?_
  rintro e w3 ⟨kind, p1, d1, rfl, hr3, hn1, hg3, hx3, hone⟩
  obtain ⟨Bo, hBo⟩ : ∃ Bo, w3.heap.size = Bo := ⟨_, rfl⟩
  obtain ⟨V1, hV1⟩ : ∃ V1, w3.alloc (.cells #[.int .i64 kind, .int .i64 0, .int .i64 0, .int .i64 0, .int .i64 0, .int .i64 0, .int .i64 0, .int .i64 0, .int .i64 0, .string ⟨#[]⟩, .slice none 0 0, .slice none 0 0, .slice none 0 0, .slice none 0 0, .slice none 0 0] 45) = V1 := ⟨_, rfl⟩
  have hgV1 : w3.grownBy V1 none := by rw [← hV1]; exact World.grownBy_alloc _ _ _
  have hXo : Bn Bo 45 [.int .i64 kind, .int .i64 0, .int .i64 0, .int .i64 0, .int .i64 0, .int .i64 0, .int .i64 0, .int .i64 0, .int .i64 0, .string ⟨#[]⟩, .slice none 0 0, .slice none 0 0, .slice none 0 0, .slice none 0 0, .slice none 0 0] V1 := by rw [← hV1, ← hBo]; exact heap_alloc_new _ _
  have hM : Mst B0 w R A1 c1 yl Y B0 Bo [.int .i64 0, .int .i64 0, .int .i64 0, .int .i64 0, .int .i64 0, .int .i64 0, .int .i64 0, .int .i64 0, .int .i64 0, .string ⟨#[]⟩, .slice none 0 0, .slice none 0 0, .slice none 0 0, .slice none 0 0, .slice none 0 0] [.int .i64 kind, .int .i64 0, .int .i64 0, .int .i64 0, .int .i64 0, .int .i64 0, .int .i64 0, .int .i64 0, .int .i64 0, .string ⟨#[]⟩, .slice none 0 0, .slice none 0 0, .slice none 0 0, .slice none 0 0, .slice none 0 0] (fun _ => True) p1 d1 V1 :=
    ⟨⟨(HM0.out.1.kept hg3 hRs).kept2 hgV1 hr3.lt (fun k hk => by cases hk), hr3.kept hgV1 (by simp), (HM0.out.2.2.grown hg3 (by omega) (fun j hj => by injection hj with hj; omega)).grown hgV1 (by have := hr3.lt; omega) (fun j hj => by cases hj)⟩, ⟨(HM0.out.2.1.kept hg3 (by simp; omega)).kept hgV1 (by simp), hXo⟩, ⟨trivial, clo_true _⟩, Nat.le_refl _, hBR, by have := hr3.lt; omega, hBw⟩
  have HM1 := Lib.hid hM
  have HO1 := Lib.hid (num1_one hone)
  have HV1 := Lib.hid (And.intro hV1 hBo)
  clear hM hXo hgV1 hr3 hg3 hone hV1 hBo H2 HM0
  have hJ := qaddr_one R A1 c1 yl p1 d1 Y V1 HM1.out.1.1 HM1.out.1.2.1 hn1
  have HJ := Lib.hid hJ
  clear hJ
  go_wp2_with fail
  rw [HV1.out.1, HV1.out.2]
  refine HJ.out.mono ?_
  rintro e u ⟨f1, f2, p2, d2, rfl, hr, hn2, hg, hone⟩
  have t := HM1.out.call hg hr
  have k1 := t.2.1.2.cell 1
  have fz1 := t.2.1.2.frozen 1
  have k2 := t.2.1.2.cell 2
  have fz2 := t.2.1.2.frozen 2
  simp only [List.getElem?_cons_zero, List.getElem?_cons_succ] at k1 k2
  obtain ⟨V2, hV⟩ : ∃ V, (u.setCell ⟨Bo, 1, none⟩ (.int .i64 f1)).setCell ⟨Bo, 2, none⟩ (.int .i64 f2) = V := ⟨_, rfl⟩
  have s := ((t.set 1 (.int .i64 f1)).set 2 (.int .i64 f2))
  rw [hV] at s
  simp only [List.set_cons_zero, List.set_cons_succ] at s
  have HM2 := Lib.hid s
  have HO2 := Lib.hid (hone)
  clear s t hr hg hone HJ
  have hJ := qaddr_one R A1 c1 yl p2 d2 Y V2 HM2.out.1.1 HM2.out.1.2.1 hn2
  have HJ := Lib.hid hJ
  clear hJ
  go_wp2_with fail
  clear hV k1 fz1 k2 fz2
  refine HJ.out.mono ?_
  rintro e u ⟨t1, t2, p3, d3, rfl, hr, hn3, hg, hone⟩
  have t := HM2.out.call hg hr
  have k3 := t.2.1.2.cell 3
  have fz3 := t.2.1.2.frozen 3
  have k4 := t.2.1.2.cell 4
  have fz4 := t.2.1.2.frozen 4
  simp only [List.getElem?_cons_zero, List.getElem?_cons_succ] at k3 k4
  obtain ⟨V3, hV⟩ : ∃ V, (u.setCell ⟨Bo, 3, none⟩ (.int .i64 t1)).setCell ⟨Bo, 4, none⟩ (.int .i64 t2) = V := ⟨_, rfl⟩
  have s := ((t.set 3 (.int .i64 t1)).set 4 (.int .i64 t2))
  rw [hV] at s
  simp only [List.set_cons_zero, List.set_cons_succ] at s
  have HM3 := Lib.hid s
  have HO3 := Lib.hid (hone)
  clear s t hr hg hone HJ
  have hJ := qnum_one R A1 c1 yl p3 d3 Y V3 HM3.out.1.1 HM3.out.1.2.1 hn3
  have HJ := Lib.hid hJ
  clear hJ
  go_wp2_with fail
  clear hV k3 fz3 k4 fz4
  refine HJ.out.mono ?_
  rintro e u ⟨idd, p4, d4, rfl, hr, hn4, hg, hx, hone⟩
  have t := HM3.out.call hg hr
  have k5 := t.2.1.2.cell 5
  have fz5 := t.2.1.2.frozen 5
  simp only [List.getElem?_cons_zero, List.getElem?_cons_succ] at k5
  obtain ⟨V4, hV⟩ : ∃ V, u.setCell ⟨Bo, 5, none⟩ (.int .i64 idd) = V := ⟨_, rfl⟩
  have s := (t.set 5 (.int .i64 idd))
  rw [hV] at s
  simp only [List.set_cons_zero, List.set_cons_succ] at s
  have HM4 := Lib.hid s
  have HO4 := Lib.hid (num1_one hone)
  clear s t hr hg hone HJ hx
  have hJ := qnum_one R A1 c1 yl p4 d4 Y V4 HM4.out.1.1 HM4.out.1.2.1 hn4
  have HJ := Lib.hid hJ
  clear hJ
  go_wp2_with fail
  clear hV k5 fz5
  refine HJ.out.mono ?_
  rintro e u ⟨nn, p5, d5, rfl, hr, hn5, hg, hx, hone⟩
  have t := HM4.out.call hg hr
  have k6 := t.2.1.2.cell 6
  have fz6 := t.2.1.2.frozen 6
  simp only [List.getElem?_cons_zero, List.getElem?_cons_succ] at k6
  obtain ⟨V5, hV⟩ : ∃ V, u.setCell ⟨Bo, 6, none⟩ (.int .i64 nn) = V := ⟨_, rfl⟩
  have s := (t.set 6 (.int .i64 nn))
  rw [hV] at s
  simp only [List.set_cons_zero, List.set_cons_succ] at s
  have HM5 := Lib.hid s
  have HO5 := Lib.hid (num1_one hone)
  clear s t hr hg hone HJ hx
  have hJ := qnum_one R A1 c1 yl p5 d5 Y V5 HM5.out.1.1 HM5.out.1.2.1 hn5
  have HJ := Lib.hid hJ
  clear hJ
  go_wp2_with fail
  clear hV k6 fz6
  refine HJ.out.mono ?_
  rintro e u ⟨fo, p6, d6, rfl, hr, hn6, hg, hx, hone⟩
  have t := HM5.out.call hg hr
  have k7 := t.2.1.2.cell 7
  have fz7 := t.2.1.2.frozen 7
  simp only [List.getElem?_cons_zero, List.getElem?_cons_succ] at k7
  obtain ⟨V6, hV⟩ : ∃ V, u.setCell ⟨Bo, 7, none⟩ (.int .i64 fo) = V := ⟨_, rfl⟩
  have s := (t.set 7 (.int .i64 fo))
  rw [hV] at s
  simp only [List.set_cons_zero, List.set_cons_succ] at s
  have HM6 := Lib.hid s
  have HO6 := Lib.hid (num1_one hone)
  clear s t hr hg hone HJ hx
  have hJ := qnum_one R A1 c1 yl p6 d6 Y V6 HM6.out.1.1 HM6.out.1.2.1 hn6
  have HJ := Lib.hid hJ
  clear hJ
  go_wp2_with fail
  clear hV k7 fz7
  refine HJ.out.mono ?_
  rintro e u ⟨co, p7, d7, rfl, hr, hn7, hg, hx, hone⟩
  have t := HM6.out.call hg hr
  have k8 := t.2.1.2.cell 8
  have fz8 := t.2.1.2.frozen 8
  simp only [List.getElem?_cons_zero, List.getElem?_cons_succ] at k8
  obtain ⟨V7, hV⟩ : ∃ V, u.setCell ⟨Bo, 8, none⟩ (.int .i64 co) = V := ⟨_, rfl⟩
  have s := (t.set 8 (.int .i64 co))
  rw [hV] at s
  simp only [List.set_cons_zero, List.set_cons_succ] at s
  have HM7 := Lib.hid s
  have HO7 := Lib.hid (num1_one hone)
  clear s t hr hg hone HJ hx
  have hJ := qtext_one R A1 c1 yl p7 d7 Y V7 HM7.out.1.1 HM7.out.1.2.1 hn7
  have HJ := Lib.hid hJ
  clear hJ
  go_wp2_with fail
  clear hV k8 fz8
  refine HJ.out.mono ?_
  rintro e u ⟨key, p8, d8, rfl, hr, hn8, hg, hks, hone⟩
  have t := HM7.out.call hg hr
  have k9 := t.2.1.2.cell 9
  have fz9 := t.2.1.2.frozen 9
  simp only [List.getElem?_cons_zero, List.getElem?_cons_succ] at k9
  obtain ⟨V8, hV⟩ : ∃ V, u.setCell ⟨Bo, 9, none⟩ (.string key) = V := ⟨_, rfl⟩
  have s := (t.set 9 (.string key))
  rw [hV] at s
  simp only [List.set_cons_zero, List.set_cons_succ] at s
  have HM8 := Lib.hid s
  have HO8 := Lib.hid (hone)
  clear s t hr hg hone HJ
  have hJ := qcount_one R A1 c1 yl p8 d8 Y V8 HM8.out.1.1 HM8.out.1.2.1 hn8
  have HJ := Lib.hid hJ
  clear hJ
  go_wp2_with fail
  clear hV k9 fz9
  refine HJ.out.mono ?_
  rintro e U ⟨M, pc, dc, rfl, hr, hnc, hg, hMn, hst⟩
  have HU := Lib.hid (HM8.out.call hg hr)
  have HC := Lib.hid hst
  clear hr hg hst HJ
  go_upto_block 0 with fail
  go_cut [9] (fun _ V => ∃ (ps : List Pr) (A10 : Option Addr) (c10 n10 p9 : Nat) (d9 : Bool), p9 ≤ yl ∧ n10 ≤ yl ∧ Hid (Mst B0 w R A1 c1 yl Y B0 Bo [.int .i64 0, .int .i64 0, .int .i64 0, .int .i64 0, .int .i64 0, .int .i64 0, .int .i64 0, .int .i64 0, .int .i64 0, .string ⟨#[]⟩, .slice none 0 0, .slice none 0 0, .slice none 0 0, .slice none 0 0, .slice none 0 0] [.int .i64 kind, .int .i64 f1, .int .i64 f2, .int .i64 t1, .int .i64 t2, .int .i64 idd, .int .i64 nn, .int .i64 fo, .int .i64 co, .string key, .slice A10 n10 c10, .slice none 0 0, .slice none 0 0, .slice none 0 0, .slice none 0 0] (fun x => (fun _ => True) x ∧ RowR (Bo + 1) x.heap.size x (.slice A10 n10 c10) ps) p9 d9 V ∧ ps.length = n10 ∧ (∀ p ∈ ps, p.1.1.size ≤ yl ∧ p.1.2.length ≤ yl) ∧ One (cseqP (recQ Y) Y) p8 d8 (ps.map Prod.fst) p9 d9))
  case first =>
    go_wp2_with fail
    obtain ⟨i0, hi0, hz0, hz1, hz2⟩ := info_parts info_rec
    go_loopw [10] (fun q wr => ∃ (k : Nat) (ps : List Pr) (Ai : Option Addr) (ci r : Nat) (b : Bool), q = .int .i64 k ∧ k ≤ M ∧ r ≤ yl ∧ Hid (LsR B0 w R A1 c1 yl Y B0 Bo [.int .i64 0, .int .i64 0, .int .i64 0, .int .i64 0, .int .i64 0, .int .i64 0, .int .i64 0, .int .i64 0, .int .i64 0, .string ⟨#[]⟩, .slice none 0 0, .slice none 0 0, .slice none 0 0, .slice none 0 0, .slice none 0 0] [.int .i64 kind, .int .i64 f1, .int .i64 f2, .int .i64 t1, .int .i64 t2, .int .i64 idd, .int .i64 nn, .int .i64 fo, .int .i64 co, .string key, .slice Ai k ci, .slice none 0 0, .slice none 0 0, .slice none 0 0, .slice none 0 0] U (.slice Ai k ci) ps r b wr ∧ ps.length = k ∧ ∀ p ∈ ps, p.1.1.size ≤ yl ∧ p.1.2.length ≤ yl) ∧
        Hid ((b = false → dc = false ∧ Taking (recQ Y) M pc k (ps.map Prod.fst) r) ∧ (b = true → dc = true ∨ listP (recQ Y) M pc = none))) (fun q _ => M - (intOf q).toNat)
    case atStart => exact ⟨0, [], none, 0, pc, dc, rfl, by omega, hnc, Lib.hid ⟨LsR.start HU.out, rfl, fun p hp => by cases hp⟩, Lib.hid ⟨fun e => ⟨e, taking_start _ _ _⟩, fun e => .inl e⟩⟩
    case round =>
      obtain ⟨k, ps, Ai, ci, r, b, rfl, hkM, hrn, hst, htk⟩ := hrel
      obtain ⟨wq, rfl⟩ : ∃ wq : World, wq = wr := ⟨_, rfl⟩
      obtain ⟨q0, q1, q2⟩ := hst.out.1.1.1.2.1.cell
      by_cases hgo : k < M ∧ b = false
      · obtain ⟨hkm, rfl⟩ := hgo
        obtain ⟨hb2, hT⟩ := htk.out.1 rfl
        have HD : Hid (LsR B0 w R A1 c1 yl Y B0 Bo [.int .i64 0, .int .i64 0, .int .i64 0, .int .i64 0, .int .i64 0, .int .i64 0, .int .i64 0, .int .i64 0, .int .i64 0, .string ⟨#[]⟩, .slice none 0 0, .slice none 0 0, .slice none 0 0, .slice none 0 0, .slice none 0 0] [.int .i64 kind, .int .i64 f1, .int .i64 f2, .int .i64 t1, .int .i64 t2, .int .i64 idd, .int .i64 nn, .int .i64 fo, .int .i64 co, .string key, .slice Ai k ci, .slice none 0 0, .slice none 0 0, .slice none 0 0, .slice none 0 0] U (.slice Ai k ci) ps r false wq.drew) := Lib.hid hst.out.1.drew
        have h3 := qrec_at R A1 c1 yl r false Y wq.drew HD.out.1.1.1 HD.out.1.1.2.1 hrn
        have H3 := Lib.hid h3
        have a0 := HD.out.1.2.1.2.cell 10
        have a1 := HD.out.1.2.1.2.frozen 10
        simp only [List.getElem?_cons_zero, List.getElem?_cons_succ] at a0
        have z1 : (0 : Int) ≤ (k : Int) := by omega
        have z2 : (k : Int) < (M : Int) := by omega
        have ho0 := HD.out.2.1.1
        rw [hst.out.2.1] at ho0
        have HOO := Lib.hid ho0
        have HTT := Lib.hid (And.intro hb2 hT)
        have hkU := HD.out.1.2.2.1.1.1
        have hUB := HD.out.2.2
        have h8 := HD.out.1.2.2.2
        have hcf : ∀ (a : Array Value) (w : World), (callFunc 26 a).run Tryz.prog w = .ok (.enter 26 a) w := fun a w => by simp [go_sem]
        clear h3 hb2 hT ho0 htk
        go_wp2_with fail
        go_region_law (first
          | (refine step_call (by rfl) 26 _ _ (by rfl) (hcf _ _) #[.pointer (some ⟨R, 0, none⟩)] (by simp [Act.eval, Act.put]) (H3.out) (fun e w' h => by obtain ⟨_, _, _, _, _, _, rfl, _⟩ := h; exact ⟨_, rfl⟩) ?_; rintro v2 w2 ⟨rk, A5, c5, m5, r1, b1, hv2, hr1, hn1, hg1, rl, hH⟩; injection hv2 with hv2; subst hv2; have q3 := (HD.out.1.call hg1 hr1).2.1.2.cell 10; have q4 := ((HD.out.1.call hg1 hr1).alloc (.cells #[.string rk, .slice A5 m5 c5] 24)).2.1.2.cell 10; simp only [List.getElem?_cons_zero, List.getElem?_cons_succ] at q3 q4)
          | (refine step_append_lies _ (by rfl) _ _ _ (by rfl) U.heap.size 24 i0 _ 2 40 Tryz.underlying37 hi0 hz0 hz1 hz2 (by rfl) (by omega) (.slice Ai k ci) k (rcs ps) (by rfl) ((HOO.out.kept hg1 (own_apart HOO.out (by omega))).alloc _) ⟨w2.heap.size, 0, none⟩ 1 1 [.string rk, .slice A5 m5 c5] (by rfl) (by rfl) (World.news_of_block (heap_alloc_new w2 _)) (by simp [Value.oneCell']) (by omega) (by unfold maxLen; omega) (by omega) (by have := hg1.size; simp only [World.size_alloc]; have : wq.drew.heap.size = wq.heap.size := rfl; omega) (w2.heap.size + 1) (by simp) ?_; intro g7 cap7 w7 o7 gr7 at7 hl7; have L7 := ((HD.out.1.call hg1 hr1).alloc (.cells #[.string rk, .slice A5 m5 c5] 24)).2.1.2.kept gr7 (own_far HOO.out (by omega)); have r5 := L7.cell 10; have r6 := L7.frozen 10; simp only [List.getElem?_cons_zero, List.getElem?_cons_succ] at r5))
        all_goals
          have L8 := HD.out.add2 (i := 10) hst.out.2.1 hg1 hr1 hH o7 gr7 at7
          simp only [List.set_cons_zero, List.set_cons_succ] at L8
          have HL8 := Lib.hid L8
          have hby := HY.out.1
          have hyn := HY.out.2.1
          have hyb := HY.out.2.2.1
          have HT2 : Hid ((b1 = false → dc = false ∧ Taking (recQ Y) M pc (k + 1) ((ps ++ [((rk, rl), A5, c5)]).map Prod.fst) r1) ∧ (b1 = true → dc = true ∨ listP (recQ Y) M pc = none)) := Lib.hid ⟨fun e => by
              have hq := (hH.out.2.2.2.some e).2
              refine ⟨HTT.out.1, ?_⟩
              rw [List.map_append]
              exact taking_more HTT.out.2 hkm hq ((par_recQ hby (by omega)).goes _ _ _ (by omega) hq).1, fun e => .inr (taking_none HTT.out.2 hkm ((hH.out.2.2.2.none e).resolve_left (by simp)))⟩
          have HP2 : Hid ((ps ++ [((rk, rl), A5, c5)]).length = k + 1 ∧ ∀ p ∈ ps ++ [((rk, rl), A5, c5)], p.1.1.size ≤ yl ∧ p.1.2.length ≤ yl) := Lib.hid ⟨by rw [List.length_append, hst.out.2.1]; rfl, fun p hp => by
              rcases List.mem_append.1 hp with hp | hp
              · exact hst.out.2.2 p hp
              · obtain rfl := List.mem_singleton.1 hp
                exact hH.out.2.2.1⟩
          clear L8 L7 hby hyn hyb
          go_wp2_with fail
          exact ⟨⟨k + 1, _, some ⟨g7, 0, none⟩, cap7, r1, b1, rfl, by omega, hn1, Lib.hid ⟨HL8.out, HP2.out⟩, HT2⟩, by simp only [intOf]; omega⟩
      · have hfin : b = false → k = M := fun hb => by
          rcases Nat.lt_or_ge k M with h | h
          · exact absurd ⟨h, hb⟩ hgo
          · omega
        have HF : Hid (∃ (ps : List Pr) (A10 : Option Addr) (c10 n10 p9 : Nat) (d9 : Bool), p9 ≤ yl ∧ n10 ≤ yl ∧ Hid (Mst B0 w R A1 c1 yl Y B0 Bo [.int .i64 0, .int .i64 0, .int .i64 0, .int .i64 0, .int .i64 0, .int .i64 0, .int .i64 0, .int .i64 0, .int .i64 0, .string ⟨#[]⟩, .slice none 0 0, .slice none 0 0, .slice none 0 0, .slice none 0 0, .slice none 0 0] [.int .i64 kind, .int .i64 f1, .int .i64 f2, .int .i64 t1, .int .i64 t2, .int .i64 idd, .int .i64 nn, .int .i64 fo, .int .i64 co, .string key, .slice A10 n10 c10, .slice none 0 0, .slice none 0 0, .slice none 0 0, .slice none 0 0] (fun x => (fun _ => True) x ∧ RowR (Bo + 1) x.heap.size x (.slice A10 n10 c10) ps) p9 d9 wq ∧ ps.length = n10 ∧ (∀ p ∈ ps, p.1.1.size ≤ yl ∧ p.1.2.length ≤ yl) ∧ One (cseqP (recQ Y) Y) p8 d8 (ps.map Prod.fst) p9 d9)) :=
          Lib.hid ⟨ps, Ai, ci, k, r, b, hrn, by omega, Lib.hid ⟨LsR.done HU.out hst.out.1, hst.out.2.1, hst.out.2.2, one_list (HC.out.imp id fun h => ⟨h.1, h.2.2⟩) htk.out.1 htk.out.2 hfin⟩⟩
        by_cases hk : k < M
        · have hbt : b = true := by
            cases b
            · exact absurd ⟨hk, rfl⟩ hgo
            · rfl
          subst hbt
          have z2 : (k : Int) < (M : Int) := by omega
          clear hst htk
          go_wp2_with fail
          go_meet
          exact HF.out
        · have z2 : decide ((k : Int) < (M : Int)) = false := decide_eq_false (by omega)
          clear hst htk
          go_wp2_with fail
          go_meet
          exact HF.out
  obtain ⟨ps, A10, c10, n10, p9, d9, hn9, hl10, hM⟩ := hcut
  obtain ⟨V9, rfl⟩ : ∃ V : World, V = wc := ⟨_, rfl⟩
  have HM9 := Lib.hid hM.out.1
  have HQ9 := Lib.hid hM.out.2
  clear hM HU HC
  have hJ := qcount_one R A1 c1 yl p9 d9 Y V9 HM9.out.1.1 HM9.out.1.2.1 hn9
  have HJ := Lib.hid hJ
  clear hJ
  go_wp2_with fail
  refine HJ.out.mono ?_
  rintro e U ⟨M, pc, dc, rfl, hr, hnc, hg, hMn, hst⟩
  have HU := Lib.hid (HM9.out.call hg hr)
  have HC := Lib.hid hst
  clear hr hg hst HJ
  go_upto_block 2 with fail
  go_cut [9] (fun _ V => ∃ (vec : List Int) (A11 : Option Addr) (c11 n11 p10 : Nat) (d10 : Bool), p10 ≤ yl ∧ n11 ≤ yl ∧ Hid (Mst B0 w R A1 c1 yl Y B0 Bo [.int .i64 0, .int .i64 0, .int .i64 0, .int .i64 0, .int .i64 0, .int .i64 0, .int .i64 0, .int .i64 0, .int .i64 0, .string ⟨#[]⟩, .slice none 0 0, .slice none 0 0, .slice none 0 0, .slice none 0 0, .slice none 0 0] [.int .i64 kind, .int .i64 f1, .int .i64 f2, .int .i64 t1, .int .i64 t2, .int .i64 idd, .int .i64 nn, .int .i64 fo, .int .i64 co, .string key, .slice A10 n10 c10, .slice A11 n11 c11, .slice none 0 0, .slice none 0 0, .slice none 0 0] (fun x => (fun x => (fun _ => True) x ∧ RowR (Bo + 1) x.heap.size x (.slice A10 n10 c10) ps) x ∧ x.ownsRow (Bo + 1) 2 1 (.slice A11 n11 c11) n11 (nums .i64 vec)) p10 d10 V ∧ vec.length = n11 ∧ One (cseqP (numP Y) Y) p9 d9 vec p10 d10))
  case first =>
    go_wp2_with fail
    obtain ⟨i0, hi0, hz0, hz1, hz2⟩ := info_parts info_i64
    go_loopw [11] (fun q wr => ∃ (k : Nat) (l : List Int) (Ai : Option Addr) (ci r : Nat) (b : Bool), q = .int .i64 k ∧ k ≤ M ∧ r ≤ yl ∧ Hid (Lst B0 w R A1 c1 yl Y B0 Bo [.int .i64 0, .int .i64 0, .int .i64 0, .int .i64 0, .int .i64 0, .int .i64 0, .int .i64 0, .int .i64 0, .int .i64 0, .string ⟨#[]⟩, .slice none 0 0, .slice none 0 0, .slice none 0 0, .slice none 0 0, .slice none 0 0] [.int .i64 kind, .int .i64 f1, .int .i64 f2, .int .i64 t1, .int .i64 t2, .int .i64 idd, .int .i64 nn, .int .i64 fo, .int .i64 co, .string key, .slice A10 n10 c10, .slice Ai k ci, .slice none 0 0, .slice none 0 0, .slice none 0 0] U 2 (.slice Ai k ci) k (nums .i64 l) r b wr ∧ l.length = k) ∧
        Hid ((b = false → dc = false ∧ Taking (numP Y) M pc k l r) ∧ (b = true → dc = true ∨ listP (numP Y) M pc = none))) (fun q _ => M - (intOf q).toNat)
    case atStart => exact ⟨0, [], none, 0, pc, dc, rfl, by omega, hnc, Lib.hid ⟨Lst.start HU.out _, rfl⟩, Lib.hid ⟨fun e => ⟨e, taking_start _ _ _⟩, fun e => .inl e⟩⟩
    case round =>
      obtain ⟨k, l, Ai, ci, r, b, rfl, hkM, hrn, hst, htk⟩ := hrel
      obtain ⟨wq, rfl⟩ : ∃ wq : World, wq = wr := ⟨_, rfl⟩
      obtain ⟨q0, q1, q2⟩ := hst.out.1.1.1.2.1.cell
      by_cases hgo : k < M ∧ b = false
      · obtain ⟨hkm, rfl⟩ := hgo
        obtain ⟨hb2, hT⟩ := htk.out.1 rfl
        have HD : Hid (Lst B0 w R A1 c1 yl Y B0 Bo [.int .i64 0, .int .i64 0, .int .i64 0, .int .i64 0, .int .i64 0, .int .i64 0, .int .i64 0, .int .i64 0, .int .i64 0, .string ⟨#[]⟩, .slice none 0 0, .slice none 0 0, .slice none 0 0, .slice none 0 0, .slice none 0 0] [.int .i64 kind, .int .i64 f1, .int .i64 f2, .int .i64 t1, .int .i64 t2, .int .i64 idd, .int .i64 nn, .int .i64 fo, .int .i64 co, .string key, .slice A10 n10 c10, .slice Ai k ci, .slice none 0 0, .slice none 0 0, .slice none 0 0] U 2 (.slice Ai k ci) k (nums .i64 l) r false wq.drew) := Lib.hid hst.out.1.drew
        have h3 := qnum_one R A1 c1 yl r false Y wq.drew HD.out.1.1.1 HD.out.1.1.2.1 hrn
        have H3 := Lib.hid h3
        have a0 := HD.out.1.2.1.2.cell 11
        have a1 := HD.out.1.2.1.2.frozen 11
        simp only [List.getElem?_cons_zero, List.getElem?_cons_succ] at a0
        have z1 : (0 : Int) ≤ (k : Int) := by omega
        have z2 : (k : Int) < (M : Int) := by omega
        have HTT := Lib.hid (And.intro hb2 hT)
        have hkU := HD.out.1.2.2.1.1.1
        have hUB := HD.out.2.2
        have h8 := HD.out.1.2.2.2
        have hcf : ∀ (a : Array Value) (w : World), (callFunc 48 a).run Tryz.prog w = .ok (.enter 48 a) w := fun a w => by simp [go_sem]
        clear h3 hb2 hT htk
        go_wp2_with fail
        go_region_law (first
          | (refine step_call (by rfl) 48 _ _ (by rfl) (hcf _ _) #[.pointer (some ⟨R, 0, none⟩)] (by simp [Act.eval, Act.put]) (H3.out) (fun e w' h => by obtain ⟨_, _, _, rfl, _⟩ := h; exact ⟨_, rfl⟩) ?_; rintro v2 w2 ⟨x5, r1, b1, hv2, hr1, hn1, hg1, hx1, hone1⟩; injection hv2 with hv2; subst hv2; have L3 := (HD.out.call hg1 hr1).alloc (.cells #[.int .i64 x5] 2); have q3 := (HD.out.call hg1 hr1).1.2.1.2.cell 11; have q4 := L3.1.2.1.2.cell 11; simp only [List.getElem?_cons_zero, List.getElem?_cons_succ] at q3 q4)
          | (refine step_append_lies _ (by rfl) _ _ _ (by rfl) U.heap.size 2 i0 _ 1 8 Tryz.underlying41 hi0 hz0 hz1 hz2 (by rfl) (by omega) (.slice Ai k ci) k (nums .i64 l) (by rfl) L3.2.1 ⟨w2.heap.size, 0, none⟩ 1 1 [.int .i64 x5] (by rfl) (by rfl) (World.news_of_block (heap_alloc_new w2 _)) (by simp [Value.oneCell']) (by omega) (by unfold maxLen; omega) (by omega) L3.1.2.2.1.1.1 (w2.heap.size + 1) (by simp) ?_; intro g7 cap7 w7 o7 gr7 at7 hl7; have L7 := L3.app gr7 o7; have r5 := L7.1.2.1.2.cell 11; have r6 := L7.1.2.1.2.frozen 11; have L8 := L7.set 11 (.slice (some ⟨g7, 0, none⟩) (k + 1) cap7); simp only [List.getElem?_cons_zero, List.getElem?_cons_succ, List.set_cons_zero, List.set_cons_succ] at r5 L8))
        all_goals
          rw [← nums_snoc] at L8
          have HL8 := Lib.hid L8
          have hby := HY.out.1
          have hyn := HY.out.2.1
          have hyb := HY.out.2.2.1
          have HT2 : Hid ((b1 = false → dc = false ∧ Taking (numP Y) M pc (k + 1) (l ++ [x5]) r1) ∧ (b1 = true → dc = true ∨ listP (numP Y) M pc = none)) := Lib.hid ⟨fun e => by
              have hq := ((num1_one hone1).some e).2
              exact ⟨HTT.out.1, taking_more HTT.out.2 hkm hq ((par_num hby).goes _ _ _ (by omega) hq).1⟩, fun e => .inr (taking_none HTT.out.2 hkm (((num1_one hone1).none e).resolve_left (by simp)))⟩
          have HP2 : Hid ((l ++ [x5]).length = k + 1) := Lib.hid (by rw [List.length_append, hst.out.2]; rfl)
          clear L8 L7 L3 hby hyn hyb
          go_wp2_with fail
          exact ⟨⟨k + 1, _, some ⟨g7, 0, none⟩, cap7, r1, b1, rfl, by omega, hn1, Lib.hid ⟨HL8.out, HP2.out⟩, HT2⟩, by simp only [intOf]; omega⟩
      · have hfin : b = false → k = M := fun hb => by
          rcases Nat.lt_or_ge k M with h | h
          · exact absurd ⟨h, hb⟩ hgo
          · omega
        have HF : Hid (∃ (vec : List Int) (A11 : Option Addr) (c11 n11 p10 : Nat) (d10 : Bool), p10 ≤ yl ∧ n11 ≤ yl ∧ Hid (Mst B0 w R A1 c1 yl Y B0 Bo [.int .i64 0, .int .i64 0, .int .i64 0, .int .i64 0, .int .i64 0, .int .i64 0, .int .i64 0, .int .i64 0, .int .i64 0, .string ⟨#[]⟩, .slice none 0 0, .slice none 0 0, .slice none 0 0, .slice none 0 0, .slice none 0 0] [.int .i64 kind, .int .i64 f1, .int .i64 f2, .int .i64 t1, .int .i64 t2, .int .i64 idd, .int .i64 nn, .int .i64 fo, .int .i64 co, .string key, .slice A10 n10 c10, .slice A11 n11 c11, .slice none 0 0, .slice none 0 0, .slice none 0 0] (fun x => (fun x => (fun _ => True) x ∧ RowR (Bo + 1) x.heap.size x (.slice A10 n10 c10) ps) x ∧ x.ownsRow (Bo + 1) 2 1 (.slice A11 n11 c11) n11 (nums .i64 vec)) p10 d10 wq ∧ vec.length = n11 ∧ One (cseqP (numP Y) Y) p9 d9 vec p10 d10)) :=
          Lib.hid ⟨l, Ai, ci, k, r, b, hrn, by omega, Lib.hid ⟨Lst.done HU.out hst.out.1, hst.out.2, one_list (HC.out.imp id fun h => ⟨h.1, h.2.2⟩) htk.out.1 htk.out.2 hfin⟩⟩
        by_cases hk : k < M
        · have hbt : b = true := by
            cases b
            · exact absurd ⟨hk, rfl⟩ hgo
            · rfl
          subst hbt
          have z2 : (k : Int) < (M : Int) := by omega
          clear hst htk
          go_wp2_with fail
          go_meet
          exact HF.out
        · have z2 : decide ((k : Int) < (M : Int)) = false := decide_eq_false (by omega)
          clear hst htk
          go_wp2_with fail
          go_meet
          exact HF.out
  obtain ⟨vec, A11, c11, n11, p10, d10, hn10, hl11, hM⟩ := hcut
  obtain ⟨V10, rfl⟩ : ∃ V : World, V = wc := ⟨_, rfl⟩
  have HM10 := Lib.hid hM.out.1
  have HQ10 := Lib.hid hM.out.2
  clear hM HU HC
  have hJ := qcount_one R A1 c1 yl p10 d10 Y V10 HM10.out.1.1 HM10.out.1.2.1 hn10
  have HJ := Lib.hid hJ
  clear hJ
  go_wp2_with fail
  refine HJ.out.mono ?_
  rintro e U ⟨M, pc, dc, rfl, hr, hnc, hg, hMn, hst⟩
  have HU := Lib.hid (HM10.out.call hg hr)
  have HC := Lib.hid hst
  clear hr hg hst HJ
  go_upto_block 4 with fail
  go_cut [9] (fun _ V => ∃ (path : List Int) (A12 : Option Addr) (c12 n12 p11 : Nat) (d11 : Bool), p11 ≤ yl ∧ n12 ≤ yl ∧ Hid (Mst B0 w R A1 c1 yl Y B0 Bo [.int .i64 0, .int .i64 0, .int .i64 0, .int .i64 0, .int .i64 0, .int .i64 0, .int .i64 0, .int .i64 0, .int .i64 0, .string ⟨#[]⟩, .slice none 0 0, .slice none 0 0, .slice none 0 0, .slice none 0 0, .slice none 0 0] [.int .i64 kind, .int .i64 f1, .int .i64 f2, .int .i64 t1, .int .i64 t2, .int .i64 idd, .int .i64 nn, .int .i64 fo, .int .i64 co, .string key, .slice A10 n10 c10, .slice A11 n11 c11, .slice A12 n12 c12, .slice none 0 0, .slice none 0 0] (fun x => (fun x => (fun x => (fun _ => True) x ∧ RowR (Bo + 1) x.heap.size x (.slice A10 n10 c10) ps) x ∧ x.ownsRow (Bo + 1) 2 1 (.slice A11 n11 c11) n11 (nums .i64 vec)) x ∧ x.ownsRow (Bo + 1) 3 1 (.slice A12 n12 c12) n12 (nums .i64 path)) p11 d11 V ∧ path.length = n12 ∧ One (cseqP (numP Y) Y) p10 d10 path p11 d11))
  case first =>
    go_wp2_with fail
    obtain ⟨i0, hi0, hz0, hz1, hz2⟩ := info_parts info_int
    go_loopw [12] (fun q wr => ∃ (k : Nat) (l : List Int) (Ai : Option Addr) (ci r : Nat) (b : Bool), q = .int .i64 k ∧ k ≤ M ∧ r ≤ yl ∧ Hid (Lst B0 w R A1 c1 yl Y B0 Bo [.int .i64 0, .int .i64 0, .int .i64 0, .int .i64 0, .int .i64 0, .int .i64 0, .int .i64 0, .int .i64 0, .int .i64 0, .string ⟨#[]⟩, .slice none 0 0, .slice none 0 0, .slice none 0 0, .slice none 0 0, .slice none 0 0] [.int .i64 kind, .int .i64 f1, .int .i64 f2, .int .i64 t1, .int .i64 t2, .int .i64 idd, .int .i64 nn, .int .i64 fo, .int .i64 co, .string key, .slice A10 n10 c10, .slice A11 n11 c11, .slice Ai k ci, .slice none 0 0, .slice none 0 0] U 3 (.slice Ai k ci) k (nums .i64 l) r b wr ∧ l.length = k) ∧
        Hid ((b = false → dc = false ∧ Taking (numP Y) M pc k l r) ∧ (b = true → dc = true ∨ listP (numP Y) M pc = none))) (fun q _ => M - (intOf q).toNat)
    case atStart => exact ⟨0, [], none, 0, pc, dc, rfl, by omega, hnc, Lib.hid ⟨Lst.start HU.out _, rfl⟩, Lib.hid ⟨fun e => ⟨e, taking_start _ _ _⟩, fun e => .inl e⟩⟩
    case round =>
      obtain ⟨k, l, Ai, ci, r, b, rfl, hkM, hrn, hst, htk⟩ := hrel
      obtain ⟨wq, rfl⟩ : ∃ wq : World, wq = wr := ⟨_, rfl⟩
      obtain ⟨q0, q1, q2⟩ := hst.out.1.1.1.2.1.cell
      by_cases hgo : k < M ∧ b = false
      · obtain ⟨hkm, rfl⟩ := hgo
        obtain ⟨hb2, hT⟩ := htk.out.1 rfl
        have HD : Hid (Lst B0 w R A1 c1 yl Y B0 Bo [.int .i64 0, .int .i64 0, .int .i64 0, .int .i64 0, .int .i64 0, .int .i64 0, .int .i64 0, .int .i64 0, .int .i64 0, .string ⟨#[]⟩, .slice none 0 0, .slice none 0 0, .slice none 0 0, .slice none 0 0, .slice none 0 0] [.int .i64 kind, .int .i64 f1, .int .i64 f2, .int .i64 t1, .int .i64 t2, .int .i64 idd, .int .i64 nn, .int .i64 fo, .int .i64 co, .string key, .slice A10 n10 c10, .slice A11 n11 c11, .slice Ai k ci, .slice none 0 0, .slice none 0 0] U 3 (.slice Ai k ci) k (nums .i64 l) r false wq.drew) := Lib.hid hst.out.1.drew
        have h3 := qnum_one R A1 c1 yl r false Y wq.drew HD.out.1.1.1 HD.out.1.1.2.1 hrn
        have H3 := Lib.hid h3
        have a0 := HD.out.1.2.1.2.cell 12
        have a1 := HD.out.1.2.1.2.frozen 12
        simp only [List.getElem?_cons_zero, List.getElem?_cons_succ] at a0
        have z1 : (0 : Int) ≤ (k : Int) := by omega
        have z2 : (k : Int) < (M : Int) := by omega
        have HTT := Lib.hid (And.intro hb2 hT)
        have hkU := HD.out.1.2.2.1.1.1
        have hUB := HD.out.2.2
        have h8 := HD.out.1.2.2.2
        have hcf : ∀ (a : Array Value) (w : World), (callFunc 48 a).run Tryz.prog w = .ok (.enter 48 a) w := fun a w => by simp [go_sem]
        clear h3 hb2 hT htk
        go_wp2_with fail
        go_region_law (first
          | (refine step_call (by rfl) 48 _ _ (by rfl) (hcf _ _) #[.pointer (some ⟨R, 0, none⟩)] (by simp [Act.eval, Act.put]) (H3.out) (fun e w' h => by obtain ⟨_, _, _, rfl, _⟩ := h; exact ⟨_, rfl⟩) ?_; rintro v2 w2 ⟨x5, r1, b1, hv2, hr1, hn1, hg1, hx1, hone1⟩; injection hv2 with hv2; subst hv2; have L3 := (HD.out.call hg1 hr1).alloc (.cells #[.int .i64 x5] 3); have q3 := (HD.out.call hg1 hr1).1.2.1.2.cell 12; have q4 := L3.1.2.1.2.cell 12; simp only [List.getElem?_cons_zero, List.getElem?_cons_succ] at q3 q4)
          | (refine step_append_lies _ (by rfl) _ _ _ (by rfl) U.heap.size 3 i0 _ 1 8 Tryz.underlying42 hi0 hz0 hz1 hz2 (by rfl) (by omega) (.slice Ai k ci) k (nums .i64 l) (by rfl) L3.2.1 ⟨w2.heap.size, 0, none⟩ 1 1 [.int .i64 x5] (by rfl) (by rfl) (World.news_of_block (heap_alloc_new w2 _)) (by simp [Value.oneCell']) (by omega) (by unfold maxLen; omega) (by omega) L3.1.2.2.1.1.1 (w2.heap.size + 1) (by simp) ?_; intro g7 cap7 w7 o7 gr7 at7 hl7; have L7 := L3.app gr7 o7; have r5 := L7.1.2.1.2.cell 12; have r6 := L7.1.2.1.2.frozen 12; have L8 := L7.set 12 (.slice (some ⟨g7, 0, none⟩) (k + 1) cap7); simp only [List.getElem?_cons_zero, List.getElem?_cons_succ, List.set_cons_zero, List.set_cons_succ] at r5 L8))
        all_goals
          rw [← nums_snoc] at L8
          have HL8 := Lib.hid L8
          have hby := HY.out.1
          have hyn := HY.out.2.1
          have hyb := HY.out.2.2.1
          have HT2 : Hid ((b1 = false → dc = false ∧ Taking (numP Y) M pc (k + 1) (l ++ [x5]) r1) ∧ (b1 = true → dc = true ∨ listP (numP Y) M pc = none)) := Lib.hid ⟨fun e => by
              have hq := ((num1_one hone1).some e).2
              exact ⟨HTT.out.1, taking_more HTT.out.2 hkm hq ((par_num hby).goes _ _ _ (by omega) hq).1⟩, fun e => .inr (taking_none HTT.out.2 hkm (((num1_one hone1).none e).resolve_left (by simp)))⟩
          have HP2 : Hid ((l ++ [x5]).length = k + 1) := Lib.hid (by rw [List.length_append, hst.out.2]; rfl)
          clear L8 L7 L3 hby hyn hyb
          go_wp2_with fail
          exact ⟨⟨k + 1, _, some ⟨g7, 0, none⟩, cap7, r1, b1, rfl, by omega, hn1, Lib.hid ⟨HL8.out, HP2.out⟩, HT2⟩, by simp only [intOf]; omega⟩
      · have hfin : b = false → k = M := fun hb => by
          rcases Nat.lt_or_ge k M with h | h
          · exact absurd ⟨h, hb⟩ hgo
          · omega
        have HF : Hid (∃ (path : List Int) (A12 : Option Addr) (c12 n12 p11 : Nat) (d11 : Bool), p11 ≤ yl ∧ n12 ≤ yl ∧ Hid (Mst B0 w R A1 c1 yl Y B0 Bo [.int .i64 0, .int .i64 0, .int .i64 0, .int .i64 0, .int .i64 0, .int .i64 0, .int .i64 0, .int .i64 0, .int .i64 0, .string ⟨#[]⟩, .slice none 0 0, .slice none 0 0, .slice none 0 0, .slice none 0 0, .slice none 0 0] [.int .i64 kind, .int .i64 f1, .int .i64 f2, .int .i64 t1, .int .i64 t2, .int .i64 idd, .int .i64 nn, .int .i64 fo, .int .i64 co, .string key, .slice A10 n10 c10, .slice A11 n11 c11, .slice A12 n12 c12, .slice none 0 0, .slice none 0 0] (fun x => (fun x => (fun x => (fun _ => True) x ∧ RowR (Bo + 1) x.heap.size x (.slice A10 n10 c10) ps) x ∧ x.ownsRow (Bo + 1) 2 1 (.slice A11 n11 c11) n11 (nums .i64 vec)) x ∧ x.ownsRow (Bo + 1) 3 1 (.slice A12 n12 c12) n12 (nums .i64 path)) p11 d11 wq ∧ path.length = n12 ∧ One (cseqP (numP Y) Y) p10 d10 path p11 d11)) :=
          Lib.hid ⟨l, Ai, ci, k, r, b, hrn, by omega, Lib.hid ⟨Lst.done HU.out hst.out.1, hst.out.2, one_list (HC.out.imp id fun h => ⟨h.1, h.2.2⟩) htk.out.1 htk.out.2 hfin⟩⟩
        by_cases hk : k < M
        · have hbt : b = true := by
            cases b
            · exact absurd ⟨hk, rfl⟩ hgo
            · rfl
          subst hbt
          have z2 : (k : Int) < (M : Int) := by omega
          clear hst htk
          go_wp2_with fail
          go_meet
          exact HF.out
        · have z2 : decide ((k : Int) < (M : Int)) = false := decide_eq_false (by omega)
          clear hst htk
          go_wp2_with fail
          go_meet
          exact HF.out
  obtain ⟨path, A12, c12, n12, p11, d11, hn11, hl12, hM⟩ := hcut
  obtain ⟨V11, rfl⟩ : ∃ V : World, V = wc := ⟨_, rfl⟩
  have HM11 := Lib.hid hM.out.1
  have HQ11 := Lib.hid hM.out.2
  clear hM HU HC
  have hJ := qcount_one R A1 c1 yl p11 d11 Y V11 HM11.out.1.1 HM11.out.1.2.1 hn11
  have HJ := Lib.hid hJ
  clear hJ
  go_wp2_with fail
  refine HJ.out.mono ?_
  rintro e U ⟨M, pc, dc, rfl, hr, hnc, hg, hMn, hst⟩
  have HU := Lib.hid (HM11.out.call hg hr)
  have HC := Lib.hid hst
  clear hr hg hst HJ
  go_upto_block 6 with fail
  go_cut [9] (fun _ V => ∃ (hashes : List Int) (A13 : Option Addr) (c13 n13 p12 : Nat) (d12 : Bool), p12 ≤ yl ∧ n13 ≤ yl ∧ Hid (Mst B0 w R A1 c1 yl Y B0 Bo [.int .i64 0, .int .i64 0, .int .i64 0, .int .i64 0, .int .i64 0, .int .i64 0, .int .i64 0, .int .i64 0, .int .i64 0, .string ⟨#[]⟩, .slice none 0 0, .slice none 0 0, .slice none 0 0, .slice none 0 0, .slice none 0 0] [.int .i64 kind, .int .i64 f1, .int .i64 f2, .int .i64 t1, .int .i64 t2, .int .i64 idd, .int .i64 nn, .int .i64 fo, .int .i64 co, .string key, .slice A10 n10 c10, .slice A11 n11 c11, .slice A12 n12 c12, .slice A13 n13 c13, .slice none 0 0] (fun x => (fun x => (fun x => (fun x => (fun _ => True) x ∧ RowR (Bo + 1) x.heap.size x (.slice A10 n10 c10) ps) x ∧ x.ownsRow (Bo + 1) 2 1 (.slice A11 n11 c11) n11 (nums .i64 vec)) x ∧ x.ownsRow (Bo + 1) 3 1 (.slice A12 n12 c12) n12 (nums .i64 path)) x ∧ x.ownsRow (Bo + 1) 95 1 (.slice A13 n13 c13) n13 (nums .u64 hashes)) p12 d12 V ∧ hashes.length = n13 ∧ One (cseqP (hshP Y) Y) p11 d11 hashes p12 d12))
  case first =>
    go_wp2_with fail
    obtain ⟨i0, hi0, hz0, hz1, hz2⟩ := info_parts info_u64
    go_loopw [13] (fun q wr => ∃ (k : Nat) (l : List Int) (Ai : Option Addr) (ci r : Nat) (b : Bool), q = .int .i64 k ∧ k ≤ M ∧ r ≤ yl ∧ Hid (Lst B0 w R A1 c1 yl Y B0 Bo [.int .i64 0, .int .i64 0, .int .i64 0, .int .i64 0, .int .i64 0, .int .i64 0, .int .i64 0, .int .i64 0, .int .i64 0, .string ⟨#[]⟩, .slice none 0 0, .slice none 0 0, .slice none 0 0, .slice none 0 0, .slice none 0 0] [.int .i64 kind, .int .i64 f1, .int .i64 f2, .int .i64 t1, .int .i64 t2, .int .i64 idd, .int .i64 nn, .int .i64 fo, .int .i64 co, .string key, .slice A10 n10 c10, .slice A11 n11 c11, .slice A12 n12 c12, .slice Ai k ci, .slice none 0 0] U 95 (.slice Ai k ci) k (nums .u64 l) r b wr ∧ l.length = k) ∧
        Hid ((b = false → dc = false ∧ Taking (hshP Y) M pc k l r) ∧ (b = true → dc = true ∨ listP (hshP Y) M pc = none))) (fun q _ => M - (intOf q).toNat)
    case atStart => exact ⟨0, [], none, 0, pc, dc, rfl, by omega, hnc, Lib.hid ⟨Lst.start HU.out _, rfl⟩, Lib.hid ⟨fun e => ⟨e, taking_start _ _ _⟩, fun e => .inl e⟩⟩
    case round =>
      obtain ⟨k, l, Ai, ci, r, b, rfl, hkM, hrn, hst, htk⟩ := hrel
      obtain ⟨wq, rfl⟩ : ∃ wq : World, wq = wr := ⟨_, rfl⟩
      obtain ⟨q0, q1, q2⟩ := hst.out.1.1.1.2.1.cell
      by_cases hgo : k < M ∧ b = false
      · obtain ⟨hkm, rfl⟩ := hgo
        obtain ⟨hb2, hT⟩ := htk.out.1 rfl
        have h3 := qnum_one R A1 c1 yl r false Y wq hst.out.1.1.1.1 hst.out.1.1.1.2.1 hrn
        have H3 := Lib.hid h3
        have z1 : (0 : Int) ≤ (k : Int) := by omega
        have z2 : (k : Int) < (M : Int) := by omega
        have HTT := Lib.hid (And.intro hb2 hT)
        have HD := Lib.hid hst.out.1
        clear h3 hb2 hT htk
        go_wp2_with fail
        refine H3.out.mono ?_
        rintro e u1 ⟨x5, r1, b1, rfl, hr1, hn1, hg1, hx1, hone1⟩
        have HD1 := Lib.hid (HD.out.call hg1 hr1)
        have h4 := qnum_one R A1 c1 yl r1 b1 Y u1 HD1.out.1.1.1 HD1.out.1.1.2.1 hn1
        have H4 := Lib.hid h4
        have HN1 := Lib.hid (num1_one hone1)
        clear h4 hr1 hg1 hone1 H3
        go_wp2_with fail
        refine H4.out.mono ?_
        rintro e u2 ⟨x6, r2, b2, rfl, hr2, hn2, hg2, hx2, hone2⟩
        have HD2 := Lib.hid (HD1.out.call hg2 hr2)
        have HN2 := Lib.hid (num1_one hone2)
        clear hr2 hg2 hone2 H4
        have e5 : IntKind.u64.wrap x5 = x5 := Go.IntWalk.u64_in x5 (by omega)
        have e6 : IntKind.u64.wrap x6 = x6 := Go.IntWalk.u64_in x6 (by omega)
        have hby := HY.out.1
        have hyn := HY.out.2.1
        have hyb := HY.out.2.2.1
        have HS5 := Lib.hid (hshP_one HN1.out HN2.out)
        have hkU := HD2.out.1.2.2.1.1.1
        by_cases hh : x5 ≤ 4294967295
        · by_cases hl : x6 ≤ 4294967295
          · have g5 : decide (4294967295 < x5) = false := decide_eq_false (by omega)
            have g6 : decide (4294967295 < x6) = false := decide_eq_false (by omega)
            have HDf := Lib.hid HD2.out
            have a0 := HDf.out.1.2.1.2.cell 13
            have a1 := HDf.out.1.2.1.2.frozen 13
            simp only [List.getElem?_cons_zero, List.getElem?_cons_succ] at a0
            obtain ⟨y7, hy7⟩ : ∃ y, x5 * 4294967296 + x6 = y := ⟨_, rfl⟩
            have HL3 := Lib.hid (HDf.out.alloc (.cells #[.int .u64 y7] 95))
            have hkV := HDf.out.1.2.2.1.1.1
            clear hby
            go_wp2_with (at_builtin; refine wpList_append_lies _ (by rfl) _ _ _ (by rfl) U.heap.size 95 i0 _ 1 8 Tryz.underlying43 hi0 hz0 hz1 hz2 (by rfl) (by omega) (.slice Ai k ci) k (nums .u64 l) (by rfl) HL3.out.2.1 ⟨_, 0, none⟩ 1 1 [.int .u64 y7] (by rfl) (by rfl) (World.news_of_block (heap_alloc_new _ _)) (by simp [Value.oneCell']) (by omega) (by unfold maxLen; omega) (by omega) HL3.out.1.2.2.1.1.1 _ rfl ?_; intro g7 cap7 w7 o7 gr7 at7 hl7; have L7 := HL3.out.app gr7 o7; have r5 := L7.1.2.1.2.cell 13; have r6 := L7.1.2.1.2.frozen 13; have L8 := L7.set 13 (.slice (some ⟨g7, 0, none⟩) (k + 1) cap7); simp only [List.getElem?_cons_zero, List.getElem?_cons_succ, List.set_cons_zero, List.set_cons_succ] at r5 L8; rw [← nums_snoc] at L8; have HL8 := Lib.hid L8; clear L8 L7)
            exact ⟨⟨k + 1, l ++ [y7], some ⟨g7, 0, none⟩, cap7, r2, b2, rfl, by omega, hn2, Lib.hid ⟨HL8.out, by rw [List.length_append, hst.out.2]; rfl⟩, Lib.hid ⟨fun e => by
                have hq := HS5.out.2 e
                rw [if_pos ⟨hh, hl⟩, hy7] at hq
                exact ⟨HTT.out.1, taking_more HTT.out.2 hkm hq (hshP_ok HY.out.1 _ _ _ (by omega) hq).1.1⟩, fun e => .inr (taking_none HTT.out.2 hkm (HS5.out.1 e))⟩⟩, by simp only [intOf]; omega⟩
          · have g5 : decide (4294967295 < x5) = false := decide_eq_false (by omega)
            have g6 : decide (4294967295 < x6) = true := decide_eq_true (by omega)
            have HBAD : Hid (hshP Y r = none) := Lib.hid (by
              rcases hb : b2 with _ | _
              · rw [HS5.out.2 hb, if_neg (by omega)]
              · exact HS5.out.1 hb)

            obtain ⟨y0, y1, y2⟩ := HD2.out.1.1.2.1.cell
            have yf := HD2.out.1.1.2.1.frozen 2
            obtain ⟨u3, hu3⟩ : ∃ u3, u2.setCell ⟨R, 2, none⟩ (.bool true) = u3 := ⟨_, rfl⟩
            have hbd := HD2.out.bad
            rw [hu3] at hbd
            have HDf := Lib.hid hbd
            have a0 := HDf.out.1.2.1.2.cell 13
            have a1 := HDf.out.1.2.1.2.frozen 13
            simp only [List.getElem?_cons_zero, List.getElem?_cons_succ] at a0
            obtain ⟨y7, hy7⟩ : ∃ y, IntKind.u64.wrap (x5 * 4294967296 + x6) = y := ⟨_, rfl⟩
            have HL3 := Lib.hid (HDf.out.alloc (.cells #[.int .u64 y7] 95))
            have hkV := HDf.out.1.2.2.1.1.1
            clear hby
            go_wp2_with (at_builtin; refine wpList_append_lies _ (by rfl) _ _ _ (by rfl) U.heap.size 95 i0 _ 1 8 Tryz.underlying43 hi0 hz0 hz1 hz2 (by rfl) (by omega) (.slice Ai k ci) k (nums .u64 l) (by rfl) HL3.out.2.1 ⟨_, 0, none⟩ 1 1 [.int .u64 y7] (by rfl) (by rfl) (World.news_of_block (heap_alloc_new _ _)) (by simp [Value.oneCell']) (by omega) (by unfold maxLen; omega) (by omega) HL3.out.1.2.2.1.1.1 _ rfl ?_; intro g7 cap7 w7 o7 gr7 at7 hl7; have L7 := HL3.out.app gr7 o7; have r5 := L7.1.2.1.2.cell 13; have r6 := L7.1.2.1.2.frozen 13; have L8 := L7.set 13 (.slice (some ⟨g7, 0, none⟩) (k + 1) cap7); simp only [List.getElem?_cons_zero, List.getElem?_cons_succ, List.set_cons_zero, List.set_cons_succ] at r5 L8; rw [← nums_snoc] at L8; have HL8 := Lib.hid L8; clear L8 L7)
            exact ⟨⟨k + 1, l ++ [y7], some ⟨g7, 0, none⟩, cap7, r2, true, rfl, by omega, hn2, Lib.hid ⟨HL8.out, by rw [List.length_append, hst.out.2]; rfl⟩, Lib.hid ⟨fun e => (by cases e), fun _ => .inr (taking_none HTT.out.2 hkm (HBAD.out))⟩⟩, by simp only [intOf]; omega⟩
        · have g5 : decide (4294967295 < x5) = true := decide_eq_true (by omega)
          have HBAD : Hid (hshP Y r = none) := Lib.hid (by
            rcases hb : b2 with _ | _
            · rw [HS5.out.2 hb, if_neg (by omega)]
            · exact HS5.out.1 hb)

          obtain ⟨y0, y1, y2⟩ := HD2.out.1.1.2.1.cell
          have yf := HD2.out.1.1.2.1.frozen 2
          obtain ⟨u3, hu3⟩ : ∃ u3, u2.setCell ⟨R, 2, none⟩ (.bool true) = u3 := ⟨_, rfl⟩
          have hbd := HD2.out.bad
          rw [hu3] at hbd
          have HDf := Lib.hid hbd
          have a0 := HDf.out.1.2.1.2.cell 13
          have a1 := HDf.out.1.2.1.2.frozen 13
          simp only [List.getElem?_cons_zero, List.getElem?_cons_succ] at a0
          obtain ⟨y7, hy7⟩ : ∃ y, IntKind.u64.wrap (IntKind.u64.wrap (x5 * 4294967296) + x6) = y := ⟨_, rfl⟩
          have HL3 := Lib.hid (HDf.out.alloc (.cells #[.int .u64 y7] 95))
          have hkV := HDf.out.1.2.2.1.1.1
          clear hby
          go_wp2_with (at_builtin; refine wpList_append_lies _ (by rfl) _ _ _ (by rfl) U.heap.size 95 i0 _ 1 8 Tryz.underlying43 hi0 hz0 hz1 hz2 (by rfl) (by omega) (.slice Ai k ci) k (nums .u64 l) (by rfl) HL3.out.2.1 ⟨_, 0, none⟩ 1 1 [.int .u64 y7] (by rfl) (by rfl) (World.news_of_block (heap_alloc_new _ _)) (by simp [Value.oneCell']) (by omega) (by unfold maxLen; omega) (by omega) HL3.out.1.2.2.1.1.1 _ rfl ?_; intro g7 cap7 w7 o7 gr7 at7 hl7; have L7 := HL3.out.app gr7 o7; have r5 := L7.1.2.1.2.cell 13; have r6 := L7.1.2.1.2.frozen 13; have L8 := L7.set 13 (.slice (some ⟨g7, 0, none⟩) (k + 1) cap7); simp only [List.getElem?_cons_zero, List.getElem?_cons_succ, List.set_cons_zero, List.set_cons_succ] at r5 L8; rw [← nums_snoc] at L8; have HL8 := Lib.hid L8; clear L8 L7)
          exact ⟨⟨k + 1, l ++ [y7], some ⟨g7, 0, none⟩, cap7, r2, true, rfl, by omega, hn2, Lib.hid ⟨HL8.out, by rw [List.length_append, hst.out.2]; rfl⟩, Lib.hid ⟨fun e => (by cases e), fun _ => .inr (taking_none HTT.out.2 hkm (HBAD.out))⟩⟩, by simp only [intOf]; omega⟩
      · have hfin : b = false → k = M := fun hb => by
          rcases Nat.lt_or_ge k M with h | h
          · exact absurd ⟨h, hb⟩ hgo
          · omega
        have HF : Hid (∃ (hashes : List Int) (A13 : Option Addr) (c13 n13 p12 : Nat) (d12 : Bool), p12 ≤ yl ∧ n13 ≤ yl ∧ Hid (Mst B0 w R A1 c1 yl Y B0 Bo [.int .i64 0, .int .i64 0, .int .i64 0, .int .i64 0, .int .i64 0, .int .i64 0, .int .i64 0, .int .i64 0, .int .i64 0, .string ⟨#[]⟩, .slice none 0 0, .slice none 0 0, .slice none 0 0, .slice none 0 0, .slice none 0 0] [.int .i64 kind, .int .i64 f1, .int .i64 f2, .int .i64 t1, .int .i64 t2, .int .i64 idd, .int .i64 nn, .int .i64 fo, .int .i64 co, .string key, .slice A10 n10 c10, .slice A11 n11 c11, .slice A12 n12 c12, .slice A13 n13 c13, .slice none 0 0] (fun x => (fun x => (fun x => (fun x => (fun _ => True) x ∧ RowR (Bo + 1) x.heap.size x (.slice A10 n10 c10) ps) x ∧ x.ownsRow (Bo + 1) 2 1 (.slice A11 n11 c11) n11 (nums .i64 vec)) x ∧ x.ownsRow (Bo + 1) 3 1 (.slice A12 n12 c12) n12 (nums .i64 path)) x ∧ x.ownsRow (Bo + 1) 95 1 (.slice A13 n13 c13) n13 (nums .u64 hashes)) p12 d12 wq ∧ hashes.length = n13 ∧ One (cseqP (hshP Y) Y) p11 d11 hashes p12 d12)) :=
          Lib.hid ⟨l, Ai, ci, k, r, b, hrn, by omega, Lib.hid ⟨Lst.done HU.out hst.out.1, hst.out.2, one_list (HC.out.imp id fun h => ⟨h.1, h.2.2⟩) htk.out.1 htk.out.2 hfin⟩⟩
        by_cases hk : k < M
        · have hbt : b = true := by
            cases b
            · exact absurd ⟨hk, rfl⟩ hgo
            · rfl
          subst hbt
          have z2 : (k : Int) < (M : Int) := by omega
          clear hst htk
          go_wp2_with fail
          go_meet
          exact HF.out
        · have z2 : decide ((k : Int) < (M : Int)) = false := decide_eq_false (by omega)
          clear hst htk
          go_wp2_with fail
          go_meet
          exact HF.out
  obtain ⟨hashes, A13, c13, n13, p12, d12, hn12, hl13, hM⟩ := hcut
  obtain ⟨V12, rfl⟩ : ∃ V : World, V = wc := ⟨_, rfl⟩
  have HM12 := Lib.hid hM.out.1
  have HQ12 := Lib.hid hM.out.2
  clear hM HU HC
  have hJ := qcount_one R A1 c1 yl p12 d12 Y V12 HM12.out.1.1 HM12.out.1.2.1 hn12
  have HJ := Lib.hid hJ
  clear hJ
  go_wp2_with fail
  refine HJ.out.mono ?_
  rintro e U ⟨M, pc, dc, rfl, hr, hnc, hg, hMn, hst⟩
  have HU := Lib.hid (HM12.out.call hg hr)
  have HC := Lib.hid hst
  clear hr hg hst HJ
  go_upto_block 8 with fail
  go_cut [9] (fun _ V => ∃ (route : List Int) (A14 : Option Addr) (c14 n14 p13 : Nat) (d13 : Bool), p13 ≤ yl ∧ n14 ≤ yl ∧ Hid (Mst B0 w R A1 c1 yl Y B0 Bo [.int .i64 0, .int .i64 0, .int .i64 0, .int .i64 0, .int .i64 0, .int .i64 0, .int .i64 0, .int .i64 0, .int .i64 0, .string ⟨#[]⟩, .slice none 0 0, .slice none 0 0, .slice none 0 0, .slice none 0 0, .slice none 0 0] [.int .i64 kind, .int .i64 f1, .int .i64 f2, .int .i64 t1, .int .i64 t2, .int .i64 idd, .int .i64 nn, .int .i64 fo, .int .i64 co, .string key, .slice A10 n10 c10, .slice A11 n11 c11, .slice A12 n12 c12, .slice A13 n13 c13, .slice A14 n14 c14] (fun x => (fun x => (fun x => (fun x => (fun x => (fun _ => True) x ∧ RowR (Bo + 1) x.heap.size x (.slice A10 n10 c10) ps) x ∧ x.ownsRow (Bo + 1) 2 1 (.slice A11 n11 c11) n11 (nums .i64 vec)) x ∧ x.ownsRow (Bo + 1) 3 1 (.slice A12 n12 c12) n12 (nums .i64 path)) x ∧ x.ownsRow (Bo + 1) 95 1 (.slice A13 n13 c13) n13 (nums .u64 hashes)) x ∧ x.ownsRow (Bo + 1) 3 1 (.slice A14 n14 c14) n14 (nums .i64 route)) p13 d13 V ∧ route.length = n14 ∧ One (cseqP (numP Y) Y) p12 d12 route p13 d13))
  case first =>
    go_wp2_with fail
    obtain ⟨i0, hi0, hz0, hz1, hz2⟩ := info_parts info_int
    go_loopw [16] (fun q wr => ∃ (k : Nat) (l : List Int) (Ai : Option Addr) (ci r : Nat) (b : Bool), q = .int .i64 k ∧ k ≤ M ∧ r ≤ yl ∧ Hid (Lst B0 w R A1 c1 yl Y B0 Bo [.int .i64 0, .int .i64 0, .int .i64 0, .int .i64 0, .int .i64 0, .int .i64 0, .int .i64 0, .int .i64 0, .int .i64 0, .string ⟨#[]⟩, .slice none 0 0, .slice none 0 0, .slice none 0 0, .slice none 0 0, .slice none 0 0] [.int .i64 kind, .int .i64 f1, .int .i64 f2, .int .i64 t1, .int .i64 t2, .int .i64 idd, .int .i64 nn, .int .i64 fo, .int .i64 co, .string key, .slice A10 n10 c10, .slice A11 n11 c11, .slice A12 n12 c12, .slice A13 n13 c13, .slice Ai k ci] U 3 (.slice Ai k ci) k (nums .i64 l) r b wr ∧ l.length = k) ∧
        Hid ((b = false → dc = false ∧ Taking (numP Y) M pc k l r) ∧ (b = true → dc = true ∨ listP (numP Y) M pc = none))) (fun q _ => M - (intOf q).toNat)
    case atStart => exact ⟨0, [], none, 0, pc, dc, rfl, by omega, hnc, Lib.hid ⟨Lst.start HU.out _, rfl⟩, Lib.hid ⟨fun e => ⟨e, taking_start _ _ _⟩, fun e => .inl e⟩⟩
    case round =>
      obtain ⟨k, l, Ai, ci, r, b, rfl, hkM, hrn, hst, htk⟩ := hrel
      obtain ⟨wq, rfl⟩ : ∃ wq : World, wq = wr := ⟨_, rfl⟩
      obtain ⟨q0, q1, q2⟩ := hst.out.1.1.1.2.1.cell
      by_cases hgo : k < M ∧ b = false
      · obtain ⟨hkm, rfl⟩ := hgo
        obtain ⟨hb2, hT⟩ := htk.out.1 rfl
        have HD : Hid (Lst B0 w R A1 c1 yl Y B0 Bo [.int .i64 0, .int .i64 0, .int .i64 0, .int .i64 0, .int .i64 0, .int .i64 0, .int .i64 0, .int .i64 0, .int .i64 0, .string ⟨#[]⟩, .slice none 0 0, .slice none 0 0, .slice none 0 0, .slice none 0 0, .slice none 0 0] [.int .i64 kind, .int .i64 f1, .int .i64 f2, .int .i64 t1, .int .i64 t2, .int .i64 idd, .int .i64 nn, .int .i64 fo, .int .i64 co, .string key, .slice A10 n10 c10, .slice A11 n11 c11, .slice A12 n12 c12, .slice A13 n13 c13, .slice Ai k ci] U 3 (.slice Ai k ci) k (nums .i64 l) r false wq.drew) := Lib.hid hst.out.1.drew
        have h3 := qnum_one R A1 c1 yl r false Y wq.drew HD.out.1.1.1 HD.out.1.1.2.1 hrn
        have H3 := Lib.hid h3
        have a0 := HD.out.1.2.1.2.cell 14
        have a1 := HD.out.1.2.1.2.frozen 14
        simp only [List.getElem?_cons_zero, List.getElem?_cons_succ] at a0
        have z1 : (0 : Int) ≤ (k : Int) := by omega
        have z2 : (k : Int) < (M : Int) := by omega
        have HTT := Lib.hid (And.intro hb2 hT)
        have hkU := HD.out.1.2.2.1.1.1
        have hUB := HD.out.2.2
        have h8 := HD.out.1.2.2.2
        have hcf : ∀ (a : Array Value) (w : World), (callFunc 48 a).run Tryz.prog w = .ok (.enter 48 a) w := fun a w => by simp [go_sem]
        clear h3 hb2 hT htk
        go_wp2_with fail
        go_region_law (first
          | (refine step_call (by rfl) 48 _ _ (by rfl) (hcf _ _) #[.pointer (some ⟨R, 0, none⟩)] (by simp [Act.eval, Act.put]) (H3.out) (fun e w' h => by obtain ⟨_, _, _, rfl, _⟩ := h; exact ⟨_, rfl⟩) ?_; rintro v2 w2 ⟨x5, r1, b1, hv2, hr1, hn1, hg1, hx1, hone1⟩; injection hv2 with hv2; subst hv2; have L3 := (HD.out.call hg1 hr1).alloc (.cells #[.int .i64 x5] 3); have q3 := (HD.out.call hg1 hr1).1.2.1.2.cell 14; have q4 := L3.1.2.1.2.cell 14; simp only [List.getElem?_cons_zero, List.getElem?_cons_succ] at q3 q4)
          | (refine step_append_lies _ (by rfl) _ _ _ (by rfl) U.heap.size 3 i0 _ 1 8 Tryz.underlying42 hi0 hz0 hz1 hz2 (by rfl) (by omega) (.slice Ai k ci) k (nums .i64 l) (by rfl) L3.2.1 ⟨w2.heap.size, 0, none⟩ 1 1 [.int .i64 x5] (by rfl) (by rfl) (World.news_of_block (heap_alloc_new w2 _)) (by simp [Value.oneCell']) (by omega) (by unfold maxLen; omega) (by omega) L3.1.2.2.1.1.1 (w2.heap.size + 1) (by simp) ?_; intro g7 cap7 w7 o7 gr7 at7 hl7; have L7 := L3.app gr7 o7; have r5 := L7.1.2.1.2.cell 14; have r6 := L7.1.2.1.2.frozen 14; have L8 := L7.set 14 (.slice (some ⟨g7, 0, none⟩) (k + 1) cap7); simp only [List.getElem?_cons_zero, List.getElem?_cons_succ, List.set_cons_zero, List.set_cons_succ] at r5 L8))
        all_goals
          rw [← nums_snoc] at L8
          have HL8 := Lib.hid L8
          have hby := HY.out.1
          have hyn := HY.out.2.1
          have hyb := HY.out.2.2.1
          have HT2 : Hid ((b1 = false → dc = false ∧ Taking (numP Y) M pc (k + 1) (l ++ [x5]) r1) ∧ (b1 = true → dc = true ∨ listP (numP Y) M pc = none)) := Lib.hid ⟨fun e => by
              have hq := ((num1_one hone1).some e).2
              exact ⟨HTT.out.1, taking_more HTT.out.2 hkm hq ((par_num hby).goes _ _ _ (by omega) hq).1⟩, fun e => .inr (taking_none HTT.out.2 hkm (((num1_one hone1).none e).resolve_left (by simp)))⟩
          have HP2 : Hid ((l ++ [x5]).length = k + 1) := Lib.hid (by rw [List.length_append, hst.out.2]; rfl)
          clear L8 L7 L3 hby hyn hyb
          go_wp2_with fail
          exact ⟨⟨k + 1, _, some ⟨g7, 0, none⟩, cap7, r1, b1, rfl, by omega, hn1, Lib.hid ⟨HL8.out, HP2.out⟩, HT2⟩, by simp only [intOf]; omega⟩
      · have hfin : b = false → k = M := fun hb => by
          rcases Nat.lt_or_ge k M with h | h
          · exact absurd ⟨h, hb⟩ hgo
          · omega
        have HF : Hid (∃ (route : List Int) (A14 : Option Addr) (c14 n14 p13 : Nat) (d13 : Bool), p13 ≤ yl ∧ n14 ≤ yl ∧ Hid (Mst B0 w R A1 c1 yl Y B0 Bo [.int .i64 0, .int .i64 0, .int .i64 0, .int .i64 0, .int .i64 0, .int .i64 0, .int .i64 0, .int .i64 0, .int .i64 0, .string ⟨#[]⟩, .slice none 0 0, .slice none 0 0, .slice none 0 0, .slice none 0 0, .slice none 0 0] [.int .i64 kind, .int .i64 f1, .int .i64 f2, .int .i64 t1, .int .i64 t2, .int .i64 idd, .int .i64 nn, .int .i64 fo, .int .i64 co, .string key, .slice A10 n10 c10, .slice A11 n11 c11, .slice A12 n12 c12, .slice A13 n13 c13, .slice A14 n14 c14] (fun x => (fun x => (fun x => (fun x => (fun x => (fun _ => True) x ∧ RowR (Bo + 1) x.heap.size x (.slice A10 n10 c10) ps) x ∧ x.ownsRow (Bo + 1) 2 1 (.slice A11 n11 c11) n11 (nums .i64 vec)) x ∧ x.ownsRow (Bo + 1) 3 1 (.slice A12 n12 c12) n12 (nums .i64 path)) x ∧ x.ownsRow (Bo + 1) 95 1 (.slice A13 n13 c13) n13 (nums .u64 hashes)) x ∧ x.ownsRow (Bo + 1) 3 1 (.slice A14 n14 c14) n14 (nums .i64 route)) p13 d13 wq ∧ route.length = n14 ∧ One (cseqP (numP Y) Y) p12 d12 route p13 d13)) :=
          Lib.hid ⟨l, Ai, ci, k, r, b, hrn, by omega, Lib.hid ⟨Lst.done HU.out hst.out.1, hst.out.2, one_list (HC.out.imp id fun h => ⟨h.1, h.2.2⟩) htk.out.1 htk.out.2 hfin⟩⟩
        by_cases hk : k < M
        · have hbt : b = true := by
            cases b
            · exact absurd ⟨hk, rfl⟩ hgo
            · rfl
          subst hbt
          have z2 : (k : Int) < (M : Int) := by omega
          clear hst htk
          go_wp2_with fail
          go_meet
          exact HF.out
        · have z2 : decide ((k : Int) < (M : Int)) = false := decide_eq_false (by omega)
          clear hst htk
          go_wp2_with fail
          go_meet
          exact HF.out
  obtain ⟨route, A14, c14, n14, p13, d13, hn13, hl14, hM⟩ := hcut
  obtain ⟨V13, rfl⟩ : ∃ V : World, V = wc := ⟨_, rfl⟩
  have HM13 := Lib.hid hM.out.1
  have HQ13 := Lib.hid hM.out.2
  clear hM HU HC
  have HONE : Hid (One (msgQ Y) 0 false (kind, (f1, f2), (t1, t2), idd, nn, fo, co, key, ps.map Prod.fst, vec, path, hashes, route) p13 d13) := Lib.hid (HO1.out.pair (HO2.out.pair (HO3.out.pair (HO4.out.pair (HO5.out.pair (HO6.out.pair (HO7.out.pair (HO8.out.pair (HQ9.out.2.2.pair (HQ10.out.2.pair (HQ11.out.2.pair (HQ12.out.2.pair (HQ13.out.2)))))))))))))
  have HMS : Hid (MsgO (Bo + 1) V13 (kind, (f1, f2), (t1, t2), idd, nn, fo, co, key, ps.map Prod.fst, vec, path, hashes, route) ((A10, c10), (A11, c11), (A12, c12), (A13, c13), (A14, c14))) := Lib.hid (by
    have hO := HM13.out.2.2.1.1
    have h8 := HM13.out.2.2.2
    have l10 : (ps.map Prod.fst).length = n10 := by rw [List.length_map]; exact HQ9.out.1
    have hR := hO.1.1.1.1.2
    have hc10 : n10 ≤ c10 := by have h := hR.1; rw [HQ9.out.1] at h; exact own_cap' h
    unfold MsgO
    simp only
    rw [l10, HQ10.out.1, HQ11.out.1, HQ12.out.1, HQ13.out.1]
    exact ⟨⟨hc10, ps, rfl, hR⟩, hO.1.1.1.2, hO.1.1.2, hO.1.2, hO.2⟩)
  obtain ⟨q0, q1, q2⟩ := HM13.out.1.2.1.cell
  have hxo : V13.heap[Bo]? = some (.cells #[.int .i64 kind, .int .i64 f1, .int .i64 f2, .int .i64 t1, .int .i64 t2, .int .i64 idd, .int .i64 nn, .int .i64 fo, .int .i64 co, .string key, .slice A10 n10 c10, .slice A11 n11 c11, .slice A12 n12 c12, .slice A13 n13 c13, .slice A14 n14 c14] 45 (0, 0)) := HM13.out.2.1.2
  have hx0 : V13.heap[B0]? = some (.cells #[.int .i64 0, .int .i64 0, .int .i64 0, .int .i64 0, .int .i64 0, .int .i64 0, .int .i64 0, .int .i64 0, .int .i64 0, .string ⟨#[]⟩, .slice none 0 0, .slice none 0 0, .slice none 0 0, .slice none 0 0, .slice none 0 0] 45 (0, 0)) := HM13.out.2.1.1
  have h8 := HM13.out.2.2.2
  have hbz := HM13.out.1.2.2.size
  have HXO := Lib.hid (And.intro hxo hx0)
  clear hxo hx0
  rcases d13 with _ | _
  case true =>
    have HG : Hid (msgWF zs = (m0, 2)) := Lib.hid (ends_bad HY.out.1 (by have := HY.out.2.1; have := HY.out.2.2.1; omega) HY.out.2.2.2 HONE.out (.inl rfl))
    obtain ⟨X, hX⟩ : ∃ X, V13.setRow B0 #[.int .i64 0, .int .i64 0, .int .i64 0, .int .i64 0, .int .i64 0, .int .i64 0, .int .i64 0, .int .i64 0, .int .i64 0, .string ⟨#[]⟩, .slice none 0 0, .slice none 0 0, .slice none 0 0, .slice none 0 0, .slice none 0 0] = X := ⟨_, rfl⟩
    have hX0 : X.heap[B0]? = some (.cells #[.int .i64 0, .int .i64 0, .int .i64 0, .int .i64 0, .int .i64 0, .int .i64 0, .int .i64 0, .int .i64 0, .int .i64 0, .string ⟨#[]⟩, .slice none 0 0, .slice none 0 0, .slice none 0 0, .slice none 0 0, .slice none 0 0] 45 (0, 0)) := by rw [← hX]; exact setRow_heap _ _ _ _ _ _ HXO.out.2
    have hgx : V13.grownBy X (some B0) := by rw [← hX]; exact ⟨rfl, rfl, rfl, by simp, fun j _ hj => setRow_other _ _ _ _ (fun e => hj (by rw [e]))⟩
    have HE : Hid (GotMsg B0 (m0, 2) w (.returned (.tuple #[.agg #[.int .i64 0, .int .i64 0, .int .i64 0, .int .i64 0, .int .i64 0, .int .i64 0, .int .i64 0, .int .i64 0, .int .i64 0, .string ⟨#[]⟩, .slice none 0 0, .slice none 0 0, .slice none 0 0, .slice none 0 0, .slice none 0 0], .int .i64 2])) X) := Lib.hid ⟨pl0, rfl, msgO_zero _ _, HM13.out.1.2.2.grown hgx (by omega) (fun j hj => by injection hj with hj; omega)⟩
    have HHX := Lib.hid (And.intro hX hX0)
    clear hX hX0 hgx

    go_wp2_with (first
      | (refine wpList_store_row rfl 45 _ _ rfl B0 #[.int .i64 0, .int .i64 0, .int .i64 0, .int .i64 0, .int .i64 0, .int .i64 0, .int .i64 0, .int .i64 0, .int .i64 0, .string ⟨#[]⟩, .slice none 0 0, .slice none 0 0, .slice none 0 0, .slice none 0 0, .slice none 0 0] rfl rfl 45 _ HXO.out.2 (msg_size [.int .i64 0, .int .i64 0, .int .i64 0, .int .i64 0, .int .i64 0, .int .i64 0, .int .i64 0, .int .i64 0, .int .i64 0, .string ⟨#[]⟩, .slice none 0 0, .slice none 0 0, .slice none 0 0, .slice none 0 0, .slice none 0 0] rfl) rfl (by simp [Value.oneCell']) ?_; rw [HHX.out.1]))
    refine bodyPost_ret (v := .tuple #[.agg #[.int .i64 0, .int .i64 0, .int .i64 0, .int .i64 0, .int .i64 0, .int .i64 0, .int .i64 0, .int .i64 0, .int .i64 0, .string ⟨#[]⟩, .slice none 0 0, .slice none 0 0, .slice none 0 0, .slice none 0 0, .slice none 0 0], .int .i64 2]) ?_ rfl ?_
    · exact results_row_tmp (fn := Tryz.f19) rfl _ _ B0 45 _ _ _ (by rfl) HHX.out.2 Tryz.underlying45 rfl (msg_size [.int .i64 0, .int .i64 0, .int .i64 0, .int .i64 0, .int .i64 0, .int .i64 0, .int .i64 0, .int .i64 0, .int .i64 0, .string ⟨#[]⟩, .slice none 0 0, .slice none 0 0, .slice none 0 0, .slice none 0 0, .slice none 0 0] rfl)
    rw [HG.out]
    exact HE.out
  by_cases hp : p13 = yl
  case neg =>
    have HG : Hid (msgWF zs = (m0, 2)) := Lib.hid (ends_bad HY.out.1 (by have := HY.out.2.1; have := HY.out.2.2.1; omega) HY.out.2.2.2 HONE.out (.inr (.inl (by rw [HY.out.2.1]; exact hp))))
    have g1 : ((p13 : Int) != (yl : Int)) = true := by simp; omega
    obtain ⟨X, hX⟩ : ∃ X, V13.setRow B0 #[.int .i64 0, .int .i64 0, .int .i64 0, .int .i64 0, .int .i64 0, .int .i64 0, .int .i64 0, .int .i64 0, .int .i64 0, .string ⟨#[]⟩, .slice none 0 0, .slice none 0 0, .slice none 0 0, .slice none 0 0, .slice none 0 0] = X := ⟨_, rfl⟩
    have hX0 : X.heap[B0]? = some (.cells #[.int .i64 0, .int .i64 0, .int .i64 0, .int .i64 0, .int .i64 0, .int .i64 0, .int .i64 0, .int .i64 0, .int .i64 0, .string ⟨#[]⟩, .slice none 0 0, .slice none 0 0, .slice none 0 0, .slice none 0 0, .slice none 0 0] 45 (0, 0)) := by rw [← hX]; exact setRow_heap _ _ _ _ _ _ HXO.out.2
    have hgx : V13.grownBy X (some B0) := by rw [← hX]; exact ⟨rfl, rfl, rfl, by simp, fun j _ hj => setRow_other _ _ _ _ (fun e => hj (by rw [e]))⟩
    have HE : Hid (GotMsg B0 (m0, 2) w (.returned (.tuple #[.agg #[.int .i64 0, .int .i64 0, .int .i64 0, .int .i64 0, .int .i64 0, .int .i64 0, .int .i64 0, .int .i64 0, .int .i64 0, .string ⟨#[]⟩, .slice none 0 0, .slice none 0 0, .slice none 0 0, .slice none 0 0, .slice none 0 0], .int .i64 2])) X) := Lib.hid ⟨pl0, rfl, msgO_zero _ _, HM13.out.1.2.2.grown hgx (by omega) (fun j hj => by injection hj with hj; omega)⟩
    have HHX := Lib.hid (And.intro hX hX0)
    clear hX hX0 hgx

    go_wp2_with (first
      | (refine wpList_store_row rfl 45 _ _ rfl B0 #[.int .i64 0, .int .i64 0, .int .i64 0, .int .i64 0, .int .i64 0, .int .i64 0, .int .i64 0, .int .i64 0, .int .i64 0, .string ⟨#[]⟩, .slice none 0 0, .slice none 0 0, .slice none 0 0, .slice none 0 0, .slice none 0 0] rfl rfl 45 _ HXO.out.2 (msg_size [.int .i64 0, .int .i64 0, .int .i64 0, .int .i64 0, .int .i64 0, .int .i64 0, .int .i64 0, .int .i64 0, .int .i64 0, .string ⟨#[]⟩, .slice none 0 0, .slice none 0 0, .slice none 0 0, .slice none 0 0, .slice none 0 0] rfl) rfl (by simp [Value.oneCell']) ?_; rw [HHX.out.1]))
    refine bodyPost_ret (v := .tuple #[.agg #[.int .i64 0, .int .i64 0, .int .i64 0, .int .i64 0, .int .i64 0, .int .i64 0, .int .i64 0, .int .i64 0, .int .i64 0, .string ⟨#[]⟩, .slice none 0 0, .slice none 0 0, .slice none 0 0, .slice none 0 0, .slice none 0 0], .int .i64 2]) ?_ rfl ?_
    · exact results_row_tmp (fn := Tryz.f19) rfl _ _ B0 45 _ _ _ (by rfl) HHX.out.2 Tryz.underlying45 rfl (msg_size [.int .i64 0, .int .i64 0, .int .i64 0, .int .i64 0, .int .i64 0, .int .i64 0, .int .i64 0, .int .i64 0, .int .i64 0, .string ⟨#[]⟩, .slice none 0 0, .slice none 0 0, .slice none 0 0, .slice none 0 0, .slice none 0 0] rfl)
    rw [HG.out]
    exact HE.out
  have g1 : ((p13 : Int) != (yl : Int)) = false := by simp [hp]
  by_cases hq : q = n
  case neg =>
    have HG : Hid (msgWF zs = (m0, 2)) := Lib.hid (ends_bad HY.out.1 (by have := HY.out.2.1; have := HY.out.2.2.1; omega) HY.out.2.2.2 HONE.out (.inr (.inr (.inl hq))))
    have g2 : ((q : Int) != (n : Int)) = true := by simp; omega
    obtain ⟨X, hX⟩ : ∃ X, V13.setRow B0 #[.int .i64 0, .int .i64 0, .int .i64 0, .int .i64 0, .int .i64 0, .int .i64 0, .int .i64 0, .int .i64 0, .int .i64 0, .string ⟨#[]⟩, .slice none 0 0, .slice none 0 0, .slice none 0 0, .slice none 0 0, .slice none 0 0] = X := ⟨_, rfl⟩
    have hX0 : X.heap[B0]? = some (.cells #[.int .i64 0, .int .i64 0, .int .i64 0, .int .i64 0, .int .i64 0, .int .i64 0, .int .i64 0, .int .i64 0, .int .i64 0, .string ⟨#[]⟩, .slice none 0 0, .slice none 0 0, .slice none 0 0, .slice none 0 0, .slice none 0 0] 45 (0, 0)) := by rw [← hX]; exact setRow_heap _ _ _ _ _ _ HXO.out.2
    have hgx : V13.grownBy X (some B0) := by rw [← hX]; exact ⟨rfl, rfl, rfl, by simp, fun j _ hj => setRow_other _ _ _ _ (fun e => hj (by rw [e]))⟩
    have HE : Hid (GotMsg B0 (m0, 2) w (.returned (.tuple #[.agg #[.int .i64 0, .int .i64 0, .int .i64 0, .int .i64 0, .int .i64 0, .int .i64 0, .int .i64 0, .int .i64 0, .int .i64 0, .string ⟨#[]⟩, .slice none 0 0, .slice none 0 0, .slice none 0 0, .slice none 0 0, .slice none 0 0], .int .i64 2])) X) := Lib.hid ⟨pl0, rfl, msgO_zero _ _, HM13.out.1.2.2.grown hgx (by omega) (fun j hj => by injection hj with hj; omega)⟩
    have HHX := Lib.hid (And.intro hX hX0)
    clear hX hX0 hgx

    go_wp2_with (first
      | (refine wpList_store_row rfl 45 _ _ rfl B0 #[.int .i64 0, .int .i64 0, .int .i64 0, .int .i64 0, .int .i64 0, .int .i64 0, .int .i64 0, .int .i64 0, .int .i64 0, .string ⟨#[]⟩, .slice none 0 0, .slice none 0 0, .slice none 0 0, .slice none 0 0, .slice none 0 0] rfl rfl 45 _ HXO.out.2 (msg_size [.int .i64 0, .int .i64 0, .int .i64 0, .int .i64 0, .int .i64 0, .int .i64 0, .int .i64 0, .int .i64 0, .int .i64 0, .string ⟨#[]⟩, .slice none 0 0, .slice none 0 0, .slice none 0 0, .slice none 0 0, .slice none 0 0] rfl) rfl (by simp [Value.oneCell']) ?_; rw [HHX.out.1]))
    refine bodyPost_ret (v := .tuple #[.agg #[.int .i64 0, .int .i64 0, .int .i64 0, .int .i64 0, .int .i64 0, .int .i64 0, .int .i64 0, .int .i64 0, .int .i64 0, .string ⟨#[]⟩, .slice none 0 0, .slice none 0 0, .slice none 0 0, .slice none 0 0, .slice none 0 0], .int .i64 2]) ?_ rfl ?_
    · exact results_row_tmp (fn := Tryz.f19) rfl _ _ B0 45 _ _ _ (by rfl) HHX.out.2 Tryz.underlying45 rfl (msg_size [.int .i64 0, .int .i64 0, .int .i64 0, .int .i64 0, .int .i64 0, .int .i64 0, .int .i64 0, .int .i64 0, .int .i64 0, .string ⟨#[]⟩, .slice none 0 0, .slice none 0 0, .slice none 0 0, .slice none 0 0, .slice none 0 0] rfl)
    rw [HG.out]
    exact HE.out
  have g2 : ((q : Int) != (n : Int)) = false := by simp [hq]
  have l10 : (ps.map Prod.fst).length = n10 := by rw [List.length_map]; exact HQ9.out.1
  have hsz : ∀ x ∈ ps.map Prod.fst, x.1.size ≤ 140737488355328 ∧ x.2.length ≤ 140737488355328 := fun x hx => by
    obtain ⟨p, hp, rfl⟩ := List.mem_map.1 hx
    have h1 := HQ9.out.2.1 p hp
    have h2 := HY.out.2.2.1
    omega
  have h2 := fun V hV => refmsg_right_any kind f1 f2 t1 t2 idd nn fo co key (ps.map Prod.fst) vec path hashes route A10 A11 A12 A13 A14 c10 c11 c12 c13 c14 n10 n11 n12 n13 n14 l10 HQ10.out.1 HQ11.out.1 HQ12.out.1 HQ13.out.1 (by have := HY.out.2.2.1; omega) (by have := HY.out.2.2.1; omega) V hV
  have h3 := h2 V13 ((HMS.out.msgI hsz).less (Nat.zero_le _))
  obtain ⟨ok, hok⟩ : ∃ ok, decide (okM (kind, (f1, f2), (t1, t2), idd, nn, fo, co, key, ps.map Prod.fst, vec, path, hashes, route)) = ok := ⟨_, rfl⟩
  rw [hok] at h3
  have H3 := Lib.hid h3
  have HL := Lib.hid (And.intro l10 hok)
  clear h2 h3 hsz hok l10
  go_wp2_with (first
    | (refine load_row_w (by rfl) 45 _ rfl Bo rfl 45 #[.int .i64 kind, .int .i64 f1, .int .i64 f2, .int .i64 t1, .int .i64 t2, .int .i64 idd, .int .i64 nn, .int .i64 fo, .int .i64 co, .string key, .slice A10 n10 c10, .slice A11 n11 c11, .slice A12 n12 c12, .slice A13 n13 c13, .slice A14 n14 c14] (0, 0) _ HXO.out.1 Tryz.underlying45 rfl (msg_size [.int .i64 kind, .int .i64 f1, .int .i64 f2, .int .i64 t1, .int .i64 t2, .int .i64 idd, .int .i64 nn, .int .i64 fo, .int .i64 co, .string key, .slice A10 n10 c10, .slice A11 n11 c11, .slice A12 n12 c12, .slice A13 n13 c13, .slice A14 n14 c14] rfl) ?_))
  refine H3.out.mono ?_
  rintro e w9 ⟨rfl, b9⟩
  have hX9 : w9.heap[B0]? = some (.cells #[.int .i64 0, .int .i64 0, .int .i64 0, .int .i64 0, .int .i64 0, .int .i64 0, .int .i64 0, .int .i64 0, .int .i64 0, .string ⟨#[]⟩, .slice none 0 0, .slice none 0 0, .slice none 0 0, .slice none 0 0, .slice none 0 0] 45 (0, 0)) := (b9.block _ (Array.getElem?_eq_some_iff.1 HXO.out.2).1).trans HXO.out.2
  have hXo9 : w9.heap[Bo]? = some (.cells #[.int .i64 kind, .int .i64 f1, .int .i64 f2, .int .i64 t1, .int .i64 t2, .int .i64 idd, .int .i64 nn, .int .i64 fo, .int .i64 co, .string key, .slice A10 n10 c10, .slice A11 n11 c11, .slice A12 n12 c12, .slice A13 n13 c13, .slice A14 n14 c14] 45 (0, 0)) := (b9.block _ (Array.getElem?_eq_some_iff.1 HXO.out.1).1).trans HXO.out.1
  have hb9 := HM13.out.1.2.2.trans (b9.mono (by omega))
  have hm9 := HMS.out.keep b9.size (fun j _ hj => b9.block j hj)
  have hs9 := b9.size
  have H9 := Lib.hid (And.intro hX9 (And.intro hXo9 (And.intro hb9 hm9)))
  clear hX9 hXo9 hb9 hm9 b9 q0 q1 q2 H3
  rcases ok with _ | _
  case false =>
    have HG : Hid (msgWF zs = (m0, 2)) := Lib.hid (ends_bad HY.out.1 (by have := HY.out.2.1; have := HY.out.2.2.1; omega) HY.out.2.2.2 HONE.out (.inr (.inr (.inr (of_decide_eq_false HL.out.2)))))
    obtain ⟨X, hX⟩ : ∃ X, w9.setRow B0 #[.int .i64 0, .int .i64 0, .int .i64 0, .int .i64 0, .int .i64 0, .int .i64 0, .int .i64 0, .int .i64 0, .int .i64 0, .string ⟨#[]⟩, .slice none 0 0, .slice none 0 0, .slice none 0 0, .slice none 0 0, .slice none 0 0] = X := ⟨_, rfl⟩
    have hX0 : X.heap[B0]? = some (.cells #[.int .i64 0, .int .i64 0, .int .i64 0, .int .i64 0, .int .i64 0, .int .i64 0, .int .i64 0, .int .i64 0, .int .i64 0, .string ⟨#[]⟩, .slice none 0 0, .slice none 0 0, .slice none 0 0, .slice none 0 0, .slice none 0 0] 45 (0, 0)) := by rw [← hX]; exact setRow_heap _ _ _ _ _ _ H9.out.1
    have hgx : w9.grownBy X (some B0) := by rw [← hX]; exact ⟨rfl, rfl, rfl, by simp, fun j _ hj => setRow_other _ _ _ _ (fun e => hj (by rw [e]))⟩
    have HE : Hid (GotMsg B0 (m0, 2) w (.returned (.tuple #[.agg #[.int .i64 0, .int .i64 0, .int .i64 0, .int .i64 0, .int .i64 0, .int .i64 0, .int .i64 0, .int .i64 0, .int .i64 0, .string ⟨#[]⟩, .slice none 0 0, .slice none 0 0, .slice none 0 0, .slice none 0 0, .slice none 0 0], .int .i64 2])) X) := Lib.hid ⟨pl0, rfl, msgO_zero _ _, H9.out.2.2.1.grown hgx (by omega) (fun j hj => by injection hj with hj; omega)⟩
    have HHX := Lib.hid (And.intro hX hX0)
    clear hX hX0 hgx

    go_wp2_with (first
      | (refine wpList_store_row rfl 45 _ _ rfl B0 #[.int .i64 0, .int .i64 0, .int .i64 0, .int .i64 0, .int .i64 0, .int .i64 0, .int .i64 0, .int .i64 0, .int .i64 0, .string ⟨#[]⟩, .slice none 0 0, .slice none 0 0, .slice none 0 0, .slice none 0 0, .slice none 0 0] rfl rfl 45 _ H9.out.1 (msg_size [.int .i64 0, .int .i64 0, .int .i64 0, .int .i64 0, .int .i64 0, .int .i64 0, .int .i64 0, .int .i64 0, .int .i64 0, .string ⟨#[]⟩, .slice none 0 0, .slice none 0 0, .slice none 0 0, .slice none 0 0, .slice none 0 0] rfl) rfl (by simp [Value.oneCell']) ?_; rw [HHX.out.1]))
    refine bodyPost_ret (v := .tuple #[.agg #[.int .i64 0, .int .i64 0, .int .i64 0, .int .i64 0, .int .i64 0, .int .i64 0, .int .i64 0, .int .i64 0, .int .i64 0, .string ⟨#[]⟩, .slice none 0 0, .slice none 0 0, .slice none 0 0, .slice none 0 0, .slice none 0 0], .int .i64 2]) ?_ rfl ?_
    · exact results_row_tmp (fn := Tryz.f19) rfl _ _ B0 45 _ _ _ (by rfl) HHX.out.2 Tryz.underlying45 rfl (msg_size [.int .i64 0, .int .i64 0, .int .i64 0, .int .i64 0, .int .i64 0, .int .i64 0, .int .i64 0, .int .i64 0, .int .i64 0, .string ⟨#[]⟩, .slice none 0 0, .slice none 0 0, .slice none 0 0, .slice none 0 0, .slice none 0 0] rfl)
    rw [HG.out]
    exact HE.out
  have HG : Hid (msgWF zs = ((kind, (f1, f2), (t1, t2), idd, nn, fo, co, key, ps.map Prod.fst, vec, path, hashes, route), 0)) := Lib.hid (ends_ok HY.out.1 (by have := HY.out.2.1; have := HY.out.2.2.1; omega) HY.out.2.2.2 HONE.out (by rw [HY.out.2.1]; exact hp) hq (of_decide_eq_true HL.out.2))
  obtain ⟨X, hX⟩ : ∃ X, w9.setRow B0 #[.int .i64 kind, .int .i64 f1, .int .i64 f2, .int .i64 t1, .int .i64 t2, .int .i64 idd, .int .i64 nn, .int .i64 fo, .int .i64 co, .string key, .slice A10 n10 c10, .slice A11 n11 c11, .slice A12 n12 c12, .slice A13 n13 c13, .slice A14 n14 c14] = X := ⟨_, rfl⟩
  have hX0 : X.heap[B0]? = some (.cells #[.int .i64 kind, .int .i64 f1, .int .i64 f2, .int .i64 t1, .int .i64 t2, .int .i64 idd, .int .i64 nn, .int .i64 fo, .int .i64 co, .string key, .slice A10 n10 c10, .slice A11 n11 c11, .slice A12 n12 c12, .slice A13 n13 c13, .slice A14 n14 c14] 45 (0, 0)) := by rw [← hX]; exact setRow_heap _ _ _ _ _ _ H9.out.1
  have hgx : w9.grownBy X (some B0) := by rw [← hX]; exact ⟨rfl, rfl, rfl, by simp, fun j _ hj => setRow_other _ _ _ _ (fun e => hj (by rw [e]))⟩
  have HE : Hid (GotMsg B0 ((kind, (f1, f2), (t1, t2), idd, nn, fo, co, key, ps.map Prod.fst, vec, path, hashes, route), 0) w (.returned (.tuple #[.agg #[.int .i64 kind, .int .i64 f1, .int .i64 f2, .int .i64 t1, .int .i64 t2, .int .i64 idd, .int .i64 nn, .int .i64 fo, .int .i64 co, .string key, .slice A10 n10 c10, .slice A11 n11 c11, .slice A12 n12 c12, .slice A13 n13 c13, .slice A14 n14 c14], .int .i64 0])) X) := Lib.hid ⟨((A10, c10), (A11, c11), (A12, c12), (A13, c13), (A14, c14)), by
    have hvv : (Value.agg (mcc (kind, (f1, f2), (t1, t2), idd, nn, fo, co, key, ps.map Prod.fst, vec, path, hashes, route) ((A10, c10), (A11, c11), (A12, c12), (A13, c13), (A14, c14))).toArray) = .agg #[.int .i64 kind, .int .i64 f1, .int .i64 f2, .int .i64 t1, .int .i64 t2, .int .i64 idd, .int .i64 nn, .int .i64 fo, .int .i64 co, .string key, .slice A10 n10 c10, .slice A11 n11 c11, .slice A12 n12 c12, .slice A13 n13 c13, .slice A14 n14 c14] := by rw [← HL.out.1, ← HQ10.out.1, ← HQ11.out.1, ← HQ12.out.1, ← HQ13.out.1]; rfl
    simp only
    rw [hvv], (H9.out.2.2.2.keep hgx.size (grown_keep hgx (by omega))).less (by omega), H9.out.2.2.1.grown hgx (by omega) (fun j hj => by injection hj with hj; omega)⟩
  have HHX := Lib.hid (And.intro hX hX0)
  clear hX hX0 hgx
  go_wp2_with (first
    | (refine wpList_load_row rfl 45 _ rfl Bo rfl 45 #[.int .i64 kind, .int .i64 f1, .int .i64 f2, .int .i64 t1, .int .i64 t2, .int .i64 idd, .int .i64 nn, .int .i64 fo, .int .i64 co, .string key, .slice A10 n10 c10, .slice A11 n11 c11, .slice A12 n12 c12, .slice A13 n13 c13, .slice A14 n14 c14] (0, 0) _ H9.out.2.1 Tryz.underlying45 rfl (msg_size [.int .i64 kind, .int .i64 f1, .int .i64 f2, .int .i64 t1, .int .i64 t2, .int .i64 idd, .int .i64 nn, .int .i64 fo, .int .i64 co, .string key, .slice A10 n10 c10, .slice A11 n11 c11, .slice A12 n12 c12, .slice A13 n13 c13, .slice A14 n14 c14] rfl) ?_)
    | (refine wpList_store_row rfl 45 _ _ rfl B0 #[.int .i64 kind, .int .i64 f1, .int .i64 f2, .int .i64 t1, .int .i64 t2, .int .i64 idd, .int .i64 nn, .int .i64 fo, .int .i64 co, .string key, .slice A10 n10 c10, .slice A11 n11 c11, .slice A12 n12 c12, .slice A13 n13 c13, .slice A14 n14 c14] rfl rfl 45 _ H9.out.1 (msg_size [.int .i64 kind, .int .i64 f1, .int .i64 f2, .int .i64 t1, .int .i64 t2, .int .i64 idd, .int .i64 nn, .int .i64 fo, .int .i64 co, .string key, .slice A10 n10 c10, .slice A11 n11 c11, .slice A12 n12 c12, .slice A13 n13 c13, .slice A14 n14 c14] rfl) rfl (by simp [Value.oneCell']) ?_; rw [HHX.out.1]))
  refine bodyPost_ret (v := .tuple #[.agg #[.int .i64 kind, .int .i64 f1, .int .i64 f2, .int .i64 t1, .int .i64 t2, .int .i64 idd, .int .i64 nn, .int .i64 fo, .int .i64 co, .string key, .slice A10 n10 c10, .slice A11 n11 c11, .slice A12 n12 c12, .slice A13 n13 c13, .slice A14 n14 c14], .int .i64 0]) ?_ rfl ?_
  · exact results_row_tmp (fn := Tryz.f19) rfl _ _ B0 45 _ _ _ (by rfl) HHX.out.2 Tryz.underlying45 rfl (msg_size [.int .i64 kind, .int .i64 f1, .int .i64 f2, .int .i64 t1, .int .i64 t2, .int .i64 idd, .int .i64 nn, .int .i64 fo, .int .i64 co, .string key, .slice A10 n10 c10, .slice A11 n11 c11, .slice A12 n12 c12, .slice A13 n13 c13, .slice A14 n14 c14] rfl)
  rw [HG.out]
  exact HE.out
end Code
end Go.Proofs.YtegiigeelcnemaaGreat
