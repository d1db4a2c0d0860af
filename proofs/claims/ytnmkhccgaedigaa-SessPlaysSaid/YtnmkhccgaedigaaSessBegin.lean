/-
  sess: Begin.
-/
import Derived.Test.YtnmkhccgaedigaaSessDo
namespace Go.Proofs.Ytnmkhccgaedigaa
namespace Sess
open Go.RowKit Blk Go.Maps
attribute [local go_sem ↓] Go.wp_at_zero Go.wp_at_succ

theorem zeroE (w : World) : (zeroValue 3).run Try.prog w = .ok (.int .i64 0) w := by kernel_rfl
theorem key64 (op : Int) (h : -9223372036854775808 ≤ op ∧ op ≤ 9223372036854775807) : keyOf Try.prog 2 (.int .i64 op) = some (.int .i64 op) := keyOf_int_mk Try.underlying2 (WalkArith.wf_i64 h)
theorem has_is {D : DataW Unit} {L : List Sn} (h : MapIs D L) (op : Int) : Maps.has D (.int .i64 op) = askF L op := by
  have h1 := (h.2.1 op).trans askF_iff.symm
  cases hx : Maps.has D (.int .i64 op) <;> cases hy : askF L op <;> simp_all
section
variable {F : Nat → Prop} {w : World} {sb mb n m c : Nat} {N : Int} {A : Option Addr} {es : List Se} {L : List Sn} {D : DataW Unit}
theorem SO.ne (h : SO F w sb mb N A c n es L m D) {i : Nat} {x : Sn} {e : Se} (hx : L[i]? = some x) (he : es[i]? = some e) : mb ≠ e.1 ∧ sb ≠ e.1 := by
  obtain ⟨⟨h1, h2, h3⟩, ⟨h4, h5, h6, h7⟩, h8, h9, h10, h11⟩ := h
  have hse := h7 i x e hx he
  refine ⟨fun q => ?_, fun q => ?_⟩
  · obtain ⟨q1, q2, q3, _⟩ := h3
    rw [q, show w.heap[e.1]? = _ from hse.1] at q3
    injection q3 with q3
    cases q3
  · have := h1.type (q ▸ hse.1)
    exact absurd this (by decide)
/-- The ask of a session is written. -/
theorem SO.setOp (h : SO F w sb mb N A c n es L m D) {i : Nat} {x : Sn} {e : Se} (hx : L[i]? = some x) (he : es[i]? = some e) (op : Int) : SO F (w.setCell ⟨e.1, 2, none⟩ (.int .i64 op)) sb mb N A c n (es.set i e) (L.set i (x.1, x.2.1, op)) m D := by
  have hse := h.2.1.2.2.2 i x e hx he
  have hg := gset w e.1 2 (.int .i64 op)
  refine h.turn hx he rfl hg ⟨hse.1.set 2 (.int .i64 op), own_keep hse.2.1 fun g hg' => hg.block g (h.lt g (hse.2.2.2 g hg')) fun q => own_ne hse.2.1 hse.1 (by decide) (by rw [← q]; exact hg'), hse.2.2⟩ (fun _ h => h) (fun k hk => Nat.lt_of_lt_of_le (h.lt k hk) hg.size)
theorem SO.setSite (h : SO F w sb mb N A c n es L m D) {i : Nat} {x : Sn} {e : Se} (hx : L[i]? = some x) (he : es[i]? = some e) (site : Int) : SO F (w.setCell ⟨e.1, 0, none⟩ (.int .i64 site)) sb mb N A c n (es.set i e) (L.set i (site, x.2.1, x.2.2)) m D := by
  have hse := h.2.1.2.2.2 i x e hx he
  have hg := gset w e.1 0 (.int .i64 site)
  refine h.turn hx he rfl hg ⟨hse.1.set 0 (.int .i64 site), own_keep hse.2.1 fun g hg' => hg.block g (h.lt g (hse.2.2.2 g hg')) fun q => own_ne hse.2.1 hse.1 (by decide) (by rw [← q]; exact hg'), hse.2.2⟩ (fun _ h => h) (fun k hk => Nat.lt_of_lt_of_le (h.lt k hk) hg.size)
end
/-- What Begin leaves. -/
def BeginPost (L : List Sn) (N : Int) (m : Nat) (F : Nat → Prop) (sb : Nat) (w : World) (k op : Int) (e : Ending) (w' : World) : Prop :=
  ∃ A1 c1 n1 m1 F' B, e = .returned (.tuple #[.int .i64 (beginF L k op).2.1, .slice A1 n1 c1, .int .i64 (beginF L k op).2.2.2]) ∧ (beginF L k op).2.2.1.length = n1 ∧ m1 ≤ m + 1 ∧ SI F' w' sb N (beginF L k op).1 m1 ∧ Stp F w F' w' ∧ (∀ j, F' j → j < B) ∧ w.heap.size ≤ B ∧ w'.ownsRow B 5 1 (.slice A1 n1 c1) n1 (nums .u8 (beginF L k op).2.2.1)
theorem begin_bad {L : List Sn} {N err k op : Int} {m : Nat} {F : Nat → Prop} {sb : Nat} {w : World} (h : SI F w sb N L m) (hF : beginF L k op = (L, 0, [], err)) : BeginPost L N m F sb w k op (.returned (.tuple #[.int .i64 0, .slice none 0 0, .int .i64 err])) w := by
  unfold BeginPost
  rw [hF]
  exact ⟨none, 0, 0, m, F, w.heap.size, rfl, rfl, by omega, h, Stp.refl _ _, h.lt, Nat.le_refl _, World.ownsRow_nil _ _ _ _⟩

set_option maxRecDepth 100000 in
theorem begin_any {F : Nat → Prop} {w : World} {sb m : Nat} {N : Int} {L : List Sn} (h : SI F w sb N L m) (hn : L.length ≤ 10000000000000) (hm : m ≤ 1000000000000000) (k op : Int) (hop : -9223372036854775808 ≤ op ∧ op ≤ 9223372036854775807) :
    Calls Try.prog 10 #[hd sb, .int .i64 k, .int .i64 op] w (BeginPost L N m F sb w k op) := by
  have hSI := h
  obtain ⟨mb, A, c, es, D, hS, hM, hI⟩ := h
  by_cases hk : inF L k
  case neg =>
    have hF : beginF L k op = (L, 0, [], 210) := if_pos hk
    have HE := Lib.hid (begin_bad hSI hF)
    have H1 := Lib.hid (get_none hS k hk)
    clear hSI hS hM hI hk hF
    go_enter Try.func10, Try.ntmps10
    go_wp2_with fail
    refine H1.out.mono ?_
    rintro e1 w1 ⟨rfl, rfl⟩
    go_wp2_with fail
    go_ret3
    exact HE.out
  have hx := getF_at hk
  have hk2 := (hS.inF k).1 hk
  obtain ⟨i, hi⟩ : ∃ i : Nat, (k - 1).toNat = i := ⟨_, rfl⟩
  have hki : k = (i : Int) + 1 := by omega
  have hbf : beginF L k op = if op < 1 ∨ askF L op = true then (L, 0, [], 1) else if (getF L k).2.2 ≠ 0 then (L, 0, [], 202) else (L.set i ((getF L k).1, (getF L k).2.1, op), (getF L k).1, (getF L k).2.1, 0) := by
    unfold beginF
    rw [if_neg (by simp [hk]), hi]
  rw [hi] at hx
  have hil : i < L.length := (List.getElem?_eq_some_iff.1 hx).1
  obtain ⟨x', e, hx', he, hse⟩ := hS.at hil
  obtain ⟨x, hxe⟩ : ∃ x, getF L k = x := ⟨_, rfl⟩
  rw [hxe] at hx hbf
  rw [hx] at hx'
  injection hx' with hx'
  subst hx'
  have h1 := get_some hS (by omega) i e he k hki
  rw [show ptr e = .pointer (some ⟨e.1, 0, none⟩) from rfl] at h1
  have hD := has_is hM op
  obtain ⟨b, hb⟩ : ∃ b, askF L op = b := ⟨_, rfl⟩
  rw [hb] at hD hbf
  have c2 := hS.1.1.cell 2
  simp only [List.getElem?_cons_succ, List.getElem?_cons_zero] at c2
  have hkey := key64 op hop
  have hown := hS.1.2.2
  have HM := Lib.hid (And.intro hown (And.intro hkey hD))
  have H1 := Lib.hid h1
  by_cases hbad : op < 1 ∨ b = true
  · have hF : beginF L k op = (L, 0, [], 1) := by rw [hbf, if_pos hbad]
    have HE := Lib.hid (begin_bad hSI hF)
    have hd1 : b = true ∨ (b = false ∧ decide (op < 1) = true) := by
      cases b
      · exact .inr ⟨rfl, decide_eq_true (hbad.resolve_right (by simp))⟩
      · exact .inl rfl
    clear hSI hS hM hI hk hF hx he hse hxe hi hki hk2 hil hbf hown hkey hD hb h1 hbad
    rcases hd1 with rfl | ⟨rfl, hd1⟩
    · go_enter Try.func10, Try.ntmps10
      go_wp2_with fail
      refine H1.out.mono ?_
      rintro e1 w1 ⟨rfl, rfl⟩
      go_wp2_with (at_lookup; refine wpList_lookup_own_ok_int _ rfl _ _ 60 rfl 2 3 .i64 law64 Try.underlying60 Try.underlying3 (zeroE _) mb m D rfl HM.out.1 _ _ rfl HM.out.2.1 ?_; intro cc hat hwc; rw [HM.out.2.2]; clear hat hwc)
      go_ret3
      exact HE.out
    · go_enter Try.func10, Try.ntmps10
      go_wp2_with fail
      refine H1.out.mono ?_
      rintro e1 w1 ⟨rfl, rfl⟩
      go_wp2_with (at_lookup; refine wpList_lookup_own_ok_int _ rfl _ _ 60 rfl 2 3 .i64 law64 Try.underlying60 Try.underlying3 (zeroE _) mb m D rfl HM.out.1 _ _ rfl HM.out.2.1 ?_; intro cc hat hwc; rw [HM.out.2.2]; clear hat hwc)
      go_ret3
      exact HE.out
  obtain ⟨hop1, rfl⟩ : ¬ op < 1 ∧ b = false := ⟨fun h => hbad (.inl h), by cases b; rfl; exact absurd (.inr rfl) hbad⟩
  have hd1 : decide (op < 1) = false := decide_eq_false hop1
  have d0 := hse.1.cell 0
  have d1 := hse.1.cell 1
  have d2 := hse.1.cell 2
  have f2 := hse.1.frozen 2
  obtain ⟨tn, htn⟩ : ∃ tn, x.2.1.length = tn := ⟨_, rfl⟩
  unfold cellsS tokV at d0 d1 d2
  rw [htn] at d0 d1 d2
  simp only [List.getElem?_cons_succ, List.getElem?_cons_zero] at d0 d1 d2
  by_cases hbusy : x.2.2 = 0
  case neg =>
    have hF : beginF L k op = (L, 0, [], 202) := by rw [hbf, if_neg hbad, if_pos hbusy]
    have HE := Lib.hid (begin_bad hSI hF)
    have hd2 : (x.2.2 != 0) = true := by simpa using hbusy
    clear hSI hS hM hI hk hF hx he hse hxe hi hki hk2 hil hbf hown hkey hD hb h1 hbad hbusy htn
    go_enter Try.func10, Try.ntmps10
    go_wp2_with fail
    refine H1.out.mono ?_
    rintro e1 w1 ⟨rfl, rfl⟩
    go_wp2_with (at_lookup; refine wpList_lookup_own_ok_int _ rfl _ _ 60 rfl 2 3 .i64 law64 Try.underlying60 Try.underlying3 (zeroE _) mb m D rfl HM.out.1 _ _ rfl HM.out.2.1 ?_; intro cc hat hwc; rw [HM.out.2.2]; clear hat hwc)
    go_ret3
    exact HE.out
  have hF : beginF L k op = (L.set i (x.1, x.2.1, op), x.1, x.2.1, 0) := by rw [hbf, if_neg hbad, if_neg (by simp [hbusy])]
  have hd2 : (x.2.2 != 0) = false := by simp [hbusy]
  have hno : ∀ j, ¬ IsAsk L op j := fun j hj => by
    have := askF_iff.2 ⟨j, hj⟩
    rw [hb] at this
    cases this
  have hne := hS.ne hx he
  obtain ⟨W1, hW1⟩ : ∃ W1, w.setCell ⟨e.1, 2, none⟩ (.int .i64 op) = W1 := ⟨_, rfl⟩
  have hS1 : SO F W1 sb mb N A c L.length (es.set i e) (L.set i (x.1, x.2.1, op)) m D := by rw [← hW1]; exact hS.setOp hx he op
  have hgs := gset w e.1 2 (.int .i64 op)
  rw [hW1] at hgs
  have c2' := hS1.1.1.cell 2
  simp only [List.getElem?_cons_succ, List.getElem?_cons_zero] at c2'
  have hsm := (hI.1 x (List.mem_of_getElem? hx)).2.2.1
  have hM2 := map_begin hM hx hbusy (by omega) hno
  have hI2 := inv_begin hI hx ⟨by omega, hop.2⟩ hno
  have hFe := hse.2.2.1
  have HS := Lib.hid (And.intro hS1 (And.intro hM2 (And.intro hI2 (And.intro hgs (And.intro hF hFe)))))
  have HX := Lib.hid (And.intro hx (And.intro he (And.intro hil (And.intro htn (And.intro hki hsm)))))
  clear hSI hS hM hI hk hF hx he hse hxe hi hk2 hbf hown hkey hD hb h1 hbad hbusy hno hne hS1 hgs hsm hM2 hI2 hFe htn hki
  go_enter Try.func10, Try.ntmps10
  go_wp2_with fail
  refine H1.out.mono ?_
  rintro e1 w1 ⟨rfl, rfl⟩
  go_wp2_with (first
    | (at_lookup; refine wpList_lookup_own_ok_int _ rfl _ _ 60 rfl 2 3 .i64 law64 Try.underlying60 Try.underlying3 (zeroE _) mb m D rfl HM.out.1 _ _ rfl HM.out.2.1 ?_; intro cc hat hwc; rw [HM.out.2.2]; clear hat hwc)
    | (at_mapUpdate; refine wpList_mapUpdate_own _ rfl _ _ _ 60 rfl 2 3 law64 Try.underlying60 _ mb m D rfl HS.out.1.1.2.2 (by unfold maxLen; omega) _ _ _ rfl rfl HM.out.2.1 _ [] (plainElem_int Try.underlying3 (WalkArith.wf_i64 (by have := HX.out.2.2.2.2.1; omega))) ?_; intro w2 hown2 hg2))
  have hS2 := HS.out.1.mapped hg2 hown2
  have hki := HX.out.2.2.2.2.1
  rw [hki] at hS2
  have hes : (es.set i e)[i]? = some e := by rw [List.getElem?_set_self (List.getElem?_eq_some_iff.1 HX.out.2.1).1]
  have hLs : (L.set i (x.1, x.2.1, op))[i]? = some (x.1, x.2.1, op) := by rw [List.getElem?_set_self HX.out.2.2.1]
  have hse2 := hS2.2.1.2.2.2 i _ _ hLs hes
  have d0' : w2.drew.cell? ⟨e.1, 0, none⟩ = some (.int .i64 x.1) := by
    have h := hse2.1.cell 0
    unfold cellsS at h
    simpa using h
  have d1' : w2.drew.cell? ⟨e.1, 1, none⟩ = some (.slice e.2.1 tn e.2.2) := by
    have h := hse2.1.cell 1
    unfold cellsS tokV at h
    simp only [List.getElem?_cons_succ, List.getElem?_cons_zero] at h
    rw [HX.out.2.2.2.1] at h
    exact h
  have hel : e.1 < w2.drew.heap.size := hse2.1.lt
  have ho2 : w2.drew.ownsRow 0 5 1 (.slice e.2.1 tn e.2.2) x.2.1.length (nums .u8 x.2.1) := by
    have h := hse2.2.1
    unfold tokV at h
    simp only at h
    rw [HX.out.2.2.2.1] at h ⊢
    exact h
  have H2 := Lib.hid (clone_any e.2.1 e.2.2 tn x.2.1 HX.out.2.2.2.1 w2.drew.heap.size w2.drew (Nat.le_refl _) (own_ns ho2) (by have := HX.out.2.2.2.2.2; have := HX.out.2.2.2.1; omega))
  have HS2 := Lib.hid (And.intro hS2 hg2)
  clear hS2 hki hes hLs hse2 ho2 hown2 hg2
  go_wp2_with fail
  go_region_held3 (fun V => V.cell? ⟨e.1, 0, none⟩ = some (.int .i64 x.1) ∧ V.cell? ⟨e.1, 1, none⟩ = some (.slice e.2.1 tn e.2.2)) (first | exact ⟨d0', d1'⟩ | exact ⟨(b3.cell (by exact hel)).trans d0', (b3.cell (by exact hel)).trans d1'⟩)
    (first | (go_at_call 24; refine H2.out.mono ?_; rintro e3 w3 ⟨A3, c3, rfl, o3, b3⟩))
  all_goals
    have hb : Below w2.heap.size w2 w3 := (show Below w2.heap.size w2 w2.drew from (Below.refl _ w2).drew).trans b3
    have hSI : SI F w3 sb N (L.set i (x.1, x.2.1, op)) (m + 1) := ⟨mb, A, c, es.set i e, _, by rw [List.length_set]; exact HS2.out.1.below hb, HS.out.2.1, HS.out.2.2.1⟩
    have hst : Stp F w1 F w3 := by
      refine ⟨((Chg.of_grown HS.out.2.2.2.1 fun g hg => by injection hg with hg; subst hg; exact HS.out.2.2.2.2.2).trans (Chg.of_grown HS2.out.2 fun g hg => by injection hg with hg; subst hg; exact HS.out.1.2.2.2.1) fun k hk => .inl hk).trans (Chg.of_below (F := F) hb) fun k hk => .inl hk, fun k hk => .inl hk⟩
    have HE : Hid (BeginPost L N m F sb w1 k op (.returned (.tuple #[.int .i64 x.1, .slice A3 tn c3, .int .i64 0])) w3) := Lib.hid (by
      unfold BeginPost
      rw [HS.out.2.2.2.2.1]
      refine ⟨A3, c3, tn, m + 1, F, w2.heap.size, rfl, HX.out.2.2.2.1, Nat.le_refl _, hSI, hst, fun j hj => HS2.out.1.lt j hj, ?_, o3⟩
      have h1 := HS.out.2.2.2.1.size
      have h2 := HS2.out.2.size
      omega)
    clear hSI hst hb o3 b3
    go_wp2_with fail
    go_ret3
    exact HE.out
end Sess
end Go.Proofs.Ytnmkhccgaedigaa
