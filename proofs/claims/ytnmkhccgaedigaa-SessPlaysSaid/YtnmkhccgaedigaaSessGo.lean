/-
  sess: Go; and all in a form that a law reads: with letters.
-/
import Derived.Test.YtnmkhccgaedigaaSessEnd
namespace Go.Proofs.Ytnmkhccgaedigaa
namespace Sess
open Go.RowKit Blk Go.Maps
attribute [local go_sem ↓] Go.wp_at_zero Go.wp_at_succ

def GoPost (L : List Sn) (N : Int) (m : Nat) (F : Nat → Prop) (sb : Nat) (w : World) (k site : Int) (e : Ending) (w' : World) : Prop :=
  e = .returned (.int .i64 (goF N L k site).2) ∧ SI F w' sb N (goF N L k site).1 m ∧ Stp F w F w'
set_option maxRecDepth 100000 in
theorem go_any {F : Nat → Prop} {w : World} {sb m : Nat} {N : Int} {L : List Sn} (h : SI F w sb N L m) (hn : L.length ≤ 10000000000000) (k site : Int) :
    Calls Try.prog 14 #[hd sb, .int .i64 k, .int .i64 site] w (GoPost L N m F sb w k site) := by
  have hSI := h
  obtain ⟨mb, A, c, es, D, hS, hM, hI⟩ := h
  have hbad : ∀ err, goF N L k site = (L, err) → GoPost L N m F sb w k site (.returned (.int .i64 err)) w := fun err hF => by
    unfold GoPost
    rw [hF]
    exact ⟨rfl, hSI, Stp.refl _ _⟩
  by_cases hk : inF L k
  case neg =>
    have HE := Lib.hid (hbad 210 (if_pos hk))
    have H1 := Lib.hid (get_none hS k hk)
    clear hSI hS hM hI hk hbad
    go_enter Try.func14, Try.ntmps14
    go_wp2_with fail
    refine H1.out.mono ?_
    rintro e1 w1 ⟨rfl, rfl⟩
    go_wp2_with fail
    go_ret
    exact HE.out
  have hx := getF_at hk
  have hk2 := (hS.inF k).1 hk
  obtain ⟨i, hi⟩ : ∃ i : Nat, (k - 1).toNat = i := ⟨_, rfl⟩
  have hki : k = (i : Int) + 1 := by omega
  have hgf : goF N L k site = if ¬ (1 ≤ site ∧ site ≤ N) then (L, 1) else if (getF L k).2.2 ≠ 0 then (L, 202) else (L.set i (site, (getF L k).2.1, (getF L k).2.2), 0) := by
    unfold goF
    rw [if_neg (by simp [hk]), hi]
  rw [hi] at hx
  have hil : i < L.length := (List.getElem?_eq_some_iff.1 hx).1
  obtain ⟨x', e, hx', he, hse⟩ := hS.at hil
  obtain ⟨x, hxe⟩ : ∃ x, getF L k = x := ⟨_, rfl⟩
  rw [hxe] at hx hgf
  rw [hx] at hx'
  injection hx' with hx'
  subst hx'
  have h1 := get_some hS (by omega) i e he k hki
  rw [show ptr e = .pointer (some ⟨e.1, 0, none⟩) from rfl] at h1
  have H1 := Lib.hid h1
  have h2 := isSite_any hS.1.1 site
  by_cases hs : 1 ≤ site ∧ site ≤ N
  case neg =>
    rw [decide_eq_false hs] at h2
    have H2 := Lib.hid h2
    have HE := Lib.hid (hbad 1 (by rw [hgf, if_pos hs]))
    clear hSI hS hM hI hk hbad hx he hse hxe hi hki hk2 hil hgf h1 h2 hs
    go_enter Try.func14, Try.ntmps14
    go_wp2_with fail
    refine H1.out.mono ?_
    rintro e1 w1 ⟨rfl, rfl⟩
    go_wp2_with fail
    refine H2.out.mono ?_
    rintro e2 w2 ⟨rfl, rfl⟩
    go_wp2_with fail
    go_ret
    exact HE.out
  rw [decide_eq_true hs] at h2
  have H2 := Lib.hid h2
  have d2 := hse.1.cell 2
  have d0 := hse.1.cell 0
  have f0 := hse.1.frozen 0
  unfold cellsS at d0 d2
  simp only [List.getElem?_cons_succ, List.getElem?_cons_zero] at d0 d2
  by_cases hbusy : x.2.2 = 0
  case neg =>
    have hd2 : (x.2.2 != 0) = true := by simpa using hbusy
    have HE := Lib.hid (hbad 202 (by rw [hgf, if_neg (by simp [hs]), if_pos hbusy]))
    clear hSI hS hM hI hk hbad hx he hse hxe hi hki hk2 hil hgf h1 h2 hs hbusy
    go_enter Try.func14, Try.ntmps14
    go_wp2_with fail
    refine H1.out.mono ?_
    rintro e1 w1 ⟨rfl, rfl⟩
    go_wp2_with fail
    refine H2.out.mono ?_
    rintro e2 w2 ⟨rfl, rfl⟩
    go_wp2_with fail
    go_ret
    exact HE.out
  have hd2 : (x.2.2 != 0) = false := by simp [hbusy]
  have hF : goF N L k site = (L.set i (site, x.2.1, x.2.2), 0) := by rw [hgf, if_neg (by simp [hs]), if_neg (by simp [hbusy])]
  obtain ⟨W1, hW1⟩ : ∃ W1, w.setCell ⟨e.1, 0, none⟩ (.int .i64 site) = W1 := ⟨_, rfl⟩
  have hS1 : SO F W1 sb mb N A c L.length (es.set i e) (L.set i (site, x.2.1, x.2.2)) m D := by rw [← hW1]; exact hS.setSite hx he site
  have hgs := gset w e.1 0 (.int .i64 site)
  rw [hW1] at hgs
  have HE : Hid (GoPost L N m F sb w k site (.returned (.int .i64 0)) W1) := Lib.hid (by
    unfold GoPost
    rw [hF]
    exact ⟨rfl, ⟨mb, A, c, _, _, by rw [List.length_set]; exact hS1, map_turn hM hx rfl, inv_turn hI hx rfl hs (hI.1 x (List.mem_of_getElem? hx)).2.2⟩, Chg.of_grown hgs fun g hg => by injection hg with hg; subst hg; exact hse.2.2.1, fun k hk => .inl hk⟩)
  clear hSI hS hM hI hk hbad hx he hse hxe hi hki hk2 hil hgf h1 h2 hs hbusy hF hS1 hgs
  go_enter Try.func14, Try.ntmps14
  go_wp2_with fail
  refine H1.out.mono ?_
  rintro e1 w1 ⟨rfl, rfl⟩
  go_wp2_with fail
  refine H2.out.mono ?_
  rintro e2 w2 ⟨rfl, rfl⟩
  go_wp2_with fail
  go_ret
  exact HE.out
end Sess
end Go.Proofs.Ytnmkhccgaedigaa
