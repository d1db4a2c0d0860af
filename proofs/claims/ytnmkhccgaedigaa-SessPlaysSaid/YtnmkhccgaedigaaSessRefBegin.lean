/-
  The document's sessions: Begin, End.
-/
import Derived.Test.YtnmkhccgaedigaaSessRefDo
namespace Go.Proofs.Ytnmkhccgaedigaa
namespace Sess
open Go.RowKit Blk Go.Maps
attribute [local go_sem ↓] Go.wp_at_zero Go.wp_at_succ
section
variable {G : Nat → Prop} {w : World} {rb : Nat} {N : Int} {L : List Sn}
theorem findF_ask (hI : InvS N L) {op : Int} (h : askF L op = true) : ∃ i x, L[i]? = some x ∧ IsAsk L op i ∧ findF L op = (i : Int) + 1 := by
  obtain ⟨i, hi⟩ := askF_iff.1 h
  obtain ⟨h0, x, hx, hxo⟩ := hi
  exact ⟨i, x, hx, ⟨h0, x, hx, hxo⟩, by unfold findF; rw [endF_some hI hx ⟨h0, x, hx, hxo⟩]⟩
theorem findF_none {op : Int} (h : ¬ askF L op = true) : findF L op = 0 := by
  unfold findF
  rw [endF_none [] fun i hi => h (askF_iff.2 ⟨i, hi⟩)]
/-- What Begin answers. -/
def RBegin (G : Nat → Prop) (w : World) (rb : Nat) (N : Int) (L' : List Sn) (site err : Int) (tok : List Int) (e : Ending) (w' : World) : Prop :=
  ∃ At ct, e = .returned (.tuple #[.int .i64 site, .slice At tok.length ct, .int .i64 err]) ∧ Hid (RI G w' rb N L' ∧ Stp G w G w' ∧ Ns .u8 w' w'.heap.size At tok)
set_option maxRecDepth 100000 in
set_option maxHeartbeats 1000000 in
theorem rbegin_any (h : RI G w rb N L) (hn : L.length ≤ 10000000000000) (hI : InvS N L) (k op : Int) {L' : List Sn} {site err : Int} {tok : List Int} (hF : beginF L k op = (L', site, tok, err)) :
    Calls Try.prog 11 #[hd rb, .int .i64 k, .int .i64 op] w (RBegin G w rb N L' site err tok) := by
  obtain ⟨n, hnn⟩ : ∃ n, L.length = n := ⟨_, rfl⟩
  have hbad : ∀ er, beginF L k op = (L, 0, [], er) → RBegin G w rb N L' site err tok (.returned (.tuple #[.int .i64 0, .slice none 0 0, .int .i64 er])) w := fun er he => by
    rw [hF] at he
    injection he with e1 e2
    injection e2 with e2 e3
    injection e3 with e3 e4
    subst e1 e2 e3 e4
    exact ⟨none, 0, rfl, Lib.hid ⟨h, Stp.refl _ _, Ns.nil _⟩⟩
  by_cases hk : inF L k
  case neg =>
    have HE := Lib.hid (hbad 210 (by unfold beginF; rw [if_pos hk]))
    obtain ⟨A, c, c0, c1⟩ := h.head n hnn
    have hds := notIn hnn hk
    clear h hk hnn hn hbad hF
    rcases hds with d1 | ⟨d1, d2⟩
    all_goals
      go_enter Try.func11, Try.ntmps11
      go_wp2_with fail
      go_ret3
      exact HE.out
  have hx := getF_at hk
  obtain ⟨i, hi⟩ : ∃ i : Nat, (k - 1).toNat = i := ⟨_, rfl⟩
  have hki : k = (i : Int) + 1 := by unfold inF at hk; omega
  rw [hi] at hx
  obtain ⟨x, hxe⟩ : ∃ x, getF L k = x := ⟨_, rfl⟩
  rw [hxe] at hx
  have hbf : beginF L k op = if op < 1 ∨ askF L op = true then (L, 0, [], 1) else if x.2.2 ≠ 0 then (L, 0, [], 202) else (L.set i (x.1, x.2.1, op), x.1, x.2.1, 0) := by
    unfold beginF
    rw [if_neg (by simp [hk]), hi, hxe]
  obtain ⟨A, c, n', g, At, ct, hn', hin, hA, c0, c1, ⟨e0, e1, e2⟩, hfz, hown, _, hset⟩ := h.at hx
  obtain rfl : n' = n := by omega
  subst hA
  have hx3 := (hI.1 x (List.mem_of_getElem? hx)).2.1
  have d1 : decide (k < 1) = false := decide_eq_false (by omega)
  have d2 : decide ((n' : Int) < k) = false := decide_eq_false (by omega)
  by_cases h1 : op < 1
  · have HE := Lib.hid (hbad 1 (by rw [hbf, if_pos (.inl h1)]))
    have d3 : decide (op < 1) = true := decide_eq_true h1
    clear h hk hnn hn hbad hF hn' hx hxe hi hki hset hx3 hfz hown hbf h1 e0 e1 e2
    go_enter Try.func11, Try.ntmps11
    go_wp2_with fail
    go_ret3
    exact HE.out
  have d3 : decide (op < 1) = false := decide_eq_false h1
  have H1 := Lib.hid (rfind_any h hn hI op)
  by_cases ha : askF L op = true
  · have HE := Lib.hid (hbad 1 (by rw [hbf, if_pos (.inr ha)]))
    obtain ⟨j, _, _, _, hj⟩ := findF_ask hI ha
    rw [hj] at H1
    have d4 : decide (0 < (j : Int) + 1) = true := decide_eq_true (by omega)
    clear h hk hnn hn hbad hF hn' hx hxe hi hki hset hx3 hfz hown hbf h1 ha e0 e1 e2 hj
    go_enter Try.func11, Try.ntmps11
    go_wp2_with fail
    refine H1.out.mono ?_
    rintro e w1 ⟨rfl, rfl⟩
    go_wp2_with fail
    go_ret3
    exact HE.out
  rw [findF_none ha] at H1
  rw [if_neg (by rintro (q | q); exact h1 q; exact ha q)] at hbf
  have w1 : IntKind.i64.wrap (k - 1) = (i : Int) := by rw [hki, show (i : Int) + 1 - 1 = i by omega]; exact Go.IntWalk.i64_in _ (by omega)
  have z1 : (0 : Int) ≤ (i : Int) := by omega
  have z2 : (i : Int) < (n' : Int) := by omega
  by_cases ho : x.2.2 = 0
  · rw [if_neg (by simpa using ho), hF] at hbf
    injection hbf with q1 q2
    injection q2 with q2 q3
    injection q3 with q3 q4
    subst q1 q2 q3 q4
    have d5 : decide (0 < x.2.2) = false := decide_eq_false (by omega)
    have f0 := hfz (i * 3 + 2)
    obtain ⟨hN, hS⟩ := hset op
    obtain ⟨W, hW⟩ : ∃ W, w.setCell ⟨g, i * 3 + 2, none⟩ (.int .i64 op) = W := ⟨_, rfl⟩
    rw [hW] at hN hS
    have hil : i < L.length := by omega
    obtain ⟨A2, c2, n2, g2, At2, ct2, hn2, hin2, hA2, _, k1, ⟨m0, m1, _⟩, _, hown2, _⟩ := hN.at (List.getElem?_set_self hil)
    obtain rfl : n2 = n' := by rw [List.length_set] at hn2; omega
    subst hA2
    obtain ⟨tl, htl⟩ : ∃ k, x.2.1.length = k := ⟨_, rfl⟩
    simp only at m0 m1 hown2
    have HE := Lib.hid (And.intro hN (And.intro hS (own_ns (c := ct2) (n := tl) (zs := x.2.1) (by rw [htl] at hown2 ⊢; exact hown2))))
    have HT := Lib.hid htl
    rw [htl] at m1
    clear h hk hnn hn hbad hF hn' hx hxe hi hki hset hx3 hfz hown h1 ha ho hN hS hil hn2 hown2 htl
    go_enter Try.func11, Try.ntmps11
    go_wp2_with fail
    refine H1.out.mono ?_
    rintro e w1 ⟨rfl, rfl⟩
    go_wp2_with fail
    go_region_held3 (fun V => V.cell? ⟨rb, 1, none⟩ = some (.slice (some ⟨g2, 0, none⟩) n2 c2) ∧ V.cell? ⟨g2, i * 3, none⟩ = some (.int .i64 x.1) ∧ V.cell? ⟨g2, i * 3 + 1, none⟩ = some (.slice At2 tl ct2)) (first | exact ⟨k1, m0, m1⟩) (fail)
    all_goals
      go_wp2_with fail
      go_ret3
      refine ⟨At2, ct2, by rw [HT.out]; rfl, Lib.hid ⟨HE.out.1.below (Below.refl _ _).drew, HE.out.2.1.trans (Stp.of_below (Below.refl _ _).drew), HE.out.2.2⟩⟩
  · have HE := Lib.hid (hbad 202 (by rw [hbf, if_pos ho]))
    have d5 : decide (0 < x.2.2) = true := decide_eq_true (by omega)
    clear h hk hnn hn hbad hF hn' hx hxe hi hki hset hx3 hfz hown hbf h1 ha ho
    go_enter Try.func11, Try.ntmps11
    go_wp2_with fail
    refine H1.out.mono ?_
    rintro e w1 ⟨rfl, rfl⟩
    go_wp2_with fail
    go_ret3
    exact HE.out
end
end Sess
end Go.Proofs.Ytnmkhccgaedigaa
