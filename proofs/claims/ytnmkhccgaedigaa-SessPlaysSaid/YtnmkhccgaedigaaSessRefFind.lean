/-
  The document's sessions: find, Open.
-/
import Derived.Test.YtnmkhccgaedigaaSessRef
namespace Go.Proofs.Ytnmkhccgaedigaa
namespace Sess
open Go.RowKit Blk Go.Maps
attribute [local go_sem ↓] Go.wp_at_zero Go.wp_at_succ
section
variable {G : Nat → Prop} {w : World} {rb : Nat} {N : Int} {L : List Sn}
/-- A session as the walks read it. -/
theorem RI.at (h : RI G w rb N L) {i : Nat} {x : Sn} (hx : L[i]? = some x) :
    ∃ A c n g At ct, L.length = n ∧ i < n ∧ A = some ⟨g, 0, none⟩ ∧ w.cell? ⟨rb, 0, none⟩ = some (.int .i64 N) ∧ w.cell? ⟨rb, 1, none⟩ = some (.slice A n c) ∧
      (w.cell? ⟨g, i * 3, none⟩ = some (.int .i64 x.1) ∧ w.cell? ⟨g, i * 3 + 1, none⟩ = some (.slice At x.2.1.length ct) ∧ w.cell? ⟨g, i * 3 + 2, none⟩ = some (.int .i64 x.2.2)) ∧ (∀ r, w.frozen? ⟨g, r, none⟩ = false) ∧
      w.ownsRow 0 5 1 (.slice At x.2.1.length ct) x.2.1.length (nums .u8 x.2.1) ∧
      (∀ site, RI G (w.setCell ⟨g, i * 3, none⟩ (.int .i64 site)) rb N (L.set i (site, x.2.1, x.2.2)) ∧ Stp G w G (w.setCell ⟨g, i * 3, none⟩ (.int .i64 site))) ∧
      (∀ op, RI G (w.setCell ⟨g, i * 3 + 2, none⟩ (.int .i64 op)) rb N (L.set i (x.1, x.2.1, op)) ∧ Stp G w G (w.setCell ⟨g, i * 3 + 2, none⟩ (.int .i64 op))) := by
  obtain ⟨A, c, l, e, hS⟩ := h
  have hil : i < L.length := (List.getElem?_eq_some_iff.1 hx).1
  have hlL : l.length = L.length := by rw [← e, List.length_map]
  rw [← e, List.getElem?_map] at hx
  obtain ⟨y, hyl, hye⟩ := Option.map_eq_some_iff.1 hx
  obtain ⟨y1, At, ct⟩ := y
  simp only at hye
  subst hye
  have c0 := hS.1.1.cell 0
  have c1 := hS.1.1.cell 1
  simp only [List.getElem?_cons_zero, List.getElem?_cons_succ] at c0 c1
  obtain ⟨g, cap, hv, _, hg⟩ := hS.1.2.form (by omega)
  injection hv with hA _ hcap
  have h5 := hS.1.2
  rw [hA, hcap] at h5
  have hp := hS.2.1.2 _ (List.mem_of_getElem? hyl)
  have hat : ∀ r, r < 3 → w.cell? ⟨g, i * 3 + r, none⟩ = (rc (y1, At, ct))[r]? := fun r hr => by rw [h5.cellAt (i * 3 + r) (by omega), rcs_at l i _ hyl r hr]
  have hGg : G g := hS.2.2.2.1 g (by rw [hA]; rfl)
  have hst : ∀ r (v : Value), Stp G w G (w.setCell ⟨g, r, none⟩ v) := fun r v => ⟨Chg.of_grown (gset w g r v) fun q hq => by injection hq with hq; subst hq; exact hGg, fun _ => .inl⟩
  refine ⟨A, c, l.length, g, At, ct, hlL.symm, by omega, hA, c0, c1, ⟨hat 0 (by omega), hat 1 (by omega), hat 2 (by omega)⟩, h5.frozenAt, hp.1, fun site => ⟨⟨A, c, l.set i ((site, y1.2.1, y1.2.2), At, ct), by rw [List.map_set, e], ?_⟩, hst _ _⟩, fun op => ⟨⟨A, c, l.set i ((y1.1, y1.2.1, op), At, ct), by rw [List.map_set, e], ?_⟩, hst _ _⟩⟩
  · rw [List.length_set]
    exact hS.turn (r := 0) (y := ((site, y1.2.1, y1.2.2), At, ct)) hyl hA (by omega) rfl hp.1 hp.2 (fun _ => id) hS.lt
  · rw [List.length_set]
    exact hS.turn (r := 2) (y := ((y1.1, y1.2.1, op), At, ct)) hyl hA (by omega) rfl hp.1 hp.2 (fun _ => id) hS.lt
theorem RI.head (h : RI G w rb N L) (n : Nat) (hn : L.length = n) : ∃ A c, w.cell? ⟨rb, 0, none⟩ = some (.int .i64 N) ∧ w.cell? ⟨rb, 1, none⟩ = some (.slice A n c) := by
  obtain ⟨A, c, l, e, hS⟩ := h
  have hlL : l.length = n := by rw [← hn, ← e, List.length_map]
  rw [hlL] at hS
  have c0 := hS.1.1.cell 0
  have c1 := hS.1.1.cell 1
  simp only [List.getElem?_cons_zero, List.getElem?_cons_succ] at c0 c1
  exact ⟨A, c, c0, c1⟩
def findF (L : List Sn) (op : Int) : Int := (endF L op []).2.1
theorem rfind_any (h : RI G w rb N L) (hn : L.length ≤ 10000000000000) (hI : InvS N L) (op : Int) :
    Calls Try.prog 25 #[hd rb, .int .i64 op] w (fun e w' => e = .returned (.int .i64 (findF L op)) ∧ w' = w) := by
  obtain ⟨n, hnn⟩ : ∃ n, L.length = n := ⟨_, rfl⟩
  obtain ⟨A, c, c0, c1⟩ := h.head n hnn
  have HH := Lib.hid (And.intro h (And.intro hI hnn))
  rw [hnn] at hn
  clear h hI hnn
  go_enter Try.func25, Try.ntmps25
  go_wp2_with fail
  go_loopw [5] (fun q wr => ∃ k : Nat, k ≤ n ∧ q = .int .i64 k ∧ wr = w ∧ Hid (∀ j, j < k → ¬ IsAsk L op j)) (fun q _ => n - (intOf q).toNat)
  case atStart => exact ⟨0, by omega, rfl, rfl, Lib.hid fun j hj => by omega⟩
  case round =>
    obtain ⟨k, hk, rfl, rfl, hst⟩ := hrel
    by_cases hlt : k < n
    · have hkl : k < L.length := by have := HH.out.2.2; omega
      obtain ⟨x, hx⟩ : ∃ x, L[k]? = some x := ⟨_, List.getElem?_eq_getElem hkl⟩
      obtain ⟨A', c', n', g, At, ct, hn', hin, hA, _, d1, ⟨e0, e1, e2⟩, _, _, _, _⟩ := HH.out.1.at hx
      obtain rfl : n' = n := by have := HH.out.2.2; omega
      rw [d1] at c1
      injection c1 with c1
      injection c1 with q1 _ q2
      subst q1 q2 hA
      have z1 : (0 : Int) ≤ (k : Int) := by omega
      have z2 : (k : Int) < (n' : Int) := by omega
      by_cases hop : 0 < op
      · have o1 : decide (0 < op) = true := decide_eq_true hop
        by_cases hxo : x.2.2 = op
        · have o2 : (x.2.2 == op) = true := by simp [hxo]
          have e3 : IntKind.i64.wrap ((k : Int) + 1) = (k : Int) + 1 := Go.IntWalk.i64_in _ (by omega)
          have hF : findF L op = (k : Int) + 1 := by unfold findF; rw [endF_some HH.out.2.1 hx ⟨by omega, x, hx, hxo⟩]
          have HF := Lib.hid hF
          clear hF hst hx hxo hn'
          go_wp2_with fail
          go_ret
          exact ⟨by rw [HF.out]; rfl, rfl⟩
        · have o2 : (x.2.2 == op) = false := by simp [hxo]
          have HN : Hid (∀ j, j < k + 1 → ¬ IsAsk L op j) := Lib.hid fun j hj ha => by
            by_cases hjk : j = k
            · subst hjk
              obtain ⟨_, y, hy, hyo⟩ := ha
              rw [hx] at hy
              injection hy with hy
              subst hy
              exact hxo hyo
            · exact hst.out j (by omega) ha
          clear hst hx hxo hn'
          go_wp2_with fail
          exact ⟨⟨k + 1, by omega, rfl, trivial, HN⟩, by simp only [intOf]; omega⟩
      · have o1 : decide (0 < op) = false := decide_eq_false hop
        have HN : Hid (∀ j, j < k + 1 → ¬ IsAsk L op j) := Lib.hid fun j hj ha => by
          obtain ⟨h0, y, hy, hyo⟩ := ha
          have := (HH.out.2.1.1 y (List.mem_of_getElem? hy)).2.1
          omega
        clear hst hx hn' e0 e1 e2
        go_wp2_with fail
        exact ⟨⟨k + 1, by omega, rfl, trivial, HN⟩, by simp only [intOf]; omega⟩
    · have hF : findF L op = 0 := by
        unfold findF
        rw [endF_none]
        intro i hi
        by_cases hik : i < k
        · exact hst.out i hik hi
        · obtain ⟨_, y, hy, _⟩ := hi
          have := (List.getElem?_eq_some_iff.1 hy).1
          have := HH.out.2.2
          omega
      have HF := Lib.hid hF
      clear hF hst
      go_wp2_with fail
      go_ret
      exact ⟨by rw [HF.out]; rfl, rfl⟩
end
end Sess
end Go.Proofs.Ytnmkhccgaedigaa
