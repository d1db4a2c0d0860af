/-
  firthlaw05.has: is a version of that dot among these?
-/
import Derived.Test.YthiiganfoecmnaaVersRightRef
namespace Go.Proofs.Ythiiganfoecmnaa
namespace Vers
open Go.RowKit Span
attribute [local go_sem ↓] Go.wp_at_zero Go.wp_at_succ

def hasD (l : List Vr) (s n : Int) : Prop := ∃ v ∈ l, v.s = s ∧ v.n = n
instance (l : List Vr) (s n : Int) : Decidable (hasD l s n) := by unfold hasD; infer_instance
theorem hasD_at {l : List Vr} {k : Nat} (h : k < l.length) (s n : Int) : decide (hasD (l.drop k) s n) = (decide ((l.getD k v0).s = s ∧ (l.getD k v0).n = n) || decide (hasD (l.drop (k + 1)) s n)) := by
  have e : l.getD k v0 = l[k] := by simp [List.getD_eq_getElem?_getD, h]
  rw [e, List.drop_eq_getElem_cons h, ← Bool.decide_or]
  congr 1
  refine propext ?_
  unfold hasD
  simp only [List.mem_cons, exists_eq_or_imp]

set_option maxRecDepth 100000 in
set_option maxHeartbeats 2000000 in
theorem has_any (A : Option Addr) (c n : Nat) (l : List Vr) (hn : l.length = n) (s m : Int) (w : World) (hv : Vs w 0 w.heap.size A l) (hn2 : n ≤ 140737488355328) :
    Calls Try.prog 21 #[.slice A n c, .agg #[.int .i64 s, .int .i64 m]] w fun e w' => e = .returned (.bool (decide (hasD l s m))) ∧ Below w.heap.size w w' := by
  obtain ⟨R, hR⟩ : ∃ R, decide (hasD l s m) = R := ⟨_, rfl⟩
  rw [hR]
  have HV := Lib.hid (And.intro hv hn)
  have HR := Lib.hid hR
  clear hv hn hR
  go_enter Try.func21, Try.ntmps21
  go_wp2
  obtain ⟨W0, hW0⟩ : ∃ W0, w.alloc (.cells #[.int .i64 s, .int .i64 m] 25) = W0 := ⟨_, rfl⟩
  obtain ⟨p, hp⟩ : ∃ p, w.heap.size = p := ⟨_, rfl⟩
  have y0 : W0.cell? ⟨p, 0, none⟩ = some (.int .i64 s) := by rw [← hW0, ← hp]; simp
  have y1 : W0.cell? ⟨p, 1, none⟩ = some (.int .i64 m) := by rw [← hW0, ← hp]; simp
  have hpl : p < W0.heap.size := by rw [← hW0, ← hp]; simp
  have B0 : Below w.heap.size w W0 := by rw [← hW0]; exact (Below.refl _ w).alloc (Nat.le_refl _) _
  have HB0 := Lib.hid B0
  have hsz0 := B0.size
  rw [hW0, hp]
  have HPS := Lib.hid hp
  clear hW0 hp B0
  go_loopw [5] (fun iv wr => ∃ k : Nat, iv = .int .i64 k ∧ k ≤ n ∧ Below W0.heap.size W0 wr ∧ Hid (R = decide (hasD (l.drop k) s m))) (fun iv _ => n - (intOf iv).toNat)
  case atStart => exact ⟨0, rfl, by omega, Below.refl _ _, Lib.hid HR.out.symm⟩
  case round =>
    obtain ⟨k, rfl, hk, hb, hst⟩ := hrel
    have hbw := Lib.hid (HB0.out.trans (hb.mono hsz0))
    have hsz := hb.size
    by_cases hlt : k < n
    · obtain ⟨b, off, A1, c1, rfl, _, hbB, a0, a1, a2, a3, a4, hpa⟩ := HV.out.1.at HV.out.2 hbw.out hlt rfl
      have hd := hasD_at (l := l) (k := k) (by have := HV.out.2; omega) s m
      obtain ⟨v, hvv⟩ : ∃ v, l.getD k v0 = v := ⟨_, rfl⟩
      rw [hvv] at a0 a1 hd
      obtain ⟨vs, vn, vp, vg, vx⟩ := v
      simp only at a0 a1 hd
      have HD := Lib.hid (hst.out.trans hd)
      have e0 := (hb.cell (p := ⟨p, 0, none⟩) hpl).trans y0
      have e1 := (hb.cell (p := ⟨p, 1, none⟩) hpl).trans y1
      have d1 : (0 : Int) ≤ (k : Int) := by omega
      have d2 : (k : Int) < (n : Int) := by omega
      clear a2 a3 a4 hpa hd hst hvv y0 y1
      by_cases cd : vs = s ∧ vn = m
      · have HN := Lib.hid (show R = true by rw [HD.out, decide_eq_true cd]; rfl)
        have hfin : ∀ j, Below w.heap.size w (wr.drewN j) := fun j => hbw.out.trans (below_drewN _ _ _)
        have HF := Lib.hid hfin
        obtain ⟨rfl, rfl⟩ := cd
        clear HD hb hfin
        go_wp2_with fail
        go_quiet (fail)
        go_wp2_with fail
        go_ret
        exact ⟨by rw [HN.out]; rfl, HF.out _⟩
      · have HN := Lib.hid (show R = decide (hasD (l.drop (k + 1)) s m) by rw [HD.out, decide_eq_false cd]; rfl)
        have hx : ¬ (vs = s) ∨ (vs = s ∧ ¬ vn = m) := by
          by_cases h1 : vs = s
          · exact .inr ⟨h1, fun h2 => cd ⟨h1, h2⟩⟩
          · exact .inl h1
        clear HD cd
        rcases hx with h1 | ⟨rfl, h1⟩
        · have g1 : (vs == s) = false := by simpa using h1
          clear h1
          go_wp2_with fail
          go_quiet (fail)
          go_wp2_with fail
          exact ⟨⟨k + 1, rfl, by omega, hb.trans (below_drewN _ _ _), HN⟩, by simp only [intOf]; omega⟩
        · have g1 : (vn == m) = false := by simpa using h1
          have g2 : (vs == vs) = true := by simp
          clear h1
          go_wp2_with fail
          go_quiet (fail)
          go_wp2_with fail
          exact ⟨⟨k + 1, rfl, by omega, hb.trans (below_drewN _ _ _), HN⟩, by simp only [intOf]; omega⟩
    · have hkn : k = n := by omega
      subst hkn
      have HN := Lib.hid (show R = false by rw [hst.out, List.drop_of_length_le (by have := HV.out.2; omega)]; simp [hasD])
      clear hst
      go_wp2
      go_ret
      exact ⟨by rw [HN.out]; rfl, hbw.out⟩
end Vers
end Go.Proofs.Ythiiganfoecmnaa
