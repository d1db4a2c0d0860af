/-
  A vector stands for all dots up to its counts: what the set of them is, as sets go.
-/
import Derived.Test.YtpgpeigaoonpcacVectSet
import Derived.Test.YtpgpeigaoonpcacVectAwake
import Derived.Test.YtpgpeigaoonpcacSpanWithin
namespace Go.Proofs.Ytpgpeigaoonpcac
namespace Vect
open Go.RowKit Span

theorem setTo_mem (v : List Int) (s n : Int) : ∀ k, mem (setTo v k) s n ↔ 0 < n ∧ 1 ≤ s ∧ s ≤ k ∧ n ≤ v.getD (s - 1).toNat 0 := by
  intro k
  induction k with
  | zero =>
    simp only [setTo]
    exact ⟨fun h => absurd h (mem_nil _ _), fun h => by omega⟩
  | succ k ih =>
    by_cases h : 0 < v.getD k 0
    · rw [setTo_more rfl h, mem_append, mem_one, ih]
      constructor
      · rintro (h1 | ⟨e1, e2, e3⟩)
        · omega
        · simp only at e1 e2 e3
          refine ⟨by omega, by omega, by omega, ?_⟩
          rw [← e1, show ((k : Int) + 1 - 1).toNat = k by omega]
          exact e3
      · rintro ⟨h1, h2, h3, h4⟩
        by_cases hs : s ≤ k
        · exact .inl ⟨h1, h2, hs, h4⟩
        · right
          have hsk : s = (k : Int) + 1 := by omega
          rw [hsk, show ((k : Int) + 1 - 1).toNat = k by omega] at h4
          exact ⟨hsk.symm, by simp only; omega, h4⟩
    · rw [setTo_skip rfl h, ih]
      constructor
      · rintro ⟨h1, h2, h3, h4⟩
        exact ⟨h1, h2, by omega, h4⟩
      · rintro ⟨h1, h2, h3, h4⟩
        refine ⟨h1, h2, ?_, h4⟩
        rcases Int.lt_or_le (k : Int) s with h5 | h5
        · exfalso
          have hsk : s = (k : Int) + 1 := by omega
          rw [hsk, show ((k : Int) + 1 - 1).toNat = k by omega] at h4
          omega
        · exact h5
theorem setTo_in (v : List Int) : ∀ k, ∀ x ∈ setTo v k, 1 ≤ x.1 ∧ x.1 ≤ k ∧ x.2.1 = 1 ∧ 0 < x.2.2 ∧ x.2.2 = v.getD (x.1 - 1).toNat 0 := by
  intro k
  induction k with
  | zero => intro x hx; simp [setTo] at hx
  | succ k ih =>
    intro x hx
    by_cases h : 0 < v.getD k 0
    · rw [setTo_more rfl h] at hx
      rcases List.mem_append.1 hx with hx | hx
      · have := ih x hx
        refine ⟨this.1, by omega, this.2.2.1, this.2.2.2.1, this.2.2.2.2⟩
      · rw [List.mem_singleton.1 hx]
        refine ⟨by simp only; omega, by simp only; omega, rfl, h, ?_⟩
        simp only
        rw [show ((k : Int) + 1 - 1).toNat = k by omega]
    · rw [setTo_skip rfl h] at hx
      have := ih x hx
      exact ⟨this.1, by omega, this.2.2.1, this.2.2.2.1, this.2.2.2.2⟩
theorem setTo_fine {v : List Int} (hv : RightV v) : ∀ k, k ≤ v.length → Fine (setTo v k) := by
  intro k
  induction k with
  | zero => intro _; exact fine_nil
  | succ k ih =>
    intro hk
    by_cases h : 0 < v.getD k 0
    · rw [setTo_more rfl h, fine_snoc]
      have hb := hv.2.2 _ (vget_mem (i := k) (by omega) rfl)
      have hl := hv.2.1
      refine ⟨ih (by omega), ?_, fun y hy => ?_⟩
      · unfold okSp
        simp only
        omega
      · have := setTo_in v k y hy
        exact .inl (by simp only; omega)
    · rw [setTo_skip rfl h]
      exact ih (by omega)

theorem set_mem {v : List Int} (hv : RightV v) (s n : Int) : mem (setV v) s n ↔ CoversV v s n := by
  rw [set_good hv, setTo_mem]
  rfl
theorem set_right {v : List Int} (hv : RightV v) : Right (setV v) := by
  rw [set_good hv]
  have := setTo_len v v.length
  have h2 := hv.2.1
  exact ⟨by omega, setTo_fine hv _ (Nat.le_refl _)⟩
theorem set_has {v : List Int} (hv : RightV v) (s n : Int) : hasL (setV v) s n = decide (CoversV v s n) := by
  rw [hasL_mem]
  exact decide_eq_decide.2 (set_mem hv s n)

theorem max_right {a b : List Int} (ha : RightV a) (hb : RightV b) (hl : a.length = b.length) : RightV (maxV a b) := by
  refine ⟨by rw [max_len]; exact ha.1, by rw [max_len]; exact ha.2.1, fun z hz => ?_⟩
  obtain ⟨k, hk, rfl⟩ := List.mem_map.1 hz
  have hk' := List.mem_range.1 hk
  have h1 := ha.2.2 _ (vget_mem (i := k) hk' rfl)
  have h2 := hb.2.2 _ (vget_mem (i := k) (by omega) rfl)
  omega
theorem covers_max {a b : List Int} (hl : a.length = b.length) (s n : Int) : CoversV (maxV a b) s n ↔ CoversV a s n ∨ CoversV b s n := by
  unfold CoversV
  rw [max_len]
  constructor
  · rintro ⟨h1, h2, h3, h4⟩
    rw [max_at a b (by omega)] at h4
    rcases Int.lt_or_le (a.getD (s - 1).toNat 0) n with h5 | h5
    · exact .inr ⟨h1, h2, by omega, by omega⟩
    · exact .inl ⟨h1, h2, h3, h5⟩
  · rintro (⟨h1, h2, h3, h4⟩ | ⟨h1, h2, h3, h4⟩)
    · exact ⟨h1, h2, h3, by rw [max_at a b (by omega)]; omega⟩
    · exact ⟨h1, h2, by omega, by rw [max_at a b (by omega)]; omega⟩
/-- The sets of two vectors joined are the set of the vectors joined. -/
theorem set_join {a b : List Int} (ha : RightV a) (hb : RightV b) (hl : a.length = b.length) : joinE (setV a) (setV b) = 0 ∧ joinL (setV a) (setV b) = setV (maxV a b) := by
  have hm := max_right ha hb hl
  refine join_good (set_right ha) (set_right hb) ⟨(set_right hm).2, fun s n => ?_⟩ (set_right hm).1
  rw [set_mem hm, set_mem ha, set_mem hb, covers_max hl]
theorem holds_sub {a b : List Int} (ha : RightV a) (hb : RightV b) : HoldsV a (setV b) ↔ Sub (setV b) (setV a) := by
  constructor
  · intro h s n hm
    rw [set_mem ha]
    obtain ⟨x, hx, e1, e2, e3⟩ := hm
    have hc := h x hx
    have hi := setTo_in b b.length x (by rw [← set_good hb]; exact hx)
    unfold CoversV at hc ⊢
    rw [← e1]
    exact ⟨by omega, hc.2.1, hc.2.2.1, by omega⟩
  · intro h x hx
    have hi := setTo_in b b.length x (by rw [← set_good hb]; exact hx)
    exact (set_mem ha _ _).1 (h x.1 x.2.2 ⟨x, hx, rfl, by omega, Int.le_refl _⟩)
theorem below_sub {a b : List Int} (ha : RightV a) (hb : RightV b) (hl : a.length = b.length) : BelowV a b ↔ Sub (setV a) (setV b) := by
  constructor
  · intro h s n hm
    rw [set_mem ha] at hm
    rw [set_mem hb]
    obtain ⟨h1, h2, h3, h4⟩ := hm
    have := h.2.2.2 (s - 1).toNat (by omega)
    exact ⟨h1, h2, by omega, by omega⟩
  · intro h
    refine ⟨ha, hb, hl, fun k hk => ?_⟩
    have hbk := hb.2.2 _ (vget_mem (i := k) (by omega) rfl)
    rcases Int.lt_or_le 0 (a.getD k 0) with h0 | h0
    · have hm : mem (setV a) ((k : Int) + 1) (a.getD k 0) := by
        rw [set_mem ha]
        exact ⟨h0, by omega, by omega, by rw [show ((k : Int) + 1 - 1).toNat = k by omega]; exact Int.le_refl _⟩
      have := (set_mem hb _ _).1 (h _ _ hm)
      have h4 := this.2.2.2
      rwa [show ((k : Int) + 1 - 1).toNat = k by omega] at h4
    · omega
theorem within_sub {x y : List Sp} (hx : Right x) (hy : Right y) : withinF x y = true ↔ Sub x y := by
  unfold withinF
  rw [decide_eq_true_iff, sub_iff hx.2 hy.2]
  exact ⟨fun h => h.2.2, fun h => ⟨hx, hy, h⟩⟩
theorem holds_within {a b : List Int} (ha : RightV a) (hb : RightV b) : decide (HoldsV a (setV b)) = withinF (setV b) (setV a) := by
  rw [Bool.eq_iff_iff, decide_eq_true_iff, within_sub (set_right hb) (set_right ha)]
  exact holds_sub ha hb
theorem below_within {a b : List Int} (ha : RightV a) (hb : RightV b) (hl : a.length = b.length) : decide (BelowV a b) = withinF (setV a) (setV b) := by
  rw [Bool.eq_iff_iff, decide_eq_true_iff, within_sub (set_right ha) (set_right hb)]
  exact below_sub ha hb hl
theorem holds_max {a b : List Int} (ha : RightV a) (hb : RightV b) (hl : a.length = b.length) : decide (HoldsV (maxV a b) (setV b)) = true := by
  rw [holds_within (max_right ha hb hl) hb, within_sub (set_right hb) (set_right (max_right ha hb hl))]
  intro s n hm
  rw [set_mem (max_right ha hb hl), covers_max hl]
  exact .inr ((set_mem hb _ _).1 hm)
end Vect
end Go.Proofs.Ytpgpeigaoonpcac
