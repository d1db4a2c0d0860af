/-
  What is right in layer 6: numbers, addresses, records, lists of them.
-/
import Derived.Test.YtegiigeelcnemaaGreatCodeRecs
import Derived.Test.YtegiigeelcnemaaGreatVersRight
namespace Go.Proofs.YtegiigeelcnemaaGreat
namespace Code
open Go.RowKit Num Span Vers
attribute [local go_sem ↓] Go.wp_at_zero Go.wp_at_succ

theorem all_step {α : Type} {R : α → Prop} {l : List α} {k : Nat} (d : α) (hk : k < l.length) (h : ∀ x ∈ l.take k, R x) (hx : R (l.getD k d)) : ∀ x ∈ l.take (k + 1), R x := by
  intro x hm
  rw [List.take_succ_eq_append_getElem hk] at hm
  rcases List.mem_append.1 hm with hm | hm
  · exact h x hm
  · rw [List.mem_singleton.1 hm]
    simpa [List.getD_eq_getElem?_getD, hk] using hx
theorem all_bad {α : Type} {R : α → Prop} [DecidablePred R] {l : List α} {k : Nat} (d : α) (hk : k < l.length) (hx : ¬ R (l.getD k d)) : decide (∀ x ∈ l, R x) = false := by
  refine decide_eq_false fun h => hx (h _ ?_)
  rw [List.getD_eq_getElem?_getD, List.getElem?_eq_getElem hk]
  exact List.getElem_mem _
theorem all_end {α : Type} {R : α → Prop} [DecidablePred R] {l : List α} {m : Nat} (hm : l.length = m) (h : ∀ x ∈ l.take m, R x) : decide (∀ x ∈ l, R x) = true := by
  rw [List.take_of_length_le (by omega)] at h
  exact decide_eq_true h

theorem rsite_any (x : Int) (w : World) : Calls Tryz.prog 41 #[.int .i64 x] w (fun e w' => e = .returned (.bool (decide (1 ≤ x ∧ x ≤ 16))) ∧ w' = w) := by
  by_cases h1 : 1 ≤ x
  · by_cases h2 : x ≤ 16
    · have hR : decide (1 ≤ x ∧ x ≤ 16) = true := decide_eq_true ⟨h1, h2⟩
      rw [hR]
      clear hR
      go_enter Tryz.func41, Tryz.ntmps41
      go_wp2_with fail
      go_ret
      exact ⟨rfl, rfl⟩
    · have hR : decide (1 ≤ x ∧ x ≤ 16) = false := decide_eq_false fun h => h2 h.2
      rw [hR]
      clear hR
      go_enter Tryz.func41, Tryz.ntmps41
      go_wp2_with fail
      go_ret
      exact ⟨rfl, rfl⟩
  · have hR : decide (1 ≤ x ∧ x ≤ 16) = false := decide_eq_false fun h => h1 h.1
    rw [hR]
    clear hR
    go_enter Tryz.func41, Tryz.ntmps41
    go_wp2_with fail
    go_ret
    exact ⟨rfl, rfl⟩

theorem rcount_any (x : Int) (w : World) : Calls Tryz.prog 38 #[.int .i64 x] w (fun e w' => e = .returned (.bool (decide (0 ≤ x ∧ x ≤ 4611686018427387904))) ∧ w' = w) := by
  by_cases h1 : 0 ≤ x
  · by_cases h2 : x ≤ 4611686018427387904
    · have hR : decide (0 ≤ x ∧ x ≤ 4611686018427387904) = true := decide_eq_true ⟨h1, h2⟩
      rw [hR]
      clear hR
      go_enter Tryz.func38, Tryz.ntmps38
      go_wp2_with fail
      go_ret
      exact ⟨rfl, rfl⟩
    · have hR : decide (0 ≤ x ∧ x ≤ 4611686018427387904) = false := decide_eq_false fun h => h2 h.2
      rw [hR]
      clear hR
      go_enter Tryz.func38, Tryz.ntmps38
      go_wp2_with fail
      go_ret
      exact ⟨rfl, rfl⟩
  · have hR : decide (0 ≤ x ∧ x ≤ 4611686018427387904) = false := decide_eq_false fun h => h1 h.1
    rw [hR]
    clear hR
    go_enter Tryz.func38, Tryz.ntmps38
    go_wp2_with fail
    go_ret
    exact ⟨rfl, rfl⟩

theorem rdigit_any (x : Int) (w : World) : Calls Tryz.prog 40 #[.int .i64 x] w (fun e w' => e = .returned (.bool (decide (0 ≤ x ∧ x < 16))) ∧ w' = w) := by
  by_cases h1 : 0 ≤ x
  · by_cases h2 : x < 16
    · have hR : decide (0 ≤ x ∧ x < 16) = true := decide_eq_true ⟨h1, h2⟩
      rw [hR]
      clear hR
      go_enter Tryz.func40, Tryz.ntmps40
      go_wp2_with fail
      go_ret
      exact ⟨rfl, rfl⟩
    · have hR : decide (0 ≤ x ∧ x < 16) = false := decide_eq_false fun h => h2 h.2
      rw [hR]
      clear hR
      go_enter Tryz.func40, Tryz.ntmps40
      go_wp2_with fail
      go_ret
      exact ⟨rfl, rfl⟩
  · have hR : decide (0 ≤ x ∧ x < 16) = false := decide_eq_false fun h => h1 h.1
    rw [hR]
    clear hR
    go_enter Tryz.func40, Tryz.ntmps40
    go_wp2_with fail
    go_ret
    exact ⟨rfl, rfl⟩

instance (a : Int × Int) : Decidable (okA a) := by unfold okA; infer_instance
set_option maxRecDepth 100000 in
theorem rplace_any (x y : Int) (w : World) : Calls Tryz.prog 35 #[.agg #[.int .i64 x, .int .i64 y]] w (fun e w' => e = .returned (.bool (decide (okA (x, y)))) ∧ Below w.heap.size w w') := by
  have h1 := fun W => rsite_any x W
  obtain ⟨W, hW⟩ : ∃ W, w.alloc (.cells #[.int .i64 x, .int .i64 y] 40) = W := ⟨_, rfl⟩
  have hB : Bn w.heap.size 40 [.int .i64 x, .int .i64 y] W := by rw [← hW]; exact heap_alloc_new _ _
  have k0 := hB.cell 0
  have k1 := hB.cell 1
  simp only [List.getElem?_cons_zero, List.getElem?_cons_succ] at k0 k1
  have HB := Lib.hid (show Below w.heap.size w W by rw [← hW]; exact (Below.refl _ w).alloc (Nat.le_refl _) _)
  clear hB
  obtain ⟨R, hR⟩ : ∃ R, decide (okA (x, y)) = R := ⟨_, rfl⟩
  rw [hR]
  by_cases c0 : 1 ≤ x ∧ x ≤ 16
  · rw [decide_eq_true c0] at h1
    have H1 := Lib.hid h1
    by_cases c1 : 0 ≤ y
    · by_cases c2 : y ≤ 8
      · have HR := Lib.hid (show R = true by rw [← hR]; exact decide_eq_true ⟨c0, c1, c2⟩)
        clear h1 hR c0
        go_enter Tryz.func35, Tryz.ntmps35
        go_wp2_with fail
        refine (H1.out _).mono ?_
        rintro e w1 ⟨rfl, rfl⟩
        go_wp2_with fail
        go_ret
        exact ⟨by rw [HR.out]; rfl, HB.out⟩
      · have HR := Lib.hid (show R = false by rw [← hR]; exact decide_eq_false fun h => c2 h.2.2)
        clear h1 hR c0
        go_enter Tryz.func35, Tryz.ntmps35
        go_wp2_with fail
        refine (H1.out _).mono ?_
        rintro e w1 ⟨rfl, rfl⟩
        go_wp2_with fail
        go_ret
        exact ⟨by rw [HR.out, ← decide_eq_false (show ¬ y ≤ 8 by omega)]; rfl, HB.out⟩
    · have HR := Lib.hid (show R = false by rw [← hR]; exact decide_eq_false fun h => c1 h.2.1)
      clear h1 hR c0
      go_enter Tryz.func35, Tryz.ntmps35
      go_wp2_with fail
      refine (H1.out _).mono ?_
      rintro e w1 ⟨rfl, rfl⟩
      go_wp2_with fail
      go_ret
      exact ⟨by rw [HR.out]; rfl, HB.out⟩
  · rw [decide_eq_false c0] at h1
    have H1 := Lib.hid h1
    have HR := Lib.hid (show R = false by rw [← hR]; exact decide_eq_false fun h => c0 h.1)
    clear h1 hR c0
    go_enter Tryz.func35, Tryz.ntmps35
    go_wp2_with fail
    refine (H1.out _).mono ?_
    rintro e w1 ⟨rfl, rfl⟩
    go_wp2_with fail
    go_ret
    exact ⟨by rw [HR.out]; rfl, HB.out⟩

set_option maxRecDepth 100000 in
theorem rrecord_any (A : Option Addr) (c m : Nat) (key : ByteArray) (l : List Vr) (hm : l.length = m) (hm2 : m ≤ 140737488355328) (hk2 : key.size ≤ 140737488355328) (w : World) (hv : Vs w 0 w.heap.size A l) :
    Calls Tryz.prog 12 #[.agg #[.string key, .slice A m c]] w (fun e w' => e = .returned (.bool (decide (okR (key, l)))) ∧ Below w.heap.size w w') := by
  obtain ⟨W, hW⟩ : ∃ W, w.alloc (.cells #[.string key, .slice A m c] 24) = W := ⟨_, rfl⟩
  have hB : Bn w.heap.size 24 [.string key, .slice A m c] W := by rw [← hW]; exact heap_alloc_new _ _
  have k0 := hB.cell 0
  have k1 := hB.cell 1
  simp only [List.getElem?_cons_zero, List.getElem?_cons_succ] at k0 k1
  have hbW : Below w.heap.size w W := by rw [← hW]; exact (Below.refl _ w).alloc (Nat.le_refl _) _
  have h1 := rightV_any A c m l hm W ((hv.below hbW).more hbW.size) hm2
  have hsz := hbW.size
  have HB := Lib.hid hbW
  clear hB hbW hv
  obtain ⟨R, hR⟩ : ∃ R, decide (okR (key, l)) = R := ⟨_, rfl⟩
  rw [hR]
  by_cases c0 : 1 ≤ key.size
  · have d0 : (1 : Int) ≤ (key.size : Int) := by omega
    by_cases c1 : key.size ≤ 32
    · have d1 : (key.size : Int) ≤ 32 := by omega
      have HR := Lib.hid (show R = decide (RightV l) by rw [← hR]; exact decide_eq_decide.2 ⟨fun h => h.2.2, fun h => ⟨c0, c1, h⟩⟩)
      have H1 := Lib.hid h1
      clear h1 hR
      go_enter Tryz.func12, Tryz.ntmps12
      go_wp2_with fail
      refine H1.out.mono ?_
      rintro e w1 ⟨rfl, hb1⟩
      have HE := Lib.hid (HB.out.trans (hb1.mono hsz))
      obtain ⟨D, hD⟩ : ∃ D, decide (RightV l) = D := ⟨_, rfl⟩
      have hRD : R = D := by rw [HR.out, hD]
      rw [hD]
      clear hb1 H1 HR hD
      go_wp2_with fail
      go_ret
      exact ⟨by rw [hRD]; rfl, HE.out⟩
    · have d1 : ¬ (key.size : Int) ≤ 32 := by omega
      have HR := Lib.hid (show R = false by rw [← hR]; exact decide_eq_false fun h => c1 h.2.1)
      clear h1 hR
      go_enter Tryz.func12, Tryz.ntmps12
      go_wp2_with fail
      go_ret
      exact ⟨by rw [HR.out]; rfl, HB.out⟩
  · have d0 : ¬ (1 : Int) ≤ (key.size : Int) := by omega
    have HR := Lib.hid (show R = false by rw [← hR]; exact decide_eq_false fun h => c0 h.1)
    clear h1 hR
    go_enter Tryz.func12, Tryz.ntmps12
    go_wp2_with fail
    go_ret
    exact ⟨by rw [HR.out]; rfl, HB.out⟩

set_option maxRecDepth 100000 in
theorem allcounts_any (A : Option Addr) (c m : Nat) (l : List Int) (hm : l.length = m) (hm2 : m ≤ 140737488355328) (w : World) (hr : Ns .i64 w w.heap.size A l) :
    Calls Tryz.prog 37 #[.slice A m c, .func (.func 38) #[] #[]] w (fun e w' => e = .returned (.bool (decide (∀ x ∈ l, 0 ≤ x ∧ x ≤ 4611686018427387904))) ∧ Below w.heap.size w w') := by
  obtain ⟨D, hD⟩ : ∃ D, decide (∀ x ∈ l, 0 ≤ x ∧ x ≤ 4611686018427387904) = D := ⟨_, rfl⟩
  rw [hD]
  have HS := Lib.hid (And.intro hr (And.intro hm hD))
  clear hr hm hD
  go_enter Tryz.func37, Tryz.ntmps37
  go_wp2_with fail
  go_loopw [9] (fun q wr => ∃ k : Nat, q = .int .i64 k ∧ k ≤ m ∧ Below w.heap.size w wr ∧ Hid (∀ x ∈ l.take k, 0 ≤ x ∧ x ≤ 4611686018427387904)) (fun q _ => m - (intOf q).toNat)
  case atStart => exact ⟨0, rfl, by omega, Below.refl _ _, Lib.hid (by simp)⟩
  case round =>
    obtain ⟨k, rfl, hk, hb, hst⟩ := hrel
    have hm := HS.out.2.1
    by_cases hlt : k < m
    · have d1 : (0 : Int) ≤ (k : Int) := by omega
      have d2 : (k : Int) < (m : Int) := by omega
      have hbad := all_bad (R := fun x => 0 ≤ x ∧ x ≤ 4611686018427387904) (0 : Int) (show k < l.length by omega)
      have hstep := all_step (R := fun x => 0 ≤ x ∧ x ≤ 4611686018427387904) (0 : Int) (show k < l.length by omega) hst.out
      obtain ⟨pb, off, rfl, hpb, hc⟩ := (HS.out.1.below hb) (by omega)
      have c0 := hc k (by omega)
      obtain ⟨x, hxx⟩ : ∃ x, l.getD k 0 = x := ⟨_, rfl⟩
      rw [hxx] at c0 hbad hstep
      have h2 := fun W => rcount_any x W
      have HBW := Lib.hid hb
      clear hb
      by_cases cA : 0 ≤ x ∧ x ≤ 4611686018427387904
      · rw [decide_eq_true cA] at h2
        have H2 := Lib.hid h2
        have HN := Lib.hid (hstep cA)
        clear h2 hstep hbad hst cA hm hxx hc
        go_wp2_with fail
        refine (H2.out _).mono ?_
        rintro e w2 ⟨rfl, hb2⟩
        have hb3 := hb2 ▸ HBW.out
        have HE := Lib.hid hb3
        clear hb2 hb3 H2
        go_wp2_with fail
        go_roundw
        case rel => exact ⟨k + 1, rfl, by omega, HE.out, HN⟩
        case measure => simp only [intOf]; omega
      · rw [decide_eq_false cA] at h2
        have H2 := Lib.hid h2
        have HN := Lib.hid (HS.out.2.2.symm.trans (hbad cA))
        clear h2 hstep hbad hst cA hm hxx hc
        go_wp2_with fail
        refine (H2.out _).mono ?_
        rintro e w2 ⟨rfl, hb2⟩
        have hb3 := hb2 ▸ HBW.out
        have HE := Lib.hid hb3
        clear hb2 hb3 H2
        go_wp2_with fail
        go_ret
        exact ⟨by rw [HN.out]; rfl, HE.out⟩
    · have hkm : k = m := by omega
      subst hkm
      have HN := Lib.hid (HS.out.2.2.symm.trans (all_end hm hst.out))
      have HE := Lib.hid hb
      clear hb hst hm
      go_wp2_with fail
      go_ret
      exact ⟨by rw [HN.out]; rfl, HE.out⟩

set_option maxRecDepth 100000 in
theorem alldigits_any (A : Option Addr) (c m : Nat) (l : List Int) (hm : l.length = m) (hm2 : m ≤ 140737488355328) (w : World) (hr : Ns .i64 w w.heap.size A l) :
    Calls Tryz.prog 39 #[.slice A m c, .func (.func 40) #[] #[]] w (fun e w' => e = .returned (.bool (decide (∀ x ∈ l, 0 ≤ x ∧ x < 16))) ∧ Below w.heap.size w w') := by
  obtain ⟨D, hD⟩ : ∃ D, decide (∀ x ∈ l, 0 ≤ x ∧ x < 16) = D := ⟨_, rfl⟩
  rw [hD]
  have HS := Lib.hid (And.intro hr (And.intro hm hD))
  clear hr hm hD
  go_enter Tryz.func39, Tryz.ntmps39
  go_wp2_with fail
  go_loopw [9] (fun q wr => ∃ k : Nat, q = .int .i64 k ∧ k ≤ m ∧ Below w.heap.size w wr ∧ Hid (∀ x ∈ l.take k, 0 ≤ x ∧ x < 16)) (fun q _ => m - (intOf q).toNat)
  case atStart => exact ⟨0, rfl, by omega, Below.refl _ _, Lib.hid (by simp)⟩
  case round =>
    obtain ⟨k, rfl, hk, hb, hst⟩ := hrel
    have hm := HS.out.2.1
    by_cases hlt : k < m
    · have d1 : (0 : Int) ≤ (k : Int) := by omega
      have d2 : (k : Int) < (m : Int) := by omega
      have hbad := all_bad (R := fun x => 0 ≤ x ∧ x < 16) (0 : Int) (show k < l.length by omega)
      have hstep := all_step (R := fun x => 0 ≤ x ∧ x < 16) (0 : Int) (show k < l.length by omega) hst.out
      obtain ⟨pb, off, rfl, hpb, hc⟩ := (HS.out.1.below hb) (by omega)
      have c0 := hc k (by omega)
      obtain ⟨x, hxx⟩ : ∃ x, l.getD k 0 = x := ⟨_, rfl⟩
      rw [hxx] at c0 hbad hstep
      have h2 := fun W => rdigit_any x W
      have HBW := Lib.hid hb
      clear hb
      by_cases cA : 0 ≤ x ∧ x < 16
      · rw [decide_eq_true cA] at h2
        have H2 := Lib.hid h2
        have HN := Lib.hid (hstep cA)
        clear h2 hstep hbad hst cA hm hxx hc
        go_wp2_with fail
        refine (H2.out _).mono ?_
        rintro e w2 ⟨rfl, hb2⟩
        have hb3 := hb2 ▸ HBW.out
        have HE := Lib.hid hb3
        clear hb2 hb3 H2
        go_wp2_with fail
        go_roundw
        case rel => exact ⟨k + 1, rfl, by omega, HE.out, HN⟩
        case measure => simp only [intOf]; omega
      · rw [decide_eq_false cA] at h2
        have H2 := Lib.hid h2
        have HN := Lib.hid (HS.out.2.2.symm.trans (hbad cA))
        clear h2 hstep hbad hst cA hm hxx hc
        go_wp2_with fail
        refine (H2.out _).mono ?_
        rintro e w2 ⟨rfl, hb2⟩
        have hb3 := hb2 ▸ HBW.out
        have HE := Lib.hid hb3
        clear hb2 hb3 H2
        go_wp2_with fail
        go_ret
        exact ⟨by rw [HN.out]; rfl, HE.out⟩
    · have hkm : k = m := by omega
      subst hkm
      have HN := Lib.hid (HS.out.2.2.symm.trans (all_end hm hst.out))
      have HE := Lib.hid hb
      clear hb hst hm
      go_wp2_with fail
      go_ret
      exact ⟨by rw [HN.out]; rfl, HE.out⟩

set_option maxRecDepth 100000 in
theorem allsites_any (A : Option Addr) (c m : Nat) (l : List Int) (hm : l.length = m) (hm2 : m ≤ 140737488355328) (w : World) (hr : Ns .i64 w w.heap.size A l) :
    Calls Tryz.prog 39 #[.slice A m c, .func (.func 41) #[] #[]] w (fun e w' => e = .returned (.bool (decide (∀ x ∈ l, 1 ≤ x ∧ x ≤ 16))) ∧ Below w.heap.size w w') := by
  obtain ⟨D, hD⟩ : ∃ D, decide (∀ x ∈ l, 1 ≤ x ∧ x ≤ 16) = D := ⟨_, rfl⟩
  rw [hD]
  have HS := Lib.hid (And.intro hr (And.intro hm hD))
  clear hr hm hD
  go_enter Tryz.func39, Tryz.ntmps39
  go_wp2_with fail
  go_loopw [9] (fun q wr => ∃ k : Nat, q = .int .i64 k ∧ k ≤ m ∧ Below w.heap.size w wr ∧ Hid (∀ x ∈ l.take k, 1 ≤ x ∧ x ≤ 16)) (fun q _ => m - (intOf q).toNat)
  case atStart => exact ⟨0, rfl, by omega, Below.refl _ _, Lib.hid (by simp)⟩
  case round =>
    obtain ⟨k, rfl, hk, hb, hst⟩ := hrel
    have hm := HS.out.2.1
    by_cases hlt : k < m
    · have d1 : (0 : Int) ≤ (k : Int) := by omega
      have d2 : (k : Int) < (m : Int) := by omega
      have hbad := all_bad (R := fun x => 1 ≤ x ∧ x ≤ 16) (0 : Int) (show k < l.length by omega)
      have hstep := all_step (R := fun x => 1 ≤ x ∧ x ≤ 16) (0 : Int) (show k < l.length by omega) hst.out
      obtain ⟨pb, off, rfl, hpb, hc⟩ := (HS.out.1.below hb) (by omega)
      have c0 := hc k (by omega)
      obtain ⟨x, hxx⟩ : ∃ x, l.getD k 0 = x := ⟨_, rfl⟩
      rw [hxx] at c0 hbad hstep
      have h2 := fun W => rsite_any x W
      have HBW := Lib.hid hb
      clear hb
      by_cases cA : 1 ≤ x ∧ x ≤ 16
      · rw [decide_eq_true cA] at h2
        have H2 := Lib.hid h2
        have HN := Lib.hid (hstep cA)
        clear h2 hstep hbad hst cA hm hxx hc
        go_wp2_with fail
        refine (H2.out _).mono ?_
        rintro e w2 ⟨rfl, hb2⟩
        have hb3 := hb2 ▸ HBW.out
        have HE := Lib.hid hb3
        clear hb2 hb3 H2
        go_wp2_with fail
        go_roundw
        case rel => exact ⟨k + 1, rfl, by omega, HE.out, HN⟩
        case measure => simp only [intOf]; omega
      · rw [decide_eq_false cA] at h2
        have H2 := Lib.hid h2
        have HN := Lib.hid (HS.out.2.2.symm.trans (hbad cA))
        clear h2 hstep hbad hst cA hm hxx hc
        go_wp2_with fail
        refine (H2.out _).mono ?_
        rintro e w2 ⟨rfl, hb2⟩
        have hb3 := hb2 ▸ HBW.out
        have HE := Lib.hid hb3
        clear hb2 hb3 H2
        go_wp2_with fail
        go_ret
        exact ⟨by rw [HN.out]; rfl, HE.out⟩
    · have hkm : k = m := by omega
      subst hkm
      have HN := Lib.hid (HS.out.2.2.symm.trans (all_end hm hst.out))
      have HE := Lib.hid hb
      clear hb hst hm
      go_wp2_with fail
      go_ret
      exact ⟨by rw [HN.out]; rfl, HE.out⟩

set_option maxRecDepth 100000 in
theorem allrecs_any (A : Option Addr) (c m : Nat) (l : List Rc) (hm : l.length = m) (hm2 : m ≤ 140737488355328) (w : World) (hr : Rs w 0 w.heap.size A l) :
    Calls Tryz.prog 36 #[.slice A m c, .func (.func 12) #[] #[]] w (fun e w' => e = .returned (.bool (decide (∀ x ∈ l, okR x))) ∧ Below w.heap.size w w') := by
  obtain ⟨D, hD⟩ : ∃ D, decide (∀ x ∈ l, okR x) = D := ⟨_, rfl⟩
  rw [hD]
  have HS := Lib.hid (And.intro hr (And.intro hm hD))
  clear hr hm hD
  go_enter Tryz.func36, Tryz.ntmps36
  go_wp2_with fail
  go_loopw [9] (fun q wr => ∃ k : Nat, q = .int .i64 k ∧ k ≤ m ∧ Below w.heap.size w wr ∧ Hid (∀ x ∈ l.take k, okR x)) (fun q _ => m - (intOf q).toNat)
  case atStart => exact ⟨0, rfl, by omega, Below.refl _ _, Lib.hid (by simp)⟩
  case round =>
    obtain ⟨k, rfl, hk, hb, hst⟩ := hrel
    have hm := HS.out.2.1
    by_cases hlt : k < m
    · have d1 : (0 : Int) ≤ (k : Int) := by omega
      have d2 : (k : Int) < (m : Int) := by omega
      have hbad := all_bad (R := fun x => okR x) r0 (show k < l.length by omega)
      have hstep := all_step (R := fun x => okR x) r0 (show k < l.length by omega) hst.out
      obtain ⟨pb, off, A1, c1, rfl, _, hpb, a0, a1, hvs, hsz⟩ := HS.out.1.at hm hb hlt rfl
      obtain ⟨x, hxx⟩ : ∃ x, l.getD k r0 = x := ⟨_, rfl⟩
      rw [hxx] at a0 a1 hvs hsz hbad hstep
      obtain ⟨key, vl⟩ := x
      obtain ⟨kp, hkp⟩ : ∃ kp, vl.length = kp := ⟨_, rfl⟩
      simp only at a0 a1 hvs hsz
      rw [hkp] at a1 hsz
      have hwsz := hb.size
      have h2 := rrecord_any A1 c1 kp key vl hkp hsz.2.1 hsz.2.2 (wr.alloc (.cells #[.string key, .slice A1 kp c1] 24)) ((hvs.alloc hwsz (.cells #[.string key, .slice A1 kp c1] 24)).more (by simp; omega))
      have HBW := Lib.hid (hb.alloc hwsz (.cells #[.string key, .slice A1 kp c1] 24))
      clear hb
      by_cases cA : okR (key, vl)
      · rw [decide_eq_true cA] at h2
        have H2 := Lib.hid h2
        have HN := Lib.hid (hstep cA)
        clear h2 hstep hbad hst cA hm hxx hvs hkp hsz
        go_wp2_with fail
        refine H2.out.mono ?_
        rintro e w2 ⟨rfl, hb2⟩
        have hb3 := HBW.out.trans (hb2.mono (by simp; omega))
        have HE := Lib.hid hb3
        clear hb2 hb3 H2
        go_wp2_with fail
        go_roundw
        case rel => exact ⟨k + 1, rfl, by omega, HE.out, HN⟩
        case measure => simp only [intOf]; omega
      · rw [decide_eq_false cA] at h2
        have H2 := Lib.hid h2
        have HN := Lib.hid (HS.out.2.2.symm.trans (hbad cA))
        clear h2 hstep hbad hst cA hm hxx hvs hkp hsz
        go_wp2_with fail
        refine H2.out.mono ?_
        rintro e w2 ⟨rfl, hb2⟩
        have hb3 := HBW.out.trans (hb2.mono (by simp; omega))
        have HE := Lib.hid hb3
        clear hb2 hb3 H2
        go_wp2_with fail
        go_ret
        exact ⟨by rw [HN.out]; rfl, HE.out⟩
    · have hkm : k = m := by omega
      subst hkm
      have HN := Lib.hid (HS.out.2.2.symm.trans (all_end hm hst.out))
      have HE := Lib.hid hb
      clear hb hst hm
      go_wp2_with fail
      go_ret
      exact ⟨by rw [HN.out]; rfl, HE.out⟩
end Code
end Go.Proofs.YtegiigeelcnemaaGreat
