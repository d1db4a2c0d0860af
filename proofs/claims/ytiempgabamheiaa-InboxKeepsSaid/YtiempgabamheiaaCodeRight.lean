/-
  What is right in layer 6: numbers, addresses, records, lists of them.
-/
import Derived.Test.YtiempgabamheiaaCodeMsgPlain
import Derived.Test.YtiempgabamheiaaGFill
import Derived.Test.YtiempgabamheiaaVersRight
namespace Go.Proofs.Ytiempgabamheiaa
namespace Code
open Go.RowKit Num Span Vers
attribute [local go_sem ↓] Go.wp_at_zero Go.wp_at_succ

theorem all_step {α : Type} {R : α → Prop} {l : List α} {k : Nat} (d : α) (hk : k < l.length) (h : ∀ x ∈ l.take k, R x) (hx : R (l.getD k d)) : ∀ x ∈ l.take (k + 1), R x := by
  intro x hm
  rw [List.take_succ_eq_append_getElem hk] at hm
  rcases List.mem_append.1 hm with hm | hm
  · exact h x hm
  · rw [List.mem_singleton.1 hm]
    simpa [List.getD_eq_getElem?_getD, hk] using hx
theorem all_bad {α : Type} {R : α → Prop} [DecidablePred R] {l : List α} {k : Nat} (d : α) (hk : k < l.length) (hx : ¬ R (l.getD k d)) : decide (∀ x ∈ l, R x) = false := by
  refine decide_eq_false fun h => hx (h _ ?_)
  rw [List.getD_eq_getElem?_getD, List.getElem?_eq_getElem hk]
  exact List.getElem_mem _
theorem all_end {α : Type} {R : α → Prop} [DecidablePred R] {l : List α} {m : Nat} (hm : l.length = m) (h : ∀ x ∈ l.take m, R x) : decide (∀ x ∈ l, R x) = true := by
  rw [List.take_of_length_le (by omega)] at h
  exact decide_eq_true h

instance (a : Int × Int) : Decidable (okA a) := by unfold okA; infer_instance
set_option maxRecDepth 100000 in
theorem rrecord_any (A : Option Addr) (c m : Nat) (key : ByteArray) (l : List Vr) (hm : l.length = m) (hm2 : m ≤ 140737488355328) (hk2 : key.size ≤ 140737488355328) (w : World) (hv : Vs w 0 w.heap.size A l) :
    Calls Try.prog 46 #[.agg #[.string key, .slice A m c]] w (fun e w' => e = .returned (.bool (decide (okR (key, l)))) ∧ Below w.heap.size w w') := by
  obtain ⟨W, hW⟩ : ∃ W, w.alloc (.cells #[.string key, .slice A m c] 32) = W := ⟨_, rfl⟩
  have hB : Bn w.heap.size 32 [.string key, .slice A m c] W := by rw [← hW]; exact heap_alloc_new _ _
  have k0 := hB.cell 0
  have k1 := hB.cell 1
  simp only [List.getElem?_cons_zero, List.getElem?_cons_succ] at k0 k1
  have hbW : Below w.heap.size w W := by rw [← hW]; exact (Below.refl _ w).alloc (Nat.le_refl _) _
  have h1 := rightV_any A c m l hm W ((hv.below hbW).more hbW.size) hm2
  have hsz := hbW.size
  have HB := Lib.hid hbW
  clear hB hbW hv
  obtain ⟨R, hR⟩ : ∃ R, decide (okR (key, l)) = R := ⟨_, rfl⟩
  rw [hR]
  by_cases c0 : 1 ≤ key.size
  · have d0 : (1 : Int) ≤ (key.size : Int) := by omega
    by_cases c1 : key.size ≤ 32
    · have d1 : (key.size : Int) ≤ 32 := by omega
      have HR := Lib.hid (show R = decide (RightV l) by rw [← hR]; exact decide_eq_decide.2 ⟨fun h => h.2.2, fun h => ⟨c0, c1, h⟩⟩)
      have H1 := Lib.hid h1
      clear h1 hR
      go_enter Try.func46, Try.ntmps46
      go_wp2_with fail
      refine H1.out.mono ?_
      rintro e w1 ⟨rfl, hb1⟩
      have HE := Lib.hid (HB.out.trans (hb1.mono hsz))
      obtain ⟨D, hD⟩ : ∃ D, decide (RightV l) = D := ⟨_, rfl⟩
      have hRD : R = D := by rw [HR.out, hD]
      rw [hD]
      clear hb1 H1 HR hD
      go_wp2_with fail
      go_ret
      exact ⟨by rw [hRD]; rfl, HE.out⟩
    · have d1 : ¬ (key.size : Int) ≤ 32 := by omega
      have HR := Lib.hid (show R = false by rw [← hR]; exact decide_eq_false fun h => c1 h.2.1)
      clear h1 hR
      go_enter Try.func46, Try.ntmps46
      go_wp2_with fail
      go_ret
      exact ⟨by rw [HR.out]; rfl, HB.out⟩
  · have d0 : ¬ (1 : Int) ≤ (key.size : Int) := by omega
    have HR := Lib.hid (show R = false by rw [← hR]; exact decide_eq_false fun h => c0 h.1)
    clear h1 hR
    go_enter Try.func46, Try.ntmps46
    go_wp2_with fail
    go_ret
    exact ⟨by rw [HR.out]; rfl, HB.out⟩

end Code
end Go.Proofs.Ytiempgabamheiaa
