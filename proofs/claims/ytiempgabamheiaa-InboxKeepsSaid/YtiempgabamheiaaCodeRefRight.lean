/-
  What is right in layer 6, in the document's own words: addresses, records, messages.
-/
import Derived.Test.YtiempgabamheiaaCodeRight
import Derived.Test.YtiempgabamheiaaGRef
import Derived.Test.YtiempgabamheiaaGVect
namespace Go.Proofs.Ytiempgabamheiaa
namespace Code
open Go.RowKit Num Span Vers
attribute [local go_sem ↓] Go.wp_at_zero Go.wp_at_succ

set_option maxRecDepth 100000 in
theorem refrecord_any (A : Option Addr) (c m : Nat) (key : ByteArray) (l : List Vr) (hm : l.length = m) (hm2 : m ≤ 140737488355328) (hk2 : key.size ≤ 140737488355328) (w : World) (hv : Vs w 0 w.heap.size A l) :
    Calls Try.prog 36 #[.agg #[.string key, .slice A m c]] w (fun e w' => e = .returned (.bool (decide (okR (key, l)))) ∧ Below w.heap.size w w') := by
  obtain ⟨W, hW⟩ : ∃ W, w.alloc (.cells #[.string key, .slice A m c] 32) = W := ⟨_, rfl⟩
  have hB : Bn w.heap.size 32 [.string key, .slice A m c] W := by rw [← hW]; exact heap_alloc_new _ _
  have k0 := hB.cell 0
  have k1 := hB.cell 1
  simp only [List.getElem?_cons_zero, List.getElem?_cons_succ] at k0 k1
  have hbW : Below w.heap.size w W := by rw [← hW]; exact (Below.refl _ w).alloc (Nat.le_refl _) _
  have h1 := ref_rightV_any A c m l hm W ((hv.below hbW).more hbW.size) hm2
  have hsz := hbW.size
  have HB := Lib.hid hbW
  clear hB hbW hv
  obtain ⟨R, hR⟩ : ∃ R, decide (okR (key, l)) = R := ⟨_, rfl⟩
  rw [hR]
  have hkl : key.toList.length = key.size := by rw [Lib.toList_data, Array.length_toList]; rfl
  by_cases c0 : 1 ≤ key.size
  case neg =>
    have hem : key.toList.isEmpty = true := by rw [List.isEmpty_iff_length_eq_zero]; omega
    have HR := Lib.hid (show R = false by rw [← hR]; exact decide_eq_false fun h => c0 h.1)
    clear h1 hR hkl
    go_enter Try.func36, Try.ntmps36
    go_wp2_with fail
    go_ret
    exact ⟨by rw [HR.out]; rfl, HB.out⟩
  have hem : key.toList.isEmpty = false := by rw [← Bool.not_eq_true, List.isEmpty_iff_length_eq_zero]; omega
  clear hkl
  by_cases c1 : key.size ≤ 32
  case neg =>
    have d1 : decide ((key.size : Int) ≤ 32) = false := decide_eq_false (by omega)
    have HR := Lib.hid (show R = false by rw [← hR]; exact decide_eq_false fun h => c1 h.2.1)
    clear h1 hR
    go_enter Try.func36, Try.ntmps36
    go_wp2_with fail
    go_ret
    exact ⟨by rw [HR.out]; rfl, HB.out⟩
  have d1 : decide ((key.size : Int) ≤ 32) = true := decide_eq_true (by omega)
  have HR := Lib.hid (show R = decide (RightV l) by rw [← hR]; exact decide_eq_decide.2 ⟨fun h => h.2.2, fun h => ⟨c0, c1, h⟩⟩)
  have H1 := Lib.hid h1
  clear h1 hR
  go_enter Try.func36, Try.ntmps36
  go_wp2_with fail
  refine H1.out.mono ?_
  rintro e w1 ⟨rfl, hb1⟩
  have HE := Lib.hid (HB.out.trans (hb1.mono hsz))
  obtain ⟨D, hD⟩ : ∃ D, decide (RightV l) = D := ⟨_, rfl⟩
  have hRD : R = D := by rw [HR.out, hD]
  rw [hD]
  clear hb1 H1 HR hD
  go_wp2_with fail
  go_ret
  exact ⟨by rw [hRD]; rfl, HE.out⟩

end Code
end Go.Proofs.Ytiempgabamheiaa
