/-
  Whether a far write is right. Written by gen18/right.py.
-/
import Derived.Test.YtiempgabamheiaaInboxMay
import Derived.Test.YtiempgabamheiaaCodeRefRight
namespace Go.Proofs.Ytiempgabamheiaa
namespace Inbox
open Go.RowKit Vers Span Blk
attribute [local go_sem ↓] Go.wp_at_zero Go.wp_at_succ

set_option maxRecDepth 100000 in
theorem right_any (fr sq : Int) (key : ByteArray) (Av : Option Addr) (cv m : Nat) (l : List Vr) (hm : l.length = m) (hm2 : m ≤ 140737488355328) (hk2 : key.size ≤ 140737488355328) (Ar : Option Addr) (kr cr : Nat) (w : World) (hv : Vs w 0 w.heap.size Av l) :
    Calls Try.prog 31 #[.agg #[.int .i64 fr, .int .i64 sq, .string key, .slice Av m cv, .slice Ar kr cr]] w (fun e w' => e = .returned (.bool (decide (Code.okR (key, l) ∧ l.length = 1))) ∧ Below w.heap.size w w') := by
  obtain ⟨U, hU⟩ : ∃ U, w.alloc (.cells #[.int .i64 fr, .int .i64 sq, .string key, .slice Av m cv, .slice Ar kr cr] 35) = U := ⟨_, rfl⟩
  have bU : Below w.heap.size w U := by rw [← hU]; exact (Below.refl _ w).alloc (Nat.le_refl _) _
  have BU : Bn w.heap.size 35 [.int .i64 fr, .int .i64 sq, .string key, .slice Av m cv, .slice Ar kr cr] U := by rw [← hU]; exact heap_alloc_new w _
  have u2 := BU.cell 2
  have u3 := BU.cell 3
  simp only [List.getElem?_cons_zero, List.getElem?_cons_succ] at u2 u3
  have h1 := Lib.hid (Code.rrecord_any Av cv m key l hm hm2 hk2 U ((hv.below bU).more bU.size))
  obtain ⟨q, hq⟩ : ∃ q, decide (Code.okR (key, l)) = q := ⟨_, rfl⟩
  rw [hq] at h1
  obtain ⟨R, hR⟩ : ∃ R, decide (Code.okR (key, l) ∧ l.length = 1) = R := ⟨_, rfl⟩
  rw [hR]
  have HB := Lib.hid (And.intro bU BU)
  clear hv bU BU
  cases q
  · have HR := Lib.hid (show R = false by rw [← hR]; exact decide_eq_false fun h => of_decide_eq_false hq h.1)
    clear hR hq hm
    go_enter Try.func31, Try.ntmps31
    go_wp2_with fail
    refine h1.out.mono ?_
    rintro e w2 ⟨rfl, b2⟩
    have HB2 := Lib.hid b2
    clear b2
    go_wp2_with fail
    go_ret
    exact ⟨by rw [HR.out]; rfl, HB.out.1.trans (HB2.out.mono HB.out.1.size)⟩
  · by_cases h2 : m = 1
    · have HR := Lib.hid (show R = true by rw [← hR]; exact decide_eq_true ⟨of_decide_eq_true hq, by omega⟩)
      have e1 : ((m : Int) == 1) = true := by simp; omega
      clear hR hq hm h2
      go_enter Try.func31, Try.ntmps31
      go_wp2_with fail
      refine h1.out.mono ?_
      rintro e w2 ⟨rfl, b2⟩
      have y3 := ((HB.out.2.same (b2.block _ HB.out.2.lt)).cell 3).trans rfl
      have HB2 := Lib.hid b2
      clear b2
      go_wp2_with fail
      go_ret
      exact ⟨by rw [HR.out]; rfl, HB.out.1.trans (HB2.out.mono HB.out.1.size)⟩
    · have HR := Lib.hid (show R = false by rw [← hR]; exact decide_eq_false fun h => by omega)
      have e1 : ((m : Int) == 1) = false := by simp; omega
      clear hR hq hm h2
      go_enter Try.func31, Try.ntmps31
      go_wp2_with fail
      refine h1.out.mono ?_
      rintro e w2 ⟨rfl, b2⟩
      have y3 := ((HB.out.2.same (b2.block _ HB.out.2.lt)).cell 3).trans rfl
      have HB2 := Lib.hid b2
      clear b2
      go_wp2_with fail
      go_ret
      exact ⟨by rw [HR.out]; rfl, HB.out.1.trans (HB2.out.mono HB.out.1.size)⟩

set_option maxRecDepth 100000 in
theorem lright_any (fr sq : Int) (key : ByteArray) (Av : Option Addr) (cv m : Nat) (l : List Vr) (hm : l.length = m) (hm2 : m ≤ 140737488355328) (hk2 : key.size ≤ 140737488355328) (Ar : Option Addr) (kr cr : Nat) (w : World) (hv : Vs w 0 w.heap.size Av l) :
    Calls Try.prog 27 #[.agg #[.int .i64 fr, .int .i64 sq, .string key, .slice Av m cv, .slice Ar kr cr]] w (fun e w' => e = .returned (.bool (decide (Code.okR (key, l) ∧ l.length = 1))) ∧ Below w.heap.size w w') := by
  obtain ⟨U, hU⟩ : ∃ U, w.alloc (.cells #[.int .i64 fr, .int .i64 sq, .string key, .slice Av m cv, .slice Ar kr cr] 35) = U := ⟨_, rfl⟩
  have bU : Below w.heap.size w U := by rw [← hU]; exact (Below.refl _ w).alloc (Nat.le_refl _) _
  have BU : Bn w.heap.size 35 [.int .i64 fr, .int .i64 sq, .string key, .slice Av m cv, .slice Ar kr cr] U := by rw [← hU]; exact heap_alloc_new w _
  have u2 := BU.cell 2
  have u3 := BU.cell 3
  simp only [List.getElem?_cons_zero, List.getElem?_cons_succ] at u2 u3
  have h1 := Lib.hid (Code.refrecord_any Av cv m key l hm hm2 hk2 U ((hv.below bU).more bU.size))
  obtain ⟨q, hq⟩ : ∃ q, decide (Code.okR (key, l)) = q := ⟨_, rfl⟩
  rw [hq] at h1
  obtain ⟨R, hR⟩ : ∃ R, decide (Code.okR (key, l) ∧ l.length = 1) = R := ⟨_, rfl⟩
  rw [hR]
  have HB := Lib.hid (And.intro bU BU)
  clear hv bU BU
  cases q
  · have HR := Lib.hid (show R = false by rw [← hR]; exact decide_eq_false fun h => of_decide_eq_false hq h.1)
    clear hR hq hm
    go_enter Try.func27, Try.ntmps27
    go_wp2_with fail
    refine h1.out.mono ?_
    rintro e w2 ⟨rfl, b2⟩
    have HB2 := Lib.hid b2
    clear b2
    go_wp2_with fail
    go_ret
    exact ⟨by rw [HR.out]; rfl, HB.out.1.trans (HB2.out.mono HB.out.1.size)⟩
  · by_cases h2 : m = 1
    · have HR := Lib.hid (show R = true by rw [← hR]; exact decide_eq_true ⟨of_decide_eq_true hq, by omega⟩)
      have e1 : ((m : Int) == 1) = true := by simp; omega
      clear hR hq hm h2
      go_enter Try.func27, Try.ntmps27
      go_wp2_with fail
      refine h1.out.mono ?_
      rintro e w2 ⟨rfl, b2⟩
      have y3 := ((HB.out.2.same (b2.block _ HB.out.2.lt)).cell 3).trans rfl
      have HB2 := Lib.hid b2
      clear b2
      go_wp2_with fail
      go_ret
      exact ⟨by rw [HR.out]; rfl, HB.out.1.trans (HB2.out.mono HB.out.1.size)⟩
    · have HR := Lib.hid (show R = false by rw [← hR]; exact decide_eq_false fun h => by omega)
      have e1 : ((m : Int) == 1) = false := by simp; omega
      clear hR hq hm h2
      go_enter Try.func27, Try.ntmps27
      go_wp2_with fail
      refine h1.out.mono ?_
      rintro e w2 ⟨rfl, b2⟩
      have y3 := ((HB.out.2.same (b2.block _ HB.out.2.lt)).cell 3).trans rfl
      have HB2 := Lib.hid b2
      clear b2
      go_wp2_with fail
      go_ret
      exact ⟨by rw [HR.out]; rfl, HB.out.1.trans (HB2.out.mono HB.out.1.size)⟩
end Inbox
end Go.Proofs.Ytiempgabamheiaa
