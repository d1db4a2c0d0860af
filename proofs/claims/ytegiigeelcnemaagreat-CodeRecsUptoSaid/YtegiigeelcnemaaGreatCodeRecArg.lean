/-
  A record among a law's arguments; firthref06.PutRec; one record in a slice of its own.
-/
import Derived.Test.YtegiigeelcnemaaGreatCodeRefWr
import Derived.Test.YtegiigeelcnemaaGreatCodeRefRecFn
namespace Go.Proofs.YtegiigeelcnemaaGreat
namespace Code
open Go.ChangeShapes Go.WideShapes Go.ChangeAt Go.RowKit Go.Joins Go.Deep Num Span Vers
attribute [local go_sem ↓] Go.wp_at_zero Go.wp_at_succ

set_option maxRecDepth 100000 in
/-- A record among the arguments. -/
theorem arg_rec {H : Type} {enc : TypeId × Value → H} {W : World} {v : Value} {d : DataW H} {p : List MemPlace} {r : Reach} {b0 : Nat} (hv : Value.okWide Tryz.prog W r b0 24 v) (h : DataW.Trod enc Tryz.prog W 0 (fun _ => true) true 24 v d p) (hw : Wt Tryz.prog 24 d) :
    ∃ (key : ByteArray) (l : List Vr) (A : Option Addr) (c : Nat), v = .agg #[.string key, .slice A l.length c] ∧ Vs W 0 W.heap.size A l ∧ l.length ≤ 140737488355328 ∧ key.size ≤ 140737488355328 := by
  obtain ⟨cs, rfl, hsz⟩ := okWide_struct Tryz.underlying24 hv
  obtain ⟨fuel, hf⟩ := h
  obtain ⟨⟨⟨key, l⟩, A, c⟩, hcs, h1, h2, h3, h4⟩ := rec_at hf hw
  refine ⟨key, l, A, c, ?_, h1, h3, h4⟩
  congr 1
  rw [← Array.toList_inj]
  simpa [Value.cells, rcc] using hcs
set_option maxRecDepth 100000 in
theorem refputrec_any (A : Option Addr) (c m : Nat) (key : ByteArray) (l : List Vr) (hm : l.length = m) (hx : okR (key, l)) (w : World) (hv : Vs w 0 w.heap.size A l) :
    Calls Tryz.prog 8 #[.agg #[.string key, .slice A m c]] w (GotB w.heap.size (recL (key, l)) w) := by
  obtain ⟨B, hB⟩ : ∃ B, w.heap.size = B := ⟨_, rfl⟩
  obtain ⟨W, hW⟩ : ∃ W, w.alloc (.cells #[.string key, .slice A m c] 24) = W := ⟨_, rfl⟩
  have hX : Bn B 24 [.string key, .slice A m c] W := by rw [← hW, ← hB]; exact heap_alloc_new _ _
  have hbW : Below B w W := by rw [← hW, ← hB]; exact (Below.refl _ w).alloc (Nat.le_refl _) _
  rw [hB] at hv ⊢
  have hlt := hX.lt
  have h1 := ref_rec_k B [] none 0 0 rfl A c m key l hm hx B W (World.ownsRow_nil _ _ _ _) (by omega) (hv.below hbW) (Nat.le_refl _) (by omega)
  rw [List.nil_append] at h1
  have k0 := hX.cell 0
  have k1 := hX.cell 1
  simp only [List.getElem?_cons_zero, List.getElem?_cons_succ] at k0 k1
  have H1 := Lib.hid h1
  have HX := Lib.hid hbW
  clear h1 hX hbW hv hm hx
  go_enter Tryz.func8, Tryz.ntmps8
  go_wp2_with fail
  refine H1.out.mono ?_
  rintro e w1 ⟨A1, c1, rfl, o1, q1⟩
  have HE := Lib.hid (And.intro o1 (HX.out.trans (q1.below (base := B) (World.ownsRow_nil _ B 5 1) (by omega))))
  clear o1 q1
  go_wp2_with fail
  go_ret
  exact ⟨A1, c1, rfl, HE.out.1, HE.out.2⟩
/-- One record, laid in a block of its own. -/
theorem rs_new (w : World) (key : ByteArray) (l : List Vr) (A : Option Addr) (c k : Nat) (hk : l.length = k) (hv : Vs w 0 w.heap.size A l) (hc : k ≤ c) (hl : k ≤ 140737488355328) (hs : key.size ≤ 140737488355328) :
    Rs (w.alloc (.cells #[.string key, .slice A k c] 24)) 0 (w.heap.size + 1) (some ⟨w.heap.size, 0, none⟩) [(key, l)] := fun _ => by
  subst hk
  refine ⟨w.heap.size, 0, rfl, Nat.zero_le _, by omega, fun j hj => ?_⟩
  have hj0 : j = 0 := by simp at hj; omega
  subst hj0
  have hb := (Below.refl w.heap.size w).alloc (Nat.le_refl _) (.cells #[.string key, .slice A l.length c] 24)
  exact ⟨A, c, by simp, by simp, (hv.below hb).more (by omega), hc, hl, hs⟩
theorem samerecs_two (w : World) (key : ByteArray) (l : List Vr) (A A' : Option Addr) (c c' k : Nat) (hk : l.length = k) (hv : Vs w 0 w.heap.size A l) (hv' : Vs w 0 w.heap.size A' l) (hc : k ≤ c) (hc' : k ≤ c') (hl : k ≤ 140737488355328) (hs : key.size ≤ 140737488355328) :
    Calls Tryz.prog 13 #[.slice (some ⟨w.heap.size, 0, none⟩) 1 1, .slice (some ⟨w.heap.size + 1, 0, none⟩) 1 1] ((w.alloc (.cells #[.string key, .slice A k c] 24)).alloc (.cells #[.string key, .slice A' k c'] 24)) (fun e w' => e = .returned (.bool true) ∧ Below w.heap.size w w') := by
  have b1 := (Below.refl w.heap.size w).alloc (Nat.le_refl _) (.cells #[.string key, .slice A k c] 24)
  have r1 := rs_new w key l A c k hk hv hc hl hs
  have r2 := rs_new (w.alloc (.cells #[.string key, .slice A k c] 24)) key l A' c' k hk ((hv'.below b1).more b1.size) hc' hl hs
  have hsz : (w.alloc (.cells #[.string key, .slice A k c] 24)).heap.size = w.heap.size + 1 := by simp
  rw [hsz] at r2
  obtain ⟨X, hX⟩ : ∃ X, (w.alloc (.cells #[.string key, .slice A k c] 24)).alloc (.cells #[.string key, .slice A' k c'] 24) = X := ⟨_, rfl⟩
  have hXs : X.heap.size = w.heap.size + 2 := by rw [← hX]; simp
  have b2 : Below (w.heap.size + 1) (w.alloc (.cells #[.string key, .slice A k c] 24)) X := by rw [← hX]; exact (Below.refl _ _).alloc (by simp) _
  have b3 : Below w.heap.size w X := b1.trans (b2.mono (by omega))
  rw [hX] at r2 ⊢
  have h := srecs_any (some ⟨w.heap.size, 0, none⟩) (some ⟨w.heap.size + 1, 0, none⟩) 1 1 1 1 [(key, l)] [(key, l)] rfl rfl X ((r1.below b2).more (by omega)) (r2.more (by omega)) (by omega) (by omega)
  refine h.mono ?_
  rintro e w' ⟨rfl, d⟩
  exact ⟨by simp, b3.trans (d.mono (by omega))⟩
theorem samerecs_swap (w : World) (key : ByteArray) (l : List Vr) (A A' : Option Addr) (c c' k : Nat) (hk : l.length = k) (hv : Vs w 0 w.heap.size A l) (hv' : Vs w 0 w.heap.size A' l) (hc : k ≤ c) (hc' : k ≤ c') (hl : k ≤ 140737488355328) (hs : key.size ≤ 140737488355328) :
    Calls Tryz.prog 13 #[.slice (some ⟨w.heap.size + 1, 0, none⟩) 1 1, .slice (some ⟨w.heap.size, 0, none⟩) 1 1] ((w.alloc (.cells #[.string key, .slice A k c] 24)).alloc (.cells #[.string key, .slice A' k c'] 24)) (fun e w' => e = .returned (.bool true) ∧ Below w.heap.size w w') := by
  have b1 := (Below.refl w.heap.size w).alloc (Nat.le_refl _) (.cells #[.string key, .slice A k c] 24)
  have r1 := rs_new w key l A c k hk hv hc hl hs
  have r2 := rs_new (w.alloc (.cells #[.string key, .slice A k c] 24)) key l A' c' k hk ((hv'.below b1).more b1.size) hc' hl hs
  have hsz : (w.alloc (.cells #[.string key, .slice A k c] 24)).heap.size = w.heap.size + 1 := by simp
  rw [hsz] at r2
  obtain ⟨X, hX⟩ : ∃ X, (w.alloc (.cells #[.string key, .slice A k c] 24)).alloc (.cells #[.string key, .slice A' k c'] 24) = X := ⟨_, rfl⟩
  have hXs : X.heap.size = w.heap.size + 2 := by rw [← hX]; simp
  have b2 : Below (w.heap.size + 1) (w.alloc (.cells #[.string key, .slice A k c] 24)) X := by rw [← hX]; exact (Below.refl _ _).alloc (by simp) _
  have b3 : Below w.heap.size w X := b1.trans (b2.mono (by omega))
  rw [hX] at r2 ⊢
  have h := srecs_any (some ⟨w.heap.size + 1, 0, none⟩) (some ⟨w.heap.size, 0, none⟩) 1 1 1 1 [(key, l)] [(key, l)] rfl rfl X (r2.more (by omega)) ((r1.below b2).more (by omega)) (by omega) (by omega)
  refine h.mono ?_
  rintro e w' ⟨rfl, d⟩
  exact ⟨by simp, b3.trans (d.mono (by omega))⟩
end Code
end Go.Proofs.YtegiigeelcnemaaGreat
