/-
  disk: set and drop: a file's bytes are laid or taken away, and what is used stays right (layer 7).
-/
import Derived.Test.YtdcppjpjlhbanaaDiskMap
import Derived.BigRegion
import Derived.Deep.RegionHeld3
import Derived.Deep.DrawnRows
import Derived.Laws.IdiomCopy
import Derived.Lib.Hide
namespace Go.Proofs.Ytdcppjpjlhbanaa
namespace Disk
open Go.RowKit Blk Go.Maps
attribute [local go_sem ↓] Go.wp_at_zero Go.wp_at_succ
/-- A file in memory: its bytes, where they lie, how much room, whose blocks. -/
structure Fl where
  d : List Int
  A : Option Addr
  c : Nat
  i : Nat
def Fl.v (x : Fl) : Value := .slice x.A x.d.length x.c
abbrev Es := List (Nm × Fl)
abbrev fsE (es : Es) : List (Nm × List Int) := mapV Fl.d es
abbrev hd (db : Nat) : Value := .pointer (some ⟨db, 0, none⟩)
/-- The disk's own cells, and its files. -/
def Cor (w : World) (db mb : Nat) (room : Int) (A : Option Addr) (n c : Nat) (es : Es) : Prop :=
  Bn db 60 [.int .i64 room, .int .i64 (used (fsE es)), .map (some mb), .slice A n c] w ∧ MI w mb (mapV Fl.v es)
abbrev Two (db mb : Nat) : Nat → Prop := fun j => j = db ∨ j = mb
section
variable {w w' : World} {db mb n c : Nat} {room : Int} {A : Option Addr} {es : Es}
theorem Cor.ne (h : Cor w db mb room A n c es) : db ≠ mb := h.2.ne h.1
theorem Cor.lt (h : Cor w db mb room A n c es) : db < w.heap.size ∧ mb < w.heap.size := ⟨h.1.lt, h.2.lt⟩
theorem Cor.srt (h : Cor w db mb room A n c es) : Srt es := by
  have := h.2.srt
  unfold Srt mapV at this
  rw [List.pairwise_map] at this
  exact this
theorem Cor.same (h : Cor w db mb room A n c es) (h1 : w'.heap[db]? = w.heap[db]?) (h2 : w'.heap[mb]? = w.heap[mb]?) : Cor w' db mb room A n c es := ⟨h.1.same h1, h.2.same h2⟩
theorem Cor.below (h : Cor w db mb room A n c es) (hb : Below w.heap.size w w') : Cor w' db mb room A n c es := h.same (hb.block _ h.lt.1) (hb.block _ h.lt.2)
/-- What is under a name, as the program reads it. -/
def oldV (es : Es) (s : Nm) : Value := ((find es s).map Fl.v).getD (.slice none 0 0)
theorem oldV_form (es : Es) (s : Nm) : ∃ A' c', oldV es s = .slice A' (dat (fsE es) s).length c' := by
  unfold oldV dat
  rw [find_map]
  rcases find es s with _ | x
  · exact ⟨none, 0, rfl⟩
  · exact ⟨x.A, x.c, rfl⟩
set_option maxRecDepth 100000 in
set_option maxHeartbeats 1000000 in
theorem set_any (h : Cor w db mb room A n c es) (s : Nm) (hs : okN s) (x : Fl) (m : Nat) (hm : x.d.length = m) (hu : used (fsE es) ≤ 4398046511104) (hl : m ≤ 1099511627776) (hn : es.length < 140737488355328) :
    Calls Try.prog 38 #[hd db, .string s, .slice x.A m x.c] w (fun e w' => e = .returned (.tuple #[]) ∧ Hid (Cor w' db mb room A n c (wit es s x) ∧ Chg (Two db mb) w w')) := by
  obtain ⟨A', c', hold⟩ := oldV_form es s
  obtain ⟨k, hk⟩ : ∃ k, (dat (fsE es) s).length = k := ⟨_, rfl⟩
  rw [hk] at hold
  obtain ⟨u, hu'⟩ : ∃ u, used (fsE es) = u := ⟨_, rfl⟩
  have hw := used_wit (h.srt.map Fl.d) s x.d
  have hd1 := dat_le (h.srt.map Fl.d) s
  have hdd : ((find (mapV Fl.d es) s).getD []).length = k := hk
  rw [hdd, hm] at hw
  rw [hk] at hd1
  obtain ⟨u2, hu2⟩ : ∃ u, used (wit (fsE es) s x.d) = u := ⟨_, rfl⟩
  have e1 : (u2 : Int) = (u : Int) + ((m : Int) - (k : Int)) := by
    have h1 : used (wit (mapV Fl.d es) s x.d) = u2 := hu2
    have h2 : used (mapV Fl.d es) = u := hu'
    omega
  have hub : u ≤ 4398046511104 := by omega
  have hkb : k ≤ u := by have h2 : used (mapV Fl.d es) = u := hu'; omega
  have hlook : (Instr.lookup 57 (.map (some mb)) (.string s) false).run Try.prog w.drew = .ok (.slice A' k c') w.drew := by
    have h1 := MI.look (w := w.drew) h.2 s hs
    rw [find_map] at h1
    rw [← hold]
    exact h1
  have c0 := (h.1.cell 1).trans rfl
  have c1 := (h.1.cell 2).trans rfl
  rw [hu'] at c0
  have f1 := h.1.frozen 1
  have gX := gset w db 1 (.int .i64 u2)
  have BX := h.1.set 1 (.int .i64 u2)
  obtain ⟨X, hX⟩ : ∃ V, w.setCell ⟨db, 1, none⟩ (.int .i64 u2) = V := ⟨_, rfl⟩
  rw [hX] at gX BX
  simp only [List.set_cons_zero, List.set_cons_succ] at BX
  have MX : MI X mb (mapV Fl.v es) := h.2.same (gX.block mb h.lt.2 fun e => h.ne (by injection e with e; exact e.symm))
  have x2 := (BX.cell 2).trans rfl
  obtain ⟨Y, hrun, MY, gY⟩ := MI.store (w := X.drew) MX (by rw [mapV, List.length_map]; exact hn) s hs x.v
  have hrun : (Instr.mapUpdate 57 (.map (some mb)) (.string s) (.slice x.A m x.c)).run Try.prog X.drew = .ok () Y := by rw [← hm]; exact hrun
  have e2 : IntKind.i64.wrap ((m : Int) - (k : Int)) = (m : Int) - (k : Int) := Go.IntWalk.i64_in _ (by omega)
  have e3 : IntKind.i64.wrap ((u : Int) + ((m : Int) - (k : Int))) = u2 := by rw [← e1]; exact Go.IntWalk.i64_in _ (by omega)
  have HF : Hid (Cor Y db mb room A n c (wit es s x) ∧ Chg (Two db mb) w Y) := Lib.hid (by
    refine ⟨⟨?_, ?_⟩, ?_⟩
    · have b1 : Bn db 60 [.int .i64 room, .int .i64 u2, .map (some mb), .slice A n c] Y := Bn.kept (w := X.drew) BX gY (fun e => h.ne (by injection e))
      rw [show fsE (wit es s x) = wit (fsE es) s x.d from map_wit _ _ _ _, hu2]
      exact b1
    · rw [map_wit]
      exact MY
    · have h1 : Chg (Two db mb) w X := Chg.of_grown gX fun g hg => by injection hg with hg; exact .inl hg.symm
      have h2 : Chg (Two db mb) X.drew Y := Chg.of_grown gY fun g hg => by injection hg with hg; exact .inr hg.symm
      exact (show Chg (Two db mb) w X.drew from ⟨h1.os, h1.tape, h1.output, h1.size, h1.block⟩).trans h2 fun j hj => .inl hj)
  clear h hold hk hu' hw hd1 hdd hu2 BX gX MX MY gY hm hu hl hn e1
  go_enter Try.func38, Try.ntmps38
  go_wp2_with fail
  go_region
  go_wp2_with fail
  refine bodyPost_end (v := .tuple #[]) (results_none rfl _ _ _) rfl ⟨rfl, HF⟩
set_option maxRecDepth 100000 in
set_option maxHeartbeats 1000000 in
theorem drop_any (h : Cor w db mb room A n c es) (s : Nm) (hs : okN s) (hu : used (fsE es) ≤ 1099511627776) :
    Calls Try.prog 40 #[hd db, .string s] w (fun e w' => e = .returned (.tuple #[]) ∧ Hid (Cor w' db mb room A n c (wout es s) ∧ Chg (Two db mb) w w')) := by
  obtain ⟨A', c', hold⟩ := oldV_form es s
  obtain ⟨k, hk⟩ : ∃ k, (dat (fsE es) s).length = k := ⟨_, rfl⟩
  rw [hk] at hold
  obtain ⟨u, hu'⟩ : ∃ u, used (fsE es) = u := ⟨_, rfl⟩
  have hw := used_wout (h.srt.map Fl.d) s
  have hdd : ((find (mapV Fl.d es) s).getD []).length = k := hk
  rw [hdd] at hw
  obtain ⟨u2, hu2⟩ : ∃ u, used (wout (fsE es) s) = u := ⟨_, rfl⟩
  have e1 : (u2 : Int) = (u : Int) - (k : Int) := by
    have h1 : used (wout (mapV Fl.d es) s) = u2 := hu2
    have h2 : used (mapV Fl.d es) = u := hu'
    omega
  have hub : u ≤ 1099511627776 := by omega
  have hlook : (Instr.lookup 57 (.map (some mb)) (.string s) false).run Try.prog w.drew = .ok (.slice A' k c') w.drew := by
    have h1 := MI.look (w := w.drew) h.2 s hs
    rw [find_map] at h1
    rw [← hold]
    exact h1
  have c0 := (h.1.cell 1).trans rfl
  have c1 := (h.1.cell 2).trans rfl
  rw [hu'] at c0
  have f1 := h.1.frozen 1
  have gX := gset w db 1 (.int .i64 u2)
  have BX := h.1.set 1 (.int .i64 u2)
  obtain ⟨X, hX⟩ : ∃ V, w.setCell ⟨db, 1, none⟩ (.int .i64 u2) = V := ⟨_, rfl⟩
  rw [hX] at gX BX
  simp only [List.set_cons_zero, List.set_cons_succ] at BX
  have MX : MI X mb (mapV Fl.v es) := h.2.same (gX.block mb h.lt.2 fun e => h.ne (by injection e with e; exact e.symm))
  have x2 := (BX.cell 2).trans rfl
  obtain ⟨Y, hrun, MY, gY⟩ := MI.drop (w := X.drew) MX s hs 0
  have e3 : IntKind.i64.wrap ((u : Int) - (k : Int)) = u2 := by rw [← e1]; exact Go.IntWalk.i64_in _ (by omega)
  have HF : Hid (Cor Y db mb room A n c (wout es s) ∧ Chg (Two db mb) w Y) := Lib.hid (by
    refine ⟨⟨?_, ?_⟩, ?_⟩
    · have b1 : Bn db 60 [.int .i64 room, .int .i64 u2, .map (some mb), .slice A n c] Y := Bn.kept (w := X.drew) BX gY (fun e => h.ne (by injection e))
      rw [show fsE (wout es s) = wout (fsE es) s from map_wout _ _ _, hu2]
      exact b1
    · rw [map_wout]
      exact MY
    · have h1 : Chg (Two db mb) w X := Chg.of_grown gX fun g hg => by injection hg with hg; exact .inl hg.symm
      have h2 : Chg (Two db mb) X.drew Y := Chg.of_grown gY fun g hg => by injection hg with hg; exact .inr hg.symm
      exact (show Chg (Two db mb) w X.drew from ⟨h1.os, h1.tape, h1.output, h1.size, h1.block⟩).trans h2 fun j hj => .inl hj)
  clear h hold hk hu' hw hdd hu2 BX gX MX MY gY hu e1
  go_enter Try.func40, Try.ntmps40
  go_wp2_with fail
  go_region
  go_wp2_with fail
  refine bodyPost_end (v := .tuple #[]) (results_none rfl _ _ _) rfl ⟨rfl, HF⟩
theorem right_any (s : Nm) (w : World) :
    Calls Try.prog 37 #[.string s] w (fun e w' => e = .returned (.bool (decide (1 ≤ s.size ∧ s.size ≤ 16))) ∧ w' = w) := by
  by_cases h1 : 1 ≤ s.size
  · have d1 : decide ((1 : Int) ≤ (s.size : Int)) = true := decide_eq_true (by omega)
    by_cases h2 : s.size ≤ 16
    · have d2 : decide ((s.size : Int) ≤ 16) = true := decide_eq_true (by omega)
      rw [decide_eq_true (⟨h1, h2⟩ : 1 ≤ s.size ∧ s.size ≤ 16)]
      clear h1 h2
      go_enter Try.func37, Try.ntmps37
      go_wp2_with fail
      go_ret
      exact ⟨rfl, rfl⟩
    · have d2 : decide ((s.size : Int) ≤ 16) = false := decide_eq_false (by omega)
      rw [decide_eq_false (fun h => h2 h.2)]
      clear h1 h2
      go_enter Try.func37, Try.ntmps37
      go_wp2_with fail
      go_ret
      exact ⟨rfl, rfl⟩
  · have d1 : decide ((1 : Int) ≤ (s.size : Int)) = false := decide_eq_false (by omega)
    rw [decide_eq_false (fun h => h1 h.1)]
    clear h1
    go_enter Try.func37, Try.ntmps37
    go_wp2_with fail
    go_ret
    exact ⟨rfl, rfl⟩
end
end Disk
end Go.Proofs.Ytdcppjpjlhbanaa
