/-
  disk: New, Loose, Used, Sync, Wipe (layer 7).
-/
import Derived.Test.YtdcppjpjlhbanaaDiskUndo
namespace Go.Proofs.Ytdcppjpjlhbanaa
namespace Disk
open Go.RowKit Blk Go.Maps
attribute [local go_sem ↓] Go.wp_at_zero Go.wp_at_succ
/-- The room that a disk has. -/
def roomOf (z : Int) : Int := min (max z 0) 1073741824
theorem new_any (w : World) (z : Int) : Calls Try.prog 10 #[.int .i64 z] w (fun e w' => ∃ db mb, e = .returned (hd db) ∧ Hid (Cor w' db mb (roomOf z) none 0 0 [] ∧ Below w.heap.size w w' ∧ w.heap.size ≤ db ∧ w.heap.size ≤ mb)) := by
  have hmm := @run_makeMap Try.prog
  obtain ⟨r, hr⟩ : ∃ r, min (max z 0) 1073741824 = r := ⟨_, rfl⟩
  obtain ⟨U, hU⟩ : ∃ U, (w.alloc (.map #[] 0)).alloc (.cells #[.int .i64 r, .int .i64 0, .map (some w.heap.size), .slice none 0 0] 60) = U := ⟨_, rfl⟩
  have hb : Below w.heap.size w U := by rw [← hU]; exact ((Below.refl _ w).alloc (Nat.le_refl _) _).alloc (by simp) _
  have hB : Bn (w.heap.size + 1) 60 [.int .i64 r, .int .i64 0, .map (some w.heap.size), .slice none 0 0] U := by
    rw [← hU, show w.heap.size + 1 = (w.alloc (.map #[] 0)).heap.size by simp]
    exact heap_alloc_new _ _
  have hM : MI U w.heap.size [] := by
    have h1 := mi_made w
    refine h1.same ?_
    rw [← hU]
    exact Below.heap_alloc _ _ _ (by simp)
  have HF : Hid (Cor U (w.heap.size + 1) w.heap.size (roomOf z) none 0 0 [] ∧ Below w.heap.size w U ∧ w.heap.size ≤ w.heap.size + 1 ∧ w.heap.size ≤ w.heap.size) := Lib.hid ⟨⟨by unfold roomOf; rw [hr]; exact hB, hM⟩, hb, by omega, by omega⟩
  clear hb hB hM
  go_enter Try.func10, Try.ntmps10
  go_wp2_with fail
  go_ret
  exact ⟨_, _, rfl, HF⟩
end Disk
end Go.Proofs.Ytdcppjpjlhbanaa
