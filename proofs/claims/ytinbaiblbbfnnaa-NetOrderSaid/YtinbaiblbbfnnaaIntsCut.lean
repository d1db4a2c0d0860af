/-
  A slice of ints, cut: x[:h], x[l:]; nil and empty ones too.
-/
import Derived.Test.YtinbaiblbbfnnaaFacts
namespace Go.Proofs.Ytinbaiblbbfnnaa
namespace CutI
open Go.RowKit

theorem info_int : (Try.prog.info? 3).map (fun i => (i.zero, i.size, i.bytes)) = some (some (.int .i64 0), 1, 8) := by kernel_rfl
theorem elem_ints : Try.prog.underlying 47 = some (.slice (Try.prog.elem 47)) := by kernel_rfl
theorem elem_int : Try.prog.elem 47 = 3 := by kernel_rfl
/-- The address of what stands from m on. -/
def tailA (A : Option Addr) (c m : Nat) : Option Addr := if c = m then A else A.map fun a => a.add m
theorem tail_ns {w : World} {B : Nat} {A : Option Addr} {zs : List Int} {k c m : Nat} (hz : zs.length = k) (hm : m ≤ k) (hk : k ≤ c) (h : Ns .i64 w B A zs) : Ns .i64 w B (tailA A c m) (zs.drop m) := by
  intro hp
  rw [List.length_drop] at hp
  obtain ⟨b, off, rfl, _, _⟩ := h (by omega)
  have h2 := h.cut m (zs.length - m)
  rw [List.take_of_length_le (by rw [List.length_drop]; omega)] at h2
  have e : tailA (some ⟨b, off, none⟩) c m = some ⟨b, off + m, none⟩ := by
    unfold tailA
    rw [if_neg (by omega), Option.map_some, Addr.add_lit]
  rw [e]
  exact h2 (by rw [List.length_drop]; omega)
theorem cut_h (A : Option Addr) (k c m : Nat) (x : Int) (hx : x = m) (hm : m ≤ k) (hk : k ≤ c) :
    ∀ V, (Instr.slice 47 (.slice A k c) none (some (.int .i64 x)) none).run Try.prog V = .ok (.slice A m c) V := fun V => by
  subst hx
  obtain ⟨j0, hj0, hy0, hy1, hy2⟩ := info_parts info_int
  have hs := run_slice_h (P := Try.prog) V 47 A k c elem_ints .i64 (m : Int) (by omega) (by omega)
  rw [hs, elem_int]
  simp only [sizeOf, typeInfo, Sem.run_bind, Sem.run_pure, sliced, Int.toNat_natCast, Nat.sub_zero]
  simp [go_sem, hj0, hy1]
theorem cut_l (A : Option Addr) (k c m : Nat) (x : Int) (hx : x = m) (hm : m ≤ k) :
    ∀ V, (Instr.slice 47 (.slice A k c) (some (.int .i64 x)) none none).run Try.prog V = .ok (.slice (tailA A c m) (k - m) (c - m)) V := fun V => by
  subst hx
  obtain ⟨j0, hj0, hy0, hy1, hy2⟩ := info_parts info_int
  have hs := run_slice_l (P := Try.prog) V 47 A k c elem_ints .i64 (m : Int) (by omega) (by omega)
  rw [hs, elem_int]
  simp only [sizeOf, typeInfo, Sem.run_bind, Sem.run_pure, sliced, Int.toNat_natCast]
  simp [go_sem, hj0, hy1, tailA]
end CutI
end Go.Proofs.Ytinbaiblbbfnnaa
