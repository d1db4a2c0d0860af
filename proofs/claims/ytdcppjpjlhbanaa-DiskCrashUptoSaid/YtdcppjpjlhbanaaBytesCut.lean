/-
  A slice of bytes, cut: b[:h], b[l:], b[l:h]; nil and empty ones too.
-/
import Derived.Test.YtdcppjpjlhbanaaFacts
namespace Go.Proofs.Ytdcppjpjlhbanaa
namespace Cut
open Go.RowKit

theorem elem_bytes : Try.prog.underlying 29 = some (.slice (Try.prog.elem 29)) := by kernel_rfl
theorem elem_byte : Try.prog.elem 29 = 5 := by kernel_rfl
/-- The address of what stands from m on. -/
def tailA (A : Option Addr) (c m : Nat) : Option Addr := if c = m then A else A.map fun a => a.add m
theorem tail_ns {w : World} {B : Nat} {A : Option Addr} {zs : List Int} {k c m : Nat} (hz : zs.length = k) (hm : m ≤ k) (hk : k ≤ c) (h : Ns .u8 w B A zs) : Ns .u8 w B (tailA A c m) (zs.drop m) := by
  intro hp
  rw [List.length_drop] at hp
  obtain ⟨b, off, rfl, _, _⟩ := h (by omega)
  have h2 := h.cut m (zs.length - m)
  rw [List.take_of_length_le (by rw [List.length_drop]; omega)] at h2
  have e : tailA (some ⟨b, off, none⟩) c m = some ⟨b, off + m, none⟩ := by
    unfold tailA
    rw [if_neg (by omega), Option.map_some, Addr.add_lit]
  rw [e]
  exact h2 (by rw [List.length_drop]; omega)
theorem cut_h (A : Option Addr) (k c m : Nat) (x : Int) (hx : x = m) (hm : m ≤ k) (hk : k ≤ c) :
    ∀ V, (Instr.slice 29 (.slice A k c) none (some (.int .i64 x)) none).run Try.prog V = .ok (.slice A m c) V := fun V => by
  subst hx
  obtain ⟨j0, hj0, hy0, hy1, hy2⟩ := info_parts Facts.info5
  have hs := run_slice_h (P := Try.prog) V 29 A k c elem_bytes .i64 (m : Int) (by omega) (by omega)
  rw [hs, elem_byte]
  simp only [sizeOf, typeInfo, Sem.run_bind, Sem.run_pure, sliced, Int.toNat_natCast, Nat.sub_zero]
  simp [go_sem, hj0, hy1]
theorem cut_l (A : Option Addr) (k c m : Nat) (x : Int) (hx : x = m) (hm : m ≤ k) :
    ∀ V, (Instr.slice 29 (.slice A k c) (some (.int .i64 x)) none none).run Try.prog V = .ok (.slice (tailA A c m) (k - m) (c - m)) V := fun V => by
  subst hx
  obtain ⟨j0, hj0, hy0, hy1, hy2⟩ := info_parts Facts.info5
  have hs := run_slice_l (P := Try.prog) V 29 A k c elem_bytes .i64 (m : Int) (by omega) (by omega)
  rw [hs, elem_byte]
  simp only [sizeOf, typeInfo, Sem.run_bind, Sem.run_pure, sliced, Int.toNat_natCast]
  simp [go_sem, hj0, hy1, tailA]
theorem cut_lh (A : Option Addr) (k c l m : Nat) (x y : Int) (hx : x = l) (hy : y = m) (hl : l ≤ m) (hm : m ≤ k) (hk : k ≤ c) :
    ∀ V, (Instr.slice 29 (.slice A k c) (some (.int .i64 x)) (some (.int .i64 y)) none).run Try.prog V = .ok (.slice (tailA A c l) (m - l) (c - l)) V := fun V => by
  subst hx
  subst hy
  obtain ⟨j0, hj0, hy0, hy1, hy2⟩ := info_parts Facts.info5
  have hs := run_slice_lh (P := Try.prog) V 29 A k c elem_bytes .i64 .i64 (l : Int) (m : Int) (by omega) (by omega) (by omega)
  rw [hs, elem_byte]
  simp only [sizeOf, typeInfo, Sem.run_bind, Sem.run_pure, sliced, Int.toNat_natCast]
  simp [go_sem, hj0, hy1, tailA]
end Cut
end Go.Proofs.Ytdcppjpjlhbanaa
