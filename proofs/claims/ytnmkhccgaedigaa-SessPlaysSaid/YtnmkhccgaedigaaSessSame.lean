/-
  firthref04.Same of two rows of numbers.
-/
import Derived.Test.YtnmkhccgaedigaaSessLost
namespace Go.Proofs.Ytnmkhccgaedigaa
namespace Sess
open Go.RowKit Blk
attribute [local go_sem ↓] Go.wp_at_zero Go.wp_at_succ
theorem below_drewN (B n : Nat) (w : World) : Below B w (w.drewN n) := ⟨rfl, rfl, rfl, Nat.le_refl _, fun _ _ => rfl⟩
theorem nsk_cell {kd : IntKind} {w w' : World} {B : Nat} {A : Option Addr} {l : List Int} {n : Nat} (h : Ns kd w B A l) (hn : l.length = n) (hb : Below B w w') {k : Nat} (hk : k < n) {x : Int} (hx : l.getD k 0 = x) :
    ∃ b off, A = some ⟨b, off, none⟩ ∧ b < B ∧ w'.cell? ⟨b, off + k, none⟩ = some (.int kd x) := by
  subst hn
  subst hx
  obtain ⟨b, off, e, hbB, hc⟩ := h (by omega)
  exact ⟨b, off, e, hbB, (hb.cell (by exact hbB)).trans (hc k hk)⟩
set_option maxHeartbeats 1000000 in
theorem same_any (A A' : Option Addr) (c c' n : Nat) (l : List Int) (hn : l.length = n) (w : World) (hr : Ns .i64 w w.heap.size A l) (hr' : Ns .i64 w w.heap.size A' l) (hbig : n ≤ 140737488355328) :
    Calls Try.prog 16 #[.slice A n c, .slice A' n c'] w fun e w' => e = .returned (.bool true) ∧ Below w.heap.size w w' := by
  go_enter Try.func16, Try.ntmps16
  go_wp2
  go_loopw [5] (fun q wr => ∃ k : Nat, k ≤ n ∧ q = .int .i64 k ∧ Below w.heap.size w wr) (fun q _ => n - (intOf q).toNat)
  case atStart => exact ⟨0, by omega, rfl, Below.refl _ _⟩
  case round =>
    obtain ⟨k, hk, rfl, hb⟩ := hrel
    by_cases hlt : k < n
    · obtain ⟨x, hx⟩ : ∃ x, l.getD k 0 = x := ⟨_, rfl⟩
      obtain ⟨b, off, rfl, hbB, d0⟩ := nsk_cell hr hn hb hlt hx
      obtain ⟨b', off', rfl, hbB', d0'⟩ := nsk_cell hr' hn hb hlt hx
      have r0 : (0 : Int) ≤ (k : Int) := by omega
      have r1 : (k : Int) < (n : Int) := by omega
      clear hr hr' hx hn
      go_wp2
      go_quiet (fail)
      go_wp2
      exact ⟨⟨k + 1, by omega, rfl, hb.trans (below_drewN _ _ _)⟩, by simp only [intOf]; omega⟩
    · have hk0 : k = n := by omega
      clear hr hr' hn
      go_wp2
      go_ret
      exact ⟨rfl, hb⟩
/-- A row that was made is bytes or numbers that may be read. -/
theorem own_ns {k : IntKind} {w w' : World} {B : Nat} {e : TypeId} {A : Option Addr} {c n : Nat} {zs : List Int} (hn : zs.length = n) (h : w.ownsRow B e 1 (.slice A n c) n (nums k zs)) (hb : Below w.heap.size w w') : Ns k w' w'.heap.size A zs := fun hp => by
  obtain ⟨g, cap, hv, _, hg⟩ := h.form (by omega)
  injection hv with hA _ hcap
  subst hA
  have hlt := (h.lt g rfl).2
  refine ⟨g, 0, rfl, Nat.lt_of_lt_of_le hlt hb.size, fun j hj => ?_⟩
  have hc := h.cells (g := g) rfl j (.int k (zs.getD j 0)) (by simp [nums, List.getD_eq_getElem?_getD, List.getElem?_eq_getElem hj])
  have hadd : (⟨g, 0, none⟩ : Addr).add j = ⟨g, j, none⟩ := by unfold Addr.add; split <;> simp_all
  rw [hadd] at hc
  rw [Nat.zero_add]
  exact (hb.cell (p := ⟨g, j, none⟩) hlt).trans hc
end Sess
end Go.Proofs.Ytnmkhccgaedigaa
