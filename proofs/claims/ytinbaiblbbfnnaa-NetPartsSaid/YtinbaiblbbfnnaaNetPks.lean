/-
  A packet among the packets of an argument.
-/
import Derived.Test.YtinbaiblbbfnnaaNetArgs
namespace Go.Proofs.Ytinbaiblbbfnnaa
namespace Net
open Go.RowKit Blk
theorem pks_at {w : World} {B b off : Nat} {l : List PE} (h : Pks w B (some ⟨b, off, none⟩) l) {j : Nat} (hj : j < l.length) :
    ∃ a1 a2 b1 b2 zs Ad cd, l.getD j pe0 = (((a1, a2), (b1, b2), zs), Ad, cd) ∧ OkP ((a1, a2), (b1, b2), zs) ∧ Ns .u8 w B Ad zs ∧ b < B ∧
      w.cell? ⟨b, off + j * 5, none⟩ = some (.int .i64 a1) ∧ w.cell? ⟨b, off + j * 5 + 1, none⟩ = some (.int .i64 a2) ∧ w.cell? ⟨b, off + j * 5 + 2, none⟩ = some (.int .i64 b1) ∧ w.cell? ⟨b, off + j * 5 + 3, none⟩ = some (.int .i64 b2) ∧ w.cell? ⟨b, off + j * 5 + 4, none⟩ = some (.slice Ad zs.length cd) := by
  obtain ⟨⟨⟨⟨a1, a2⟩, ⟨b1, b2⟩, zs⟩, Ad, cd⟩, hx⟩ : ∃ x, l.getD j pe0 = x := ⟨_, rfl⟩
  obtain ⟨b', off', e, hb, hc⟩ := h.2 (by omega)
  injection e with e
  injection e with e1 e2
  subst e1 e2
  have hm : (((a1, a2), (b1, b2), zs), Ad, cd) ∈ l := by
    rw [← hx, List.getD_eq_getElem?_getD, List.getElem?_eq_getElem hj]
    exact List.getElem_mem _
  obtain ⟨h1, h2⟩ := h.1 _ hm
  have hcj := hc j hj
  rw [hx] at hcj
  exact ⟨a1, a2, b1, b2, zs, Ad, cd, hx, h2, h1, hb, hcj 0 _ rfl, hcj 1 _ rfl, hcj 2 _ rfl, hcj 3 _ rfl, hcj 4 _ rfl⟩

end Net
end Go.Proofs.Ytinbaiblbbfnnaa
