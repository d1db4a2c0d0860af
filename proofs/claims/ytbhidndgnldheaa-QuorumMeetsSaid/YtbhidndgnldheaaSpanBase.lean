/-
  A slice of spans read as a list of triples: site, from, to.
-/
import Derived.Test.YtbhidndgnldheaaBase
namespace Go.Proofs.Ytbhidndgnldheaa
open Go.RowKit

/-- A span: site, from, to. -/
abbrev Sp := Int × Int × Int
/-- From the address A on stand the spans l, in a block below B. -/
def Ss (w : World) (B : Nat) (A : Option Addr) (l : List Sp) : Prop :=
  0 < l.length → ∃ b off, A = some ⟨b, off, none⟩ ∧ b < B ∧ ∀ j, j < l.length →
    w.cell? ⟨b, off + j * 3, none⟩ = some (.int .i64 (l.getD j (0, 0, 0)).1) ∧ w.cell? ⟨b, off + j * 3 + 1, none⟩ = some (.int .i64 (l.getD j (0, 0, 0)).2.1) ∧ w.cell? ⟨b, off + j * 3 + 2, none⟩ = some (.int .i64 (l.getD j (0, 0, 0)).2.2)
section
variable {w w' : World} {B B' : Nat} {A : Option Addr} {l : List Sp}
theorem Ss.nil (A : Option Addr) : Ss w B A [] := fun h => absurd h (by simp)
theorem Ss.keep (h : Ss w B A l) (hk : ∀ p : Addr, p.block < B → w'.cell? p = w.cell? p) : Ss w' B A l := fun hp => by
  obtain ⟨b, off, e, hb, hc⟩ := h hp
  exact ⟨b, off, e, hb, fun j hj => ⟨(hk _ hb).trans (hc j hj).1, (hk _ hb).trans (hc j hj).2.1, (hk _ hb).trans (hc j hj).2.2⟩⟩
theorem Ss.more (h : Ss w B A l) (hB : B ≤ B') : Ss w B' A l := fun hp => by
  obtain ⟨b, off, e, hb, hc⟩ := h hp
  exact ⟨b, off, e, by omega, hc⟩
theorem Ss.below (h : Ss w B A l) (hb : Below B w w') : Ss w' B A l := h.keep fun _ hp => hb.cell hp
theorem Ss.drew (h : Ss w B A l) : Ss w.drew B A l := h
theorem Ss.drewN (h : Ss w B A l) (n : Nat) : Ss (w.drewN n) B A l := h
theorem Ss.alloc (h : Ss w B A l) (hB : B ≤ w.heap.size) (o : Obj) : Ss (w.alloc o) B A l := h.keep fun p hp => World.cell?_alloc_lt w o p (by omega)
end
end Go.Proofs.Ytbhidndgnldheaa
