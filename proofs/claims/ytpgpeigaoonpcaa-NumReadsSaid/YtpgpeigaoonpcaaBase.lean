/-
  Plain words on memory that all texts share: a slice whose cells read as a list of numbers, nil and empty ones let in.
-/
import Derived.WalkKit
import Derived.Lib.Hide
import Derived.Deep.Draws
import Derived.Deep.QuietTactic
import Derived.BigQuiet
namespace Go.Proofs.Ytpgpeigaoonpcaa
open Go.RowKit

/-- From the address A on stand the numbers zs, of kind k, in a block below B. -/
def Ns (k : IntKind) (w : World) (B : Nat) (A : Option Addr) (zs : List Int) : Prop :=
  0 < zs.length → ∃ b off, A = some ⟨b, off, none⟩ ∧ b < B ∧ ∀ j, j < zs.length → w.cell? ⟨b, off + j, none⟩ = some (.int k (zs.getD j 0))

section
variable {k : IntKind} {w w' : World} {B B' : Nat} {A : Option Addr} {zs : List Int}
theorem Ns.nil (A : Option Addr) : Ns k w B A [] := fun h => absurd h (by simp)
theorem Ns.keep (h : Ns k w B A zs) (hk : ∀ p : Addr, p.block < B → w'.cell? p = w.cell? p) : Ns k w' B A zs := fun hp => by
  obtain ⟨b, off, e, hb, hc⟩ := h hp
  exact ⟨b, off, e, hb, fun j hj => (hk _ hb).trans (hc j hj)⟩
theorem Ns.more (h : Ns k w B A zs) (hB : B ≤ B') : Ns k w B' A zs := fun hp => by
  obtain ⟨b, off, e, hb, hc⟩ := h hp
  exact ⟨b, off, e, by omega, hc⟩
theorem Ns.below (h : Ns k w B A zs) (hb : Below B w w') : Ns k w' B A zs := h.keep fun _ hp => hb.cell hp
theorem Ns.drew (h : Ns k w B A zs) : Ns k w.drew B A zs := h
theorem Ns.drewN (h : Ns k w B A zs) (n : Nat) : Ns k (w.drewN n) B A zs := h
theorem Ns.alloc (h : Ns k w B A zs) (hB : B ≤ w.heap.size) (o : Obj) : Ns k (w.alloc o) B A zs := h.keep fun p hp => World.cell?_alloc_lt w o p (by omega)
theorem Ns.grown (h : Ns k w B A zs) {row : Option Nat} (hg : w.grownBy w' row) (hB : B ≤ w.heap.size) (hr : ∀ g, row = some g → B ≤ g) : Ns k w' B A zs :=
  h.keep fun p hp => World.cell?_of_block (hg.block p.block (by omega) (fun e => by have := hr _ e.symm; omega))
end
end Go.Proofs.Ytpgpeigaoonpcaa
