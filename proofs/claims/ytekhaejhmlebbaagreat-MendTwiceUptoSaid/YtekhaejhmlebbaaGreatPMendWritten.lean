/-
  firthlaw14.written: are the versions of two, key by key, such as writes make them? Written by gen14/written.py.
-/
import Derived.Test.YtekhaejhmlebbaaGreatPMendPlainLaw
import Derived.Test.YtekhaejhmlebbaaGreatPHMendA
namespace Go.Proofs.YtekhaejhmlebbaaGreat
namespace Mend
open Go.RowKit Vers Num Ring Disk Blk Tree
open Span (cell_below)
open Go.Proofs.YtekhaejhmlebbaaGreat.Code hiding Bn
attribute [local go_sem ↓] Go.wp_at_zero Go.wp_at_succ
def RecAt (W : World) (pb o : Nat) (key : Nm) (A : Option Addr) (ml c : Nat) (V : World) : Prop := V.cell? ⟨pb, o, none⟩ = some (.string key) ∧ V.cell? ⟨pb, o + 1, none⟩ = some (.slice A ml c) ∧ Below W.heap.size W V ∧ pb < V.heap.size
theorem recat_keep {W V V' : World} {pb o : Nat} {key : Nm} {A : Option Addr} {ml c : Nat} (h : RecAt W pb o key A ml c V) (b : Below V.heap.size V V') : RecAt W pb o key A ml c V' := by
  obtain ⟨h0, h1, h6, h7⟩ := h
  exact ⟨cell_below b h7 h0, cell_below b h7 h1, h6.trans (b.mono h6.size), Nat.lt_of_lt_of_le h7 b.size⟩
end Mend
end Go.Proofs.YtekhaejhmlebbaaGreat
