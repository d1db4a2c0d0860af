/-
 The bulk of records among a law's arguments: they are no more than it (layer 14).
-/
import Derived.Test.YtekhaejhmlebbaaGreatRHTreeD
import Derived.Test.YtekhaejhmlebbaaGreatRGArg
namespace Go.Proofs.YtekhaejhmlebbaaGreat
namespace Mend
open Go.ChangeShapes Go.WideShapes Go.ChangeAt Go.RowKit Go.Joins Go.Deep Vers Span Blk Tree
open Go.Proofs.YtekhaejhmlebbaaGreat.Code hiding Bn
section
variable {H : Type} {enc : TypeId × Value → H} {W : World}
theorem bulk_pos (d : DataW H) : 1 ≤ Rows.uptoBulk d := by
 cases d with
 | lit l => cases l <;> simp [Rows.uptoBulk]
 | _ => simp [Rows.uptoBulk]
theorem bulk_len (ds : List (DataW H)) : ds.length ≤ Rows.uptoBulkAll ds := by
 induction ds with
 | nil => simp [Rows.uptoBulkAll]
 | cons d ds ih =>
  have := bulk_pos d
  simp only [List.length_cons, Rows.uptoBulkAll]
  omega
theorem recs_bulk {A : Option Addr} {c : Nat} {l : List Rc} {d : DataW H} {p : List MemPlace} (h : DataW.Trod enc Tryz.prog W 0 (fun _ => true) true 22 (.slice A l.length c) d p) : l.length ≤ Rows.uptoBulk d := by
 obtain ⟨fuel, hf⟩ := h
 simp only [Value.cells] at hf
 rcases open_slice Tryz.underlying22 hf with ⟨hcs, hx⟩ | ⟨a, len, cap, m, n', D', Pl', hcs, _, hl, hm, hmm, hx, hi⟩
 ·simp at hcs
  rw [hcs.2.1]
  exact Nat.zero_le _
 ·simp at hcs
  obtain ⟨rfl, hlen, rfl⟩ := hcs
  simp only [Prod.mk.injEq] at hx
  rw [hx.1]
  simp only [if_true] at hmm
  subst hmm
  simp only [Rows.uptoBulk]
  have := bulk_len ((List.range len).map D')
  simp only [List.length_map, List.length_range] at this
  omega
end
end Mend
end Go.Proofs.YtekhaejhmlebbaaGreat
