/-
  A key among a law's arguments.
-/
import Derived.Test.YtjifklojbbocfaaWeights
import Derived.Test.YtjifklojbbocfaaSpanRow
import Derived.Test.YtjifklojbbocfaaBulk
import Derived.Laws.IdiomArrays
namespace Go.Proofs.Ytjifklojbbocfaa
namespace Seal
open Go.ChangeShapes Go.WideShapes Go.ChangeAt Go.RowKit Go.Joins

section
variable {H : Type} {enc : TypeId × Value → H} {W : World}
set_option maxRecDepth 100000 in
theorem arg_key {v : Value} {d : DataW H} {p : List MemPlace} {r : Reach} {b0 : Nat} (hv : Value.okWide Try.prog W r b0 23 v) (h : DataW.Trod enc Try.prog W 0 (fun _ => true) true 23 v d p) (hw : Wgt.Wt Try.prog 23 d) :
    ∃ (s : ByteArray) (g : Int), v = .agg #[.string s, .int .i64 g] ∧ (Lit.int .i64 g).wf = true ∧ s.size ≤ 140737488351232 ∧ d = .agg [.lit (.string s.data.toList), .lit (.int .i64 g)] := by
  obtain ⟨v0, v1, y0, y1, n, rfl, rfl, rfl, h0, h1⟩ := open_agg2 Try.underlying23 (by kernel_rfl) (by kernel_rfl) hv h
  obtain ⟨s, e0, x0, _⟩ := DataW.trod_string Try.underlying9 h0
  obtain ⟨g, e1, x1, w1⟩ := DataW.trod_int Try.underlying2 h1
  simp only [List.cons.injEq, and_true] at e0 e1
  subst e0 e1
  subst x0 x1
  have hs := Wgt.wt_string (Wgt.wt_struct Try.underlying23 hw 0 9 _ rfl rfl)
  rw [Wgt.str_len] at hs
  exact ⟨s, g, rfl, w1, hs, rfl⟩
theorem key_le {d : DataW H} {s : ByteArray} {g : Int} (h : d = .agg [.lit (.string s.data.toList), .lit (.int .i64 g)]) : s.size ≤ Rows.uptoBulk d := by
  subst h
  simp only [Rows.uptoBulk, Rows.uptoBulkAll, Wgt.str_len]
  omega
set_option maxRecDepth 100000 in
theorem arg_turn {v : Value} {d : DataW H} {p : List MemPlace} {r : Reach} {b0 : Nat} (hv : Value.okWide Try.prog W r b0 42 v) (h : DataW.Trod enc Try.prog W 0 (fun _ => true) true 42 v d p) :
    ∃ x y z : Int, v = .agg #[.int .u8 x, .int .u8 y, .int .u8 z] ∧ (0 ≤ x ∧ x ≤ 255) ∧ (0 ≤ y ∧ y ≤ 255) ∧ (0 ≤ z ∧ z ≤ 255) := by
  obtain ⟨cs, rfl, hsz⟩ : ∃ cs : Array Value, v = .agg cs ∧ cs.size = Try.prog.cellsOf 42 := by
    simp only [Value.okWide, Try.underlying42] at hv
    obtain ⟨cs, h1, h2, _⟩ := hv
    exact ⟨cs, h1, h2⟩
  have hc3 : Try.prog.cellsOf 42 = 3 := by kernel_rfl
  rw [hc3] at hsz
  obtain ⟨c0, c1, c2, rfl⟩ : ∃ c0 c1 c2, cs = #[c0, c1, c2] := ⟨cs[0], cs[1], cs[2], by
    apply Array.ext
    · simp [hsz]
    · intro i h1 h2
      match i, h2 with
      | 0, _ => rfl
      | 1, _ => rfl
      | 2, _ => rfl⟩
  obtain ⟨fuel, hf⟩ := h
  obtain ⟨y0, y1, y2, n, _, h0, h1, h2⟩ := trod_array3 Try.underlying42 Facts.cells5 hf
  obtain ⟨x, e0, _, w0⟩ := DataW.trod_int Try.underlying5 h0
  obtain ⟨y, e1, _, w1⟩ := DataW.trod_int Try.underlying5 h1
  obtain ⟨z, e2, _, w2⟩ := DataW.trod_int Try.underlying5 h2
  simp only [List.cons.injEq, and_true] at e0 e1 e2
  subst e0 e1 e2
  exact ⟨x, y, z, rfl, wf_byte w0, wf_byte w1, wf_byte w2⟩
end
end Seal
end Go.Proofs.Ytjifklojbbocfaa
