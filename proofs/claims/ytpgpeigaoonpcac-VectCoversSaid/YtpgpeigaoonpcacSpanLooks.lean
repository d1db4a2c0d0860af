/-
  span.Has tells whether a dot is in one of the spans.
-/
import Derived.Test.YtpgpeigaoonpcacSpanPlain
import Derived.Test.YtpgpeigaoonpcacRows
namespace Go.Proofs.Ytpgpeigaoonpcac
namespace Span
open Go.RowKit

theorem has_any (A : Option Addr) (c : Nat) (l : List Sp) (s n : Int) (w : World) (hr : Ss w w.heap.size A l) (hbig : l.length ≤ 140737488355328) :
    Calls Try.prog 13 #[.slice A l.length c, .agg #[.int .i64 s, .int .i64 n]] w fun e w' => e = .returned (.bool (hasL l s n)) ∧ Below w.heap.size w w' := by
  go_enter Try.func13, Try.ntmps13
  go_wp2
  go_loopw [9] (fun q wr => ∃ k : Nat, k ≤ l.length ∧ q = .int .i64 k ∧ Below (w.heap.size + 1) (w.alloc (.cells #[.int .i64 s, .int .i64 n] 24)) wr ∧ Hid (hasL l s n = hasL (l.drop k) s n)) (fun q _ => l.length - (intOf q).toNat)
  case atStart => exact ⟨0, by omega, rfl, Below.refl _ _, rfl⟩
  case round =>
    obtain ⟨k, hk, rfl, hb, hst⟩ := hrel
    by_cases hlt : k < l.length
    · obtain ⟨b, off, rfl, hbB, hc⟩ := hr (by omega)
      obtain ⟨c0, c1, c2⟩ := hc k hlt
      have d0 := (hb.cell (p := ⟨b, off + k * 3, none⟩) (by show b < _; omega)).trans ((World.cell?_alloc_lt w _ _ (by exact hbB)).trans c0)
      have d1 := (hb.cell (p := ⟨b, off + k * 3 + 1, none⟩) (by show b < _; omega)).trans ((World.cell?_alloc_lt w _ _ (by exact hbB)).trans c1)
      have d2 := (hb.cell (p := ⟨b, off + k * 3 + 2, none⟩) (by show b < _; omega)).trans ((World.cell?_alloc_lt w _ _ (by exact hbB)).trans c2)
      have e0 : wr.cell? ⟨w.heap.size, 0, none⟩ = some (.int .i64 s) := (hb.cell (by simp)).trans (by simp)
      have e1 : wr.cell? ⟨w.heap.size, 1, none⟩ = some (.int .i64 n) := (hb.cell (by simp)).trans (by simp)
      obtain ⟨⟨x0, x1, x2⟩, hx⟩ : ∃ x, l.getD k (0, 0, 0) = x := ⟨_, rfl⟩
      rw [hx] at d0 d1 d2
      have Hx := Lib.hid hx
      have hsz : w.heap.size < wr.heap.size := by have := hb.size; simp at this; omega
      have hbs : b < w.heap.size := hbB
      have hbw := ((Below.refl w.heap.size w).alloc (Nat.le_refl _) (.cells #[.int .i64 s, .int .i64 n] 24)).trans (hb.mono (Nat.le_succ _))
      by_cases hit : x0 = s ∧ x1 ≤ n ∧ n ≤ x2
      · have hres := Lib.hid (hst.out.trans (hasL_hit hlt hx hit.1 hit.2.1 hit.2.2))
        obtain ⟨rfl, i1, i2⟩ := hit
        clear hr hc c0 c1 c2 hx hst Hx
        go_wp2
        go_ret
        exact ⟨by rw [hres.out]; rfl, hbw.alloc (by omega) _⟩
      · have hres := Lib.hid (hst.out.trans (hasL_miss hlt hx hit))
        have hM := Lib.hid hit
        clear hr hc c0 c1 c2 hx hst Hx hit
        go_wp2
        all_goals first
          | (exfalso; exact hM.out ⟨by omega, by omega, by omega⟩)
          | exact ⟨⟨k + 1, by omega, rfl, hb.alloc (by omega) _, Lib.hid hres.out⟩, by simp only [intOf]; omega⟩
    · have hk0 : k = l.length := by omega
      have hres := Lib.hid hst.out
      clear hst
      have hbw := ((Below.refl w.heap.size w).alloc (Nat.le_refl _) (.cells #[.int .i64 s, .int .i64 n] 24)).trans (hb.mono (Nat.le_succ _))
      go_wp2
      go_ret
      exact ⟨by rw [hres.out, List.drop_eq_nil_of_le (by omega)]; rfl, hbw⟩
end Span
end Go.Proofs.Ytpgpeigaoonpcac
