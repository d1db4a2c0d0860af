/-
  firthref02.Same: two lists of bytes that read alike.
-/
import Derived.Test.YtgiojcjnljmaiaaSumPlain
import Derived.Test.YtgiojcjnljmaiaaSameBase
import Derived.Deep.QuietTactic
import Derived.BigQuiet
namespace Go.Proofs.Ytgiojcjnljmaiaa
namespace Frm
open Go.RowKit Num

theorem lists_same (A A' : Option Addr) (c c' n n' : Nat) (ps : List (List Int)) (hn : ps.length = n) (hn' : ps.length = n') (B B' : Nat) (w : World) (hB : B ≤ w.heap.size) (hB' : B' ≤ w.heap.size) (h : Parts w B A ps) (h' : Parts w B' A' ps) (hbig : n ≤ 140737488355328) :
    Calls Try.prog 7 #[.slice A n c, .slice A' n' c'] w (fun e w' => e = .returned (.bool true) ∧ Below w.heap.size w w') := by
  subst hn
  subst hn'
  go_enter Try.func7, Try.ntmps7
  go_wp2
  go_loopw [5] (fun q wr => ∃ k : Nat, k ≤ ps.length ∧ q = .int .i64 k ∧ Below w.heap.size w wr) (fun q _ => ps.length - (intOf q).toNat)
  case atStart => exact ⟨0, by omega, rfl, Below.refl _ _⟩
  case round =>
    obtain ⟨k, hk, rfl, hbw⟩ := hrel
    by_cases h4 : k < ps.length
    · obtain ⟨b, off, hA, hb, hc⟩ := (h.keep (w' := wr) fun _ hp => hbw.cell (by omega)) (by omega)
      obtain ⟨b', off', hA', hb', hc'⟩ := (h'.keep (w' := wr) fun _ hp => hbw.cell (by omega)) (by omega)
      subst hA
      subst hA'
      obtain ⟨A1, c1, e1, n1, _⟩ := hc k h4
      obtain ⟨A2, c2, e2, n2, _⟩ := hc' k h4
      obtain ⟨zs, hz⟩ : ∃ zs, ps.getD k [] = zs := ⟨_, rfl⟩
      rw [hz] at e1 n1 e2 n2
      have k1 := fun m => run_conv_ns (P := Try.prog) (wr.drewN m) 22 5 9 Try.underlying22 Try.underlying5 Try.underlying9 c1 (n1.drewN m)
      have k2 := fun m => run_conv_ns (P := Try.prog) (wr.drewN m) 22 5 9 Try.underlying22 Try.underlying5 Try.underlying9 c2 (n2.drewN m)
      have d1 : (0 : Int) ≤ (k : Int) := by omega
      have d2 : (k : Int) < (ps.length : Int) := by omega
      have HB := Lib.hid hbw
      clear hc hc' h h' hz n1 n2 hbw
      go_wp2
      go_quiet (fail)
      go_wp2
      case roundEnd => exact ⟨⟨k + 1, by omega, rfl, HB.out.trans ⟨rfl, rfl, rfl, Nat.le_refl _, fun _ _ => rfl⟩⟩, by simp only [intOf]; omega⟩
    · have hk0 : k = ps.length := by omega
      subst hk0
      clear h h'
      go_wp2
      go_ret
      exact ⟨rfl, hbw⟩
end Frm
end Go.Proofs.Ytgiojcjnljmaiaa
