/-
  slices.Concat of lists of spans.
-/
import Derived.Test.YthiiganfoecmnaaGatherSort
import Derived.Test.YthiiganfoecmnaaSpanJoinRef
import Derived.Test.YthiiganfoecmnaaSpanLay
import Derived.Shelf.Spec.SlicesGrow
namespace Go.Proofs.Ythiiganfoecmnaa
namespace Vers
open Go.RowKit Span
attribute [local go_sem ↓] Go.wp_at_zero Go.wp_at_succ

/-- A slice of lists of spans. -/
def Lss (V : World) (B : Nat) (A : Option Addr) (ls : List (List Sp)) : Prop :=
  0 < ls.length → ∃ b off, A = some ⟨b, off, none⟩ ∧ b < B ∧ ∀ j, j < ls.length → ∃ Aj cj, V.cell? ⟨b, off + j, none⟩ = some (.slice Aj (ls.getD j []).length cj) ∧ (ls.getD j []).length ≤ cj ∧ Ss V B Aj (ls.getD j [])
theorem Lss.below {V V' : World} {B : Nat} {A : Option Addr} {ls : List (List Sp)} (h : Lss V B A ls) (hb : Below B V V') : Lss V' B A ls := fun hp => by
  obtain ⟨b, off, e, h1, h2⟩ := h hp
  refine ⟨b, off, e, h1, fun j hj => ?_⟩
  obtain ⟨Aj, cj, h3, h4, h5⟩ := h2 j hj
  exact ⟨Aj, cj, (hb.cell (p := ⟨b, off + j, none⟩) h1).trans h3, h4, h5.below hb⟩
theorem flat_step {ls : List (List Sp)} {i : Nat} (h : i < ls.length) : (ls.take (i + 1)).flatten = (ls.take i).flatten ++ ls.getD i [] := by
  rw [List.take_succ_eq_append_getElem h, List.flatten_append]
  simp [List.getD_eq_getElem?_getD, h]
theorem flat_le {ls : List (List Sp)} (i : Nat) : (ls.take i).flatten.length ≤ ls.flatten.length := by
  have h : ls.flatten = (ls.take i).flatten ++ (ls.drop i).flatten := by rw [← List.flatten_append, List.take_append_drop]
  rw [h, List.length_append]
  omega
/-- A list made: in a row of the call's own. -/
def MadeSp (l : List Sp) (w : World) (e : Ending) (w' : World) : Prop := ∃ A c, e = .returned (.slice A l.length c) ∧ w'.ownsRow w.heap.size 46 3 (.slice A l.length c) l.length (sps l) ∧ Below w.heap.size w w'

/-- What Grow makes of nil. -/
theorem grow_any (n : Nat) (hn : n * 24 ≤ 140737488355328) (w : World) :
    Calls Try.prog 63 #[.slice none 0 0, .int .i64 (n : Int)] w (MadeSp [] w) := by
  by_cases h0 : n = 0
  · subst h0
    refine Calls.mono (Any8.slices_Grow_room Try.growSpan none 0 0 0 w (by omega) (by omega) (by omega) (by omega)) ?_
    rintro e w' ⟨rfl, rfl⟩
    exact ⟨none, 0, rfl, World.ownsRow_nil _ _ _ _, Below.refl _ _⟩
  · obtain ⟨info, hi, hz, hs, hb⟩ := info_span
    refine Calls.mono (Any8.slices_Grow_grow Try.growSpan info _ hi hz (by omega) none 0 0 n [] w (by omega) (by omega) (by rw [hb]; omega) (by omega) (by simp) (fun _ => rfl) (fun a h => by cases h)) ?_
    rintro e w' ⟨rfl, rfl⟩
    have hG1 := grownCap_ge w (0 + n) 0 (Try.growSpan_ren.t 25)
    have hG2 := grownCap_le_maxLen w (0 + n) 0 (Try.growSpan_ren.t 25) (by unfold maxLen; omega)
    obtain ⟨G, hG⟩ : ∃ G, grownCap w (0 + n) 0 (Try.growSpan_ren.t 25) = G := ⟨_, rfl⟩
    rw [hG] at hG1 hG2 ⊢
    refine ⟨some ⟨w.heap.size, 0, none⟩, G, rfl, ?own, ((Below.refl w.heap.size w).drew).alloc (Nat.le_refl _) _⟩
    case own =>
      refine ⟨rfl, .inr ⟨w.heap.size, G, ?cur, rfl, Nat.le_refl _, ?h1, Nat.zero_le _, hG2, ?h2, rfl⟩⟩
      case h1 => exact Array.getElem?_push_size
      case h2 =>
        simp [size_zeroCells, Value.cells]
        omega

set_option maxRecDepth 100000 in
set_option maxHeartbeats 1000000 in
theorem concat_any (A : Option Addr) (c n : Nat) (ls : List (List Sp)) (hn : ls.length = n) (w : World) (hr : Lss w w.heap.size A ls) (_hlc : n ≤ c) (hbig : ls.flatten.length * 24 ≤ 140737488351232) (hn2 : n ≤ 140737488355328) :
    Calls Try.prog 58 #[.slice A n c] w (MadeSp ls.flatten w) := by
  have HV := Lib.hid (And.intro hr hn)
  clear hr hn
  go_enter Try.func58, Try.ntmps58
  go_wp2_with fail
  go_loopw [3, 11] (fun sv iv V => ∃ i k : Nat, iv = .int .i64 i ∧ i ≤ n ∧ sv = .int .i64 k ∧ Hid ((ls.take i).flatten.length = k) ∧ w = V) (fun _ iv _ => n - (intOf iv).toNat)
  case atStart => exact ⟨0, 0, rfl, by omega, rfl, Lib.hid rfl, rfl⟩
  case round =>
    obtain ⟨i, k, rfl, hi, rfl, hk, rfl⟩ := hrel
    by_cases hlt : i < n
    · have hil : i < ls.length := by have := HV.out.2; omega
      obtain ⟨b, off, rfl, _, hc⟩ := HV.out.1 (by omega)
      obtain ⟨Aj, cj, c0, _, _⟩ := hc i hil
      have hst := flat_step hil
      have hle := flat_le (ls := ls) (i + 1)
      rw [hst, List.length_append, hk.out] at hle
      obtain ⟨m, hm⟩ : ∃ m, (ls.getD i []).length = m := ⟨_, rfl⟩
      rw [hm] at c0 hle
      have HK : Hid ((ls.take (i + 1)).flatten.length = k + m) := Lib.hid (by rw [hst, List.length_append, hk.out, hm])
      have hkm : k + m ≤ 140737488351232 := by omega
      have d1 : (i : Int) < (n : Int) := by omega
      have d2 : (0 : Int) ≤ (i : Int) := by omega
      clear hst hle hm hc hk
      go_wp2_with fail
      exact ⟨⟨i + 1, k + m, rfl, by omega, rfl, HK, trivial⟩, by simp only [intOf]; omega⟩
    · have hin : i = n := by omega
      have d1 : ¬ (i : Int) < (n : Int) := by omega
      have hkk : Hid (ls.flatten.length = k) := Lib.hid (by
        have h := hk.out
        rw [List.take_of_length_le (by have := HV.out.2; omega)] at h
        exact h)
      have HG := Lib.hid (grow_any k (by have := hkk.out; omega) w)
      clear hk
      go_wp2_with fail
      refine HG.out.mono ?_
      rintro e w1 ⟨A1, c1, rfl, o1, b1⟩
      have HO : Hid (w1.ownsRow w.heap.size 46 3 (.slice A1 0 c1) 0 (sps (ls.take 0).flatten) ∧ Below w.heap.size w w1 ∧ (ls.take 0).flatten.length = 0) := Lib.hid ⟨o1, b1, rfl⟩
      obtain ⟨info, hi0, hz, hsize, hby⟩ := info_span
      have HI := Lib.hid (And.intro hi0 (And.intro hz (And.intro hsize hby)))
      clear o1 b1 hi0 hz hsize hby HG
      go_wp2_with fail
      go_loopw [6, 27] (fun sv iv V => ∃ (i m : Nat) (Al : Option Addr) (cl : Nat), iv = .int .i64 i ∧ i ≤ n ∧ sv = .slice Al m cl ∧ Hid (V.ownsRow w.heap.size 46 3 (.slice Al m cl) m (sps (ls.take i).flatten) ∧ Below w.heap.size w V ∧ (ls.take i).flatten.length = m)) (fun _ iv _ => n - (intOf iv).toNat)
      case atStart => exact ⟨0, 0, A1, c1, rfl, by omega, rfl, HO⟩
      case round =>
        obtain ⟨i, m, Al, cl, rfl, hi, rfl, hH⟩ := hrel
        clear HO
        by_cases hlt : i < n
        · have hil : i < ls.length := by have := HV.out.2; omega
          obtain ⟨b, off, rfl, _, hc⟩ := (HV.out.1.below hH.out.2.1) (by omega)
          obtain ⟨Aj, cj, c0, hcj, hss⟩ := hc i hil
          have hst := flat_step hil
          have hle := flat_le (ls := ls) (i + 1)
          rw [hst, List.length_append, hH.out.2.2] at hle
          obtain ⟨l, hl⟩ : ∃ l, ls.getD i [] = l := ⟨_, rfl⟩
          rw [hl] at c0 hle hst hss
          obtain ⟨q, hq⟩ : ∃ q, l.length = q := ⟨_, rfl⟩
          rw [hq] at c0 hle
          have HQ := Lib.hid (And.intro hq (And.intro hst hss))
          have hkm : m + q ≤ k := by have := hkk.out; omega
          have d1 : (i : Int) < (n : Int) := by omega
          have d2 : (0 : Int) ≤ (i : Int) := by omega
          clear hst hle hl hc hss hcj hq
          have hkb : k * 24 ≤ 140737488351232 := by have := hkk.out; omega
          go_wp2_with (at_builtin; refine wpList_append_ss _ rfl _ _ _ rfl w.heap.size 46 info _ 24 Try.underlying26 HI.out.1 HI.out.2.1 HI.out.2.2.1 HI.out.2.2.2 rfl (.slice Al m cl) m (ls.take i).flatten rfl hH.out.1 w.heap.size Aj q cj l HQ.out.1 rfl HQ.out.2.2 (by omega) (by omega) hH.out.2.1.size ?_; intro v2 w2 o2 g2 _; obtain ⟨A2, c2, rfl⟩ := own_form o2)
          exact ⟨⟨i + 1, m + q, A2, c2, rfl, by omega, rfl, Lib.hid ⟨by rw [HQ.out.2.1]; exact o2, hH.out.2.1.grown g2 hH.out.2.1.size (fun r hr => (hH.out.1.lt r hr).1), by rw [HQ.out.2.1, List.length_append, hH.out.2.2, HQ.out.1]⟩⟩, by simp only [intOf]; omega⟩
        · have hin2 : i = n := by omega
          have d1 : ¬ (i : Int) < (n : Int) := by omega
          have HF : Hid (MadeSp ls.flatten w (.returned (.slice Al m cl)) wr) := Lib.hid (by
            have h := hH.out
            rw [List.take_of_length_le (by have := HV.out.2; omega)] at h
            obtain ⟨h1, h2, h3⟩ := h
            subst h3
            exact ⟨Al, cl, rfl, h1, h2⟩)
          clear hH
          go_wp2_with fail
          go_ret
          exact HF.out
end Vers
end Go.Proofs.Ythiiganfoecmnaa
