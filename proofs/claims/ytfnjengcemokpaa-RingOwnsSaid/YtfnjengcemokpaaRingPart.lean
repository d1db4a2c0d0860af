/-
  A key's partition, of both.
-/
import Derived.Test.YtfnjengcemokpaaRingOwn
import Derived.Laws.IdiomStrings
namespace Go.Proofs.Ytfnjengcemokpaa
namespace Ring
open Go.RowKit
attribute [local go_sem ↓] Go.wp_at_zero Go.wp_at_succ

theorem text_bytes (s : ByteArray) (V : World) : ∃ c V', (convert 9 43 (.string s)).run Try.prog V = .ok (.slice (some ⟨V.heap.size, 0, none⟩) s.size c) V' ∧ Ns .u8 V' V'.heap.size (some ⟨V.heap.size, 0, none⟩) (strNums s) ∧ Below V.heap.size V V' := by
  refine ⟨_, _, run_bytes_of_string V _ _ 5 s Try.underlying9 Try.underlying43 Try.underlying5, ?_, ?_⟩
  · intro _
    refine ⟨V.heap.size, 0, rfl, by show V.heap.size < (V.heap.push _).size; rw [Array.size_push]; omega, fun j hj => ?_⟩
    rw [strNums_length] at hj
    have h1 := bytesRow_at s (grownCap V s.size 0 5) j hj
    refine (World.cell?_alloc_mark V.drew _ _ _ _).trans ?_
    rw [Nat.zero_add, h1]
    have hj' : j < s.data.size := hj
    simp [strNums, List.getD_eq_getElem?_getD]
    rw [Array.getElem?_eq_getElem hj']
    rfl
  · exact ((Below.refl V.heap.size V).drew).alloc (Nat.le_refl _) _

/-- A key's partition. -/
def partF (s : ByteArray) : Int := hashL (strNums s) % 8
theorem part_range (s : ByteArray) : 0 ≤ partF s ∧ partF s < 8 := by unfold partF; omega
set_option maxRecDepth 100000 in
theorem part_any (s : ByteArray) (w : World) (hbig : s.size ≤ 140737488355328) :
    Calls Try.prog 17 #[.string s] w fun e w' => e = .returned (.int .i64 (partF s)) ∧ Below w.heap.size w w' := by
  obtain ⟨c, V, hcv, hns, hb⟩ := text_bytes s w
  have H1 := Lib.hid (hash_any _ c s.size (strNums s) (strNums_length s) (strNums_bytes s) V hns hbig)
  have hr := hash_range (strNums s)
  have HR := Lib.hid (part_range s)
  unfold partF at HR ⊢
  obtain ⟨x, hx⟩ : ∃ x, hashL (strNums s) = x := ⟨_, rfl⟩
  rw [hx] at H1 hr HR ⊢
  have HB := Lib.hid hb
  obtain ⟨r0, r1⟩ := hr
  clear hns hb hx
  go_enter Try.func17, Try.ntmps17
  go_wp2_with fail
  refine H1.out.mono ?_
  rintro e w1 ⟨rfl, rfl⟩
  go_wp2_with fail
  go_ret
  exact ⟨rfl, HB.out⟩
set_option maxRecDepth 100000 in
theorem ref_part_any (s : ByteArray) (w : World) (hbig : s.size ≤ 140737488355328) :
    Calls Try.prog 18 #[.string s] w fun e w' => e = .returned (.int .i64 (partF s)) ∧ Below w.heap.size w w' := by
  obtain ⟨c, V, hcv, hns, hb⟩ := text_bytes s w
  have H1 := Lib.hid (ref_hash_any _ c s.size (strNums s) (strNums_length s) (strNums_bytes s) V hns hbig)
  have hr := hash_range (strNums s)
  have HR := Lib.hid (part_range s)
  unfold partF at HR ⊢
  obtain ⟨x, hx⟩ : ∃ x, hashL (strNums s) = x := ⟨_, rfl⟩
  rw [hx] at H1 hr HR ⊢
  have HB := Lib.hid hb
  obtain ⟨r0, r1⟩ := hr
  clear hns hb hx
  go_enter Try.func18, Try.ntmps18
  go_wp2_with fail
  refine H1.out.mono ?_
  rintro e w1 ⟨rfl, rfl⟩
  go_wp2_with fail
  go_ret
  exact ⟨rfl, HB.out⟩
end Ring
end Go.Proofs.Ytfnjengcemokpaa
