/-
  firthref01.Digits makes the digits digL.
-/
import Derived.Test.YtpgpeigaoonpcaaDigits
namespace Go.Proofs.Ytpgpeigaoonpcaa
namespace Num
open Go.RowKit

theorem str_cons (x : Int) (acc : List Int) : strOfNums [x] ++ strOfNums acc = strOfNums (x :: acc) := by
  apply ByteArray.ext
  simp [strOfNums, ByteArray.data_append]

/-- The rounds of the document's digits: M is left, acc is made. -/
def AtRefN (w : World) (N : Int) (s q : Value) (wr : World) : Prop :=
  ∃ (M : Int) (acc : List Int), 0 ≤ M ∧ M ≤ 9223372036854775808 ∧ s = .string (strOfNums acc) ∧ q = .int .i64 (-M) ∧ Below w.heap.size w wr ∧
    ((∃ a, Dig N a M acc ∧ (acc = [] ∨ M ≠ 0)) ∨ (M = 0 ∧ acc ≠ [] ∧ decF 19 N [] = acc))
def AtRefP (w : World) (N : Int) (s q : Value) (wr : World) : Prop :=
  ∃ (M : Int) (acc : List Int), 0 ≤ M ∧ M ≤ 9223372036854775807 ∧ s = .string (strOfNums acc) ∧ q = .int .i64 M ∧ Below w.heap.size w wr ∧
    ((∃ a, Dig N a M acc ∧ (acc = [] ∨ M ≠ 0)) ∨ (M = 0 ∧ acc ≠ [] ∧ decF 19 N [] = acc))
def fresh : Value → Nat
  | .string s => if s.size = 0 then 1 else 0
  | _ => 0
theorem fresh_cons (x : Int) (acc : List Int) : fresh (.string (strOfNums (x :: acc))) = 0 := by
  show (if (strOfNums (x :: acc)).size = 0 then 1 else 0) = 0
  rw [strOfNums_size, if_neg (by simp)]
theorem fresh_nil : fresh (.string (strOfNums [])) = 1 := by
  show (if (strOfNums []).size = 0 then 1 else 0) = 1
  rw [strOfNums_size]
  rfl
theorem less (M : Int) (acc : List Int) (x : Int) (h0 : 0 ≤ M) (hc : acc = [] ∨ M ≠ 0) (y z : Int) (hy : y.natAbs = (M / 10).natAbs) (hz : z.natAbs = M.natAbs) :
    fresh (.string (strOfNums (x :: acc))) + y.natAbs < fresh (.string (strOfNums acc)) + z.natAbs := by
  rw [fresh_cons, hy, hz]
  rcases hc with rfl | h
  · rw [fresh_nil]; omega
  · have : (M / 10).natAbs < M.natAbs := by omega
    omega
theorem rounds_AtRefN {w wn : World} {N M : Int} {a : Nat} {acc : List Int} {s q : Value} (hd : Dig N a M acc) (hM0 : 0 ≤ M) (hM1 : M ≤ 9223372036854775808) (hb : Below w.heap.size w wn) (hc : acc = [] ∨ M ≠ 0)
    (hs : s = .string (strOfNums ((48 + M % 10) :: acc))) (hq : q = .int .i64 (-(M / 10))) : AtRefN w N s q wn ∧ fresh s + (intOf q).natAbs < fresh (.string (strOfNums acc)) + (intOf (.int .i64 (-M))).natAbs := by
  subst hs
  subst hq
  refine ⟨⟨M / 10, _, by omega, by omega, rfl, rfl, hb, ?_⟩, less M acc _ hM0 hc _ _ (by simp [intOf]) (by simp [intOf])⟩
  by_cases h10 : M < 10
  · exact .inr ⟨by omega, by simp, dig_last' hd hM0 h10⟩
  · exact .inl ⟨a - 1, dig_more hd (by omega), .inr (by omega)⟩
theorem rounds_AtRefP {w wn : World} {N M : Int} {a : Nat} {acc : List Int} {s q : Value} (hd : Dig N a M acc) (hM0 : 0 ≤ M) (hM1 : M ≤ 9223372036854775807) (hb : Below w.heap.size w wn) (hc : acc = [] ∨ M ≠ 0)
    (hs : s = .string (strOfNums ((48 + M % 10) :: acc))) (hq : q = .int .i64 (M / 10)) : AtRefP w N s q wn ∧ fresh s + (intOf q).natAbs < fresh (.string (strOfNums acc)) + (intOf (.int .i64 M)).natAbs := by
  subst hs
  subst hq
  refine ⟨⟨M / 10, _, by omega, by omega, rfl, rfl, hb, ?_⟩, less M acc _ hM0 hc _ _ (by simp [intOf]) (by simp [intOf])⟩
  by_cases h10 : M < 10
  · exact .inr ⟨by omega, by simp, dig_last' hd hM0 h10⟩
  · exact .inl ⟨a - 1, dig_more hd (by omega), .inr (by omega)⟩

theorem ref_digits_any (n : Int) (hn : -9223372036854775808 ≤ n ∧ n ≤ 9223372036854775807) (w : World) :
    Calls Try.prog 27 #[.int .i64 n] w (MadeStr (digL n) w) := by
  have hcv : ∀ (x : Int) (W : World), (convert 23 9 (.slice (some ⟨W.heap.size, 0, none⟩) 1 1)).run Try.prog (W.alloc (.cells #[.int .u8 x] 5)) = .ok (.string (strOfNums [x])) (W.alloc (.cells #[.int .u8 x] 5)) := by
    intro x W
    have h : Ns .u8 (W.alloc (.cells #[.int .u8 x] 5)) (W.heap.size + 1) (some ⟨W.heap.size, 0, none⟩) [x] := fun _ => ⟨_, _, rfl, by omega, fun j hj => by
      have : j = 0 := by simpa using hj
      subst this
      simp⟩
    exact run_conv_ns _ 23 5 9 Try.underlying23 Try.underlying5 Try.underlying9 1 h
  by_cases h0 : n < 0
  · have hN : digL n = 45 :: decF 19 (-n) [] := by unfold digL; rw [if_pos h0]
    go_enter Try.func27, Try.ntmps27
    go_wp2
    go_loopw [3, 4] (fun s q wr => AtRefN w (-n) s q wr) (fun s q _ => fresh s + (intOf q).natAbs)
    case atStart => exact ⟨(-n), [], by omega, by omega, rfl, by go_num, Below.refl _ _, .inl ⟨20, dig_start _ (by omega), .inl rfl⟩⟩
    case round =>
      obtain ⟨M, acc, hM0, hM1, rfl, rfl, hb, hd⟩ := hrel
      have hsz := hb.size
      rcases hd with ⟨a, hd, hcont⟩ | ⟨rfl, hacc, hend⟩
      · have hlen : acc.length ≤ 18 := by have := hd.2.2.1; have := hd.2.2.2; omega
        have hadd := fun (x : Int) (W : World) => (run_string_add_sum (P := Try.prog) W (strOfNums [x]) (strOfNums acc) (by rw [strOfNums_size, strOfNums_size]; simp; omega)).trans (by rw [str_cons])
        have hdm : (-M).tmod 10 = -(M % 10) := by rw [Int.neg_tmod, Int.tmod_eq_emod_of_nonneg hM0]
        have hdd : (-M).tdiv 10 = -(M / 10) := by rw [Int.neg_tdiv, Int.tdiv_eq_ediv_of_nonneg hM0]
        have Hd := Lib.hid (And.intro hd hb)
        by_cases hae : acc = []
        · subst hae
          have hemp : (strOfNums []).toList.isEmpty = true := by rw [Lib.toList_data]; rfl
          clear hd hb hcont
          go_wp2
          all_goals exact rounds_AtRefN Hd.out.1 hM0 hM1 (Hd.out.2.alloc hsz _) (.inl rfl) (by first | rfl | exact congrArg (fun x : Int => Value.string (strOfNums (x :: []))) (by omega)) (by first | rfl | go_num)
        · have hM : M ≠ 0 := by
            rcases hcont with h | h
            · exact absurd h hae
            · exact h
          have hM1' : 1 ≤ M := by omega
          have hemp : (strOfNums acc).toList.isEmpty = false := str_some (by rw [strOfNums_size]; exact List.length_pos_iff.2 hae)
          have Hae := Lib.hid hae
          clear hd hb hcont hae hM
          go_wp2
          all_goals exact rounds_AtRefN Hd.out.1 hM0 hM1 (Hd.out.2.alloc hsz _) (.inr (by omega)) (by first | rfl | exact congrArg (fun x : Int => Value.string (strOfNums (x :: acc))) (by omega)) (by first | rfl | go_num)
      · have hlen : acc.length ≤ 19 := by rw [← hend]; exact decF_len 19 (-n) []
        have hadd := fun (W : World) => (run_string_add_sum (P := Try.prog) W ⟨#[45]⟩ (strOfNums acc) (by rw [strOfNums_size]; show 1 + acc.length ≤ _; omega)).trans (by rw [show (⟨#[45]⟩ : ByteArray) = strOfNums [45] from rfl, str_cons])
        have hemp : (strOfNums acc).toList.isEmpty = false := str_some (by rw [strOfNums_size]; exact List.length_pos_iff.2 hacc)
        have hE := Lib.hid hend
        clear hend hacc
        go_wp2
        go_ret
        rw [hN, hE.out]
        exact ⟨rfl, hb⟩
  · have hN : digL n = decF 19 n [] := by unfold digL; rw [if_neg h0]
    go_enter Try.func27, Try.ntmps27
    go_wp2
    go_loopw [3, 4] (fun s q wr => AtRefP w n s q wr) (fun s q _ => fresh s + (intOf q).natAbs)
    case atStart => exact ⟨n, [], by omega, by omega, rfl, rfl, Below.refl _ _, .inl ⟨20, dig_start _ (by omega), .inl rfl⟩⟩
    case round =>
      obtain ⟨M, acc, hM0, hM1, rfl, rfl, hb, hd⟩ := hrel
      have hsz := hb.size
      rcases hd with ⟨a, hd, hcont⟩ | ⟨rfl, hacc, hend⟩
      · have hlen : acc.length ≤ 18 := by have := hd.2.2.1; have := hd.2.2.2; omega
        have hadd := fun (x : Int) (W : World) => (run_string_add_sum (P := Try.prog) W (strOfNums [x]) (strOfNums acc) (by rw [strOfNums_size, strOfNums_size]; simp; omega)).trans (by rw [str_cons])
        skip
        have Hd := Lib.hid (And.intro hd hb)
        by_cases hae : acc = []
        · subst hae
          have hemp : (strOfNums []).toList.isEmpty = true := by rw [Lib.toList_data]; rfl
          clear hd hb hcont
          go_wp2
          all_goals exact rounds_AtRefP Hd.out.1 hM0 hM1 (Hd.out.2.alloc hsz _) (.inl rfl) (by first | rfl | exact congrArg (fun x : Int => Value.string (strOfNums (x :: []))) (by omega)) (by first | rfl | go_num)
        · have hM : M ≠ 0 := by
            rcases hcont with h | h
            · exact absurd h hae
            · exact h
          have hM1' : 1 ≤ M := by omega
          have hemp : (strOfNums acc).toList.isEmpty = false := str_some (by rw [strOfNums_size]; exact List.length_pos_iff.2 hae)
          have Hae := Lib.hid hae
          clear hd hb hcont hae hM
          go_wp2
          all_goals exact rounds_AtRefP Hd.out.1 hM0 hM1 (Hd.out.2.alloc hsz _) (.inr (by omega)) (by first | rfl | exact congrArg (fun x : Int => Value.string (strOfNums (x :: acc))) (by omega)) (by first | rfl | go_num)
      · skip
        have hemp : (strOfNums acc).toList.isEmpty = false := str_some (by rw [strOfNums_size]; exact List.length_pos_iff.2 hacc)
        have hE := Lib.hid hend
        clear hend hacc
        go_wp2
        go_ret
        rw [hN, hE.out]
        exact ⟨rfl, hb⟩
end Num
end Go.Proofs.Ytpgpeigaoonpcaa
