/-
  Lists of numbers: whether two are the same, whether a number is among some; the partitions that a node keeps.
-/
import Derived.Test.YtbhidndgnldheaaVersFresh
namespace Go.Proofs.Ytbhidndgnldheaa
namespace Ring
open Go.RowKit
attribute [local go_sem ↓] Go.wp_at_zero Go.wp_at_succ

theorem below_drewN (B : Nat) (w : World) (n : Nat) : Below B w (w.drewN n) := ⟨rfl, rfl, rfl, Nat.le_refl _, fun _ _ => rfl⟩
theorem takeI_eq {l m : List Int} {k : Nat} (hl : k < l.length) (hm : k < m.length) (h : l.take k = m.take k) (he : l.getD k 0 = m.getD k 0) : l.take (k + 1) = m.take (k + 1) := by
  rw [List.take_succ_eq_append_getElem hl, List.take_succ_eq_append_getElem hm, h]
  have e1 : l.getD k 0 = l[k] := by simp [List.getD_eq_getElem?_getD, hl]
  have e2 : m.getD k 0 = m[k] := by simp [List.getD_eq_getElem?_getD, hm]
  rw [← e1, ← e2, he]
theorem takeI_ne {l m : List Int} {k : Nat} (he : l.getD k 0 ≠ m.getD k 0) : ¬ l = m := fun h => he (by rw [h])

set_option maxRecDepth 100000 in
set_option maxHeartbeats 1000000 in
theorem ints_any (A A' : Option Addr) (c c' n n' : Nat) (l m : List Int) (hn : l.length = n) (hn' : m.length = n') (w : World) (hr : Ns .i64 w w.heap.size A l) (hr' : Ns .i64 w w.heap.size A' m) (hbig : n ≤ 140737488355328) (hbig' : n' ≤ 140737488355328) :
    Calls Try.prog 15 #[.slice A n c, .slice A' n' c'] w fun e w' => e = .returned (.bool (decide (l = m))) ∧ Below w.heap.size w w' := by
  obtain ⟨R, hR⟩ : ∃ R, decide (l = m) = R := ⟨_, rfl⟩
  rw [hR]
  by_cases hlen : n = n'
  · subst hlen
    have HV := Lib.hid (And.intro hr (And.intro hr' (And.intro hn (And.intro hn' hR))))
    clear hr hr' hn hn' hR
    go_enter Try.func15, Try.ntmps15
    go_wp2_with fail
    go_loopw [5] (fun q wr => ∃ k : Nat, q = .int .i64 k ∧ k ≤ n ∧ Below w.heap.size w wr ∧ Hid (l.take k = m.take k)) (fun q _ => n - (intOf q).toNat)
    case atStart => exact ⟨0, rfl, by omega, Below.refl _ _, Lib.hid rfl⟩
    case round =>
      obtain ⟨k, rfl, hk, hb, hst⟩ := hrel
      by_cases hlt : k < n
      · obtain ⟨b, off, rfl, _, hc⟩ := (HV.out.1.below hb) (by have := HV.out.2.2.1; omega)
        obtain ⟨b', off', rfl, _, hc'⟩ := (HV.out.2.1.below hb) (by have := HV.out.2.2.2.1; omega)
        have c0 := hc k (by have := HV.out.2.2.1; omega)
        have c0' := hc' k (by have := HV.out.2.2.2.1; omega)
        have hy := takeI_eq (l := l) (m := m) (by have := HV.out.2.2.1; omega) (by have := HV.out.2.2.2.1; omega) hst.out
        have hz := takeI_ne (l := l) (m := m) (k := k)
        obtain ⟨x, hx⟩ : ∃ x, l.getD k 0 = x := ⟨_, rfl⟩
        obtain ⟨y, hyy⟩ : ∃ y, m.getD k 0 = y := ⟨_, rfl⟩
        rw [hx] at c0 hy hz
        rw [hyy] at c0' hy hz
        have HY := Lib.hid hy
        have HZ := Lib.hid (fun h => show R = false by rw [← HV.out.2.2.2.2]; exact decide_eq_false (hz h))
        have d1 : (0 : Int) ≤ (k : Int) := by omega
        have d2 : (k : Int) < (n : Int) := by omega
        have HB := Lib.hid (fun j => hb.trans (below_drewN w.heap.size wr j))
        clear hy hz hx hyy hc hc' hst hb
        by_cases he : x = y
        · have HF := Lib.hid (HY.out he)
          subst he
          have g1 : (x != x) = false := by simp
          clear HY HZ
          go_wp2_with fail
          go_quiet (fail)
          go_wp2_with fail
          exact ⟨⟨k + 1, rfl, by omega, HB.out _, HF⟩, by simp only [intOf]; omega⟩
        · have HF := Lib.hid (HZ.out he)
          have g1 : (x != y) = true := by simpa using he
          have g2 : (x == y) = false := by simpa using he
          clear HY HZ
          go_wp2_with fail
          go_quiet (fail)
          go_wp2_with fail
          go_ret
          exact ⟨by rw [HF.out]; rfl, HB.out _⟩
      · have hkn : k = n := by omega
        subst hkn
        have HF := Lib.hid (show R = true by
          rw [← HV.out.2.2.2.2]
          refine decide_eq_true ?_
          have := hst.out
          rwa [List.take_of_length_le (by have := HV.out.2.2.1; omega), List.take_of_length_le (by have := HV.out.2.2.2.1; omega)] at this)
        clear hst
        go_wp2_with fail
        go_ret
        exact ⟨by rw [HF.out]; rfl, hb⟩
  · have HF := Lib.hid (show R = false by rw [← hR]; exact decide_eq_false fun h => hlen (by rw [← hn, ← hn', h]))
    have g1 : ((n : Int) == (n' : Int)) = false := by simp; omega
    have g2 : ((n : Int) != (n' : Int)) = true := by simp; omega
    clear hr hr' hn hn' hR
    go_enter Try.func15, Try.ntmps15
    go_wp2_with fail
    go_ret
    exact ⟨by rw [HF.out]; rfl, Below.refl _ _⟩

theorem drop_in {l : List Int} {k : Nat} (h : k < l.length) (x : Int) : decide (x ∈ l.drop k) = (decide (l.getD k 0 = x) || decide (x ∈ l.drop (k + 1))) := by
  have e : l.getD k 0 = l[k] := by simp [List.getD_eq_getElem?_getD, h]
  rw [e, List.drop_eq_getElem_cons h, ← Bool.decide_or]
  congr 1
  refine propext ?_
  rw [List.mem_cons]
  constructor
  · rintro (h | h)
    · exact .inl h.symm
    · exact .inr h
  · rintro (h | h)
    · exact .inl h.symm
    · exact .inr h

set_option maxRecDepth 100000 in
theorem in_any (A : Option Addr) (c n : Nat) (l : List Int) (hn : l.length = n) (x : Int) (w : World) (hr : Ns .i64 w w.heap.size A l) (hbig : n ≤ 140737488355328) :
    Calls Try.prog 34 #[.slice A n c, .int .i64 x] w fun e w' => e = .returned (.bool (decide (x ∈ l))) ∧ Below w.heap.size w w' := by
  obtain ⟨R, hR⟩ : ∃ R, decide (x ∈ l) = R := ⟨_, rfl⟩
  rw [hR]
  have HV := Lib.hid (And.intro hr (And.intro hn hR))
  clear hr hn hR
  go_enter Try.func34, Try.ntmps34
  go_wp2_with fail
  go_loop [5] (fun q => ∃ k : Nat, q = .int .i64 k ∧ k ≤ n ∧ Hid (R = decide (x ∈ l.drop k))) (fun q => n - (intOf q).toNat)
  case atStart => exact ⟨0, rfl, by omega, Lib.hid HV.out.2.2.symm⟩
  case round =>
    obtain ⟨k, rfl, hk, hst⟩ := hrel
    by_cases hlt : k < n
    · obtain ⟨b, off, rfl, _, hc⟩ := HV.out.1 (by have := HV.out.2.1; omega)
      have c0 := hc k (by have := HV.out.2.1; omega)
      have hd := drop_in (l := l) (k := k) (by have := HV.out.2.1; omega) x
      obtain ⟨y, hy⟩ : ∃ y, l.getD k 0 = y := ⟨_, rfl⟩
      rw [hy] at c0 hd
      have HD := Lib.hid (hst.out.trans hd)
      clear hd hy hc hst
      by_cases he : y = x
      · have HF := Lib.hid (show R = true by rw [HD.out]; simp [he])
        subst he
        clear HD
        go_wp2_with fail
        go_ret
        exact ⟨by rw [HF.out]; rfl, Below.refl _ _⟩
      · have HF := Lib.hid (show R = decide (x ∈ l.drop (k + 1)) by rw [HD.out]; simp [he])
        have g1 : (y == x) = false := by simpa using he
        clear HD
        go_wp2_with fail
        exact ⟨⟨k + 1, rfl, by omega, HF⟩, by simp only [intOf]; omega⟩
    · have hkn : k = n := by omega
      subst hkn
      have HF := Lib.hid (show R = false by rw [hst.out, List.drop_of_length_le (by have := HV.out.2.1; omega)]; simp)
      clear hst
      go_wp2_with fail
      go_ret
      exact ⟨by rw [HF.out]; rfl, Below.refl _ _⟩

set_option maxRecDepth 100000 in
theorem index_any (A : Option Addr) (c n : Nat) (l : List Int) (hn : l.length = n) (x : Int) (w : World) (hr : Ns .i64 w w.heap.size A l) (hbig : n ≤ 140737488355328) :
    Calls Try.prog 57 #[.slice A n c, .int .i64 x] w fun e w' => (∃ z : Int, e = .returned (.int .i64 z) ∧ (0 ≤ z ↔ x ∈ l)) ∧ w = w' := by
  have HV := Lib.hid (And.intro hr hn)
  clear hr hn
  go_enter Try.func57, Try.ntmps57
  go_wp2_with fail
  go_loop [8] (fun q => ∃ k : Nat, q = .int .i64 k ∧ k ≤ n ∧ Hid (decide (x ∈ l) = decide (x ∈ l.drop k))) (fun q => n - (intOf q).toNat)
  case atStart => exact ⟨0, rfl, by omega, Lib.hid rfl⟩
  case round =>
    obtain ⟨k, rfl, hk, hst⟩ := hrel
    by_cases hlt : k < n
    · obtain ⟨b, off, rfl, _, hc⟩ := HV.out.1 (by have := HV.out.2; omega)
      have c0 := hc k (by have := HV.out.2; omega)
      have hd := drop_in (l := l) (k := k) (by have := HV.out.2; omega) x
      obtain ⟨y, hy⟩ : ∃ y, l.getD k 0 = y := ⟨_, rfl⟩
      rw [hy] at c0 hd
      have HD := Lib.hid (hst.out.trans hd)
      clear hd hy hc hst
      by_cases he : x = y
      · have HF := Lib.hid (show x ∈ l from of_decide_eq_true (by rw [HD.out]; simp [he]))
        subst he
        clear HD
        go_wp2_with fail
        go_ret
        exact ⟨⟨(k : Int), rfl, fun _ => HF.out, fun _ => by omega⟩, rfl⟩
      · have HF := Lib.hid (show decide (x ∈ l) = decide (x ∈ l.drop (k + 1)) by rw [HD.out]; have : ¬ y = x := fun h => he h.symm; simp [this])
        have g1 : (x == y) = false := by simpa using he
        clear HD
        go_wp2_with fail
        exact ⟨⟨k + 1, rfl, by omega, HF⟩, by simp only [intOf]; omega⟩
    · have hkn : k = n := by omega
      subst hkn
      have HF := Lib.hid (show ¬ x ∈ l from of_decide_eq_false (by rw [hst.out, List.drop_of_length_le (by have := HV.out.2; omega)]; simp))
      clear hst
      go_wp2_with fail
      go_ret
      exact ⟨⟨-1, rfl, fun h => absurd h (by omega), fun h => absurd h HF.out⟩, rfl⟩

theorem contains_any (A : Option Addr) (c n : Nat) (l : List Int) (hn : l.length = n) (x : Int) (w : World) (hr : Ns .i64 w w.heap.size A l) (hbig : n ≤ 140737488355328) :
    Calls Try.prog 55 #[.slice A n c, .int .i64 x] w fun e w' => e = .returned (.bool (decide (x ∈ l))) ∧ Below w.heap.size w w' := by
  have H1 := Lib.hid (index_any A c n l hn x w hr hbig)
  clear hr hn
  by_cases hin : x ∈ l
  · rw [decide_eq_true hin]
    have HI := Lib.hid hin
    clear hin
    go_enter Try.func55, Try.ntmps55
    go_wp2_with fail
    refine H1.out.mono ?_
    rintro e w1 ⟨⟨z, rfl, hz⟩, rfl⟩
    have hz0 : 0 ≤ z := hz.2 HI.out
    clear hz
    go_wp2_with fail
    go_ret
    exact ⟨rfl, Below.refl _ _⟩
  · rw [decide_eq_false hin]
    have HI := Lib.hid hin
    clear hin
    go_enter Try.func55, Try.ntmps55
    go_wp2_with fail
    refine H1.out.mono ?_
    rintro e w1 ⟨⟨z, rfl, hz⟩, rfl⟩
    have hz0 : ¬ 0 ≤ z := fun h => HI.out (hz.1 h)
    have hd : decide (0 ≤ z) = false := decide_eq_false hz0
    clear hz
    go_wp2_with fail
    go_ret
    exact ⟨rfl, Below.refl _ _⟩
end Ring
end Go.Proofs.Ytbhidndgnldheaa
