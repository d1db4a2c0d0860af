/-
  Whether two versions, two lists of them, are the same.
-/
import Derived.Test.YtbhidndgnldheaaVersRightRef
namespace Go.Proofs.Ytbhidndgnldheaa
namespace Vers
open Go.RowKit Span

set_option maxHeartbeats 1000000 in
theorem equal_any (A A' : Option Addr) (c c' n n' : Nat) (l m : List Sp) (hn : l.length = n) (hn' : m.length = n') (w : World) (hr : Ss w w.heap.size A l) (hr' : Ss w w.heap.size A' m) (hbig : n ≤ 140737488355328) (hbig' : n' ≤ 140737488355328) :
    Calls Try.prog 82 #[.slice A n c, .slice A' n' c'] w fun e w' => e = .returned (.bool (decide (l = m))) ∧ Below w.heap.size w w' := by
  by_cases hlen : n = n'
  · subst hlen
    go_enter Try.func82, Try.ntmps82
    go_wp2
    go_loopw [13] (fun q wr => ∃ k : Nat, k ≤ n ∧ q = .int .i64 k ∧ Below w.heap.size w wr ∧ Hid (l.take k = m.take k)) (fun q _ => n - (intOf q).toNat)
    case atStart => exact ⟨0, by omega, rfl, Below.refl _ _, rfl⟩
    case round =>
      obtain ⟨k, hk, rfl, hb, hst⟩ := hrel
      by_cases hlt : k < n
      · obtain ⟨b, off, rfl, hbB, hc⟩ := hr (by omega)
        obtain ⟨c0, c1, c2⟩ := hc k (by omega)
        have d0 := (hb.cell (p := ⟨b, off + k * 3, none⟩) (by exact hbB)).trans c0
        have d1 := (hb.cell (p := ⟨b, off + k * 3 + 1, none⟩) (by exact hbB)).trans c1
        have d2 := (hb.cell (p := ⟨b, off + k * 3 + 2, none⟩) (by exact hbB)).trans c2
        obtain ⟨b', off', rfl, hbB', hc'⟩ := hr' (by omega)
        obtain ⟨c0', c1', c2'⟩ := hc' k (by omega)
        have d0' := (hb.cell (p := ⟨b', off' + k * 3, none⟩) (by exact hbB')).trans c0'
        have d1' := (hb.cell (p := ⟨b', off' + k * 3 + 1, none⟩) (by exact hbB')).trans c1'
        have d2' := (hb.cell (p := ⟨b', off' + k * 3 + 2, none⟩) (by exact hbB')).trans c2'
        have hy := take_eq_step (l := l) (m := m) (by omega) (by omega) hst.out
        have hz := take_ne (l := l) (m := m) (k := k)
        obtain ⟨⟨x0, x1, x2⟩, hx⟩ : ∃ x, l.getD k (0, 0, 0) = x := ⟨_, rfl⟩
        obtain ⟨⟨y0, y1, y2⟩, hx'⟩ : ∃ x, m.getD k (0, 0, 0) = x := ⟨_, rfl⟩
        rw [hx] at d0 d1 d2
        rw [hx'] at d0' d1' d2'
        rw [hx, hx'] at hy hz
        simp only at d0 d1 d2 d0' d1' d2'
        have r0 : (0 : Int) ≤ (k : Int) := by omega
        have r1 : (k : Int) < (n : Int) := by omega
        by_cases he : (x0, x1, x2) = (y0, y1, y2)
        · have HY := Lib.hid (hy he)
          injection he with e0 e1
          injection e1 with e1 e2
          subst e0 e1 e2
          clear hr hr' hc hc' c0 c1 c2 c0' c1' c2' hst hy hz hx hx' hn hn'
          go_wp2
          go_quiet (fail)
          go_wp2
          all_goals exact ⟨⟨k + 1, by omega, rfl, hb.trans (below_drewN _ _ _), HY⟩, by simp only [intOf]; omega⟩
        · have HZ := Lib.hid (decide_eq_false (hz he))
          have hp : (x0 ≠ y0) ∨ (x0 = y0 ∧ x1 ≠ y1) ∨ (x0 = y0 ∧ x1 = y1 ∧ x2 ≠ y2) := by
            by_cases q0 : x0 = y0
            · by_cases q1 : x1 = y1
              · exact .inr (.inr ⟨q0, q1, fun q2 => he (by rw [q0, q1, q2])⟩)
              · exact .inr (.inl ⟨q0, q1⟩)
            · exact .inl q0
          clear hr hr' hc hc' c0 c1 c2 c0' c1' c2' hst hy hz hx hx' hn hn' he
          rcases hp with q0 | ⟨rfl, q1⟩ | ⟨rfl, rfl, q2⟩
          · have g0 : (x0 == y0) = false := by simp [q0]
            go_wp2
            go_quiet (fail)
            go_wp2
            go_ret
            exact ⟨by rw [HZ.out]; rfl, hb.trans (below_drewN _ _ _)⟩
          · have g0 : (x1 == y1) = false := by simp [q1]
            go_wp2
            go_quiet (fail)
            go_wp2
            go_ret
            exact ⟨by rw [HZ.out]; rfl, hb.trans (below_drewN _ _ _)⟩
          · have g0 : (x2 == y2) = false := by simp [q2]
            go_wp2
            go_quiet (fail)
            go_wp2
            go_ret
            exact ⟨by rw [HZ.out]; rfl, hb.trans (below_drewN _ _ _)⟩
      · have hk0 : k = n := by omega
        have hres := hst.out
        rw [List.take_of_length_le (by omega), List.take_of_length_le (by omega)] at hres
        have HR := Lib.hid (decide_eq_true hres)
        clear hst hr hr' hn hn' hres
        go_wp2
        go_ret
        exact ⟨by rw [HR.out]; rfl, hb⟩
  · have hne : ¬ l = m := fun h => hlen (by rw [← hn, ← hn', h])
    have HR := Lib.hid (decide_eq_false hne)
    clear hr hr' hn hn' hne
    go_enter Try.func82, Try.ntmps82
    go_wp2
    go_ret
    exact ⟨by rw [HR.out]; rfl, Below.refl _ _⟩

theorem str_eq (x y : ByteArray) : (x.toList == y.toList) = decide (x = y) := by
  rw [Lib.toList_data, Lib.toList_data]
  by_cases h : x = y
  · subst h; simp
  · rw [decide_eq_false h]
    have h2 : ¬ x.data.toList = y.data.toList := fun e => h (ByteArray.ext (Array.toList_inj.1 e))
    simpa using h2

set_option maxRecDepth 100000 in
set_option maxHeartbeats 1000000 in
theorem sameone_any (A A' : Option Addr) (c c' k k' : Nat) (s n s' n' : Int) (p p' : List Sp) (g g' : Bool) (x x' : ByteArray) (hk : p.length = k) (hk' : p'.length = k') (w : World) (hp : Ss w w.heap.size A p) (hp' : Ss w w.heap.size A' p') (hb : k ≤ 140737488355328) (hb' : k' ≤ 140737488355328) :
    Calls Try.prog 77 #[.agg #[.int .i64 s, .int .i64 n, .slice A k c, .bool g, .string x], .agg #[.int .i64 s', .int .i64 n', .slice A' k' c', .bool g', .string x']] w fun e w' => e = .returned (.bool (decide ((⟨s, n, p, g, x⟩ : Vr) = ⟨s', n', p', g', x'⟩))) ∧ Below w.heap.size w w' := by
  obtain ⟨R, hR⟩ : ∃ R, decide ((⟨s, n, p, g, x⟩ : Vr) = ⟨s', n', p', g', x'⟩) = R := ⟨_, rfl⟩
  rw [hR]
  have hRR : ((⟨s, n, p, g, x⟩ : Vr) = ⟨s', n', p', g', x'⟩) ↔ s = s' ∧ n = n' ∧ p = p' ∧ g = g' ∧ x = x' := by simp
  have h1 := fun W (hbW : Below w.heap.size w W) => equal_any A A' c c' k k' p p' hk hk' W ((hp.below hbW).more hbW.size) ((hp'.below hbW).more hbW.size) hb hb'
  have hbb : Below w.heap.size w ((w.alloc (.cells #[.int .i64 s, .int .i64 n, .slice A k c, .bool g, .string x] 69)).alloc (.cells #[.int .i64 s', .int .i64 n', .slice A' k' c', .bool g', .string x'] 69)) := ((Below.refl _ w).alloc (Nat.le_refl _) _).alloc (by simp) _
  have HB := Lib.hid hbb
  clear hp hp' hk hk' hbb
  by_cases cd : s = s' ∧ n = n'
  · by_cases cg : g = g'
    · by_cases cx : x = x'
      · obtain ⟨q, hq⟩ : ∃ q, decide (p = p') = q := ⟨_, rfl⟩
        have HF := Lib.hid (show R = q by
          rw [← hR, ← hq]
          congr 1
          exact propext ⟨fun h => (hRR.1 h).2.2.1, fun h => hRR.2 ⟨cd.1, cd.2, h, cg, cx⟩⟩)
        rw [hq] at h1
        have H1 := Lib.hid h1
        obtain ⟨rfl, rfl⟩ := cd
        subst cg cx
        clear hR hRR h1 hq
        have gg : (g == g) = true := by simp
        go_enter Try.func77, Try.ntmps77
        go_wp2_with fail
        refine (H1.out _ HB.out).mono ?_
        rintro e w1 ⟨rfl, b1⟩
        have BE := HB.out.trans (b1.mono HB.out.size)
        clear b1 H1
        go_wp2_with fail
        go_ret
        exact ⟨by rw [HF.out]; rfl, BE⟩
      · have HF := Lib.hid (show R = false by rw [← hR]; exact decide_eq_false fun h => cx (hRR.1 h).2.2.2.2)
        have gx : (x.toList == x'.toList) = false := by rw [str_eq]; exact decide_eq_false cx
        have gx' : ¬ x.toList = x'.toList := by simpa using gx
        obtain ⟨rfl, rfl⟩ := cd
        subst cg
        clear hR hRR h1 cx
        have gg : (g == g) = true := by simp
        go_enter Try.func77, Try.ntmps77
        go_wp2_with fail
        go_ret
        exact ⟨by rw [HF.out]; rfl, HB.out⟩
    · have HF := Lib.hid (show R = false by rw [← hR]; exact decide_eq_false fun h => cg (hRR.1 h).2.2.2.1)
      have gg : (g == g') = false := by simpa using cg
      obtain ⟨rfl, rfl⟩ := cd
      clear hR hRR h1 cg
      go_enter Try.func77, Try.ntmps77
      go_wp2_with fail
      go_ret
      exact ⟨by rw [HF.out]; rfl, HB.out⟩
  · have HF := Lib.hid (show R = false by rw [← hR]; exact decide_eq_false fun h => cd ⟨(hRR.1 h).1, (hRR.1 h).2.1⟩)
    clear hR hRR h1
    by_cases cs : s = s'
    · have cn : ¬ n = n' := fun h => cd ⟨cs, h⟩
      have gn : (n == n') = false := by simpa using cn
      subst cs
      clear cd cn
      go_enter Try.func77, Try.ntmps77
      go_wp2_with fail
      go_ret
      exact ⟨by rw [HF.out]; rfl, HB.out⟩
    · have gs : (s == s') = false := by simpa using cs
      clear cd cs
      go_enter Try.func77, Try.ntmps77
      go_wp2_with fail
      go_ret
      exact ⟨by rw [HF.out]; rfl, HB.out⟩

set_option maxRecDepth 100000 in
set_option maxHeartbeats 1000000 in
theorem ref_sameone_any (A A' : Option Addr) (c c' k k' : Nat) (s n s' n' : Int) (p p' : List Sp) (g g' : Bool) (x x' : ByteArray) (hk : p.length = k) (hk' : p'.length = k') (w : World) (hp : Ss w w.heap.size A p) (hp' : Ss w w.heap.size A' p') (hb : k ≤ 140737488355328) (hb' : k' ≤ 140737488355328) :
    Calls Try.prog 43 #[.agg #[.int .i64 s, .int .i64 n, .slice A k c, .bool g, .string x], .agg #[.int .i64 s', .int .i64 n', .slice A' k' c', .bool g', .string x']] w fun e w' => e = .returned (.bool (decide ((⟨s, n, p, g, x⟩ : Vr) = ⟨s', n', p', g', x'⟩))) ∧ Below w.heap.size w w' := by
  obtain ⟨R, hR⟩ : ∃ R, decide ((⟨s, n, p, g, x⟩ : Vr) = ⟨s', n', p', g', x'⟩) = R := ⟨_, rfl⟩
  rw [hR]
  have hRR : ((⟨s, n, p, g, x⟩ : Vr) = ⟨s', n', p', g', x'⟩) ↔ s = s' ∧ n = n' ∧ p = p' ∧ g = g' ∧ x = x' := by simp
  have h1 := fun W (hbW : Below w.heap.size w W) => same_any A A' c c' k k' p p' hk hk' W ((hp.below hbW).more hbW.size) ((hp'.below hbW).more hbW.size) hb hb'
  have hbb : Below w.heap.size w ((w.alloc (.cells #[.int .i64 s, .int .i64 n, .slice A k c, .bool g, .string x] 69)).alloc (.cells #[.int .i64 s', .int .i64 n', .slice A' k' c', .bool g', .string x'] 69)) := ((Below.refl _ w).alloc (Nat.le_refl _) _).alloc (by simp) _
  have HB := Lib.hid hbb
  clear hp hp' hk hk' hbb
  by_cases cd : s = s' ∧ n = n'
  · by_cases cg : g = g'
    · by_cases cx : x = x'
      · obtain ⟨q, hq⟩ : ∃ q, decide (p = p') = q := ⟨_, rfl⟩
        have HF := Lib.hid (show R = q by
          rw [← hR, ← hq]
          congr 1
          exact propext ⟨fun h => (hRR.1 h).2.2.1, fun h => hRR.2 ⟨cd.1, cd.2, h, cg, cx⟩⟩)
        rw [hq] at h1
        have H1 := Lib.hid h1
        obtain ⟨rfl, rfl⟩ := cd
        subst cg cx
        clear hR hRR h1 hq
        have gg : (g == g) = true := by simp
        go_enter Try.func43, Try.ntmps43
        go_wp2_with fail
        refine (H1.out _ HB.out).mono ?_
        rintro e w1 ⟨rfl, b1⟩
        have BE := HB.out.trans (b1.mono HB.out.size)
        clear b1 H1
        go_wp2_with fail
        go_ret
        exact ⟨by rw [HF.out]; rfl, BE⟩
      · have HF := Lib.hid (show R = false by rw [← hR]; exact decide_eq_false fun h => cx (hRR.1 h).2.2.2.2)
        have gx : (x.toList == x'.toList) = false := by rw [str_eq]; exact decide_eq_false cx
        have gx' : ¬ x.toList = x'.toList := by simpa using gx
        obtain ⟨rfl, rfl⟩ := cd
        subst cg
        clear hR hRR h1 cx
        have gg : (g == g) = true := by simp
        go_enter Try.func43, Try.ntmps43
        go_wp2_with fail
        go_ret
        exact ⟨by rw [HF.out]; rfl, HB.out⟩
    · have HF := Lib.hid (show R = false by rw [← hR]; exact decide_eq_false fun h => cg (hRR.1 h).2.2.2.1)
      have gg : (g == g') = false := by simpa using cg
      obtain ⟨rfl, rfl⟩ := cd
      clear hR hRR h1 cg
      go_enter Try.func43, Try.ntmps43
      go_wp2_with fail
      go_ret
      exact ⟨by rw [HF.out]; rfl, HB.out⟩
  · have HF := Lib.hid (show R = false by rw [← hR]; exact decide_eq_false fun h => cd ⟨(hRR.1 h).1, (hRR.1 h).2.1⟩)
    clear hR hRR h1
    by_cases cs : s = s'
    · have cn : ¬ n = n' := fun h => cd ⟨cs, h⟩
      have gn : (n == n') = false := by simpa using cn
      subst cs
      clear cd cn
      go_enter Try.func43, Try.ntmps43
      go_wp2_with fail
      go_ret
      exact ⟨by rw [HF.out]; rfl, HB.out⟩
    · have gs : (s == s') = false := by simpa using cs
      clear cd cs
      go_enter Try.func43, Try.ntmps43
      go_wp2_with fail
      go_ret
      exact ⟨by rw [HF.out]; rfl, HB.out⟩

end Vers
end Go.Proofs.Ytbhidndgnldheaa
