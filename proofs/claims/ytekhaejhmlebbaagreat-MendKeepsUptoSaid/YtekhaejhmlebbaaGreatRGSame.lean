/-
 Several texts of this family in one: VersSame, VersSames, VersOwn, VersTog, VersPut, VersMergeRef, VersKeep, VersSlice.
-/
import Derived.Test.YtekhaejhmlebbaaGreatRGRef
import Derived.Test.YtekhaejhmlebbaaGreatRGBase
import Derived.RangeFuncBox
/-
 Whether two versions, two lists of them, are the same.
-/
namespace Go.Proofs.YtekhaejhmlebbaaGreat
namespace Vers
open Go.RowKit Span

set_option maxHeartbeats 1000000 in
theorem equal_any (A A' : Option Addr) (c c' n n' : Nat) (l m : List Sp) (hn : l.length = n) (hn' : m.length = n') (w : World) (hr : Ss w w.heap.size A l) (hr' : Ss w w.heap.size A' m) (hbig : n ≤ 140737488355328) (hbig' : n' ≤ 140737488355328) :
  Calls Tryz.prog 100 #[.slice A n c, .slice A' n' c'] w fun e w' => e = .returned (.bool (decide (l = m))) ∧ Below w.heap.size w w' := by
 by_cases hlen : n = n'
 ·subst hlen
  go_enter Tryz.func100, Tryz.ntmps100
  go_wp2
  go_loopw [13] (fun q wr => ∃ k : Nat, k ≤ n ∧ q = .int .i64 k ∧ Below w.heap.size w wr ∧ Hid (l.take k = m.take k)) (fun q _ => n - (intOf q).toNat)
  case atStart => exact ⟨0, by omega, rfl, Below.refl _ _, rfl⟩
  case round =>
   obtain ⟨k, hk, rfl, hb, hst⟩ := hrel
   by_cases hlt : k < n
   ·obtain ⟨b, off, rfl, hbB, hc⟩ := hr (by omega)
    obtain ⟨c0, c1, c2⟩ := hc k (by omega)
    have d0 := (hb.cell (p := ⟨b, off + k * 3, none⟩) (by exact hbB)).trans c0
    have d1 := (hb.cell (p := ⟨b, off + k * 3 + 1, none⟩) (by exact hbB)).trans c1
    have d2 := (hb.cell (p := ⟨b, off + k * 3 + 2, none⟩) (by exact hbB)).trans c2
    obtain ⟨b', off', rfl, hbB', hc'⟩ := hr' (by omega)
    obtain ⟨c0', c1', c2'⟩ := hc' k (by omega)
    have d0' := (hb.cell (p := ⟨b', off' + k * 3, none⟩) (by exact hbB')).trans c0'
    have d1' := (hb.cell (p := ⟨b', off' + k * 3 + 1, none⟩) (by exact hbB')).trans c1'
    have d2' := (hb.cell (p := ⟨b', off' + k * 3 + 2, none⟩) (by exact hbB')).trans c2'
    have hy := take_eq_step (l := l) (m := m) (by omega) (by omega) hst.out
    have hz := take_ne (l := l) (m := m) (k := k)
    obtain ⟨⟨x0, x1, x2⟩, hx⟩ : ∃ x, l.getD k (0, 0, 0) = x := ⟨_, rfl⟩
    obtain ⟨⟨y0, y1, y2⟩, hx'⟩ : ∃ x, m.getD k (0, 0, 0) = x := ⟨_, rfl⟩
    rw [hx] at d0 d1 d2
    rw [hx'] at d0' d1' d2'
    rw [hx, hx'] at hy hz
    simp only at d0 d1 d2 d0' d1' d2'
    have r0 : (0 : Int) ≤ (k : Int) := by omega
    have r1 : (k : Int) < (n : Int) := by omega
    by_cases he : (x0, x1, x2) = (y0, y1, y2)
    ·have HY := Lib.hid (hy he)
     injection he with e0 e1
     injection e1 with e1 e2
     subst e0 e1 e2
     clear hr hr' hc hc' c0 c1 c2 c0' c1' c2' hst hy hz hx hx' hn hn'
     go_wp2
     go_quiet (fail)
     go_wp2
     all_goals exact ⟨⟨k + 1, by omega, rfl, hb.trans (below_drewN _ _ _), HY⟩, by simp only [intOf]; omega⟩
    ·have HZ := Lib.hid (decide_eq_false (hz he))
     have hp : (x0 ≠ y0) ∨ (x0 = y0 ∧ x1 ≠ y1) ∨ (x0 = y0 ∧ x1 = y1 ∧ x2 ≠ y2) := by
      by_cases q0 : x0 = y0
      ·by_cases q1 : x1 = y1
       ·exact .inr (.inr ⟨q0, q1, fun q2 => he (by rw [q0, q1, q2])⟩)
       ·exact .inr (.inl ⟨q0, q1⟩)
      ·exact .inl q0
     clear hr hr' hc hc' c0 c1 c2 c0' c1' c2' hst hy hz hx hx' hn hn' he
     rcases hp with q0 | ⟨rfl, q1⟩ | ⟨rfl, rfl, q2⟩
     ·have g0 : (x0 == y0) = false := by simp [q0]
      go_wp2
      go_quiet (fail)
      go_wp2
      go_ret
      exact ⟨by rw [HZ.out]; rfl, hb.trans (below_drewN _ _ _)⟩
     ·have g0 : (x1 == y1) = false := by simp [q1]
      go_wp2
      go_quiet (fail)
      go_wp2
      go_ret
      exact ⟨by rw [HZ.out]; rfl, hb.trans (below_drewN _ _ _)⟩
     ·have g0 : (x2 == y2) = false := by simp [q2]
      go_wp2
      go_quiet (fail)
      go_wp2
      go_ret
      exact ⟨by rw [HZ.out]; rfl, hb.trans (below_drewN _ _ _)⟩
   ·have hk0 : k = n := by omega
    have hres := hst.out
    rw [List.take_of_length_le (by omega), List.take_of_length_le (by omega)] at hres
    have HR := Lib.hid (decide_eq_true hres)
    clear hst hr hr' hn hn' hres
    go_wp2
    go_ret
    exact ⟨by rw [HR.out]; rfl, hb⟩
 ·have hne : ¬ l = m := fun h => hlen (by rw [← hn, ← hn', h])
  have HR := Lib.hid (decide_eq_false hne)
  clear hr hr' hn hn' hne
  go_enter Tryz.func100, Tryz.ntmps100
  go_wp2
  go_ret
  exact ⟨by rw [HR.out]; rfl, Below.refl _ _⟩

theorem str_eq (x y : ByteArray) : (x.toList == y.toList) = decide (x = y) := by
 rw [Lib.toList_data, Lib.toList_data]
 by_cases h : x = y
 ·subst h; simp
 ·rw [decide_eq_false h]
  have h2 : ¬ x.data.toList = y.data.toList := fun e => h (ByteArray.ext (Array.toList_inj.1 e))
  simpa using h2

set_option maxRecDepth 100000 in
set_option maxHeartbeats 1000000 in
theorem sameone_any (A A' : Option Addr) (c c' k k' : Nat) (s n s' n' : Int) (p p' : List Sp) (g g' : Bool) (x x' : ByteArray) (hk : p.length = k) (hk' : p'.length = k') (w : World) (hp : Ss w w.heap.size A p) (hp' : Ss w w.heap.size A' p') (hb : k ≤ 140737488355328) (hb' : k' ≤ 140737488355328) :
  Calls Tryz.prog 78 #[.agg #[.int .i64 s, .int .i64 n, .slice A k c, .bool g, .string x], .agg #[.int .i64 s', .int .i64 n', .slice A' k' c', .bool g', .string x']] w fun e w' => e = .returned (.bool (decide ((⟨s, n, p, g, x⟩ : Vr) = ⟨s', n', p', g', x'⟩))) ∧ Below w.heap.size w w' := by
 obtain ⟨R, hR⟩ : ∃ R, decide ((⟨s, n, p, g, x⟩ : Vr) = ⟨s', n', p', g', x'⟩) = R := ⟨_, rfl⟩
 rw [hR]
 have hRR : ((⟨s, n, p, g, x⟩ : Vr) = ⟨s', n', p', g', x'⟩) ↔ s = s' ∧ n = n' ∧ p = p' ∧ g = g' ∧ x = x' := by simp
 have h1 := fun W (hbW : Below w.heap.size w W) => equal_any A A' c c' k k' p p' hk hk' W ((hp.below hbW).more hbW.size) ((hp'.below hbW).more hbW.size) hb hb'
 have hbb : Below w.heap.size w ((w.alloc (.cells #[.int .i64 s, .int .i64 n, .slice A k c, .bool g, .string x] 59)).alloc (.cells #[.int .i64 s', .int .i64 n', .slice A' k' c', .bool g', .string x'] 59)) := ((Below.refl _ w).alloc (Nat.le_refl _) _).alloc (by simp) _
 have HB := Lib.hid hbb
 clear hp hp' hk hk' hbb
 by_cases cd : s = s' ∧ n = n'
 ·by_cases cg : g = g'
  ·by_cases cx : x = x'
   ·obtain ⟨q, hq⟩ : ∃ q, decide (p = p') = q := ⟨_, rfl⟩
    have HF := Lib.hid (show R = q by
     rw [← hR, ← hq]
     congr 1
     exact propext ⟨fun h => (hRR.1 h).2.2.1, fun h => hRR.2 ⟨cd.1, cd.2, h, cg, cx⟩⟩)
    rw [hq] at h1
    have H1 := Lib.hid h1
    obtain ⟨rfl, rfl⟩ := cd
    subst cg cx
    clear hR hRR h1 hq
    have gg : (g == g) = true := by simp
    go_enter Tryz.func78, Tryz.ntmps78
    go_wp2_with fail
    refine (H1.out _ HB.out).mono ?_
    rintro e w1 ⟨rfl, b1⟩
    have BE := HB.out.trans (b1.mono HB.out.size)
    clear b1 H1
    go_wp2_with fail
    go_ret
    exact ⟨by rw [HF.out]; rfl, BE⟩
   ·have HF := Lib.hid (show R = false by rw [← hR]; exact decide_eq_false fun h => cx (hRR.1 h).2.2.2.2)
    have gx : (x.toList == x'.toList) = false := by rw [str_eq]; exact decide_eq_false cx
    have gx' : ¬ x.toList = x'.toList := by simpa using gx
    obtain ⟨rfl, rfl⟩ := cd
    subst cg
    clear hR hRR h1 cx
    have gg : (g == g) = true := by simp
    go_enter Tryz.func78, Tryz.ntmps78
    go_wp2_with fail
    go_ret
    exact ⟨by rw [HF.out]; rfl, HB.out⟩
  ·have HF := Lib.hid (show R = false by rw [← hR]; exact decide_eq_false fun h => cg (hRR.1 h).2.2.2.1)
   have gg : (g == g') = false := by simpa using cg
   obtain ⟨rfl, rfl⟩ := cd
   clear hR hRR h1 cg
   go_enter Tryz.func78, Tryz.ntmps78
   go_wp2_with fail
   go_ret
   exact ⟨by rw [HF.out]; rfl, HB.out⟩
 ·have HF := Lib.hid (show R = false by rw [← hR]; exact decide_eq_false fun h => cd ⟨(hRR.1 h).1, (hRR.1 h).2.1⟩)
  clear hR hRR h1
  by_cases cs : s = s'
  ·have cn : ¬ n = n' := fun h => cd ⟨cs, h⟩
   have gn : (n == n') = false := by simpa using cn
   subst cs
   clear cd cn
   go_enter Tryz.func78, Tryz.ntmps78
   go_wp2_with fail
   go_ret
   exact ⟨by rw [HF.out]; rfl, HB.out⟩
  ·have gs : (s == s') = false := by simpa using cs
   clear cd cs
   go_enter Tryz.func78, Tryz.ntmps78
   go_wp2_with fail
   go_ret
   exact ⟨by rw [HF.out]; rfl, HB.out⟩

set_option maxRecDepth 100000 in
set_option maxHeartbeats 1000000 in
theorem ref_sameone_any (A A' : Option Addr) (c c' k k' : Nat) (s n s' n' : Int) (p p' : List Sp) (g g' : Bool) (x x' : ByteArray) (hk : p.length = k) (hk' : p'.length = k') (w : World) (hp : Ss w w.heap.size A p) (hp' : Ss w w.heap.size A' p') (hb : k ≤ 140737488355328) (hb' : k' ≤ 140737488355328) :
  Calls Tryz.prog 82 #[.agg #[.int .i64 s, .int .i64 n, .slice A k c, .bool g, .string x], .agg #[.int .i64 s', .int .i64 n', .slice A' k' c', .bool g', .string x']] w fun e w' => e = .returned (.bool (decide ((⟨s, n, p, g, x⟩ : Vr) = ⟨s', n', p', g', x'⟩))) ∧ Below w.heap.size w w' := by
 obtain ⟨R, hR⟩ : ∃ R, decide ((⟨s, n, p, g, x⟩ : Vr) = ⟨s', n', p', g', x'⟩) = R := ⟨_, rfl⟩
 rw [hR]
 have hRR : ((⟨s, n, p, g, x⟩ : Vr) = ⟨s', n', p', g', x'⟩) ↔ s = s' ∧ n = n' ∧ p = p' ∧ g = g' ∧ x = x' := by simp
 have h1 := fun W (hbW : Below w.heap.size w W) => same_any A A' c c' k k' p p' hk hk' W ((hp.below hbW).more hbW.size) ((hp'.below hbW).more hbW.size) hb hb'
 have hbb : Below w.heap.size w ((w.alloc (.cells #[.int .i64 s, .int .i64 n, .slice A k c, .bool g, .string x] 59)).alloc (.cells #[.int .i64 s', .int .i64 n', .slice A' k' c', .bool g', .string x'] 59)) := ((Below.refl _ w).alloc (Nat.le_refl _) _).alloc (by simp) _
 have HB := Lib.hid hbb
 clear hp hp' hk hk' hbb
 by_cases cd : s = s' ∧ n = n'
 ·by_cases cg : g = g'
  ·by_cases cx : x = x'
   ·obtain ⟨q, hq⟩ : ∃ q, decide (p = p') = q := ⟨_, rfl⟩
    have HF := Lib.hid (show R = q by
     rw [← hR, ← hq]
     congr 1
     exact propext ⟨fun h => (hRR.1 h).2.2.1, fun h => hRR.2 ⟨cd.1, cd.2, h, cg, cx⟩⟩)
    rw [hq] at h1
    have H1 := Lib.hid h1
    obtain ⟨rfl, rfl⟩ := cd
    subst cg cx
    clear hR hRR h1 hq
    have gg : (g == g) = true := by simp
    go_enter Tryz.func82, Tryz.ntmps82
    go_wp2_with fail
    refine (H1.out _ HB.out).mono ?_
    rintro e w1 ⟨rfl, b1⟩
    have BE := HB.out.trans (b1.mono HB.out.size)
    clear b1 H1
    go_wp2_with fail
    go_ret
    exact ⟨by rw [HF.out]; rfl, BE⟩
   ·have HF := Lib.hid (show R = false by rw [← hR]; exact decide_eq_false fun h => cx (hRR.1 h).2.2.2.2)
    have gx : (x.toList == x'.toList) = false := by rw [str_eq]; exact decide_eq_false cx
    have gx' : ¬ x.toList = x'.toList := by simpa using gx
    obtain ⟨rfl, rfl⟩ := cd
    subst cg
    clear hR hRR h1 cx
    have gg : (g == g) = true := by simp
    go_enter Tryz.func82, Tryz.ntmps82
    go_wp2_with fail
    go_ret
    exact ⟨by rw [HF.out]; rfl, HB.out⟩
  ·have HF := Lib.hid (show R = false by rw [← hR]; exact decide_eq_false fun h => cg (hRR.1 h).2.2.2.1)
   have gg : (g == g') = false := by simpa using cg
   obtain ⟨rfl, rfl⟩ := cd
   clear hR hRR h1 cg
   go_enter Tryz.func82, Tryz.ntmps82
   go_wp2_with fail
   go_ret
   exact ⟨by rw [HF.out]; rfl, HB.out⟩
 ·have HF := Lib.hid (show R = false by rw [← hR]; exact decide_eq_false fun h => cd ⟨(hRR.1 h).1, (hRR.1 h).2.1⟩)
  clear hR hRR h1
  by_cases cs : s = s'
  ·have cn : ¬ n = n' := fun h => cd ⟨cs, h⟩
   have gn : (n == n') = false := by simpa using cn
   subst cs
   clear cd cn
   go_enter Tryz.func82, Tryz.ntmps82
   go_wp2_with fail
   go_ret
   exact ⟨by rw [HF.out]; rfl, HB.out⟩
  ·have gs : (s == s') = false := by simpa using cs
   clear cd cs
   go_enter Tryz.func82, Tryz.ntmps82
   go_wp2_with fail
   go_ret
   exact ⟨by rw [HF.out]; rfl, HB.out⟩

end Vers
end Go.Proofs.YtekhaejhmlebbaaGreat

/-
 Whether two lists of versions are the same.
-/
namespace Go.Proofs.YtekhaejhmlebbaaGreat
namespace Vers
open Go.RowKit Span
attribute [local go_sem ↓] Go.wp_at_zero Go.wp_at_succ

theorem takeV_eq {l m : List Vr} {k : Nat} (hl : k < l.length) (hm : k < m.length) (h : l.take k = m.take k) (he : l.getD k v0 = m.getD k v0) : l.take (k + 1) = m.take (k + 1) := by
 rw [take_v hl, take_v hm, h, he]
theorem takeV_ne {l m : List Vr} {k : Nat} (he : l.getD k v0 ≠ m.getD k v0) : ¬ l = m := fun h => he (by rw [h])

set_option maxRecDepth 100000 in
set_option maxHeartbeats 2000000 in
theorem equalfunc_any (A A' : Option Addr) (c c' n n' : Nat) (l l' : List Vr) (hn : l.length = n) (hn' : l'.length = n') (w : World) (hv : Vs w 0 w.heap.size A l) (hv' : Vs w 0 w.heap.size A' l') (hb : n ≤ 140737488355328) (hb' : n' ≤ 140737488355328) :
  Calls Tryz.prog 77 #[.slice A n c, .slice A' n' c', .func (.func 78) #[] #[]] w fun e w' => e = .returned (.bool (decide (l = l'))) ∧ Below w.heap.size w w' := by
 obtain ⟨R, hR⟩ : ∃ R, decide (l = l') = R := ⟨_, rfl⟩
 rw [hR]
 by_cases hlen : n = n'
 ·subst hlen
  have HV := Lib.hid (And.intro hv (And.intro hv' (And.intro hn (And.intro hn' hR))))
  clear hv hv' hn hn' hR
  go_enter Tryz.func77, Tryz.ntmps77
  go_wp2
  go_loopw [17] (fun q wr => ∃ k : Nat, q = .int .i64 k ∧ k ≤ n ∧ Below w.heap.size w wr ∧ Hid (l.take k = l'.take k)) (fun q _ => n - (intOf q).toNat)
  case atStart => exact ⟨0, rfl, by omega, Below.refl _ _, Lib.hid rfl⟩
  case round =>
   obtain ⟨k, rfl, hk, hb1, hst⟩ := hrel
   have hsz := hb1.size
   by_cases hlt : k < n
   ·obtain ⟨b, off, A1, c1, rfl, _, hbB, a0, a1, a2, a3, a4, hpa⟩ := HV.out.1.at HV.out.2.2.1 hb1 hlt rfl
    obtain ⟨b', off', A1', c1', rfl, _, hbB', a0', a1', a2', a3', a4', hpa'⟩ := HV.out.2.1.at HV.out.2.2.2.1 hb1 hlt rfl
    have hy := takeV_eq (l := l) (m := l') (by have := HV.out.2.2.1; omega) (by have := HV.out.2.2.2.1; omega) hst.out
    have hz := takeV_ne (l := l) (m := l') (k := k)
    obtain ⟨v, hvv⟩ : ∃ v, l.getD k v0 = v := ⟨_, rfl⟩
    obtain ⟨v', hvv'⟩ : ∃ v, l'.getD k v0 = v := ⟨_, rfl⟩
    rw [hvv] at a0 a1 a2 a3 a4 hpa
    rw [hvv'] at a0' a1' a2' a3' a4' hpa'
    rw [hvv, hvv'] at hy hz
    clear hvv hvv'
    obtain ⟨s, vn, vp, vg, vx⟩ := v
    obtain ⟨s', vn', vp', vg', vx'⟩ := v'
    simp only at a0 a1 a2 a3 a4 a0' a1' a2' a3' a4'
    obtain ⟨hps, _, hpb, _, _⟩ := hpa
    obtain ⟨hps', _, hpb', _, _⟩ := hpa'
    simp only at hps hpb hps' hpb'
    obtain ⟨kp, hkp⟩ : ∃ kp, vp.length = kp := ⟨_, rfl⟩
    obtain ⟨kp', hkp'⟩ : ∃ kp, vp'.length = kp := ⟨_, rfl⟩
    rw [hkp] at a2 hpb
    rw [hkp'] at a2' hpb'
    have h1 := fun W (hbW : Below wr.heap.size wr W) => sameone_any A1 A1' c1 c1' kp kp' s vn s' vn' vp vp' vg vg' vx vx' hkp hkp' W (((hps.more hsz).below hbW).more hbW.size) (((hps'.more hsz).below hbW).more hbW.size) hpb hpb'
    obtain ⟨q, hq⟩ : ∃ q, decide ((⟨s, vn, vp, vg, vx⟩ : Vr) = ⟨s', vn', vp', vg', vx'⟩) = q := ⟨_, rfl⟩
    rw [hq] at h1
    have HN := Lib.hid (show (q = true → l.take (k + 1) = l'.take (k + 1)) ∧ (q = false → R = false) from ⟨fun h => hy (of_decide_eq_true (hq.trans h)), fun h => by
     rw [← HV.out.2.2.2.2]
     exact decide_eq_false (hz (of_decide_eq_false (hq.trans h)))⟩)
    have H1 := Lib.hid h1
    have hbb : Below wr.heap.size wr ((wr.alloc (.cells #[.int .i64 s, .int .i64 vn, .slice A1 kp c1, .bool vg, .string vx] 59)).alloc (.cells #[.int .i64 s', .int .i64 vn', .slice A1' kp' c1', .bool vg', .string vx'] 59)) := ((Below.refl _ wr).alloc (Nat.le_refl _) _).alloc (by simp) _
    have HB := Lib.hid hbb
    have hbs' : b' < wr.heap.size := by omega
    have d1 : (0 : Int) ≤ (k : Int) := by omega
    have d2 : (k : Int) < (n : Int) := by omega
    clear h1 hy hz hq hkp hkp' hps hps' hst hbb
    go_wp2_with fail
    refine (H1.out _ HB.out).mono ?_
    rintro e w1 ⟨rfl, b1⟩
    have BE := hb1.trans ((HB.out.trans (b1.mono HB.out.size)).mono hsz)
    clear b1 H1 HB hb1
    cases q
    ·have HF := Lib.hid (HN.out.2 rfl)
     clear HN
     go_wp2_with fail
     go_ret
     exact ⟨by rw [HF.out]; rfl, BE⟩
    ·have HF := Lib.hid (HN.out.1 rfl)
     clear HN
     go_wp2_with fail
     exact ⟨⟨k + 1, rfl, by omega, BE, HF⟩, by simp only [intOf]; omega⟩
   ·have hkn : k = n := by omega
    subst hkn
    have HF := Lib.hid (show R = true by
     rw [← HV.out.2.2.2.2]
     refine decide_eq_true ?_
     have := hst.out
     rwa [List.take_of_length_le (by have := HV.out.2.2.1; omega), List.take_of_length_le (by have := HV.out.2.2.2.1; omega)] at this)
    clear hst
    go_wp2_with fail
    go_ret
    exact ⟨by rw [HF.out]; rfl, hb1⟩
 ·have HF := Lib.hid (show R = false by rw [← hR]; exact decide_eq_false fun h => hlen (by rw [← hn, ← hn', h]))
  clear hv hv' hn hn' hR
  go_enter Tryz.func77, Tryz.ntmps77
  go_wp2
  go_ret
  exact ⟨by rw [HF.out]; rfl, Below.refl _ _⟩

theorem sameV_any (A A' : Option Addr) (c c' n n' : Nat) (l l' : List Vr) (hn : l.length = n) (hn' : l'.length = n') (w : World) (hv : Vs w 0 w.heap.size A l) (hv' : Vs w 0 w.heap.size A' l') (hb : n ≤ 140737488355328) (hb' : n' ≤ 140737488355328) :
  Calls Tryz.prog 49 #[.slice A n c, .slice A' n' c'] w fun e w' => e = .returned (.bool (decide (l = l'))) ∧ Below w.heap.size w w' := by
 have h1 := equalfunc_any A A' c c' n n' l l' hn hn' w hv hv' hb hb'
 obtain ⟨R, hR⟩ : ∃ R, decide (l = l') = R := ⟨_, rfl⟩
 rw [hR] at h1 ⊢
 have H1 := Lib.hid h1
 clear h1 hR hv hv' hn hn'
 go_enter Tryz.func49, Tryz.ntmps49
 go_wp2_with fail
 refine H1.out.mono ?_
 rintro e w1 ⟨rfl, b1⟩
 clear H1
 go_wp2_with fail
 go_ret
 exact ⟨rfl, b1⟩

set_option maxRecDepth 100000 in
set_option maxHeartbeats 4000000 in
theorem ref_sameV_any (A A' : Option Addr) (c c' n n' : Nat) (l l' : List Vr) (hn : l.length = n) (hn' : l'.length = n') (w : World) (hv : Vs w 0 w.heap.size A l) (hv' : Vs w 0 w.heap.size A' l') (hb : n ≤ 140737488355328) (hb' : n' ≤ 140737488355328) :
  Calls Tryz.prog 55 #[.slice A n c, .slice A' n' c'] w fun e w' => e = .returned (.bool (decide (l = l'))) ∧ Below w.heap.size w w' := by
 obtain ⟨R, hR⟩ : ∃ R, decide (l = l') = R := ⟨_, rfl⟩
 rw [hR]
 by_cases hlen : n = n'
 ·subst hlen
  have HV := Lib.hid (And.intro hv (And.intro hv' (And.intro hn (And.intro hn' hR))))
  clear hv hv' hn hn' hR
  go_enter Tryz.func55, Tryz.ntmps55
  go_wp2
  go_loopw [5] (fun q wr => ∃ k : Nat, q = .int .i64 k ∧ k ≤ n ∧ Below w.heap.size w wr ∧ Hid (l.take k = l'.take k)) (fun q _ => n - (intOf q).toNat)
  case atStart => exact ⟨0, rfl, by omega, Below.refl _ _, Lib.hid rfl⟩
  case round =>
   obtain ⟨k, rfl, hk, hb1, hst⟩ := hrel
   have hsz := hb1.size
   by_cases hlt : k < n
   ·obtain ⟨b, off, A1, c1, rfl, _, hbB, a0, a1, a2, a3, a4, hpa⟩ := HV.out.1.at HV.out.2.2.1 hb1 hlt rfl
    obtain ⟨b', off', A1', c1', rfl, _, hbB', a0', a1', a2', a3', a4', hpa'⟩ := HV.out.2.1.at HV.out.2.2.2.1 hb1 hlt rfl
    have hy := takeV_eq (l := l) (m := l') (by have := HV.out.2.2.1; omega) (by have := HV.out.2.2.2.1; omega) hst.out
    have hz := takeV_ne (l := l) (m := l') (k := k)
    obtain ⟨v, hvv⟩ : ∃ v, l.getD k v0 = v := ⟨_, rfl⟩
    obtain ⟨v', hvv'⟩ : ∃ v, l'.getD k v0 = v := ⟨_, rfl⟩
    rw [hvv] at a0 a1 a2 a3 a4 hpa
    rw [hvv'] at a0' a1' a2' a3' a4' hpa'
    rw [hvv, hvv'] at hy hz
    clear hvv hvv'
    obtain ⟨s, vn, vp, vg, vx⟩ := v
    obtain ⟨s', vn', vp', vg', vx'⟩ := v'
    simp only at a0 a1 a2 a3 a4 a0' a1' a2' a3' a4'
    obtain ⟨hps, _, hpb, _, _⟩ := hpa
    obtain ⟨hps', _, hpb', _, _⟩ := hpa'
    simp only at hps hpb hps' hpb'
    obtain ⟨kp, hkp⟩ : ∃ kp, vp.length = kp := ⟨_, rfl⟩
    obtain ⟨kp', hkp'⟩ : ∃ kp, vp'.length = kp := ⟨_, rfl⟩
    rw [hkp] at a2 hpb
    rw [hkp'] at a2' hpb'
    have h1 := ref_sameone_any A1 A1' c1 c1' kp kp' s vn s' vn' vp vp' vg vg' vx vx' hkp hkp' wr.drew (hps.more (B' := wr.drew.heap.size) (by exact hsz)) (hps'.more (B' := wr.drew.heap.size) (by exact hsz)) hpb hpb'
    obtain ⟨q, hq⟩ : ∃ q, decide ((⟨s, vn, vp, vg, vx⟩ : Vr) = ⟨s', vn', vp', vg', vx'⟩) = q := ⟨_, rfl⟩
    rw [hq] at h1
    have HN := Lib.hid (show (q = true → l.take (k + 1) = l'.take (k + 1)) ∧ (q = false → R = false) from ⟨fun h => hy (of_decide_eq_true (hq.trans h)), fun h => by
     rw [← HV.out.2.2.2.2]
     exact decide_eq_false (hz (of_decide_eq_false (hq.trans h)))⟩)
    have H1 := Lib.hid h1
    have lb : b < wr.heap.size := by omega
    have lb' : b' < wr.heap.size := by omega
    have d1 : (0 : Int) ≤ (k : Int) := by omega
    have d2 : (k : Int) < (n : Int) := by omega
    clear h1 hy hz hq hkp hkp' hps hps' hst
    go_wp2
    go_region_held3 (fun V => V.cell? ⟨b, off + k * 5, none⟩ = some (.int .i64 s) ∧ V.cell? ⟨b, off + k * 5 + 1, none⟩ = some (.int .i64 vn) ∧ V.cell? ⟨b, off + k * 5 + 2, none⟩ = some (.slice A1 kp c1) ∧ V.cell? ⟨b, off + k * 5 + 3, none⟩ = some (.bool vg) ∧ V.cell? ⟨b, off + k * 5 + 4, none⟩ = some (.string vx) ∧
      V.cell? ⟨b', off' + k * 5, none⟩ = some (.int .i64 s') ∧ V.cell? ⟨b', off' + k * 5 + 1, none⟩ = some (.int .i64 vn') ∧ V.cell? ⟨b', off' + k * 5 + 2, none⟩ = some (.slice A1' kp' c1') ∧ V.cell? ⟨b', off' + k * 5 + 3, none⟩ = some (.bool vg') ∧ V.cell? ⟨b', off' + k * 5 + 4, none⟩ = some (.string vx'))
     (first | exact ⟨a0, a1, a2, a3, a4, a0', a1', a2', a3', a4'⟩ | exact ⟨cell_below b1 lb a0, cell_below b1 lb a1, cell_below b1 lb a2, cell_below b1 lb a3, cell_below b1 lb a4, cell_below b1 lb' a0', cell_below b1 lb' a1', cell_below b1 lb' a2', cell_below b1 lb' a3', cell_below b1 lb' a4'⟩)
     (first | (go_at_call 82; refine H1.out.mono ?_; rintro e w1 ⟨rfl, b1⟩))
    have BE : Below w.heap.size w w1 := hb1.drew.trans (Below.mono b1 (by exact hsz))
    clear b1 H1 hb1
    cases q
    ·have HF := Lib.hid (HN.out.2 rfl)
     clear HN
     go_wp2
     go_ret
     exact ⟨by rw [HF.out]; rfl, BE⟩
    ·have HF := Lib.hid (HN.out.1 rfl)
     clear HN
     go_wp2
     exact ⟨⟨k + 1, rfl, by omega, BE, HF⟩, by simp only [intOf]; omega⟩
   ·have hkn : k = n := by omega
    subst hkn
    have HF := Lib.hid (show R = true by
     rw [← HV.out.2.2.2.2]
     refine decide_eq_true ?_
     have := hst.out
     rwa [List.take_of_length_le (by have := HV.out.2.2.1; omega), List.take_of_length_le (by have := HV.out.2.2.2.1; omega)] at this)
    clear hst
    go_wp2
    go_ret
    exact ⟨by rw [HF.out]; rfl, hb1⟩
 ·have HF := Lib.hid (show R = false by rw [← hR]; exact decide_eq_false fun h => hlen (by rw [← hn, ← hn', h]))
  clear hv hv' hn hn' hR
  go_enter Tryz.func55, Tryz.ntmps55
  go_wp2
  go_ret
  exact ⟨by rw [HF.out]; rfl, Below.refl _ _⟩
end Vers
end Go.Proofs.YtekhaejhmlebbaaGreat

/-
 Versions in a row of the call's own, five cells to a version; append onto such a row.
-/
namespace Go.Proofs.YtekhaejhmlebbaaGreat
namespace Vers
open Go.RowKit Span

abbrev Pv := Vr × Option Addr × Nat
def z0 : Pv := (v0, none, 0)
def vcc (p : Pv) : List Value := [.int .i64 p.1.s, .int .i64 p.1.n, .slice p.2.1 p.1.past.length p.2.2, .bool p.1.gone, .string p.1.val]
def vcs (ps : List Pv) : List Value := ps.flatMap vcc
theorem vcs_cons (p : Pv) (ps : List Pv) : vcs (p :: ps) = vcc p ++ vcs ps := by simp [vcs]
theorem vcs_append (ps qs : List Pv) : vcs (ps ++ qs) = vcs ps ++ vcs qs := by simp [vcs]
theorem vcs_one (p : Pv) : vcs [p] = vcc p := by simp [vcs]
theorem vcs_length (ps : List Pv) : (vcs ps).length = ps.length * 5 := by
 induction ps with
 | nil => rfl
 | cons p ps ih =>
  rw [vcs_cons, List.length_append, ih]
  simp [vcc]
  omega
theorem vcs_at (ps : List Pv) : ∀ j, j < ps.length → ∀ r, r < 5 → (vcs ps)[j * 5 + r]? = (vcc (ps.getD j z0))[r]? := by
 induction ps with
 | nil => intro j h; simp at h
 | cons p ps ih =>
  intro j hj r hr
  rw [vcs_cons]
  rcases j with _ | j
  ·rw [List.getElem?_append_left (by simp [vcc]; omega)]
   simp
  ·have h := ih j (by simpa using hj) r hr
   rw [List.getElem?_append_right (by simp [vcc]; omega)]
   rw [show (j + 1) * 5 + r - (vcc p).length = j * 5 + r by simp [vcc]; omega, h]
   simp
theorem vcs_cell (ps : List Pv) : ∀ u ∈ vcs ps, u.oneCell' = true := by
 intro u hu
 obtain ⟨p, _, hp⟩ := List.mem_flatMap.1 hu
 simp [vcc] at hp
 rcases hp with rfl | rfl | rfl | rfl | rfl <;> rfl
theorem add_plain (b off k : Nat) : (⟨b, off, none⟩ : Addr).add k = ⟨b, off + k, none⟩ := by unfold Addr.add; split <;> simp_all

theorem vs_pick {w : World} {L B b off : Nat} {l : List Vr} (h : Vs w L B (some ⟨b, off, none⟩) l) (hl : 0 < l.length) :
  ∃ ps : List Pv, ps.map Prod.fst = l ∧ (∀ j u, (vcs ps)[j]? = some u → w.cell? ((⟨b, off, none⟩ : Addr).add j) = some u) ∧ ∀ p ∈ ps, Pa w L B p.2.1 p.2.2 p.1 := by
 obtain ⟨b', off', e, _, hb, hc⟩ := h hl
 injection e with e
 injection e with e1 e2
 subst e1 e2
 obtain ⟨f, hf⟩ : ∃ f : Nat → Option Addr × Nat, ∀ j, j < l.length → Vat w L B b (off + j * 5) (l.getD j v0) (f j).1 (f j).2 :=
  ⟨fun j => if h : j < l.length then ((hc j h).choose, (hc j h).choose_spec.choose) else (none, 0), fun j h => by simp only [dif_pos h]; exact (hc j h).choose_spec.choose_spec⟩
 have hlen : ((List.range l.length).map fun j => ((l.getD j v0, f j) : Pv)).length = l.length := by simp
 have hat : ∀ j, j < l.length → ((List.range l.length).map fun j => ((l.getD j v0, f j) : Pv)).getD j z0 = (l.getD j v0, f j) := fun j hj => by simp [List.getD_eq_getElem?_getD, hj]
 refine ⟨(List.range l.length).map fun j => (l.getD j v0, f j), ?_, fun j u hu => ?_, fun p hp => ?_⟩
 ·rw [List.map_map]
  apply List.ext_getElem?
  intro j
  by_cases hj : j < l.length
  ·simp [hj, List.getD_eq_getElem?_getD]
  ·simp [hj]
 ·have hj : j < (vcs ((List.range l.length).map fun j => ((l.getD j v0, f j) : Pv))).length := by
   rcases Nat.lt_or_ge j (vcs ((List.range l.length).map fun j => ((l.getD j v0, f j) : Pv))).length with h | h
   ·exact h
   ·rw [List.getElem?_eq_none h] at hu; cases hu
  rw [vcs_length, hlen] at hj
  have hq : j / 5 < l.length := by omega
  have hj2 : j = j / 5 * 5 + j % 5 := by omega
  have hr : j % 5 < 5 := Nat.mod_lt _ (by omega)
  rw [hj2, vcs_at _ _ (by rw [hlen]; exact hq) _ hr, hat _ hq] at hu
  obtain ⟨h0, h1, h2, h3, h4, _⟩ := hf (j / 5) hq
  rw [add_plain]
  have e0 : off + j = off + j / 5 * 5 + j % 5 := by omega
  rw [e0]
  obtain ⟨r, hrr⟩ : ∃ r, j % 5 = r := ⟨_, rfl⟩
  rw [hrr] at hu hr ⊢
  match r, hr with
  | 0, _ => simp [vcc] at hu; rw [← hu]; exact h0
  | 1, _ => simp [vcc] at hu; rw [← hu]; exact h1
  | 2, _ => simp [vcc] at hu; rw [← hu]; exact h2
  | 3, _ => simp [vcc] at hu; rw [← hu]; exact h3
  | 4, _ => simp [vcc] at hu; rw [← hu]; exact h4
 ·obtain ⟨j, hj, rfl⟩ := List.mem_map.1 hp
  exact (hf j (List.mem_range.1 hj)).2.2.2.2.2

def OwnVs (base L B : Nat) (w : World) (v : Value) (ps : List Pv) : Prop := w.ownsRow base 59 5 v ps.length (vcs ps) ∧ ∀ p ∈ ps, Pa w L B p.2.1 p.2.2 p.1

theorem OwnVs.vs {base L B n c : Nat} {w : World} {A : Option Addr} {ps : List Pv} (h : OwnVs base L B w (.slice A n c) ps) (hL : L ≤ base) (hB : B ≤ w.heap.size) : Vs w L w.heap.size A (ps.map Prod.fst) := by
 intro hp
 rw [List.length_map] at hp
 obtain ⟨ho, hpa⟩ := h
 rcases ho.2 with ⟨_, h0⟩ | ⟨g, cap, cur, hv, hbg, hg, rest⟩
 ·omega
 ·injection hv with h1 h2 h3
  subst h1
  refine ⟨g, 0, rfl, by omega, (Array.getElem?_eq_some_iff.1 hg).1, fun j hj => ?_⟩
  rw [List.length_map] at hj
  have e : (ps.map Prod.fst).getD j v0 = (ps.getD j z0).1 := by simp [List.getD_eq_getElem?_getD, hj]
  have hm : ps.getD j z0 ∈ ps := by
   rw [List.getD_eq_getElem?_getD, List.getElem?_eq_getElem hj]
   exact List.getElem_mem _
  rw [e]
  have hat : ∀ r, r < 5 → ∀ u, (vcc (ps.getD j z0))[r]? = some u → w.cell? ⟨g, 0 + j * 5 + r, none⟩ = some u := fun r hr u hu => by
   have hc := ho.cells (g := g) rfl (j * 5 + r) u (by rw [vcs_at ps j hj r hr]; exact hu)
   rw [add_plain] at hc
   rw [show 0 + j * 5 + r = 0 + (j * 5 + r) by omega]
   exact hc
  exact ⟨_, _, hat 0 (by omega) _ (by simp [vcc]), hat 1 (by omega) _ (by simp [vcc]), hat 2 (by omega) _ (by simp [vcc]), hat 3 (by omega) _ (by simp [vcc]), hat 4 (by omega) _ (by simp [vcc]), (hpa _ hm).more hB⟩
theorem OwnVs.below {base L B : Nat} {w w' : World} {v : Value} {ps : List Pv} (h : OwnVs base L B w v ps) (hB : B ≤ w.heap.size) (hb : Below w.heap.size w w') : OwnVs base L B w' v ps :=
 ⟨own_below h.1 hb (Nat.le_refl _), fun p hp => (h.2 p hp).below (hb.mono hB)⟩
theorem pa_grown {w w' : World} {L B : Nat} {row : Option Nat} {ps : List Pv} (h : ∀ p ∈ ps, Pa w L B p.2.1 p.2.2 p.1) (hg : w.grownBy w' row) (hB : B ≤ w.heap.size) (hr : ∀ k, row = some k → B ≤ k) : ∀ p ∈ ps, Pa w' L B p.2.1 p.2.2 p.1 :=
 fun p hp => (h p hp).keep fun a _ ha => World.cell?_of_block (hg.block a.block (by omega) (fun e => by have := hr _ e.symm; omega))

theorem info_ver : (Tryz.prog.info? 59).map (fun i => (i.zero, i.size, i.bytes)) = some (some (.agg #[.int .i64 0, .int .i64 0, .slice none 0 0, .bool false, .string ⟨#[]⟩]), 5, 64) := by kernel_rfl

section
variable {P : Program} (w : World)
theorem wpList_append_v {ops : Array Oper} {rest : List Oper} {o : Oper} {a : Act} {Q : Exit → Act → World → Prop} (hgd : o.guard = none) (s x : Operand) (t : TypeId)
  (ho : o.op = .call { callee := .builtin .append, args := #[s, x], argTypes := #[t, t] })
  (base : Nat) (e : TypeId) (i : TypeInfo) (z : Value) (bytes : Nat) (ht : P.underlying t = some (.slice e)) (hi : P.info? e = some i) (hz : i.zero = some z)
  (hsize : i.size = 5) (hby : i.bytes = bytes) (hzs : z.cells.size = 5)
  (v : Value) (n : Nat) (ps : List Pv) (hs : a.eval s = v) (hown : w.ownsRow base e 5 v n (vcs ps)) (p : Pv) (k : Nat) (hk : p.1.past.length = k) (c : Nat)
  (hx : a.eval x = .slice (some ⟨w.heap.size, 0, none⟩) 1 c)
  (hbytes : (n + 1) * bytes ≤ 140737488355328) (hn : n + 1 ≤ 140737488355328) (hbase : base ≤ w.heap.size)
  (h : ∀ v' w', w'.ownsRow base e 5 v' (n + 1) (vcs (ps ++ [p])) → w.grownBy w' v.ownBlock → (v'.ownBlock = v.ownBlock ∨ ∃ g, v'.ownBlock = some g ∧ w.heap.size ≤ g) → wpList P ops Q rest (a.put o.dst v') w') :
  wpList P ops Q (o :: rest) a (w.alloc (.cells #[.int .i64 p.1.s, .int .i64 p.1.n, .slice p.2.1 k p.2.2, .bool p.1.gone, .string p.1.val] e)) := by
 subst hk
 refine wpList_append_own_at _ hgd s x t ho base e i z 5 bytes ht hi hz hsize hby hzs (by omega) v n (vcs ps) hs (hown.alloc _) ⟨w.heap.size, 0, none⟩ 1 c (vcc p) hx rfl ?_ ?_ (by unfold maxLen; omega) hbytes (by simp; omega) ?_
 ·intro j u' hj
  match j, hj with
  | 0, hj => simp [vcc] at hj; subst hj; simp [Addr.add]
  | 1, hj => simp [vcc] at hj; subst hj; simp [Addr.add]
  | 2, hj => simp [vcc] at hj; subst hj; simp [Addr.add]
  | 3, hj => simp [vcc] at hj; subst hj; simp [Addr.add]
  | 4, hj => simp [vcc] at hj; subst hj; simp [Addr.add]
 ·intro u' hu
  exact vcs_cell [p] u' (by rw [vcs_one]; exact hu)
 ·intro v' w' hown' hg _ hat
  refine h v' w' ?_ ?_ ?_
  ·rw [vcs_append, vcs_one]; exact hown'
  ·exact ⟨hg.os, hg.tape, hg.output, Nat.le_trans (by simp) hg.size, fun k hk hne => (hg.block k (by simp; omega) hne).trans (Below.heap_alloc w _ k hk)⟩
  ·rcases hat with h1 | h1
   ·exact .inl h1
   ·exact .inr ⟨_, h1, by simp⟩

theorem wpList_append_vs {ops : Array Oper} {rest : List Oper} {o : Oper} {a : Act} {Q : Exit → Act → World → Prop} (hgd : o.guard = none) (s x : Operand) (t : TypeId)
  (ho : o.op = .call { callee := .builtin .append, args := #[s, x], argTypes := #[t, t] })
  (base : Nat) (e : TypeId) (i : TypeInfo) (z : Value) (bytes : Nat) (ht : P.underlying t = some (.slice e)) (hi : P.info? e = some i) (hz : i.zero = some z)
  (hsize : i.size = 5) (hby : i.bytes = bytes) (hzs : z.cells.size = 5)
  (v : Value) (n : Nat) (ps : List Pv) (hs : a.eval s = v) (hown : w.ownsRow base e 5 v n (vcs ps)) (L B : Nat) (A : Option Addr) (m c : Nat) (ys : List Vr) (hm : ys.length = m)
  (hx : a.eval x = .slice A m c) (hr : Vs w L B A ys)
  (hbytes : (n + m) * bytes ≤ 140737488355328) (hn : n + m ≤ 140737488355328) (hbase : base ≤ w.heap.size)
  (h : ∀ v' w' qs, qs.map Prod.fst = ys → (∀ p ∈ qs, Pa w L B p.2.1 p.2.2 p.1) → w'.ownsRow base e 5 v' (n + m) (vcs (ps ++ qs)) → w.grownBy w' v.ownBlock → (v'.ownBlock = v.ownBlock ∨ v'.ownBlock = some w.heap.size) → wpList P ops Q rest (a.put o.dst v') w') :
  wpList P ops Q (o :: rest) a w := by
 subst hm
 rcases A with _ | ad
 ·have h0 : ys = [] := by
   rcases Nat.eq_zero_or_pos ys.length with h0 | h0
   ·exact List.eq_nil_of_length_eq_zero h0
   ·obtain ⟨b, off, he, _⟩ := hr h0
    cases he
  subst h0
  refine wpList_plain hgd fun K hK => ?_
  have hrun : (Builtin.append_ #[t, t] o.type #[v, .slice none 0 c]).run P w = .ok v w := by
   rcases hown.2 with ⟨rfl, rfl⟩ | ⟨g, cap, cur, rfl, _, _, hnc, _⟩
   ·simp [Builtin.append_, run_underlying ht, sizeOf, typeInfo, hi, Builtin.lenOf, Builtin.firstCells]
   ·simp [Builtin.append_, run_underlying ht, sizeOf, typeInfo, hi, Builtin.lenOf, Builtin.firstCells, hnc, storeCells]
  unfold Oper.wp execOp
  simp only [ho, resolve, invoke, builtin, Sem.run_bind, Sem.run_pure, Result.andThen_ok, List.map_toArray, List.map_cons, List.map_nil, hs, hx, List.length_nil, hrun]
  exact hK _ _ (h v w [] rfl (by simp) (by simpa using hown) (World.grownBy.refl w _) (.inl rfl))
 ·rcases ys with _ | ⟨y, ys⟩
  ·refine wpList_append_own_at w hgd s x t ho base e i z 5 bytes ht hi hz hsize hby hzs (by omega) v n (vcs ps) hs hown ad 0 c [] hx (by simp) (by simp) (by simp) (by unfold maxLen; simp at hn; omega) hbytes hbase
    fun v' w' h1 h2 _ h4 => h v' w' [] rfl (by simp) (by simpa using h1) h2 h4
  ·obtain ⟨b, off, he, _⟩ := hr (by simp)
   injection he with he
   subst he
   obtain ⟨qs, hq1, hq2, hq3⟩ := vs_pick hr (by simp)
   have hql : qs.length = (y :: ys).length := by rw [← hq1, List.length_map]
   exact wpList_append_own_at w hgd s x t ho base e i z 5 bytes ht hi hz hsize hby hzs (by omega) v n (vcs ps) hs hown ⟨b, off, none⟩ _ c (vcs qs) hx (by rw [vcs_length, hql]) hq2 (vcs_cell qs) (by unfold maxLen; omega) hbytes hbase
    fun v' w' h1 h2 _ h4 => h v' w' qs hq1 hq3 (by rw [vcs_append]; exact h1) h2 h4
end
end Vers
end Go.Proofs.YtekhaejhmlebbaaGreat

/-
 Plain words of layer 5: two sets gone through side by side.
-/
namespace Go.Proofs.YtekhaejhmlebbaaGreat
namespace Vers
open Go.RowKit Span

structure Tog (a b : List Vr) (i j : Nat) (us : List Vr) : Prop where
 ri : i ≤ a.length
 rj : j ≤ b.length
 rise : us.Pairwise dlt
 mem : ∀ v, v ∈ us ↔ v ∈ a.take i ∨ v ∈ b.take j
 la : ∀ u ∈ us, ∀ x ∈ a.drop i, dlt u x
 lb : ∀ u ∈ us, ∀ y ∈ b.drop j, dlt u y ∨ same u y
 twin : ∀ x ∈ a.take i, ∀ y ∈ b.take j, same x y → x = y

theorem tog_start (a b : List Vr) : Tog a b 0 0 [] := ⟨by omega, by omega, List.Pairwise.nil, by simp, by simp, by simp, by simp⟩
theorem drop_split {a : List Vr} {i : Nat} {x : Vr} {l : List Vr} (h : a.drop i = x :: l) : i < a.length ∧ a.take (i + 1) = a.take i ++ [x] ∧ a.drop (i + 1) = l := by
 have hi : i < a.length := by
  rcases Nat.lt_or_ge i a.length with h1 | h1
  ·exact h1
  ·rw [List.drop_of_length_le h1] at h; cases h
 rw [List.drop_eq_getElem_cons hi] at h
 injection h with h1 h2
 exact ⟨hi, by rw [List.take_succ_eq_append_getElem hi, h1], h2⟩
theorem rise_drop {a : List Vr} (h : a.Pairwise dlt) (i : Nat) : (a.drop i).Pairwise dlt := h.sublist (List.drop_sublist _ _)
theorem rise_across {a : List Vr} (h : a.Pairwise dlt) (i : Nat) {u x : Vr} (hu : u ∈ a.take i) (hx : x ∈ a.drop i) : dlt u x := by
 rw [← List.take_append_drop i a] at h
 exact (List.pairwise_append.1 h).2.2 u hu x hx

theorem tog_a {a b us : List Vr} {i j : Nat} {x : Vr} {l : List Vr} (h : Tog a b i j us) (ha : a.Pairwise dlt) (_hb : b.Pairwise dlt) (hx : a.drop i = x :: l) (hle : ∀ y ∈ b.drop j, dlt x y ∨ same x y) : Tog a b (i + 1) j (us ++ [x]) := by
 obtain ⟨hi, ht, hd⟩ := drop_split hx
 have hxl : ∀ z ∈ l, dlt x z := by have := rise_drop ha i; rw [hx, List.pairwise_cons] at this; exact this.1
 have hux : ∀ u ∈ us, dlt u x := fun u hu => h.la u hu x (by rw [hx]; simp)
 refine ⟨hi, h.rj, ?_, ?_, ?_, ?_, ?_⟩
 ·exact List.pairwise_append.2 ⟨h.rise, by simp, fun u hu z hz => by rw [List.mem_singleton.1 hz]; exact hux u hu⟩
 ·intro v
  rw [ht, List.mem_append, List.mem_append, h.mem v]
  constructor
  ·rintro ((h1 | h1) | h1)
   ·exact .inl (.inl h1)
   ·exact .inr h1
   ·exact .inl (.inr h1)
  ·rintro ((h1 | h1) | h1)
   ·exact .inl (.inl h1)
   ·exact .inr h1
   ·exact .inl (.inr h1)
 ·intro u hu z hz
  rw [hd] at hz
  rcases List.mem_append.1 hu with hu | hu
  ·exact h.la u hu z (by rw [hx]; simp [hz])
  ·rw [List.mem_singleton.1 hu]; exact hxl z hz
 ·intro u hu y hy
  rcases List.mem_append.1 hu with hu | hu
  ·exact h.lb u hu y hy
  ·rw [List.mem_singleton.1 hu]; exact hle y hy
 ·intro z hz y hy hs
  rw [ht] at hz
  rcases List.mem_append.1 hz with hz | hz
  ·exact h.twin z hz y hy hs
  ·rw [List.mem_singleton.1 hz] at hs ⊢
   exact (dlt_irrefl (hux y ((h.mem y).2 (.inr hy))) (same_symm hs)).elim

theorem tog_b {a b us : List Vr} {i j : Nat} {y : Vr} {l : List Vr} (h : Tog a b i j us) (hb : b.Pairwise dlt) (hy : b.drop j = y :: l) (hlt : ∀ x ∈ a.drop i, dlt y x) (hnew : ∀ u ∈ us, dlt u y) : Tog a b i (j + 1) (us ++ [y]) := by
 obtain ⟨hj, ht, hd⟩ := drop_split hy
 have hyl : ∀ z ∈ l, dlt y z := by have := rise_drop hb j; rw [hy, List.pairwise_cons] at this; exact this.1
 refine ⟨h.ri, hj, ?_, ?_, ?_, ?_, ?_⟩
 ·exact List.pairwise_append.2 ⟨h.rise, by simp, fun u hu z hz => by rw [List.mem_singleton.1 hz]; exact hnew u hu⟩
 ·intro v
  rw [ht, List.mem_append, List.mem_append, h.mem v, or_assoc]
 ·intro u hu x hx
  rcases List.mem_append.1 hu with hu | hu
  ·exact h.la u hu x hx
  ·rw [List.mem_singleton.1 hu]; exact hlt x hx
 ·intro u hu z hz
  rw [hd] at hz
  rcases List.mem_append.1 hu with hu | hu
  ·exact .inl (dlt_trans (hnew u hu) (hyl z hz))
  ·rw [List.mem_singleton.1 hu]; exact .inl (hyl z hz)
 ·intro x hx z hz hs
  rw [ht] at hz
  rcases List.mem_append.1 hz with hz | hz
  ·exact h.twin x hx z hz hs
  ·rw [List.mem_singleton.1 hz] at hs ⊢
   exact (dlt_irrefl (hnew x ((h.mem x).2 (.inl hx))) hs).elim

theorem tog_again {a b us : List Vr} {i j : Nat} {y : Vr} {l : List Vr} (h : Tog a b i j us) (hb : b.Pairwise dlt) (hy : b.drop j = y :: l) (hu : y ∈ us) : Tog a b i (j + 1) us := by
 obtain ⟨hj, ht, hd⟩ := drop_split hy
 have hyl : ∀ z ∈ l, dlt y z := by have := rise_drop hb j; rw [hy, List.pairwise_cons] at this; exact this.1
 refine ⟨h.ri, hj, h.rise, ?_, h.la, ?_, ?_⟩
 ·intro v
  rw [ht, List.mem_append, h.mem v]
  constructor
  ·rintro (h1 | h1)
   ·exact .inl h1
   ·exact .inr (.inl h1)
  ·rintro (h1 | h1 | h1)
   ·exact .inl h1
   ·exact .inr h1
   ·rw [List.mem_singleton.1 h1]; exact (h.mem y).1 hu
 ·intro u hu' z hz
  rw [hd] at hz
  rcases h.lb u hu' y (by rw [hy]; simp) with h1 | h1
  ·exact .inl (dlt_trans h1 (hyl z hz))
  ·rw [rising_same h.rise hu' hu h1]; exact .inl (hyl z hz)
 ·intro x hx z hz hs
  rw [ht] at hz
  rcases List.mem_append.1 hz with hz | hz
  ·exact h.twin x hx z hz hs
  ·rw [List.mem_singleton.1 hz] at hs ⊢
   exact rising_same h.rise ((h.mem x).2 (.inl hx)) hu hs

theorem tog_twin {a b us : List Vr} {i j : Nat} {y u : Vr} {l : List Vr} (h : Tog a b i j us) (hb : b.Pairwise dlt) (hy : b.drop j = y :: l) (hu : u ∈ us) (hs : same u y) (hne : u ≠ y) : Twin a b := by
 have hyb : y ∈ b := List.mem_of_mem_drop (i := j) (by rw [hy]; simp)
 rcases (h.mem u).1 hu with h1 | h1
 ·exact ⟨u, List.mem_of_mem_take h1, y, hyb, hs, hne⟩
 ·exact (dlt_irrefl (rise_across hb j h1 (by rw [hy]; simp)) hs).elim

theorem tog_new {a b us : List Vr} {i j : Nat} {y : Vr} {l : List Vr} (h : Tog a b i j us) (hy : b.drop j = y :: l) (hne : ∀ _hp : 0 < us.length, ¬ same (us.getD (us.length - 1) v0) y) : ∀ u ∈ us, dlt u y := by
 intro u hu
 obtain ⟨p, hp, rfl⟩ := List.getElem_of_mem hu
 have hpos : 0 < us.length := by omega
 have hlast : us.getD (us.length - 1) v0 ∈ us := by
  rw [List.getD_eq_getElem?_getD, List.getElem?_eq_getElem (by omega)]
  exact List.getElem_mem _
 have hl : dlt (us.getD (us.length - 1) v0) y := by
  rcases h.lb _ hlast y (by rw [hy]; simp) with h1 | h1
  ·exact h1
  ·exact absurd h1 (hne hpos)
 rcases Nat.eq_or_lt_of_le (show p ≤ us.length - 1 by omega) with h1 | h1
 ·have e : us.getD (us.length - 1) v0 = us[p] := by simp [List.getD_eq_getElem?_getD, ← h1, hp]
  rwa [e] at hl
 ·have h2 := rising_at h.rise (p := p) (q := us.length - 1) (by omega) h1
  have e : us.getD p v0 = us[p] := by simp [List.getD_eq_getElem?_getD, hp]
  rw [e] at h2
  exact dlt_trans h2 hl

theorem tog_end {a b us : List Vr} (h : Tog a b a.length b.length us) : us.Pairwise dlt ∧ (∀ v, v ∈ us ↔ v ∈ a ∨ v ∈ b) ∧ ¬ Twin a b := by
 refine ⟨h.rise, fun v => by rw [h.mem v, List.take_length, List.take_length], ?_⟩
 rintro ⟨x, hx, y, hy, hs, hn⟩
 exact hn (h.twin x (by rw [List.take_length]; exact hx) y (by rw [List.take_length]; exact hy) hs)

theorem union_stay {a b us : List Vr} (hr : us.Pairwise dlt) (hm : ∀ v, v ∈ us ↔ v ∈ a ∨ v ∈ b) : IsStay a b (us.filter fun v => !decide (behind us v.s v.n)) := by
 have hb : ∀ s n, behind us s n ↔ behind a s n ∨ behind b s n := by
  intro s n
  constructor
  ·rintro ⟨v, hv, h⟩
   rcases (hm v).1 hv with h1 | h1
   ·exact .inl ⟨v, h1, h⟩
   ·exact .inr ⟨v, h1, h⟩
  ·rintro (⟨v, hv, h⟩ | ⟨v, hv, h⟩)
   ·exact ⟨v, (hm v).2 (.inl hv), h⟩
   ·exact ⟨v, (hm v).2 (.inr hv), h⟩
 refine ⟨hr.sublist List.filter_sublist, fun v => ?_⟩
 rw [List.mem_filter, hm v]
 simp only [Bool.not_eq_true', decide_eq_false_iff_not]
 rw [hb]
 constructor
 ·rintro ⟨h1, h2⟩
  exact ⟨h1, fun h => h2 (.inl h), fun h => h2 (.inr h)⟩
 ·rintro ⟨h1, h2, h3⟩
  exact ⟨h1, fun h => h.elim h2 h3⟩
end Vers
end Go.Proofs.YtekhaejhmlebbaaGreat

/-
 firthref05.put lays a version where its dot belongs.
-/
namespace Go.Proofs.YtekhaejhmlebbaaGreat
namespace Vers
open Go.RowKit Span
attribute [local go_sem ↓] Go.wp_at_zero Go.wp_at_succ

theorem putV_index {l : List Vr} {v : Vr} {k : Nat} (hk : k ≤ l.length) (hb : ∀ j, j < k → dlt (l.getD j v0) v) (hs : k < l.length → ¬ dlt (l.getD k v0) v) :
  putV l v = if k < l.length ∧ same (l.getD k v0) v then l else l.take k ++ v :: l.drop k := by
 induction l generalizing k with
 | nil =>
  obtain rfl : k = 0 := by simpa using hk
  simp [putV]
 | cons x l ih =>
  unfold putV
  rcases k with _ | k
  ·have h0 := hs (by simp)
   simp only [List.getD_cons_zero] at h0
   rw [if_neg h0]
   by_cases hx : same x v
   ·rw [if_pos hx, if_pos ⟨by simp, by simpa using hx⟩]
   ·rw [if_neg hx, if_neg (fun h => hx (by simpa using h.2))]
    rfl
  ·have h0 := hb 0 (by omega)
   simp only [List.getD_cons_zero] at h0
   rw [if_pos h0]
   have h1 := ih (k := k) (by simpa using hk) (fun j hj => by simpa using hb (j + 1) (by omega)) (fun h => by simpa using hs (by simpa using h))
   rw [h1]
   simp only [List.getD_cons_succ, List.length_cons, Nat.add_lt_add_iff_right, List.take_succ_cons, List.drop_succ_cons, List.cons_append]
   split <;> rfl
theorem putV_len (l : List Vr) (v : Vr) : (putV l v).length ≤ l.length + 1 := by
 induction l with
 | nil => simp [putV]
 | cons x l ih =>
  unfold putV
  split
  ·simp; omega
  ·split <;> simp

theorem Vs.take {w : World} {L B : Nat} {A : Option Addr} {l : List Vr} (h : Vs w L B A l) (k : Nat) : Vs w L B A (l.take k) := fun hp => by
 rw [List.length_take] at hp
 obtain ⟨b, off, e, hL, hb, hc⟩ := h (by omega)
 refine ⟨b, off, e, hL, hb, fun j hj => ?_⟩
 rw [List.length_take] at hj
 have e1 : (l.take k).getD j v0 = l.getD j v0 := by simp [List.getD_eq_getElem?_getD, show j < k by omega]
 rw [e1]
 exact hc j (by omega)
theorem Vs.drop {w : World} {L B b off : Nat} {l : List Vr} (h : Vs w L B (some ⟨b, off, none⟩) l) (k : Nat) : Vs w L B (some ⟨b, off + k * 5, none⟩) (l.drop k) := fun hp => by
 rw [List.length_drop] at hp
 obtain ⟨b', off', e, hL, hb, hc⟩ := h (by omega)
 injection e with e
 injection e with e1 e2
 subst e1 e2
 refine ⟨b, off + k * 5, rfl, hL, hb, fun j hj => ?_⟩
 rw [List.length_drop] at hj
 have e1 : (l.drop k).getD j v0 = l.getD (k + j) v0 := by simp [List.getD_eq_getElem?_getD, List.getElem?_drop]
 rw [e1, show off + k * 5 + j * 5 = off + (k + j) * 5 by omega]
 exact hc (k + j) (by omega)

theorem Vs.grown {w w' : World} {L B : Nat} {A : Option Addr} {l : List Vr} {row : Option Nat} (h : Vs w L B A l) (hg : w.grownBy w' row) (hB : B ≤ w.heap.size) (hr : ∀ k, row = some k → B ≤ k) : Vs w' L B A l :=
 h.keep fun a _ ha => World.cell?_of_block (hg.block a.block (by omega) (fun e => by have := hr _ e.symm; omega))

def Reads (L : Nat) (l : List Vr) (w : World) (e : Ending) (w' : World) : Prop := ∃ A c, e = .returned (.slice A l.length c) ∧ l.length ≤ c ∧ Vs w' L w'.heap.size A l ∧ Below w.heap.size w w'

set_option maxRecDepth 100000 in
set_option maxHeartbeats 4000000 in
theorem put_any (A A1 : Option Addr) (c c1 n kp : Nat) (l : List Vr) (hn : l.length = n) (hnc : n ≤ c) (s vn : Int) (vp : List Sp) (vg : Bool) (vx : ByteArray) (hkp : vp.length = kp) (L : Nat) (w : World) (hLw : L ≤ w.heap.size) (hv : Vs w L w.heap.size A l) (hp : Pa w L w.heap.size A1 c1 ⟨s, vn, vp, vg, vx⟩) (hn2 : n ≤ 1024) :
  Calls Tryz.prog 83 #[.slice A n c, .agg #[.int .i64 s, .int .i64 vn, .slice A1 kp c1, .bool vg, .string vx]] w (Reads L (putV l ⟨s, vn, vp, vg, vx⟩) w) := by
 obtain ⟨i0, hi0, hz0, hz1, hz2⟩ := info_parts info_ver
 have HV := Lib.hid (And.intro hv (And.intro hn (And.intro hp hkp)))
 have HI : Hid (∀ k, k ≤ n → (∀ j, j < k → dlt (l.getD j v0) ⟨s, vn, vp, vg, vx⟩) → (k < n → ¬ dlt (l.getD k v0) ⟨s, vn, vp, vg, vx⟩) → putV l ⟨s, vn, vp, vg, vx⟩ = if k < l.length ∧ same (l.getD k v0) ⟨s, vn, vp, vg, vx⟩ then l else l.take k ++ ⟨s, vn, vp, vg, vx⟩ :: l.drop k) :=
  Lib.hid fun k h1 h2 h3 => putV_index (by omega) h2 (by rw [hn]; exact h3)
 obtain ⟨r, hr⟩ : ∃ r, putV l ⟨s, vn, vp, vg, vx⟩ = r := ⟨_, rfl⟩
 rw [hr] at HI ⊢
 clear hv hn hp hkp hr
 go_enter Tryz.func83, Tryz.ntmps83
 go_upto_block 0 with fail
 obtain ⟨W0, hW0⟩ : ∃ W0, w.alloc (.cells #[.int .i64 s, .int .i64 vn, .slice A1 kp c1, .bool vg, .string vx] 59) = W0 := ⟨_, rfl⟩
 obtain ⟨m, hm⟩ : ∃ m, w.heap.size = m := ⟨_, rfl⟩
 have y : W0.cell? ⟨m, 0, none⟩ = some (.int .i64 s) ∧ W0.cell? ⟨m, 1, none⟩ = some (.int .i64 vn) ∧ W0.cell? ⟨m, 2, none⟩ = some (.slice A1 kp c1) ∧ W0.cell? ⟨m, 3, none⟩ = some (.bool vg) ∧ W0.cell? ⟨m, 4, none⟩ = some (.string vx) := by
  rw [← hW0, ← hm]; exact ⟨by simp, by simp, by simp, by simp, by simp⟩
 have hl : m < W0.heap.size := by rw [← hW0, ← hm]; simp
 have B0 : Below w.heap.size w W0 := by rw [← hW0]; exact (Below.refl _ w).alloc (Nat.le_refl _) _
 have HB0 := Lib.hid B0
 have hs0 := B0.size
 have HM := Lib.hid hm
 rw [hW0, hm]
 clear hW0 hm B0
 go_cut [5] (fun iv V => ∃ k : Nat, iv = .int .i64 k ∧ Hid (k ≤ n ∧ Below W0.heap.size W0 V ∧ (∀ j, j < k → dlt (l.getD j v0) ⟨s, vn, vp, vg, vx⟩) ∧ (k < n → ¬ dlt (l.getD k v0) ⟨s, vn, vp, vg, vx⟩)))
 case first =>
  go_wp2_with fail
  go_loopw [5] (fun iv V => ∃ k : Nat, iv = .int .i64 k ∧ k ≤ n ∧ Below W0.heap.size W0 V ∧ Hid (∀ j, j < k → dlt (l.getD j v0) ⟨s, vn, vp, vg, vx⟩)) (fun iv _ => n - (intOf iv).toNat)
  case atStart => exact ⟨0, rfl, by omega, Below.refl _ _, Lib.hid fun j hj => absurd hj (by omega)⟩
  case round =>
   obtain ⟨k, rfl, hk, hb, hst⟩ := hrel
   have hsz := hb.size
   have hbw := Lib.hid (HB0.out.trans (hb.mono hs0))
   by_cases hlt : k < n
   ·obtain ⟨b, off, A2, c2, rfl, _, hbB, a0, a1, _⟩ := HV.out.1.at HV.out.2.1 hbw.out hlt rfl
    have e0 := (hb.cell (p := ⟨m, 0, none⟩) hl).trans y.1
    have e1 := (hb.cell (p := ⟨m, 1, none⟩) hl).trans y.2.1
    obtain ⟨u, hu⟩ : ∃ u, l.getD k v0 = u := ⟨_, rfl⟩
    rw [hu] at a0 a1
    have h1 := less_any u.s u.n s vn wr.drew
    obtain ⟨q, hq⟩ : ∃ q, decide (u.s < s ∨ (u.s = s ∧ u.n < vn)) = q := ⟨_, rfl⟩
    rw [hq] at h1
    have HN := Lib.hid (show (q = true → ∀ j, j < k + 1 → dlt (l.getD j v0) ⟨s, vn, vp, vg, vx⟩) ∧ (q = false → ¬ dlt (l.getD k v0) ⟨s, vn, vp, vg, vx⟩) from ⟨fun h j hj => by
     rcases Nat.lt_or_ge j k with h2 | h2
     ·exact hst.out j h2
     ·obtain rfl : j = k := by omega
      rw [hu]
      exact of_decide_eq_true (hq.trans h), fun h => by
     rw [hu]
     exact of_decide_eq_false (hq.trans h)⟩)
    have H1 := Lib.hid h1
    obtain ⟨us, un, up, ug, ux⟩ := u
    simp only at a0 a1
    have lb : b < wr.heap.size := by omega
    have lm : m < wr.heap.size := by omega
    have d1 : (0 : Int) ≤ (k : Int) := by omega
    have d2 : (k : Int) < (n : Int) := by omega
    have d3 : decide ((k : Int) < (n : Int)) = true := decide_eq_true d2
    have d4 : decide (k < n) = true := decide_eq_true hlt
    clear h1 hq hu y
    go_wp2_with fail
    go_region_held3 (fun V => V.cell? ⟨b, off + k * 5, none⟩ = some (.int .i64 us) ∧ V.cell? ⟨b, off + k * 5 + 1, none⟩ = some (.int .i64 un) ∧ V.cell? ⟨m, 0, none⟩ = some (.int .i64 s) ∧ V.cell? ⟨m, 1, none⟩ = some (.int .i64 vn))
     (first | exact ⟨a0, a1, e0, e1⟩ | exact ⟨cell_below b1 lb a0, cell_below b1 lb a1, cell_below b1 lm e0, cell_below b1 lm e1⟩)
     (first | (go_at_call 86; refine H1.out.mono ?_; rintro e w1 ⟨rfl, b1⟩))
    have BE : Below W0.heap.size W0 w1 := hb.drew.trans (Below.mono b1 (by exact hsz))
    cases q
    ·have HF := Lib.hid (HN.out.2 rfl)
     clear HN b1 hb
     go_wp2_with fail
     go_meet
     exact ⟨k, rfl, Lib.hid ⟨hk, BE, hst.out, fun _ => HF.out⟩⟩
    ·have HF := Lib.hid (HN.out.1 rfl)
     clear HN b1 hb
     go_wp2_with fail
     exact ⟨⟨k + 1, rfl, by omega, BE, HF⟩, by simp only [intOf]; omega⟩
   ·have hkn : k = n := by omega
    subst hkn
    have d3 : decide ((k : Int) < (k : Int)) = false := decide_eq_false (by omega)
    have d4 : decide (k < k) = false := decide_eq_false (by omega)
    clear y
    go_wp2_with fail
    go_quiet (fail)
    go_wp2_with fail
    go_meet
    exact ⟨k, rfl, Lib.hid ⟨hk, hb.trans (below_drewN _ _ _), hst.out, fun h => absurd h (by omega)⟩⟩
 case rest =>
  obtain ⟨k, rfl, hc⟩ := hcut
  obtain ⟨hk, hb, hlo, hst⟩ := hc.out
  have hres := HI.out k hk hlo hst
  have hbw := HB0.out.trans (hb.mono hs0)
  have hsw := hbw.size
  have hvw := (HV.out.1.below hbw)
  have z := five_below hl hb y
  obtain ⟨x0, x1, x2, x3, x4⟩ := z
  have hpw := HV.out.2.2.1.below hbw
  clear hc hlo hst y HI
  by_cases hsame : k < n ∧ same (l.getD k v0) ⟨s, vn, vp, vg, vx⟩
  ·rw [if_pos ⟨by have := HV.out.2.1; omega, hsame.2⟩] at hres
   have HF := Lib.hid hres
   obtain ⟨b, off, A2, c2, rfl, _, hbB, a0, a1, _⟩ := HV.out.1.at HV.out.2.1 hbw hsame.1 rfl
   obtain ⟨u, hu⟩ : ∃ u, l.getD k v0 = u := ⟨_, rfl⟩
   rw [hu] at a0 a1 hsame
   obtain ⟨us, un, up, ug, ux⟩ := u
   simp only at a0 a1
   obtain ⟨hkn, hs1, hs2⟩ := hsame
   simp only at hs1 hs2
   subst hs1 hs2
   have HBW := Lib.hid hbw
   have HL := Lib.hid HV.out.2.1
   have d1 : (0 : Int) ≤ (k : Int) := by omega
   have d2 : (k : Int) < (n : Int) := by omega
   have d3 : decide ((k : Int) < (n : Int)) = true := decide_eq_true d2
   have d4 : decide (k < n) = true := decide_eq_true hkn
   have HVS := Lib.hid (hvw.more hsw)
   clear hres hu hb hvw hpw hbw HV
   go_wp2_with fail
   go_quiet (fail)
   go_wp2_with fail
   go_ret
   rw [HF.out]
   exact ⟨_, _, by rw [HL.out]; rfl, by rw [HL.out]; exact hnc, HVS.out.drewN _, HBW.out.trans (below_drewN _ _ _)⟩
  ·rw [if_neg (fun h => hsame ⟨by have := HV.out.2.1; omega, h.2⟩)] at hres
   have HF := Lib.hid hres
   have HBW := Lib.hid hbw
   have ma : Option.map (fun x => x.add 0) A = A := by cases A <;> rfl
   have i1 : (0 : Int) ≤ (k : Int) := by omega
   have i2 : (k : Int) ≤ (c : Int) := by omega
   have i3 : (k : Int) ≤ (n : Int) := by omega
   have hlk : (l.take k).length = k := by rw [List.length_take]; have := HV.out.2.1; omega
   have hld : (l.drop k).length = n - k := by rw [List.length_drop]; have := HV.out.2.1; omega
   have HLK := Lib.hid hlk
   have HLD := Lib.hid hld
   have HVT := Lib.hid (And.intro (hvw.take k) hvw)
   have HPD : Hid (∀ V, Below wc.heap.size wc V → Pa V L w.heap.size A1 c1 ⟨s, vn, vp, vg, vx⟩) := Lib.hid fun V hV => hpw.below (hV.mono hsw)
   have hsz0 : W0.heap.size ≤ wc.heap.size := hb.size
   clear hlk hld hvw hpw hbw hb hres
   by_cases hkn : k < n
   ·obtain ⟨b, off, A2, c2, rfl, _, hbB, a0, a1, _⟩ := HV.out.1.at HV.out.2.1 HBW.out hkn rfl
    obtain ⟨u, hu⟩ : ∃ u, l.getD k v0 = u := ⟨_, rfl⟩
    rw [hu] at a0 a1 hsame
    obtain ⟨us, un, up, ug, ux⟩ := u
    simp only at a0 a1
    have hns : ((us == s) && (un == vn)) = false := by
     rw [Bool.and_eq_false_iff]
     by_cases h1 : us = s
     ·exact .inr (by simp; exact fun h2 => hsame ⟨hkn, h1, h2⟩)
     ·exact .inl (by simpa using h1)
    have hns2 : us = s → ¬ un = vn := fun h1 h2 => hsame ⟨hkn, h1, h2⟩
    have HNS := Lib.hid hns2
    have hck : ¬ c = k := by omega
    have hadd : (⟨b, off, none⟩ : Addr).add (k * 5) = ⟨b, off + k * 5, none⟩ := add_plain _ _ _
    have HVD := Lib.hid (HVT.out.2.drop k)
    have d2 : (k : Int) < (n : Int) := by omega
    have d3 : decide ((k : Int) < (n : Int)) = true := decide_eq_true d2
    have d4 : decide (k < n) = true := decide_eq_true hkn
    clear hu hsame hns2
    by_cases hu1 : us = s
    ·subst hu1
     have g1 : (us == us) = true := by simp
     have g2 : (un == vn) = false := by simpa using HNS.out rfl
     clear hns
     go_wp2_with fail
     go_quiet (fail)
     obtain ⟨W1, hW1⟩ : ∃ W1, wc.drewN nq = W1 := ⟨_, rfl⟩
     have b1 : Below w.heap.size w W1 := by rw [← hW1]; exact HBW.out.trans (below_drewN _ _ _)
     have t1 : Vs W1 L w.heap.size (some ⟨b, off, none⟩) (l.take k) := by rw [← hW1]; exact HVT.out.1.drewN nq
     have u1 : Vs W1 L w.heap.size (some ⟨b, off + k * 5, none⟩) (l.drop k) := by rw [← hW1]; exact HVD.out.drewN nq
     have p1 : Pa W1 L w.heap.size A1 c1 ⟨us, vn, vp, vg, vx⟩ := HPD.out W1 (by rw [← hW1]; exact below_drewN _ nq _)
     have lm : m < W1.heap.size := by rw [← hW1]; exact Nat.lt_of_lt_of_le hl hsz0
     have X1 : Hid (∀ V, (W1.grownBy V none) → V.cell? ⟨m, 0, none⟩ = some (.int .i64 us) ∧ V.cell? ⟨m, 1, none⟩ = some (.int .i64 vn) ∧ V.cell? ⟨m, 2, none⟩ = some (.slice A1 kp c1) ∧ V.cell? ⟨m, 3, none⟩ = some (.bool vg) ∧ V.cell? ⟨m, 4, none⟩ = some (.string vx)) := by
      refine Lib.hid fun V hg => ?_
      have h := fun o => (World.cell?_of_block (w := W1) (w' := V) (a := ⟨m, o, none⟩) (hg.block m lm (by simp))).trans (by rw [← hW1]; rfl : W1.cell? ⟨m, o, none⟩ = wc.cell? ⟨m, o, none⟩)
      exact ⟨(h 0).trans x0, (h 1).trans x1, (h 2).trans x2, (h 3).trans x3, (h 4).trans x4⟩
     have s1 := b1.size
     have HK1 := Lib.hid (And.intro t1 (And.intro p1 b1))
     have HU1 := Lib.hid u1
     rw [hW1]
     clear hW1 t1 p1 b1 x0 x1 x2 x3 x4 lm u1
     go_wp2_with (first
      | (at_builtin; refine wpList_append_vs _ rfl (.tmp 38) (.tmp 41) 50 rfl w.heap.size 59 i0 _ 64 Tryz.underlying50 hi0 hz0 hz1 hz2 rfl (.slice none 0 0) 0 [] rfl (World.ownsRow_nil _ _ _ _) L w.heap.size _ k c (l.take k) HLK.out rfl HK1.out.1 (by omega) (by omega) s1 ?_; intro v2 w2 qs1 e1 q1 o2 g2 at2
         obtain ⟨x0, x1, x2, x3, x4⟩ := X1.out _ g2
         have b2 : Below w.heap.size w w2 := HK1.out.2.2.grown g2 s1 (fun k hk => by simp [Value.ownBlock] at hk)
         have s2 := b2.size
         have K2 := Lib.hid (And.intro o2 (And.intro (pa_grown q1 g2 s1 (fun k hk => by simp [Value.ownBlock] at hk)) (And.intro e1 (And.intro b2 (HK1.out.2.1.keep (w' := w2) fun a _ ha => World.cell?_of_block (g2.block a.block (by omega) (by simp [Value.ownBlock])))))))
         have U2 := Lib.hid (HU1.out.grown g2 s1 (fun k hk => by simp [Value.ownBlock] at hk))
         clear o2 q1 e1 b2 g2 at2)
      | (at_builtin; refine wpList_append_v _ rfl (.tmp 43) (.tmp 45) 50 rfl w.heap.size 59 i0 _ 64 Tryz.underlying50 hi0 hz0 hz1 hz2 rfl v2 (0 + k) ([] ++ qs1) rfl K2.out.1 (⟨us, vn, vp, vg, vx⟩, A1, c1) kp HV.out.2.2.2 1 rfl (by omega) (by omega) s2 ?_; intro v3 w3 o3 g3 at3
         have hlt3 := fun k hk => (K2.out.1.lt k hk).1
         have b3 : Below w.heap.size w w3 := K2.out.2.2.2.1.grown g3 s2 hlt3
         have s3 := b3.size
         have K3 := Lib.hid (And.intro o3 (And.intro (pa_grown K2.out.2.1 g3 s2 hlt3) (And.intro b3 (K2.out.2.2.2.2.keep (w' := w3) fun a _ ha => World.cell?_of_block (g3.block a.block (by omega) (fun e => by have := hlt3 _ e.symm; omega))))))
         have U3 := Lib.hid (U2.out.grown g3 s2 hlt3)
         clear o3 b3 g3 at3 hlt3)
      | (at_builtin; refine wpList_append_vs _ rfl (.tmp 47) (.tmp 50) 50 rfl w.heap.size 59 i0 _ 64 Tryz.underlying50 hi0 hz0 hz1 hz2 rfl v3 (0 + k + 1) ([] ++ qs1 ++ [(⟨us, vn, vp, vg, vx⟩, A1, c1)]) rfl K3.out.1 L w.heap.size _ (n - k) _ (l.drop k) HLD.out rfl U3.out (by omega) (by omega) s3 ?_; intro v4 w4 qs2 e2 q2 o4 g4 at4
         have hlt4 := fun k hk => (K3.out.1.lt k hk).1
         have b4 : Below w.heap.size w w4 := K3.out.2.2.1.grown g4 s3 hlt4
         have K4 := Lib.hid (And.intro o4 (And.intro (pa_grown K3.out.2.1 g4 s3 hlt4) (And.intro b4 (And.intro e2 (And.intro (pa_grown q2 g4 s3 hlt4) (K3.out.2.2.2.keep (w' := w4) fun a _ ha => World.cell?_of_block (g4.block a.block (by omega) (fun e => by have := hlt4 _ e.symm; omega))))))))
         clear o4 b4 g4 at4 e2 q2 hlt4))
     obtain ⟨o4, q1, b4, e2, q2, pp⟩ := K4.out
     have e1 := K2.out.2.2.1
     obtain ⟨A4, c4, rfl⟩ := own_form o4
     have hps : (([] ++ qs1 ++ [((⟨us, vn, vp, vg, vx⟩ : Vr), A1, c1)] ++ qs2 : List Pv)).map Prod.fst = r := by
      rw [HF.out, List.map_append, List.map_append, List.map_append, e1, e2]
      simp
     have hrl : (([] ++ qs1 ++ [((⟨us, vn, vp, vg, vx⟩ : Vr), A1, c1)] ++ qs2 : List Pv)).length = r.length := by rw [← hps, List.length_map]
     have hrn : r.length = 0 + k + 1 + (n - k) := by
      rw [HF.out, List.length_append, List.length_cons, HLK.out, HLD.out]; omega
     rw [← hrn] at o4
     rw [← hrl] at o4
     have own : OwnVs w.heap.size L w.heap.size w4 (.slice A4 _ c4) ([] ++ qs1 ++ [((⟨us, vn, vp, vg, vx⟩ : Vr), A1, c1)] ++ qs2) := ⟨o4, fun p hp => by
      rcases List.mem_append.1 hp with hp | hp
      ·rcases List.mem_append.1 hp with hp | hp
       ·exact q1 p (by simpa using hp)
       ·rw [List.mem_singleton.1 hp]; exact pp
      ·exact q2 p hp⟩
     have hvv := own.vs hLw b4.size
     rw [hps] at hvv
     have hcl := (own_len o4).2
     have HFIN : Hid (Reads L r w (.returned (.slice A4 r.length c4)) w4) := Lib.hid ⟨A4, c4, rfl, by rw [← hrl]; exact hcl, hvv, b4⟩
     have hrn' := Lib.hid hrn
     clear own hvv hcl o4 q1 e1 e2 q2 pp hps hrl hrn K4 K3 K2 HK1
     go_wp2_with fail
     go_ret
     have h9 := HFIN.out
     rw [hrn'.out] at h9
     exact h9
    ·have g1 : (us == s) = false := by simpa using hu1
     clear hns hu1
     go_wp2_with fail
     go_quiet (fail)
     obtain ⟨W1, hW1⟩ : ∃ W1, wc.drewN nq = W1 := ⟨_, rfl⟩
     have b1 : Below w.heap.size w W1 := by rw [← hW1]; exact HBW.out.trans (below_drewN _ _ _)
     have t1 : Vs W1 L w.heap.size (some ⟨b, off, none⟩) (l.take k) := by rw [← hW1]; exact HVT.out.1.drewN nq
     have u1 : Vs W1 L w.heap.size (some ⟨b, off + k * 5, none⟩) (l.drop k) := by rw [← hW1]; exact HVD.out.drewN nq
     have p1 : Pa W1 L w.heap.size A1 c1 ⟨s, vn, vp, vg, vx⟩ := HPD.out W1 (by rw [← hW1]; exact below_drewN _ nq _)
     have lm : m < W1.heap.size := by rw [← hW1]; exact Nat.lt_of_lt_of_le hl hsz0
     have X1 : Hid (∀ V, (W1.grownBy V none) → V.cell? ⟨m, 0, none⟩ = some (.int .i64 s) ∧ V.cell? ⟨m, 1, none⟩ = some (.int .i64 vn) ∧ V.cell? ⟨m, 2, none⟩ = some (.slice A1 kp c1) ∧ V.cell? ⟨m, 3, none⟩ = some (.bool vg) ∧ V.cell? ⟨m, 4, none⟩ = some (.string vx)) := by
      refine Lib.hid fun V hg => ?_
      have h := fun o => (World.cell?_of_block (w := W1) (w' := V) (a := ⟨m, o, none⟩) (hg.block m lm (by simp))).trans (by rw [← hW1]; rfl : W1.cell? ⟨m, o, none⟩ = wc.cell? ⟨m, o, none⟩)
      exact ⟨(h 0).trans x0, (h 1).trans x1, (h 2).trans x2, (h 3).trans x3, (h 4).trans x4⟩
     have s1 := b1.size
     have HK1 := Lib.hid (And.intro t1 (And.intro p1 b1))
     have HU1 := Lib.hid u1
     rw [hW1]
     clear hW1 t1 p1 b1 x0 x1 x2 x3 x4 lm u1
     go_wp2_with (first
      | (at_builtin; refine wpList_append_vs _ rfl (.tmp 38) (.tmp 41) 50 rfl w.heap.size 59 i0 _ 64 Tryz.underlying50 hi0 hz0 hz1 hz2 rfl (.slice none 0 0) 0 [] rfl (World.ownsRow_nil _ _ _ _) L w.heap.size _ k c (l.take k) HLK.out rfl HK1.out.1 (by omega) (by omega) s1 ?_; intro v2 w2 qs1 e1 q1 o2 g2 at2
         obtain ⟨x0, x1, x2, x3, x4⟩ := X1.out _ g2
         have b2 : Below w.heap.size w w2 := HK1.out.2.2.grown g2 s1 (fun k hk => by simp [Value.ownBlock] at hk)
         have s2 := b2.size
         have K2 := Lib.hid (And.intro o2 (And.intro (pa_grown q1 g2 s1 (fun k hk => by simp [Value.ownBlock] at hk)) (And.intro e1 (And.intro b2 (HK1.out.2.1.keep (w' := w2) fun a _ ha => World.cell?_of_block (g2.block a.block (by omega) (by simp [Value.ownBlock])))))))
         have U2 := Lib.hid (HU1.out.grown g2 s1 (fun k hk => by simp [Value.ownBlock] at hk))
         clear o2 q1 e1 b2 g2 at2)
      | (at_builtin; refine wpList_append_v _ rfl (.tmp 43) (.tmp 45) 50 rfl w.heap.size 59 i0 _ 64 Tryz.underlying50 hi0 hz0 hz1 hz2 rfl v2 (0 + k) ([] ++ qs1) rfl K2.out.1 (⟨s, vn, vp, vg, vx⟩, A1, c1) kp HV.out.2.2.2 1 rfl (by omega) (by omega) s2 ?_; intro v3 w3 o3 g3 at3
         have hlt3 := fun k hk => (K2.out.1.lt k hk).1
         have b3 : Below w.heap.size w w3 := K2.out.2.2.2.1.grown g3 s2 hlt3
         have s3 := b3.size
         have K3 := Lib.hid (And.intro o3 (And.intro (pa_grown K2.out.2.1 g3 s2 hlt3) (And.intro b3 (K2.out.2.2.2.2.keep (w' := w3) fun a _ ha => World.cell?_of_block (g3.block a.block (by omega) (fun e => by have := hlt3 _ e.symm; omega))))))
         have U3 := Lib.hid (U2.out.grown g3 s2 hlt3)
         clear o3 b3 g3 at3 hlt3)
      | (at_builtin; refine wpList_append_vs _ rfl (.tmp 47) (.tmp 50) 50 rfl w.heap.size 59 i0 _ 64 Tryz.underlying50 hi0 hz0 hz1 hz2 rfl v3 (0 + k + 1) ([] ++ qs1 ++ [(⟨s, vn, vp, vg, vx⟩, A1, c1)]) rfl K3.out.1 L w.heap.size _ (n - k) _ (l.drop k) HLD.out rfl U3.out (by omega) (by omega) s3 ?_; intro v4 w4 qs2 e2 q2 o4 g4 at4
         have hlt4 := fun k hk => (K3.out.1.lt k hk).1
         have b4 : Below w.heap.size w w4 := K3.out.2.2.1.grown g4 s3 hlt4
         have K4 := Lib.hid (And.intro o4 (And.intro (pa_grown K3.out.2.1 g4 s3 hlt4) (And.intro b4 (And.intro e2 (And.intro (pa_grown q2 g4 s3 hlt4) (K3.out.2.2.2.keep (w' := w4) fun a _ ha => World.cell?_of_block (g4.block a.block (by omega) (fun e => by have := hlt4 _ e.symm; omega))))))))
         clear o4 b4 g4 at4 e2 q2 hlt4))
     obtain ⟨o4, q1, b4, e2, q2, pp⟩ := K4.out
     have e1 := K2.out.2.2.1
     obtain ⟨A4, c4, rfl⟩ := own_form o4
     have hps : (([] ++ qs1 ++ [((⟨s, vn, vp, vg, vx⟩ : Vr), A1, c1)] ++ qs2 : List Pv)).map Prod.fst = r := by
      rw [HF.out, List.map_append, List.map_append, List.map_append, e1, e2]
      simp
     have hrl : (([] ++ qs1 ++ [((⟨s, vn, vp, vg, vx⟩ : Vr), A1, c1)] ++ qs2 : List Pv)).length = r.length := by rw [← hps, List.length_map]
     have hrn : r.length = 0 + k + 1 + (n - k) := by
      rw [HF.out, List.length_append, List.length_cons, HLK.out, HLD.out]; omega
     rw [← hrn] at o4
     rw [← hrl] at o4
     have own : OwnVs w.heap.size L w.heap.size w4 (.slice A4 _ c4) ([] ++ qs1 ++ [((⟨s, vn, vp, vg, vx⟩ : Vr), A1, c1)] ++ qs2) := ⟨o4, fun p hp => by
      rcases List.mem_append.1 hp with hp | hp
      ·rcases List.mem_append.1 hp with hp | hp
       ·exact q1 p (by simpa using hp)
       ·rw [List.mem_singleton.1 hp]; exact pp
      ·exact q2 p hp⟩
     have hvv := own.vs hLw b4.size
     rw [hps] at hvv
     have hcl := (own_len o4).2
     have HFIN : Hid (Reads L r w (.returned (.slice A4 r.length c4)) w4) := Lib.hid ⟨A4, c4, rfl, by rw [← hrl]; exact hcl, hvv, b4⟩
     have hrn' := Lib.hid hrn
     clear own hvv hcl o4 q1 e1 e2 q2 pp hps hrl hrn K4 K3 K2 HK1
     go_wp2_with fail
     go_ret
     have h9 := HFIN.out
     rw [hrn'.out] at h9
     exact h9
   ·obtain rfl : k = n := by omega
    have d3 : decide ((k : Int) < (k : Int)) = false := decide_eq_false (by omega)
    have d4 : decide (k < k) = false := decide_eq_false (by omega)
    clear hsame
    go_wp2_with fail
    go_quiet (fail)
    obtain ⟨W1, hW1⟩ : ∃ W1, wc.drewN nq = W1 := ⟨_, rfl⟩
    have b1 : Below w.heap.size w W1 := by rw [← hW1]; exact HBW.out.trans (below_drewN _ _ _)
    have t1 : Vs W1 L w.heap.size A (l.take k) := by rw [← hW1]; exact HVT.out.1.drewN nq
    have p1 : Pa W1 L w.heap.size A1 c1 ⟨s, vn, vp, vg, vx⟩ := HPD.out W1 (by rw [← hW1]; exact below_drewN _ nq _)
    have lm : m < W1.heap.size := by rw [← hW1]; exact Nat.lt_of_lt_of_le hl hsz0
    have X1 : Hid (∀ V, (W1.grownBy V none) → V.cell? ⟨m, 0, none⟩ = some (.int .i64 s) ∧ V.cell? ⟨m, 1, none⟩ = some (.int .i64 vn) ∧ V.cell? ⟨m, 2, none⟩ = some (.slice A1 kp c1) ∧ V.cell? ⟨m, 3, none⟩ = some (.bool vg) ∧ V.cell? ⟨m, 4, none⟩ = some (.string vx)) := by
     refine Lib.hid fun V hg => ?_
     have h := fun o => (World.cell?_of_block (w := W1) (w' := V) (a := ⟨m, o, none⟩) (hg.block m lm (by simp))).trans (by rw [← hW1]; rfl : W1.cell? ⟨m, o, none⟩ = wc.cell? ⟨m, o, none⟩)
     exact ⟨(h 0).trans x0, (h 1).trans x1, (h 2).trans x2, (h 3).trans x3, (h 4).trans x4⟩
    have s1 := b1.size
    have HK1 := Lib.hid (And.intro t1 (And.intro p1 b1))
    rw [hW1]
    clear hW1 t1 p1 b1 x0 x1 x2 x3 x4 lm
    go_wp2_with (first
     | (at_builtin; refine wpList_append_vs _ rfl (.tmp 38) (.tmp 41) 50 rfl w.heap.size 59 i0 _ 64 Tryz.underlying50 hi0 hz0 hz1 hz2 rfl (.slice none 0 0) 0 [] rfl (World.ownsRow_nil _ _ _ _) L w.heap.size _ k c (l.take k) HLK.out rfl HK1.out.1 (by omega) (by omega) s1 ?_; intro v2 w2 qs1 e1 q1 o2 g2 at2
        obtain ⟨x0, x1, x2, x3, x4⟩ := X1.out _ g2
        have b2 : Below w.heap.size w w2 := HK1.out.2.2.grown g2 s1 (fun k hk => by simp [Value.ownBlock] at hk)
        have s2 := b2.size
        have K2 := Lib.hid (And.intro o2 (And.intro (pa_grown q1 g2 s1 (fun k hk => by simp [Value.ownBlock] at hk)) (And.intro e1 (And.intro b2 (HK1.out.2.1.keep (w' := w2) fun a _ ha => World.cell?_of_block (g2.block a.block (by omega) (by simp [Value.ownBlock])))))))
        clear o2 q1 e1 b2 g2 at2)
     | (at_builtin; refine wpList_append_v _ rfl (.tmp 43) (.tmp 45) 50 rfl w.heap.size 59 i0 _ 64 Tryz.underlying50 hi0 hz0 hz1 hz2 rfl v2 (0 + k) ([] ++ qs1) rfl K2.out.1 (⟨s, vn, vp, vg, vx⟩, A1, c1) kp HV.out.2.2.2 1 rfl (by omega) (by omega) s2 ?_; intro v3 w3 o3 g3 at3
        have hlt3 := fun k hk => (K2.out.1.lt k hk).1
        have b3 : Below w.heap.size w w3 := K2.out.2.2.2.1.grown g3 s2 hlt3
        have s3 := b3.size
        have K3 := Lib.hid (And.intro o3 (And.intro (pa_grown K2.out.2.1 g3 s2 hlt3) (And.intro b3 (K2.out.2.2.2.2.keep (w' := w3) fun a _ ha => World.cell?_of_block (g3.block a.block (by omega) (fun e => by have := hlt3 _ e.symm; omega))))))
        clear o3 b3 g3 at3 hlt3)
     | (at_builtin; refine wpList_append_vs _ rfl (.tmp 47) (.tmp 50) 50 rfl w.heap.size 59 i0 _ 64 Tryz.underlying50 hi0 hz0 hz1 hz2 rfl v3 (0 + k + 1) ([] ++ qs1 ++ [(⟨s, vn, vp, vg, vx⟩, A1, c1)]) rfl K3.out.1 L w.heap.size _ 0 _ [] rfl rfl (Vs.nil _) (by omega) (by omega) s3 ?_; intro v4 w4 qs2 e2 q2 o4 g4 at4
        have hlt4 := fun k hk => (K3.out.1.lt k hk).1
        have b4 : Below w.heap.size w w4 := K3.out.2.2.1.grown g4 s3 hlt4
        have K4 := Lib.hid (And.intro o4 (And.intro (pa_grown K3.out.2.1 g4 s3 hlt4) (And.intro b4 (And.intro e2 (And.intro (pa_grown q2 g4 s3 hlt4) (K3.out.2.2.2.keep (w' := w4) fun a _ ha => World.cell?_of_block (g4.block a.block (by omega) (fun e => by have := hlt4 _ e.symm; omega))))))))
        clear o4 b4 g4 at4 e2 q2 hlt4))
    all_goals
     obtain ⟨o4, q1, b4, e2, q2, pp⟩ := K4.out
     have e1 := K2.out.2.2.1
     obtain ⟨A4, c4, rfl⟩ := own_form o4
     have hps : (([] ++ qs1 ++ [((⟨s, vn, vp, vg, vx⟩ : Vr), A1, c1)] ++ qs2 : List Pv)).map Prod.fst = r := by
      rw [HF.out, List.map_append, List.map_append, List.map_append, e1, e2]
      simp
      rw [HV.out.2.1]
      exact Nat.le_refl _
     have hrl : (([] ++ qs1 ++ [((⟨s, vn, vp, vg, vx⟩ : Vr), A1, c1)] ++ qs2 : List Pv)).length = r.length := by rw [← hps, List.length_map]
     have hrn : r.length = 0 + k + 1 + 0 := by
      rw [HF.out, List.length_append, List.length_cons, HLK.out, HLD.out]; omega
     rw [← hrn] at o4
     rw [← hrl] at o4
     have own : OwnVs w.heap.size L w.heap.size w4 (.slice A4 _ c4) ([] ++ qs1 ++ [((⟨s, vn, vp, vg, vx⟩ : Vr), A1, c1)] ++ qs2) := ⟨o4, fun p hp => by
      rcases List.mem_append.1 hp with hp | hp
      ·rcases List.mem_append.1 hp with hp | hp
       ·exact q1 p (by simpa using hp)
       ·rw [List.mem_singleton.1 hp]; exact pp
      ·exact q2 p hp⟩
     have hvv := own.vs hLw b4.size
     rw [hps] at hvv
     have hcl := (own_len o4).2
     have HFIN : Hid (Reads L r w (.returned (.slice A4 r.length c4)) w4) := Lib.hid ⟨A4, c4, rfl, by rw [← hrl]; exact hcl, hvv, b4⟩
     have hrn' := Lib.hid hrn
     clear own hvv hcl o4 q1 e1 e2 q2 pp hps hrl hrn K4 K3 K2 HK1
     go_wp2_with fail
     go_ret
     have h9 := HFIN.out
     rw [hrn'.out] at h9
     exact h9
end Vers
end Go.Proofs.YtekhaejhmlebbaaGreat

/-
 firthref05.Merge tells what mergeF tells.
-/
namespace Go.Proofs.YtekhaejhmlebbaaGreat
namespace Vers
open Go.RowKit Span
attribute [local go_sem ↓] Go.wp_at_zero Go.wp_at_succ

def Merged (L : Nat) (r : List Vr × Int) (w : World) (e : Ending) (w' : World) : Prop :=
 ∃ A c, e = .returned (.tuple #[.slice A r.1.length c, .int .i64 r.2]) ∧ r.1.length ≤ c ∧ Vs w' L w'.heap.size A r.1 ∧ Below w.heap.size w w'
theorem merged_none (L : Nat) (k : Int) (w w' : World) (hb : Below w.heap.size w w') : Merged L ([], k) w (.returned (.tuple #[.slice none 0 0, .int .i64 k])) w' := ⟨none, 0, rfl, by simp, Vs.nil _, hb⟩

def NoTwin (a b : List Vr) (i k : Nat) : Prop := (∀ p, p < i → ∀ y ∈ b, ¬ (same (a.getD p v0) y ∧ a.getD p v0 ≠ y)) ∧ ∀ q, q < k → ¬ (same (a.getD i v0) (b.getD q v0) ∧ a.getD i v0 ≠ b.getD q v0)
theorem noTwin_end {a b : List Vr} {i : Nat} (h : NoTwin a b i b.length) : NoTwin a b (i + 1) 0 := ⟨fun p hp y hy => by
 rcases Nat.lt_or_ge p i with h1 | h1
 ·exact h.1 p h1 y hy
 ·obtain rfl : p = i := by omega
  obtain ⟨q, hq, rfl⟩ := List.getElem_of_mem hy
  have := h.2 q hq
  have e : b.getD q v0 = b[q] := by simp [List.getD_eq_getElem?_getD, hq]
  rwa [e] at this, fun q hq => absurd hq (by omega)⟩
theorem noTwin_all {a b : List Vr} (h : NoTwin a b a.length 0) : ¬ Twin a b := by
 rintro ⟨x, hx, y, hy, hs, hn⟩
 obtain ⟨p, hp, rfl⟩ := List.getElem_of_mem hx
 have e : a.getD p v0 = a[p] := by simp [List.getD_eq_getElem?_getD, hp]
 have := h.1 p hp y hy
 rw [e] at this
 exact this ⟨hs, hn⟩
theorem laidV_take {d l out : List Vr} {i : Nat} (h : i < l.length) : laidV d (l.take (i + 1)) out = if behind d (l.getD i v0).s (l.getD i v0).n then laidV d (l.take i) out else putV (laidV d (l.take i) out) (l.getD i v0) := by
 rw [take_v h, laidV_snoc]
theorem laidV_len (d l : List Vr) : ∀ (out : List Vr), (laidV d l out).length ≤ out.length + l.length := by
 unfold laidV
 have h1 : (l.filter fun v => !decide (behind d v.s v.n)).length ≤ l.length := List.length_filter_le _ _
 have h2 : ∀ (m out : List Vr), (m.foldl putV out).length ≤ out.length + m.length := by
  intro m
  induction m with
  | nil => intro out; simp
  | cons v m ih =>
   intro out
   have := ih (putV out v)
   have := putV_len out v
   simp only [List.foldl_cons, List.length_cons]
   omega
 intro out
 have := h2 (l.filter fun v => !decide (behind d v.s v.n)) out
 omega

def Laying (d l start : List Vr) (n : Nat) (w : World) (ov iv : Value) (wr : World) : Prop :=
 ∃ (i : Nat) (A : Option Addr) (c : Nat), iv = .int .i64 i ∧ i ≤ n ∧ ov = .slice A (laidV d (l.take i) start).length c ∧ Hid ((laidV d (l.take i) start).length ≤ c ∧ Vs wr 0 wr.heap.size A (laidV d (l.take i) start)) ∧ Below w.heap.size w wr

set_option maxRecDepth 100000 in
set_option maxHeartbeats 1000000 in
theorem ref_merge_any (A A' : Option Addr) (c c' n n' : Nat) (a b : List Vr) (hn : a.length = n) (hn' : b.length = n') (w : World) (hv : Vs w 0 w.heap.size A a) (hv' : Vs w 0 w.heap.size A' b) (hb2 : n ≤ 140737488355328) (hb2' : n' ≤ 140737488355328) :
  Calls Tryz.prog 54 #[.slice A n c, .slice A' n' c'] w (Merged 0 (mergeF a b) w) := by
 have h1 := ref_rightV_any A c n a hn w hv hb2
 have h2 := fun W (hbW : Below w.heap.size w W) => ref_rightV_any A' c' n' b hn' W ((hv'.below hbW).more hbW.size) hb2'
 by_cases ra : RightV a
 ·rw [decide_eq_true ra] at h1
  by_cases rb : RightV b
  ·have H1 := Lib.hid h1
   have H2 := Lib.hid (fun W hbW => (decide_eq_true rb) ▸ h2 W hbW)
   have HV := Lib.hid (And.intro hv (And.intro hv' (And.intro hn (And.intro hn' (And.intro ra rb)))))
   have hn5 : n ≤ 512 := by have := ra.1; omega
   have hn5' : n' ≤ 512 := by have := rb.1; omega
   obtain ⟨r, hr⟩ : ∃ r, mergeF a b = r := ⟨_, rfl⟩
   rw [hr]
   have HR := Lib.hid hr
   clear h1 h2 hv hv' hn hn' ra rb hr
   go_enter Tryz.func54, Tryz.ntmps54
   go_wp2_with fail
   refine H1.out.mono ?_
   rintro e w1 ⟨rfl, b1⟩
   have H2' := Lib.hid (H2.out _ b1)
   have B1 := Lib.hid b1
   have s1 := b1.size
   clear b1 H1 H2
   go_wp2_with fail
   refine H2'.out.mono ?_
   rintro e w2 ⟨rfl, b2⟩
   have B2 := Lib.hid (B1.out.trans (b2.mono s1))
   have s2 := B2.out.size
   clear b2 H2' B1 s1
   go_upto_block 0 with fail
   go_cut [6] (fun _ V => Hid (¬ Twin a b) ∧ Below w.heap.size w V)
   case first =>
    go_wp2_with fail
    go_loopw [6] (fun iv V => ∃ i : Nat, iv = .int .i64 i ∧ i ≤ n ∧ Hid (NoTwin a b i 0) ∧ Below w.heap.size w V) (fun iv _ => n - (intOf iv).toNat)
    case atStart => exact ⟨0, rfl, by omega, Lib.hid ⟨fun p hp => absurd hp (by omega), fun q hq => absurd hq (by omega)⟩, B2.out⟩
    case round =>
     obtain ⟨i, rfl, hi, ht, hb⟩ := hrel
     have hsz := hb.size
     by_cases hlt : i < n
     ·go_wp2_with fail
      go_loopw [7] (fun kv V => ∃ k : Nat, kv = .int .i64 k ∧ k ≤ n' ∧ Hid (NoTwin a b i k) ∧ Below w.heap.size w V) (fun kv _ => n' - (intOf kv).toNat)
      case atStart => exact ⟨0, rfl, by omega, ht, hb⟩
      case round =>
       obtain ⟨k, rfl, hk, htk, hbk⟩ := hrel
       have hszk := hbk.size
       by_cases hlk : k < n'
       ·obtain ⟨p, off, A1, c1, rfl, _, hpB, a0, a1, a2, a3, a4, hpa⟩ := HV.out.1.at HV.out.2.2.1 hbk hlt rfl
        obtain ⟨p', off', A1', c1', rfl, _, hpB', a0', a1', a2', a3', a4', hpa'⟩ := HV.out.2.1.at HV.out.2.2.2.1 hbk hlk rfl
        have hma := mem_v (l := a) (k := i) (by have := HV.out.2.2.1; omega)
        have hmb := mem_v (l := b) (k := k) (by have := HV.out.2.2.2.1; omega)
        have hmore : ¬ (same (a.getD i v0) (b.getD k v0) ∧ a.getD i v0 ≠ b.getD k v0) → NoTwin a b i (k + 1) := fun h => ⟨htk.out.1, fun q hq => by
         rcases Nat.lt_or_ge q k with h1 | h1
         ·exact htk.out.2 q h1
         ·obtain rfl : q = k := by omega
          exact h⟩
        have htw : (same (a.getD i v0) (b.getD k v0) ∧ a.getD i v0 ≠ b.getD k v0) → r = ([], 50) := fun h => by
         rw [← HR.out]
         exact merge_twin HV.out.2.2.2.2.1 HV.out.2.2.2.2.2 ⟨_, hma, _, hmb, h.1, h.2⟩
        obtain ⟨v, hvv⟩ : ∃ v, a.getD i v0 = v := ⟨_, rfl⟩
        obtain ⟨v', hvv'⟩ : ∃ v, b.getD k v0 = v := ⟨_, rfl⟩
        rw [hvv] at a0 a1 a2 a3 a4 hpa
        rw [hvv'] at a0' a1' a2' a3' a4' hpa'
        rw [hvv, hvv'] at hmore htw
        clear hvv hvv' hma hmb
        obtain ⟨s, vn, vp, vg, vx⟩ := v
        obtain ⟨s', vn', vp', vg', vx'⟩ := v'
        simp only at a0 a1 a2 a3 a4 a0' a1' a2' a3' a4'
        obtain ⟨hps, _, hpb, _, _⟩ := hpa
        obtain ⟨hps', _, hpb', _, _⟩ := hpa'
        simp only at hps hpb hps' hpb'
        obtain ⟨kp, hkp⟩ : ∃ kp, vp.length = kp := ⟨_, rfl⟩
        obtain ⟨kp', hkp'⟩ : ∃ kp, vp'.length = kp := ⟨_, rfl⟩
        rw [hkp] at a2 hpb
        rw [hkp'] at a2' hpb'
        have d1 : (0 : Int) ≤ (k : Int) := by omega
        have d2 : (k : Int) < (n' : Int) := by omega
        have d3 : (0 : Int) ≤ (i : Int) := by omega
        have d4 : (i : Int) < (n : Int) := by omega
        by_cases cd : s = s' ∧ vn = vn'
        ·have h3 := ref_sameone_any A1 A1' c1 c1' kp kp' s vn s' vn' vp vp' vg vg' vx vx' hkp hkp' wr.drew (hps.more (B' := wr.drew.heap.size) (by exact hszk)) (hps'.more (B' := wr.drew.heap.size) (by exact hszk)) hpb hpb'
         obtain ⟨q, hq⟩ : ∃ q, decide ((⟨s, vn, vp, vg, vx⟩ : Vr) = ⟨s', vn', vp', vg', vx'⟩) = q := ⟨_, rfl⟩
         rw [hq] at h3
         have HN := Lib.hid (show (q = true → NoTwin a b i (k + 1)) ∧ (q = false → r = ([], 50)) from ⟨fun h => hmore fun hh => hh.2 (of_decide_eq_true (hq.trans h)), fun h => htw ⟨cd, of_decide_eq_false (hq.trans h)⟩⟩)
         obtain ⟨rfl, rfl⟩ := cd
         have H3 := Lib.hid h3
         have lb : p < wr.heap.size := by omega
         have lb' : p' < wr.heap.size := by omega
         clear h3 hq hmore htw hps hps' hkp hkp' htk
         go_wp2_with fail
         go_region_held3 (fun V => V.cell? ⟨p, off + i * 5, none⟩ = some (.int .i64 s) ∧ V.cell? ⟨p, off + i * 5 + 1, none⟩ = some (.int .i64 vn) ∧ V.cell? ⟨p, off + i * 5 + 2, none⟩ = some (.slice A1 kp c1) ∧ V.cell? ⟨p, off + i * 5 + 3, none⟩ = some (.bool vg) ∧ V.cell? ⟨p, off + i * 5 + 4, none⟩ = some (.string vx) ∧
           V.cell? ⟨p', off' + k * 5, none⟩ = some (.int .i64 s) ∧ V.cell? ⟨p', off' + k * 5 + 1, none⟩ = some (.int .i64 vn) ∧ V.cell? ⟨p', off' + k * 5 + 2, none⟩ = some (.slice A1' kp' c1') ∧ V.cell? ⟨p', off' + k * 5 + 3, none⟩ = some (.bool vg') ∧ V.cell? ⟨p', off' + k * 5 + 4, none⟩ = some (.string vx'))
          (first | exact ⟨a0, a1, a2, a3, a4, a0', a1', a2', a3', a4'⟩ | exact ⟨cell_below b3 lb a0, cell_below b3 lb a1, cell_below b3 lb a2, cell_below b3 lb a3, cell_below b3 lb a4, cell_below b3 lb' a0', cell_below b3 lb' a1', cell_below b3 lb' a2', cell_below b3 lb' a3', cell_below b3 lb' a4'⟩)
          (first | (go_at_call 82; refine H3.out.mono ?_; rintro e w3 ⟨rfl, b3⟩))
         have BE : Below w.heap.size w w3 := hbk.drew.trans (Below.mono b3 (by exact hszk))
         clear b3 H3 hbk
         cases q
         ·have HF := Lib.hid (HN.out.2 rfl)
          clear HN
          go_wp2_with fail
          go_ret2
          rw [HF.out]
          exact merged_none 0 50 w w3 BE
         ·have HF := Lib.hid (HN.out.1 rfl)
          clear HN
          go_wp2_with fail
          exact ⟨⟨k + 1, rfl, by omega, HF, BE⟩, by simp only [intOf]; omega⟩
        ·have HF := Lib.hid (hmore fun h => cd h.1)
         have hx : ¬ (s = s') ∨ (s = s' ∧ ¬ vn = vn') := by
          by_cases h1 : s = s'
          ·exact .inr ⟨h1, fun h2 => cd ⟨h1, h2⟩⟩
          ·exact .inl h1
         clear hmore htw hps hps' hkp hkp' htk cd
         rcases hx with h1 | ⟨rfl, h1⟩
         ·have g1 : (s == s') = false := by simpa using h1
          clear h1
          go_wp2_with fail
          go_quiet (fail)
          go_wp2_with fail
          exact ⟨⟨k + 1, rfl, by omega, HF, hbk.trans (below_drewN _ _ _)⟩, by simp only [intOf]; omega⟩
         ·have g1 : (vn == vn') = false := by simpa using h1
          have g2 : (s == s) = true := by simp
          clear h1
          go_wp2_with fail
          go_quiet (fail)
          go_wp2_with fail
          exact ⟨⟨k + 1, rfl, by omega, HF, hbk.trans (below_drewN _ _ _)⟩, by simp only [intOf]; omega⟩
       ·have hkn : k = n' := by omega
        subst hkn
        have HF := Lib.hid (noTwin_end (by have := htk.out; rwa [← HV.out.2.2.2.1] at this))
        clear htk
        go_wp2_with fail
        go_roundw
        case rel => exact ⟨i + 1, rfl, by omega, HF, hbk⟩
        case measure => simp only [intOf]; omega
     ·have hin : i = n := by omega
      subst hin
      have HF := Lib.hid (noTwin_all (by have := ht.out; rwa [← HV.out.2.2.1] at this))
      clear ht
      go_wp2_with fail
      go_meet
      exact ⟨HF, hb⟩
   case rest =>
    obtain ⟨ht, hb⟩ := hcut
    have HT := Lib.hid ht.out
    have HSL : Hid (([] : List Vr).length ≤ 512) := Lib.hid (by simp)
    clear ht
    go_wp2_with fail
    go_loopw [8, 9] (fun ov iv wr => Laying b a [] n w ov iv wr) (fun _ iv _ => n - (intOf iv).toNat)
    case atStart => exact ⟨0, none, 0, rfl, by omega, rfl, Lib.hid ⟨by simp [laidV], Vs.nil _⟩, hb⟩
    case round =>
     obtain ⟨i, Ao, co, rfl, hi, rfl, ho, hb⟩ := hrel
     have hsz := hb.size
     by_cases hlt : i < n
     ·obtain ⟨p, off, A1, c1, rfl, _, hpB, a0, a1, a2, a3, a4, hpa⟩ := HV.out.1.at HV.out.2.2.1 hb hlt rfl
      have htk := laidV_take (d := b) (l := a) (out := []) (i := i) (by have := HV.out.2.2.1; omega)
      have hlen := laidV_len b (a.take i) []
      have hsl : ([]).length ≤ 512 := HSL.out
      rw [List.length_take] at hlen
      have hcells : ∀ V, Below w.heap.size w V → ∃ A1 c1, Vat V 0 w.heap.size p (off + i * 5) (a.getD i v0) A1 c1 := fun V hV => by
       obtain ⟨p', off', A1', c1', e, _, _, hvat⟩ := HV.out.1.at HV.out.2.2.1 hV hlt rfl
       injection e with e
       injection e with e1 e2
       subst e1 e2
       exact ⟨A1', c1', hvat⟩
      have hbhd := behind_any A' c' n' b HV.out.2.2.2.1 (a.getD i v0).s (a.getD i v0).n wr ((HV.out.2.1.below hb).more hsz) (by omega)
      obtain ⟨v, hvv⟩ : ∃ v, a.getD i v0 = v := ⟨_, rfl⟩
      rw [hvv] at a0 a1 htk hcells hbhd
      clear hvv hpa a2 a3 a4
      obtain ⟨X, hX⟩ : ∃ X, laidV b (a.take i) [] = X := ⟨_, rfl⟩
      rw [hX] at ho htk hlen ⊢
      have hXl : X.length ≤ 1024 := by omega
      obtain ⟨s, vn, vp, vg, vx⟩ := v
      simp only at a0 a1 hbhd htk
      have HX := Lib.hid hX
      have HB := Lib.hid hb
      have HC := Lib.hid hcells
      have HT := Lib.hid htk
      have d3 : (0 : Int) ≤ (i : Int) := by omega
      have d4 : (i : Int) < (n : Int) := by omega
      obtain ⟨nx, hnx⟩ : ∃ nx, X.length = nx := ⟨_, rfl⟩
      have HNX := Lib.hid hnx
      rw [hnx] at hXl ⊢
      clear hX hcells htk hlen hnx hb
      by_cases hbh : behind b s vn
      ·rw [decide_eq_true hbh] at hbhd
       have HF := Lib.hid (show laidV b (a.take (i + 1)) [] = X by rw [HT.out, if_pos hbh])
       have HBH := Lib.hid hbhd
       clear HT hbh hbhd
       go_wp2_with fail
       refine HBH.out.mono ?_
       rintro e w3 ⟨rfl, b3⟩
       have BE := HB.out.trans (b3.mono hsz)
       have HO3 : Hid (X.length ≤ co ∧ Vs w3 0 w3.heap.size Ao X) := Lib.hid ⟨ho.out.1, (ho.out.2.below b3).more b3.size⟩
       clear b3 HBH
       go_wp2_with fail
       exact ⟨⟨i + 1, Ao, co, rfl, by omega, by rw [HF.out, HNX.out], by rw [HF.out]; exact HO3, BE⟩, by simp only [intOf]; omega⟩
      ·rw [decide_eq_false hbh] at hbhd
       have HF := Lib.hid (show laidV b (a.take (i + 1)) [] = putV X ⟨s, vn, vp, vg, vx⟩ by rw [HT.out, if_neg hbh])
       have HBH := Lib.hid hbhd
       clear HT hbh hbhd
       go_wp2_with fail
       refine HBH.out.mono ?_
       rintro e w3 ⟨rfl, b3⟩
       have BE := HB.out.trans (b3.mono hsz)
       obtain ⟨A2, c2, z0, z1, z2, z3, z4, zp⟩ := HC.out w3 BE
       simp only at z0 z1 z2 z3 z4
       obtain ⟨kp, hkp⟩ : ∃ kp, vp.length = kp := ⟨_, rfl⟩
       rw [hkp] at z2
       have hput := put_any Ao A2 co c2 nx kp X HNX.out (by have := ho.out.1; have := HNX.out; omega) s vn vp vg vx hkp 0 w3 (Nat.zero_le _) ((ho.out.2.below b3).more b3.size) (zp.more BE.size) (by omega)
       have HP := Lib.hid hput
       have HBE := Lib.hid BE
       have s3 := BE.size
       clear hput b3 HBH hkp BE zp
       go_wp2_with fail
       refine HP.out.mono ?_
       rintro e w4 ⟨A4, c4, rfl, l4, v4, b4⟩
       have BE4 := HBE.out.trans (b4.mono s3)
       have HO4 := Lib.hid (And.intro l4 v4)
       clear HP b4 l4 v4
       go_wp2_with fail
       exact ⟨⟨i + 1, A4, c4, rfl, by omega, by rw [HF.out], by rw [HF.out]; exact HO4, BE4⟩, by simp only [intOf]; omega⟩
     ·have hin : n = i := by omega
      subst hin
      have HO1 : Hid ((laidV b a []).length ≤ co ∧ Vs wr 0 wr.heap.size Ao (laidV b a [])) := by
       have h := ho
       rwa [List.take_of_length_le (by have := HV.out.2.2.1; omega)] at h
      have HE1 : Hid (laidV b (a.take n) [] = laidV b a []) := Lib.hid (by rw [List.take_of_length_le (by have := HV.out.2.2.1; omega)])
      have hsl1 := laidV_len b a []
      have HSL : Hid ((laidV b a []).length ≤ 512) := Lib.hid (by have := HV.out.2.2.1; simp at hsl1; omega)
      rw [HE1.out]
      obtain ⟨n1, hn1⟩ : ∃ n1, (laidV b a []).length = n1 := ⟨_, rfl⟩
      have HN1 := Lib.hid hn1
      rw [hn1]
      clear ho HE1 hsl1 hn1
      go_wp2_with fail
      go_loopw [8, 10] (fun ov iv wr => Laying a b (laidV b a []) n' w ov iv wr) (fun _ iv _ => n' - (intOf iv).toNat)
      case atStart => exact ⟨0, Ao, co, rfl, by omega, by rw [List.take_zero, laidV_nil, HN1.out], by rw [List.take_zero, laidV_nil]; exact HO1, hb⟩
      case round =>
       obtain ⟨i, Ao, co, rfl, hi, rfl, ho, hb⟩ := hrel
       have hsz := hb.size
       by_cases hlt : i < n'
       ·obtain ⟨p, off, A1, c1, rfl, _, hpB, a0, a1, a2, a3, a4, hpa⟩ := HV.out.2.1.at HV.out.2.2.2.1 hb hlt rfl
        have htk := laidV_take (d := a) (l := b) (out := (laidV b a [])) (i := i) (by have := HV.out.2.2.2.1; omega)
        have hlen := laidV_len a (b.take i) (laidV b a [])
        have hsl : ((laidV b a [])).length ≤ 512 := HSL.out
        rw [List.length_take] at hlen
        have hcells : ∀ V, Below w.heap.size w V → ∃ A1 c1, Vat V 0 w.heap.size p (off + i * 5) (b.getD i v0) A1 c1 := fun V hV => by
         obtain ⟨p', off', A1', c1', e, _, _, hvat⟩ := HV.out.2.1.at HV.out.2.2.2.1 hV hlt rfl
         injection e with e
         injection e with e1 e2
         subst e1 e2
         exact ⟨A1', c1', hvat⟩
        have hbhd := behind_any A c n a HV.out.2.2.1 (b.getD i v0).s (b.getD i v0).n wr ((HV.out.1.below hb).more hsz) (by omega)
        obtain ⟨v, hvv⟩ : ∃ v, b.getD i v0 = v := ⟨_, rfl⟩
        rw [hvv] at a0 a1 htk hcells hbhd
        clear hvv hpa a2 a3 a4
        obtain ⟨X, hX⟩ : ∃ X, laidV a (b.take i) (laidV b a []) = X := ⟨_, rfl⟩
        rw [hX] at ho htk hlen ⊢
        have hXl : X.length ≤ 1024 := by omega
        obtain ⟨s, vn, vp, vg, vx⟩ := v
        simp only at a0 a1 hbhd htk
        have HX := Lib.hid hX
        have HB := Lib.hid hb
        have HC := Lib.hid hcells
        have HT := Lib.hid htk
        have d3 : (0 : Int) ≤ (i : Int) := by omega
        have d4 : (i : Int) < (n' : Int) := by omega
        obtain ⟨nx, hnx⟩ : ∃ nx, X.length = nx := ⟨_, rfl⟩
        have HNX := Lib.hid hnx
        rw [hnx] at hXl ⊢
        clear hX hcells htk hlen hnx hb
        by_cases hbh : behind a s vn
        ·rw [decide_eq_true hbh] at hbhd
         have HF := Lib.hid (show laidV a (b.take (i + 1)) (laidV b a []) = X by rw [HT.out, if_pos hbh])
         have HBH := Lib.hid hbhd
         clear HT hbh hbhd
         go_wp2_with fail
         refine HBH.out.mono ?_
         rintro e w3 ⟨rfl, b3⟩
         have BE := HB.out.trans (b3.mono hsz)
         have HO3 : Hid (X.length ≤ co ∧ Vs w3 0 w3.heap.size Ao X) := Lib.hid ⟨ho.out.1, (ho.out.2.below b3).more b3.size⟩
         clear b3 HBH
         go_wp2_with fail
         exact ⟨⟨i + 1, Ao, co, rfl, by omega, by rw [HF.out, HNX.out], by rw [HF.out]; exact HO3, BE⟩, by simp only [intOf]; omega⟩
        ·rw [decide_eq_false hbh] at hbhd
         have HF := Lib.hid (show laidV a (b.take (i + 1)) (laidV b a []) = putV X ⟨s, vn, vp, vg, vx⟩ by rw [HT.out, if_neg hbh])
         have HBH := Lib.hid hbhd
         clear HT hbh hbhd
         go_wp2_with fail
         refine HBH.out.mono ?_
         rintro e w3 ⟨rfl, b3⟩
         have BE := HB.out.trans (b3.mono hsz)
         obtain ⟨A2, c2, z0, z1, z2, z3, z4, zp⟩ := HC.out w3 BE
         simp only at z0 z1 z2 z3 z4
         obtain ⟨kp, hkp⟩ : ∃ kp, vp.length = kp := ⟨_, rfl⟩
         rw [hkp] at z2
         have hput := put_any Ao A2 co c2 nx kp X HNX.out (by have := ho.out.1; have := HNX.out; omega) s vn vp vg vx hkp 0 w3 (Nat.zero_le _) ((ho.out.2.below b3).more b3.size) (zp.more BE.size) (by omega)
         have HP := Lib.hid hput
         have HBE := Lib.hid BE
         have s3 := BE.size
         clear hput b3 HBH hkp BE zp
         go_wp2_with fail
         refine HP.out.mono ?_
         rintro e w4 ⟨A4, c4, rfl, l4, v4, b4⟩
         have BE4 := HBE.out.trans (b4.mono s3)
         have HO4 := Lib.hid (And.intro l4 v4)
         clear HP b4 l4 v4
         go_wp2_with fail
         exact ⟨⟨i + 1, A4, c4, rfl, by omega, by rw [HF.out], by rw [HF.out]; exact HO4, BE4⟩, by simp only [intOf]; omega⟩
       ·have hin : n' = i := by omega
        subst hin
        have hfull : laidV a (b.take n') (laidV b a []) = stayF a b := by rw [List.take_of_length_le (by have := HV.out.2.2.2.1; omega)]; rfl
        rw [hfull] at ho ⊢
        have hm1 := merge_long HV.out.2.2.2.2.1 HV.out.2.2.2.2.2 HT.out
        have hm2 := merge_ok HV.out.2.2.2.2.1 HV.out.2.2.2.2.2 HT.out
        rw [HR.out] at hm1 hm2
        have hfl := laidV_len a b (laidV b a [])
        have hfl2 : (stayF a b).length ≤ 1024 := by have h7 := HSL.out; have h8 := HV.out.2.2.2.1; have h9 : (stayF a b).length = (laidV a b (laidV b a [])).length := rfl; omega
        obtain ⟨Z, hZ⟩ : ∃ Z, stayF a b = Z := ⟨_, rfl⟩
        rw [hZ] at ho hm1 hm2 hfl2 ⊢
        obtain ⟨nz, hnz⟩ : ∃ nz, Z.length = nz := ⟨_, rfl⟩
        have HNZ := Lib.hid hnz
        rw [hnz] at hm1 hm2 hfl2 ⊢
        have HM := Lib.hid (And.intro hm1 hm2)
        have HBB := Lib.hid hb
        clear hm1 hm2 hfl hfull hZ hnz hb
        by_cases hlong : 512 < nz
        ·have HF := Lib.hid (HM.out.1 hlong)
         clear HM
         go_wp2_with fail
         go_ret2
         rw [HF.out]
         exact merged_none 0 3 w _ HBB.out
        ·have HF := Lib.hid (HM.out.2 hlong)
         clear HM
         go_wp2_with fail
         go_ret2
         rw [HF.out]
         exact ⟨Ao, co, by simp only; rw [HNZ.out]; rfl, ho.out.1, ho.out.2, HBB.out⟩
  ·have H1 := Lib.hid h1
   have H2 := Lib.hid (fun W hbW => (decide_eq_false rb) ▸ h2 W hbW)
   have HR := Lib.hid (merge_arg (a := a) (b := b) (.inr rb))
   obtain ⟨r, hr⟩ : ∃ r, mergeF a b = r := ⟨_, rfl⟩
   have HR2 := Lib.hid (hr.symm.trans HR.out)
   rw [hr]
   clear h1 h2 hv hv' hn hn' ra rb hr HR
   go_enter Tryz.func54, Tryz.ntmps54
   go_wp2_with fail
   refine H1.out.mono ?_
   rintro e w1 ⟨rfl, b1⟩
   have H2' := Lib.hid (H2.out _ b1)
   have B1 := Lib.hid b1
   have s1 := b1.size
   clear b1 H1 H2
   go_wp2_with fail
   refine H2'.out.mono ?_
   rintro e w2 ⟨rfl, b2⟩
   have BE := B1.out.trans (b2.mono s1)
   clear b2 H2' B1
   go_wp2_with fail
   go_ret2
   rw [HR2.out]
   exact merged_none 0 1 w w2 BE
 ·rw [decide_eq_false ra] at h1
  have H1 := Lib.hid h1
  obtain ⟨r, hr⟩ : ∃ r, mergeF a b = r := ⟨_, rfl⟩
  have HR2 := Lib.hid (hr.symm.trans (merge_arg (a := a) (b := b) (.inl ra)))
  rw [hr]
  clear h1 h2 hv hv' hn hn' ra hr
  go_enter Tryz.func54, Tryz.ntmps54
  go_wp2_with fail
  refine H1.out.mono ?_
  rintro e w1 ⟨rfl, b1⟩
  have BE := Lib.hid b1
  clear b1 H1
  go_wp2_with fail
  go_ret2
  rw [HR2.out]
  exact merged_none 0 1 w w1 BE.out
end Vers
end Go.Proofs.YtekhaejhmlebbaaGreat

/-
 The closure of vers.together: a version is kept behind those that are kept, unless the last one has its dot.
-/
namespace Go.Proofs.YtekhaejhmlebbaaGreat
namespace Vers
open Go.RowKit Span
attribute [local go_sem ↓] Go.wp_at_zero Go.wp_at_succ

def Box (base B ab : Nat) (w : World) (ps : List Pv) : Prop := ∃ v, Boxed w ab 50 v ∧ OwnVs base 0 B w v ps

theorem Box.below {base B ab : Nat} {w w' : World} {ps : List Pv} (h : Box base B ab w ps) (hB : B ≤ w.heap.size) (hb : Below w.heap.size w w') : Box base B ab w' ps := by
 obtain ⟨v, h1, h2⟩ := h
 exact ⟨v, (hb.block ab h1.lt).trans h1, h2.below hB hb⟩

theorem vcc_last {w : World} {base g n cap : Nat} {ps : List Pv} (ho : w.ownsRow base 59 5 (.slice (some ⟨g, 0, none⟩) n cap) n (vcs ps)) (hn : ps.length = n) {k : Nat} (hk : k < n) :
  w.cell? ⟨g, k * 5, none⟩ = some (.int .i64 (ps.getD k z0).1.s) ∧ w.cell? ⟨g, k * 5 + 1, none⟩ = some (.int .i64 (ps.getD k z0).1.n) ∧ w.cell? ⟨g, k * 5 + 2, none⟩ = some (.slice (ps.getD k z0).2.1 (ps.getD k z0).1.past.length (ps.getD k z0).2.2) ∧
   w.cell? ⟨g, k * 5 + 3, none⟩ = some (.bool (ps.getD k z0).1.gone) ∧ w.cell? ⟨g, k * 5 + 4, none⟩ = some (.string (ps.getD k z0).1.val) := by
 have h := fun r (hr : r < 5) => (World.ownsRow.cellAt ho (k * 5 + r) (by omega)).trans (vcs_at ps k (by omega) r hr)
 exact ⟨by simpa [vcc] using h 0 (by omega), by simpa [vcc] using h 1 (by omega), by simpa [vcc] using h 2 (by omega), by simpa [vcc] using h 3 (by omega), by simpa [vcc] using h 4 (by omega)⟩

set_option maxRecDepth 100000 in
set_option maxHeartbeats 2000000 in
theorem keep_new (base B ab : Nat) (A1 : Option Addr) (c1 kp : Nat) (s vn : Int) (vp : List Sp) (vg : Bool) (vx : ByteArray) (hkp : vp.length = kp) (ps : List Pv) (w : World) (hab : base ≤ ab) (hB : B ≤ base) (hbw : base ≤ w.heap.size) (hx : Box base B ab w ps) (hp : Pa w 0 B A1 c1 ⟨s, vn, vp, vg, vx⟩) (hn : ps.length ≤ 1024)
  (hlast : 0 < ps.length → ¬ ((ps.getD (ps.length - 1) z0).1.s = s ∧ (ps.getD (ps.length - 1) z0).1.n = vn)) :
  Calls Tryz.prog 97 #[.agg #[.int .i64 s, .int .i64 vn, .slice A1 kp c1, .bool vg, .string vx], .pointer (some ⟨ab, 0, none⟩)] w
   fun e w' => e = .returned (.bool true) ∧ Box base B ab w' (ps ++ [(⟨s, vn, vp, vg, vx⟩, A1, c1)]) ∧ Below base w w' := by
 obtain ⟨i0, hi0, hz0, hz1, hz2⟩ := info_parts info_ver
 obtain ⟨v, hbox, hown⟩ := hx
 obtain ⟨ho, hpa⟩ := hown
 obtain ⟨A2, c2, rfl⟩ := own_form ho
 obtain ⟨n, hnn⟩ : ∃ n, ps.length = n := ⟨_, rfl⟩
 rw [hnn] at ho hbox hn hlast
 have hc0 := hbox.cell
 have hcells : 0 < n → ∃ g, A2 = some ⟨g, 0, none⟩ ∧ w.cell? ⟨g, (n - 1) * 5, none⟩ = some (.int .i64 (ps.getD (n - 1) z0).1.s) ∧ w.cell? ⟨g, (n - 1) * 5 + 1, none⟩ = some (.int .i64 (ps.getD (n - 1) z0).1.n) := fun h0 => by
  rcases ho.2 with ⟨_, h1⟩ | ⟨g, cap, cur, hv, _⟩
  ·omega
  ·injection hv with h1 h2 h3
   subst h1
   have := vcc_last ho hnn (show n - 1 < n by omega)
   exact ⟨g, rfl, this.1, this.2.1⟩
 have HO := Lib.hid (And.intro ho (And.intro hpa (And.intro hnn (And.intro hkp (And.intro hbox hp)))))
 have HW : Hid (∀ V nq, V = w.alloc (.cells #[.int .i64 s, .int .i64 vn, .slice A1 kp c1, .bool vg, .string vx] 59) → Boxed (V.drewN nq) ab 50 (.slice A2 n c2) ∧ (V.drewN nq).ownsRow base 59 5 (.slice A2 n c2) n (vcs ps) ∧ (∀ p ∈ ps, Pa (V.drewN nq) 0 B p.2.1 p.2.2 p.1) ∧ Pa (V.drewN nq) 0 B A1 c1 ⟨s, vn, vp, vg, vx⟩ ∧ Below base w (V.drewN nq)) := Lib.hid fun V nq hV => by
  have hb : Below w.heap.size w (V.drewN nq) := by rw [hV]; exact ((Below.refl _ w).alloc (Nat.le_refl _) _).trans (below_drewN _ _ _)
  exact ⟨(hb.block ab hbox.lt).trans hbox, own_below ho hb (Nat.le_refl _), fun p hq => (hpa p hq).below (hb.mono (by omega)), hp.below (hb.mono (by omega)), hb.mono hbw⟩
 have hlt := hbox.lt
 clear ho hpa hnn hkp hbox hp
 by_cases h0 : 0 < n
 ·obtain ⟨g, rfl, l0, l1⟩ := hcells h0
  have hl := hlast h0
  obtain ⟨us, hus⟩ : ∃ us, (ps.getD (n - 1) z0).1.s = us := ⟨_, rfl⟩
  obtain ⟨un, hun⟩ : ∃ un, (ps.getD (n - 1) z0).1.n = un := ⟨_, rfl⟩
  rw [hus] at l0 hl
  rw [hun] at l1 hl
  have HL := Lib.hid hl
  obtain ⟨ho, hbox⟩ := And.intro HO.out.1 HO.out.2.2.2.2.1
  have lg : g < w.heap.size := (ho.lt g rfl).2
  obtain ⟨W0, hW0⟩ : ∃ W0, w.alloc (.cells #[.int .i64 s, .int .i64 vn, .slice A1 kp c1, .bool vg, .string vx] 59) = W0 := ⟨_, rfl⟩
  have f0 : ((n : Int) - 1).toNat = n - 1 := by omega
  have f1 : (0 : Int) ≤ (n : Int) - 1 := by omega
  have f2 : (n : Int) - 1 < (n : Int) := by omega
  have f5 : (1 : Int) ≤ (n : Int) := by omega
  have f6 : (n : Int) ≤ (n : Int) := by omega
  have f7 : 1 ≤ n := by omega
  have f8 : ((n : Int) - 1 < (n : Int)) = True := eq_true (by omega)
  have f9 : (0 ≤ (n : Int) - 1) = True := eq_true (by omega)
  have f10 : decide ((0 : Int) ≤ (n : Int) - 1) = true := decide_eq_true (by omega)
  have f11 : decide ((1 : Int) ≤ (n : Int)) = true := decide_eq_true (by omega)
  have f12 : decide (1 ≤ n) = true := decide_eq_true (by omega)
  have f4 : IntKind.i64.wrap ((n : Int) - 1) = (n : Int) - 1 := IntWalk.i64_in _ (by omega)
  have la0 := (World.cell?_alloc_lt w (.cells #[.int .i64 s, .int .i64 vn, .slice A1 kp c1, .bool vg, .string vx] 59) ⟨g, (n - 1) * 5, none⟩ lg).trans l0
  have la1 := (World.cell?_alloc_lt w (.cells #[.int .i64 s, .int .i64 vn, .slice A1 kp c1, .bool vg, .string vx] 59) ⟨g, (n - 1) * 5 + 1, none⟩ lg).trans l1
  clear hcells hlast hl hus hun ho hbox hW0
  by_cases hs : us = s
  ·have hn2 : ¬ un = vn := fun h => HL.out ⟨hs, h⟩
   have g2 : (un == vn) = false := by simpa using hn2
   subst hs
   have g1 : (us == us) = true := by simp
   clear hn2 HL
   go_enter Tryz.func97, Tryz.ntmps97
   go_wp2_with fail
   go_quiet (fail)
   obtain ⟨hbox, ho, hpa, hp, hb⟩ := HW.out _ nq rfl
   obtain ⟨W1, hW1⟩ : ∃ W1, (w.alloc (.cells #[.int .i64 us, .int .i64 vn, .slice A1 kp c1, .bool vg, .string vx] 59)).drewN nq = W1 := ⟨_, rfl⟩
   have y0 : W1.cell? ⟨w.heap.size, 0, none⟩ = some (.int .i64 us) := by rw [← hW1]; show World.cell? (w.alloc _) _ = _; simp
   have y1 : W1.cell? ⟨w.heap.size, 1, none⟩ = some (.int .i64 vn) := by rw [← hW1]; show World.cell? (w.alloc _) _ = _; simp
   have y2 : W1.cell? ⟨w.heap.size, 2, none⟩ = some (.slice A1 kp c1) := by rw [← hW1]; show World.cell? (w.alloc _) _ = _; simp
   have y3 : W1.cell? ⟨w.heap.size, 3, none⟩ = some (.bool vg) := by rw [← hW1]; show World.cell? (w.alloc _) _ = _; simp
   have y4 : W1.cell? ⟨w.heap.size, 4, none⟩ = some (.string vx) := by rw [← hW1]; show World.cell? (w.alloc _) _ = _; simp
   rw [hW1] at hbox ho hpa hp hb ⊢
   have hcb := hbox.cell
   have hsz1 : base ≤ W1.heap.size := Nat.le_trans hbw hb.size
   have HK := Lib.hid (And.intro hbox (And.intro ho (And.intro hpa (And.intro hp hb))))
   clear hW1 hbox ho hpa hp hb hc0
   go_wp2_with (at_builtin; refine wpList_append_v _ rfl (.tmp 26) (.tmp 28) 50 rfl base 59 i0 _ 64 Tryz.underlying50 hi0 hz0 hz1 hz2 rfl (.slice (some ⟨g, 0, none⟩) n c2) n ps rfl HK.out.2.1 (⟨us, vn, vp, vg, vx⟩, A1, c1) kp HO.out.2.2.2.1 1 rfl (by omega) (by omega) hsz1 ?_; intro v3 w3 o3 g3 at3
                have hb3 := HK.out.1.kept g3 (HK.out.1.not_row (by decide) HK.out.2.1)
                have hc3 := hb3.cell
                have hf3 := hb3.frozen
                obtain ⟨A3, c3, rfl⟩ := own_form o3
                have K3 := Lib.hid (And.intro hb3 (And.intro o3 g3))
                clear hb3 o3 g3 at3)
   obtain ⟨hb3, o3, g3⟩ := K3.out
   have hlt3 := fun k hk => (HK.out.2.1.lt k hk).1
   have gs := grownBy_setCell' w3 ab (.slice A3 (n + 1) c3)
   have o4 := World.ownsRow.kept o3 gs (.inr (hb3.not_row (by decide) o3).symm)
   have hres : Box base B ab (w3.setCell ⟨ab, 0, none⟩ (.slice A3 (n + 1) c3)) (ps ++ [(⟨us, vn, vp, vg, vx⟩, A1, c1)]) := ⟨_, hb3.set _, by rw [List.length_append, HO.out.2.2.1]; exact o4, fun q hq => by
    have key : ∀ A c v, Pa W1 0 B A c v → Pa (w3.setCell ⟨ab, 0, none⟩ (.slice A3 (n + 1) c3)) 0 B A c v := fun A c v h => h.keep fun a _ ha => by
     have h1 : w3.cell? a = W1.cell? a := World.cell?_of_block (g3.block a.block (by omega) (fun e => by have := hlt3 _ e.symm; omega))
     rw [← h1]
     exact World.cell?_of_block (Below.heap_setCell _ _ _ _ (by simp only; omega))
    rcases List.mem_append.1 hq with hq | hq
    ·exact key _ _ _ (HK.out.2.2.1 q hq)
    ·rw [List.mem_singleton.1 hq]; exact key _ _ _ HK.out.2.2.2.1⟩
   have hbel : Below base w (w3.setCell ⟨ab, 0, none⟩ (.slice A3 (n + 1) c3)) := (HK.out.2.2.2.2.grown g3 hsz1 hlt3).setCell (by exact hab) _
   have HFIN := Lib.hid (And.intro hres hbel)
   clear hb3 o3 g3 hlt3 gs o4 hres hbel K3 HK HW HO
   go_wp2_with fail
   go_ret
   exact ⟨rfl, HFIN.out⟩
  ·have g1 : (us == s) = false := by simpa using hs
   clear hs HL
   go_enter Tryz.func97, Tryz.ntmps97
   go_wp2_with fail
   go_quiet (fail)
   obtain ⟨hbox, ho, hpa, hp, hb⟩ := HW.out _ nq rfl
   obtain ⟨W1, hW1⟩ : ∃ W1, (w.alloc (.cells #[.int .i64 s, .int .i64 vn, .slice A1 kp c1, .bool vg, .string vx] 59)).drewN nq = W1 := ⟨_, rfl⟩
   have y0 : W1.cell? ⟨w.heap.size, 0, none⟩ = some (.int .i64 s) := by rw [← hW1]; show World.cell? (w.alloc _) _ = _; simp
   have y1 : W1.cell? ⟨w.heap.size, 1, none⟩ = some (.int .i64 vn) := by rw [← hW1]; show World.cell? (w.alloc _) _ = _; simp
   have y2 : W1.cell? ⟨w.heap.size, 2, none⟩ = some (.slice A1 kp c1) := by rw [← hW1]; show World.cell? (w.alloc _) _ = _; simp
   have y3 : W1.cell? ⟨w.heap.size, 3, none⟩ = some (.bool vg) := by rw [← hW1]; show World.cell? (w.alloc _) _ = _; simp
   have y4 : W1.cell? ⟨w.heap.size, 4, none⟩ = some (.string vx) := by rw [← hW1]; show World.cell? (w.alloc _) _ = _; simp
   rw [hW1] at hbox ho hpa hp hb ⊢
   have hcb := hbox.cell
   have hsz1 : base ≤ W1.heap.size := Nat.le_trans hbw hb.size
   have HK := Lib.hid (And.intro hbox (And.intro ho (And.intro hpa (And.intro hp hb))))
   clear hW1 hbox ho hpa hp hb hc0
   go_wp2_with (at_builtin; refine wpList_append_v _ rfl (.tmp 26) (.tmp 28) 50 rfl base 59 i0 _ 64 Tryz.underlying50 hi0 hz0 hz1 hz2 rfl (.slice (some ⟨g, 0, none⟩) n c2) n ps rfl HK.out.2.1 (⟨s, vn, vp, vg, vx⟩, A1, c1) kp HO.out.2.2.2.1 1 rfl (by omega) (by omega) hsz1 ?_; intro v3 w3 o3 g3 at3
                have hb3 := HK.out.1.kept g3 (HK.out.1.not_row (by decide) HK.out.2.1)
                have hc3 := hb3.cell
                have hf3 := hb3.frozen
                obtain ⟨A3, c3, rfl⟩ := own_form o3
                have K3 := Lib.hid (And.intro hb3 (And.intro o3 g3))
                clear hb3 o3 g3 at3)
   obtain ⟨hb3, o3, g3⟩ := K3.out
   have hlt3 := fun k hk => (HK.out.2.1.lt k hk).1
   have gs := grownBy_setCell' w3 ab (.slice A3 (n + 1) c3)
   have o4 := World.ownsRow.kept o3 gs (.inr (hb3.not_row (by decide) o3).symm)
   have hres : Box base B ab (w3.setCell ⟨ab, 0, none⟩ (.slice A3 (n + 1) c3)) (ps ++ [(⟨s, vn, vp, vg, vx⟩, A1, c1)]) := ⟨_, hb3.set _, by rw [List.length_append, HO.out.2.2.1]; exact o4, fun q hq => by
    have key : ∀ A c v, Pa W1 0 B A c v → Pa (w3.setCell ⟨ab, 0, none⟩ (.slice A3 (n + 1) c3)) 0 B A c v := fun A c v h => h.keep fun a _ ha => by
     have h1 : w3.cell? a = W1.cell? a := World.cell?_of_block (g3.block a.block (by omega) (fun e => by have := hlt3 _ e.symm; omega))
     rw [← h1]
     exact World.cell?_of_block (Below.heap_setCell _ _ _ _ (by simp only; omega))
    rcases List.mem_append.1 hq with hq | hq
    ·exact key _ _ _ (HK.out.2.2.1 q hq)
    ·rw [List.mem_singleton.1 hq]; exact key _ _ _ HK.out.2.2.2.1⟩
   have hbel : Below base w (w3.setCell ⟨ab, 0, none⟩ (.slice A3 (n + 1) c3)) := (HK.out.2.2.2.2.grown g3 hsz1 hlt3).setCell (by exact hab) _
   have HFIN := Lib.hid (And.intro hres hbel)
   clear hb3 o3 g3 hlt3 gs o4 hres hbel K3 HK HW HO
   go_wp2_with fail
   go_ret
   exact ⟨rfl, HFIN.out⟩
 ·obtain rfl : n = 0 := by omega
  have z0 : ((0 : Nat) : Int) = 0 := rfl
  clear hcells hlast
  go_enter Tryz.func97, Tryz.ntmps97
  go_wp2_with fail
  go_quiet (fail)
  obtain ⟨hbox, ho, hpa, hp, hb⟩ := HW.out _ nq rfl
  obtain ⟨W1, hW1⟩ : ∃ W1, (w.alloc (.cells #[.int .i64 s, .int .i64 vn, .slice A1 kp c1, .bool vg, .string vx] 59)).drewN nq = W1 := ⟨_, rfl⟩
  have y0 : W1.cell? ⟨w.heap.size, 0, none⟩ = some (.int .i64 s) := by rw [← hW1]; show World.cell? (w.alloc _) _ = _; simp
  have y1 : W1.cell? ⟨w.heap.size, 1, none⟩ = some (.int .i64 vn) := by rw [← hW1]; show World.cell? (w.alloc _) _ = _; simp
  have y2 : W1.cell? ⟨w.heap.size, 2, none⟩ = some (.slice A1 kp c1) := by rw [← hW1]; show World.cell? (w.alloc _) _ = _; simp
  have y3 : W1.cell? ⟨w.heap.size, 3, none⟩ = some (.bool vg) := by rw [← hW1]; show World.cell? (w.alloc _) _ = _; simp
  have y4 : W1.cell? ⟨w.heap.size, 4, none⟩ = some (.string vx) := by rw [← hW1]; show World.cell? (w.alloc _) _ = _; simp
  rw [hW1] at hbox ho hpa hp hb ⊢
  have hcb := hbox.cell
  have hsz1 : base ≤ W1.heap.size := Nat.le_trans hbw hb.size
  have HK := Lib.hid (And.intro hbox (And.intro ho (And.intro hpa (And.intro hp hb))))
  clear hW1 hbox ho hpa hp hb hc0
  go_wp2_with (at_builtin; refine wpList_append_v _ rfl (.tmp 26) (.tmp 28) 50 rfl base 59 i0 _ 64 Tryz.underlying50 hi0 hz0 hz1 hz2 rfl (.slice A2 0 c2) 0 ps rfl HK.out.2.1 (⟨s, vn, vp, vg, vx⟩, A1, c1) kp HO.out.2.2.2.1 1 rfl (by omega) (by omega) hsz1 ?_; intro v3 w3 o3 g3 at3
               have hb3 := HK.out.1.kept g3 (HK.out.1.not_row (by decide) HK.out.2.1)
               have hc3 := hb3.cell
               have hf3 := hb3.frozen
               obtain ⟨A3, c3, rfl⟩ := own_form o3
               have K3 := Lib.hid (And.intro hb3 (And.intro o3 g3))
               clear hb3 o3 g3 at3)
  obtain ⟨hb3, o3, g3⟩ := K3.out
  have hlt3 := fun k hk => (HK.out.2.1.lt k hk).1
  have gs := grownBy_setCell' w3 ab (.slice A3 (0 + 1) c3)
  have o4 := World.ownsRow.kept o3 gs (.inr (hb3.not_row (by decide) o3).symm)
  have hres : Box base B ab (w3.setCell ⟨ab, 0, none⟩ (.slice A3 (0 + 1) c3)) (ps ++ [(⟨s, vn, vp, vg, vx⟩, A1, c1)]) := ⟨_, hb3.set _, by rw [List.length_append, HO.out.2.2.1]; exact o4, fun q hq => by
   have key : ∀ A c v, Pa W1 0 B A c v → Pa (w3.setCell ⟨ab, 0, none⟩ (.slice A3 (0 + 1) c3)) 0 B A c v := fun A c v h => h.keep fun a _ ha => by
    have h1 : w3.cell? a = W1.cell? a := World.cell?_of_block (g3.block a.block (by omega) (fun e => by have := hlt3 _ e.symm; omega))
    rw [← h1]
    exact World.cell?_of_block (Below.heap_setCell _ _ _ _ (by simp only; omega))
   rcases List.mem_append.1 hq with hq | hq
   ·exact key _ _ _ (HK.out.2.2.1 q hq)
   ·rw [List.mem_singleton.1 hq]; exact key _ _ _ HK.out.2.2.2.1⟩
  have hbel : Below base w (w3.setCell ⟨ab, 0, none⟩ (.slice A3 (0 + 1) c3)) := (HK.out.2.2.2.2.grown g3 hsz1 hlt3).setCell (by exact hab) _
  have HFIN := Lib.hid (And.intro hres hbel)
  clear hb3 o3 g3 hlt3 gs o4 hres hbel K3 HK HW HO
  go_wp2_with fail
  go_ret
  exact ⟨rfl, HFIN.out⟩

set_option maxRecDepth 100000 in
set_option maxHeartbeats 2000000 in
theorem keep_old (base B ab : Nat) (A1 : Option Addr) (c1 kp : Nat) (s vn : Int) (vp : List Sp) (vg : Bool) (vx : ByteArray) (hkp : vp.length = kp) (ps : List Pv) (w : World) (hB : B ≤ w.heap.size) (hx : Box base B ab w ps) (hp : Pa w 0 B A1 c1 ⟨s, vn, vp, vg, vx⟩) (hn : ps.length ≤ 1024)
  (h0 : 0 < ps.length) (hlast : (ps.getD (ps.length - 1) z0).1.s = s ∧ (ps.getD (ps.length - 1) z0).1.n = vn) :
  Calls Tryz.prog 97 #[.agg #[.int .i64 s, .int .i64 vn, .slice A1 kp c1, .bool vg, .string vx], .pointer (some ⟨ab, 0, none⟩)] w
   fun e w' => e = .returned (.bool (decide ((ps.getD (ps.length - 1) z0).1 = (⟨s, vn, vp, vg, vx⟩ : Vr)))) ∧ Below w.heap.size w w' := by
 obtain ⟨v, hbox, hown⟩ := hx
 obtain ⟨ho, hpa⟩ := hown
 obtain ⟨A2, c2, rfl⟩ := own_form ho
 obtain ⟨n, hnn⟩ : ∃ n, ps.length = n := ⟨_, rfl⟩
 rw [hnn] at ho hbox hn hlast h0 ⊢
 have hc0 := hbox.cell
 rcases ho.2 with ⟨_, h1⟩ | ⟨g, cap, cur, hv, _⟩
 ·omega
 injection hv with h1 h2 h3
 subst h1
 have hcl := vcc_last ho hnn (show n - 1 < n by omega)
 have hmem : ps.getD (n - 1) z0 ∈ ps := by
  rw [List.getD_eq_getElem?_getD, List.getElem?_eq_getElem (by omega)]
  exact List.getElem_mem _
 have hpu := hpa _ hmem
 obtain ⟨⟨u, A3, c3⟩, hu⟩ : ∃ u, ps.getD (n - 1) z0 = u := ⟨_, rfl⟩
 rw [hu] at hcl hpu hlast ⊢
 obtain ⟨us, un, up, ug, ux⟩ := u
 simp only at hcl hpu hlast ⊢
 obtain ⟨rfl, rfl⟩ := hlast
 obtain ⟨l0, l1, l2, l3, l4⟩ := hcl
 obtain ⟨ku, hku⟩ : ∃ ku, up.length = ku := ⟨_, rfl⟩
 rw [hku] at l2
 have lg : g < w.heap.size := (ho.lt g rfl).2
 have lab := hbox.lt
 obtain ⟨R, hR⟩ : ∃ R, decide ((⟨us, un, up, ug, ux⟩ : Vr) = ⟨us, un, vp, vg, vx⟩) = R := ⟨_, rfl⟩
 have h5 := fun W (hW : Below w.heap.size w W) => sameone_any A3 A1 c3 c1 ku kp us un us un up vp ug vg ux vx hku hkp W (((hpu.1.more hB).below hW).more hW.size) (((hp.1.more hB).below hW).more hW.size) (by rw [← hku]; exact hpu.2.2.1) (by rw [← hkp]; exact hp.2.2.1)
 rw [hR] at h5 ⊢
 have H5 := Lib.hid h5
 have f0 : ((n : Int) - 1).toNat = n - 1 := by omega
 have f1 : (0 : Int) ≤ (n : Int) - 1 := by omega
 have f2 : (n : Int) - 1 < (n : Int) := by omega
 have f5 : (1 : Int) ≤ (n : Int) := by omega
 have f6 : (n : Int) ≤ (n : Int) := by omega
 have f7 : 1 ≤ n := by omega
 have f8 : ((n : Int) - 1 < (n : Int)) = True := eq_true (by omega)
 have f9 : (0 ≤ (n : Int) - 1) = True := eq_true (by omega)
 have f10 : decide ((0 : Int) ≤ (n : Int) - 1) = true := decide_eq_true (by omega)
 have f11 : decide ((1 : Int) ≤ (n : Int)) = true := decide_eq_true (by omega)
 have f12 : decide (1 ≤ n) = true := decide_eq_true (by omega)
 have f4 : IntKind.i64.wrap ((n : Int) - 1) = (n : Int) - 1 := IntWalk.i64_in _ (by omega)
 have g1 : (us == us) = true := by simp
 have g2 : (un == un) = true := by simp
 have al := fun o (hb : o < w.heap.size) k => World.cell?_alloc_lt w (.cells #[.int .i64 us, .int .i64 un, .slice A1 kp c1, .bool vg, .string vx] 59) ⟨o, k, none⟩ hb
 have la0 := (al g lg _).trans l0
 have la1 := (al g lg _).trans l1
 have la2 := (al g lg _).trans l2
 have la3 := (al g lg _).trans l3
 have la4 := (al g lg _).trans l4
 have lac := (al ab lab 0).trans hc0
 have hbW : Below w.heap.size w (w.alloc (.cells #[.int .i64 us, .int .i64 un, .slice A1 kp c1, .bool vg, .string vx] 59)) := (Below.refl _ w).alloc (Nat.le_refl _) _
 have HBW := Lib.hid hbW
 have lm : w.heap.size < (w.alloc (.cells #[.int .i64 us, .int .i64 un, .slice A1 kp c1, .bool vg, .string vx] 59)).heap.size := by simp
 have lmg : g < (w.alloc (.cells #[.int .i64 us, .int .i64 un, .slice A1 kp c1, .bool vg, .string vx] 59)).heap.size := by simp; omega
 have lma : ab < (w.alloc (.cells #[.int .i64 us, .int .i64 un, .slice A1 kp c1, .bool vg, .string vx] 59)).heap.size := by simp; omega
 have LL := Lib.hid (And.intro lm (And.intro lmg lma))
 clear ho hpa hmem hpu hu hku hkp h5 hR hbox hnn h2 h3 al hp hbW lm lmg lma l0 l1 l2 l3 l4 hc0
 go_enter Tryz.func97, Tryz.ntmps97
 go_wp2_with fail
 go_quiet (fail)
 go_wp2_with fail
 obtain ⟨W1, hW1⟩ : ∃ W1, (w.alloc (.cells #[.int .i64 us, .int .i64 un, .slice A1 kp c1, .bool vg, .string vx] 59)).drewN nq = W1 := ⟨_, rfl⟩
 have y : W1.cell? ⟨w.heap.size, 0, none⟩ = some (.int .i64 us) ∧ W1.cell? ⟨w.heap.size, 1, none⟩ = some (.int .i64 un) ∧ W1.cell? ⟨w.heap.size, 2, none⟩ = some (.slice A1 kp c1) ∧ W1.cell? ⟨w.heap.size, 3, none⟩ = some (.bool vg) ∧ W1.cell? ⟨w.heap.size, 4, none⟩ = some (.string vx) := by
  rw [← hW1]
  refine ⟨?_, ?_, ?_, ?_, ?_⟩ <;> (show World.cell? (w.alloc _) _ = _; simp)
 have z : W1.cell? ⟨g, (n - 1) * 5, none⟩ = some (.int .i64 us) ∧ W1.cell? ⟨g, (n - 1) * 5 + 1, none⟩ = some (.int .i64 un) ∧ W1.cell? ⟨g, (n - 1) * 5 + 2, none⟩ = some (.slice A3 ku c3) ∧ W1.cell? ⟨g, (n - 1) * 5 + 3, none⟩ = some (.bool ug) ∧ W1.cell? ⟨g, (n - 1) * 5 + 4, none⟩ = some (.string ux) := by
  rw [← hW1]; exact ⟨la0, la1, la2, la3, la4⟩
 have zc : W1.cell? ⟨ab, 0, none⟩ = some (.slice (some ⟨g, 0, none⟩) n c2) := by rw [← hW1]; exact lac
 have hb1 : Below w.heap.size w W1 := by rw [← hW1]; exact HBW.out.trans (below_drewN _ _ _)
 have l1 : w.heap.size < W1.heap.size := by rw [← hW1]; exact LL.out.1
 have l2 : g < W1.heap.size := by rw [← hW1]; exact LL.out.2.1
 have l3 : ab < W1.heap.size := by rw [← hW1]; exact LL.out.2.2
 have H6 := Lib.hid (H5.out W1.drew hb1.drew)
 rw [hW1]
 clear hW1 la0 la1 la2 la3 la4 lac H5
 obtain ⟨m, hm⟩ : ∃ m, w.heap.size = m := ⟨_, rfl⟩
 have HFIN : Hid (∀ V, Below W1.heap.size W1.drew V → Below w.heap.size w V) := Lib.hid fun V hV => hb1.drew.trans (hV.mono hb1.size)
 rw [hm] at y l1 ⊢
 clear hm
 go_region_held3 (fun V => V.cell? ⟨ab, 0, none⟩ = some (.slice (some ⟨g, 0, none⟩) n c2) ∧ V.cell? ⟨g, (n - 1) * 5, none⟩ = some (.int .i64 us) ∧ V.cell? ⟨g, (n - 1) * 5 + 1, none⟩ = some (.int .i64 un) ∧ V.cell? ⟨g, (n - 1) * 5 + 2, none⟩ = some (.slice A3 ku c3) ∧ V.cell? ⟨g, (n - 1) * 5 + 3, none⟩ = some (.bool ug) ∧ V.cell? ⟨g, (n - 1) * 5 + 4, none⟩ = some (.string ux) ∧
   V.cell? ⟨m, 0, none⟩ = some (.int .i64 us) ∧ V.cell? ⟨m, 1, none⟩ = some (.int .i64 un) ∧ V.cell? ⟨m, 2, none⟩ = some (.slice A1 kp c1) ∧ V.cell? ⟨m, 3, none⟩ = some (.bool vg) ∧ V.cell? ⟨m, 4, none⟩ = some (.string vx))
  (first | exact ⟨zc, z.1, z.2.1, z.2.2.1, z.2.2.2.1, z.2.2.2.2, y⟩ | exact ⟨cell_below b3 l3 zc, cell_below b3 l2 z.1, cell_below b3 l2 z.2.1, cell_below b3 l2 z.2.2.1, cell_below b3 l2 z.2.2.2.1, cell_below b3 l2 z.2.2.2.2, five_below (by exact l1) b3 y⟩)
  (first | (go_at_call 78; refine H6.out.mono ?_; rintro e w3 ⟨rfl, b3⟩))
 have BE := HFIN.out _ b3
 clear b3 HFIN
 go_wp2_with fail
 go_ret
 exact ⟨rfl, BE⟩
end Vers
end Go.Proofs.YtekhaejhmlebbaaGreat

/-
 A slice of versions without its first one.
-/
namespace Go.Proofs.YtekhaejhmlebbaaGreat
namespace Vers
open Go.RowKit Span

theorem vs_head {w : World} {L B : Nat} {A : Option Addr} {x : Vr} {l : List Vr} (h : Vs w L B A (x :: l)) : ∃ b off A1 c1, A = some ⟨b, off, none⟩ ∧ b < B ∧ Vat w L B b off x A1 c1 := by
 obtain ⟨b, off, rfl, _, hb, hc⟩ := h (by simp)
 obtain ⟨A1, c1, h1⟩ := hc 0 (by simp)
 exact ⟨b, off, A1, c1, rfl, hb, by simpa using h1⟩
theorem vs_tail {w : World} {L B b off : Nat} {x : Vr} {l : List Vr} (h : Vs w L B (some ⟨b, off, none⟩) (x :: l)) : Vs w L B (some ⟨b, off + 5, none⟩) l := by
 have := h.drop 1
 simpa using this

theorem elem_vers : Tryz.prog.underlying 50 = some (.slice (Tryz.prog.elem 50)) := by kernel_rfl
theorem slice_tail (b off k c : Nat) (h : k + 1 ≤ c) : ∃ Ax cx, (∀ V, (Instr.slice 50 (.slice (some ⟨b, off, none⟩) (k + 1) c) (some (.int .i64 1)) none none).run Tryz.prog V = .ok (.slice Ax k cx) V) ∧ k ≤ cx ∧
  ∀ w L B x l, l.length = k → Vs w L B (some ⟨b, off, none⟩) (x :: l) → Vs w L B Ax l := by
 obtain ⟨i0, hi0, hz0, hz1, hz2⟩ := info_parts info_ver
 refine ⟨if c = 1 then some ⟨b, off, none⟩ else some ⟨b, off + 5, none⟩, c - 1, fun V => ?_, by omega, fun w L B x l hl hv => ?_⟩
 ·have hs := run_slice_l (P := Tryz.prog) V 50 (some ⟨b, off, none⟩) (k + 1) c elem_vers .i64 1 (by omega) (by omega)
  rw [hs]
  have he : Tryz.prog.elem 50 = 59 := by kernel_rfl
  have ha : (⟨b, off, none⟩ : Addr).add 5 = ⟨b, off + 5, none⟩ := add_plain _ _ _
  rw [he]
  simp only [sizeOf, typeInfo, Sem.run_bind, Sem.run_pure, sliced, Option.map_some, Int.toNat_one, Nat.one_mul, Nat.add_sub_cancel]
  simp [go_sem, hi0, hz1]
 ·split
  ·have : l = [] := List.eq_nil_of_length_eq_zero (by omega)
   subst this
   exact Vs.nil _
  ·exact vs_tail hv

section
variable {V : World} {m b o : Nat} {u0 u1 u2 u3 u4 : Value}
def put5 (V : World) (m : Nat) (u0 u1 u2 u3 u4 : Value) : World := (((((V.setCell ⟨m, 0, none⟩ u0).setCell ⟨m, 1, none⟩ u1).setCell ⟨m, 2, none⟩ u2).setCell ⟨m, 3, none⟩ u3).setCell ⟨m, 4, none⟩ u4).drew
theorem drew_heap (X : World) : X.drew.heap = X.heap := rfl
theorem drew_cell (X : World) (a : Addr) : X.drew.cell? a = X.cell? a := rfl
theorem setCell_size (X : World) (a : Addr) (v : Value) : (X.setCell a v).heap.size = X.heap.size := by simp [World.setCell]
theorem below_set (X : World) (k r : Nat) (v : Value) : Below k X (X.setCell ⟨k, r, none⟩ v) := (Below.refl k X).setCell (Nat.le_refl _) v
theorem off_ne (X : World) (m i j : Nat) (v : Value) (h : i ≠ j) : (X.setCell ⟨m, i, none⟩ v).cell? ⟨m, j, none⟩ = X.cell? ⟨m, j, none⟩ := by apply World.cell?_setCell_other; intro e; apply h; injection e
theorem put5_heap {k : Nat} (h : k ≠ m) : (put5 V m u0 u1 u2 u3 u4).heap[k]? = V.heap[k]? := by
 unfold put5
 rw [drew_heap, Below.heap_setCell _ _ _ _ h, Below.heap_setCell _ _ _ _ h, Below.heap_setCell _ _ _ _ h, Below.heap_setCell _ _ _ _ h, Below.heap_setCell _ _ _ _ h]
theorem put5_size : (put5 V m u0 u1 u2 u3 u4).heap.size = V.heap.size := by
 unfold put5
 rw [drew_heap, setCell_size, setCell_size, setCell_size, setCell_size, setCell_size]
theorem put5_below : Below m V (put5 V m u0 u1 u2 u3 u4) := by
 unfold put5
 exact (((((below_set V m 0 u0).trans (below_set _ m 1 u1)).trans (below_set _ m 2 u2)).trans (below_set _ m 3 u3)).trans (below_set _ m 4 u4)).drew
theorem put5_far {x0 x1 x2 x3 x4 : Option Value} (hne : b ≠ m)
  (h : V.cell? ⟨b, o, none⟩ = x0 ∧ V.cell? ⟨b, o + 1, none⟩ = x1 ∧ V.cell? ⟨b, o + 2, none⟩ = x2 ∧ V.cell? ⟨b, o + 3, none⟩ = x3 ∧ V.cell? ⟨b, o + 4, none⟩ = x4) :
  (put5 V m u0 u1 u2 u3 u4).cell? ⟨b, o, none⟩ = x0 ∧ (put5 V m u0 u1 u2 u3 u4).cell? ⟨b, o + 1, none⟩ = x1 ∧ (put5 V m u0 u1 u2 u3 u4).cell? ⟨b, o + 2, none⟩ = x2 ∧ (put5 V m u0 u1 u2 u3 u4).cell? ⟨b, o + 3, none⟩ = x3 ∧ (put5 V m u0 u1 u2 u3 u4).cell? ⟨b, o + 4, none⟩ = x4 := by
 have key : ∀ k, (put5 V m u0 u1 u2 u3 u4).cell? ⟨b, k, none⟩ = V.cell? ⟨b, k, none⟩ := fun k => World.cell?_of_block (put5_heap hne)
 exact ⟨(key _).trans h.1, (key _).trans h.2.1, (key _).trans h.2.2.1, (key _).trans h.2.2.2.1, (key _).trans h.2.2.2.2⟩
theorem put5_new {z0 z1 z2 z3 z4 : Value} (h : V.cell? ⟨m, 0, none⟩ = some z0 ∧ V.cell? ⟨m, 1, none⟩ = some z1 ∧ V.cell? ⟨m, 2, none⟩ = some z2 ∧ V.cell? ⟨m, 3, none⟩ = some z3 ∧ V.cell? ⟨m, 4, none⟩ = some z4) :
  (put5 V m u0 u1 u2 u3 u4).cell? ⟨m, 0, none⟩ = some u0 ∧ (put5 V m u0 u1 u2 u3 u4).cell? ⟨m, 1, none⟩ = some u1 ∧ (put5 V m u0 u1 u2 u3 u4).cell? ⟨m, 2, none⟩ = some u2 ∧ (put5 V m u0 u1 u2 u3 u4).cell? ⟨m, 3, none⟩ = some u3 ∧ (put5 V m u0 u1 u2 u3 u4).cell? ⟨m, 4, none⟩ = some u4 := by
 have e : ∀ a, (put5 V m u0 u1 u2 u3 u4).cell? a = (((((V.setCell ⟨m, 0, none⟩ u0).setCell ⟨m, 1, none⟩ u1).setCell ⟨m, 2, none⟩ u2).setCell ⟨m, 3, none⟩ u3).setCell ⟨m, 4, none⟩ u4).cell? a := fun a => by unfold put5; rw [drew_cell]
 obtain ⟨h0, h1, h2, h3, h4⟩ := h
 have s0 : (V.setCell ⟨m, 0, none⟩ u0).cell? ⟨m, 0, none⟩ = some u0 := World.cell?_setCell_same' _ _ _ (by rw [h0]; rfl)
 have s1 : ((V.setCell ⟨m, 0, none⟩ u0).setCell ⟨m, 1, none⟩ u1).cell? ⟨m, 1, none⟩ = some u1 := World.cell?_setCell_same' _ _ _ (by rw [off_ne _ _ _ _ _ (by omega), h1]; rfl)
 have s2 : (((V.setCell ⟨m, 0, none⟩ u0).setCell ⟨m, 1, none⟩ u1).setCell ⟨m, 2, none⟩ u2).cell? ⟨m, 2, none⟩ = some u2 := World.cell?_setCell_same' _ _ _ (by rw [off_ne _ _ _ _ _ (by omega), off_ne _ _ _ _ _ (by omega), h2]; rfl)
 have s3 : ((((V.setCell ⟨m, 0, none⟩ u0).setCell ⟨m, 1, none⟩ u1).setCell ⟨m, 2, none⟩ u2).setCell ⟨m, 3, none⟩ u3).cell? ⟨m, 3, none⟩ = some u3 := World.cell?_setCell_same' _ _ _ (by rw [off_ne _ _ _ _ _ (by omega), off_ne _ _ _ _ _ (by omega), off_ne _ _ _ _ _ (by omega), h3]; rfl)
 have s4 : (((((V.setCell ⟨m, 0, none⟩ u0).setCell ⟨m, 1, none⟩ u1).setCell ⟨m, 2, none⟩ u2).setCell ⟨m, 3, none⟩ u3).setCell ⟨m, 4, none⟩ u4).cell? ⟨m, 4, none⟩ = some u4 := World.cell?_setCell_same' _ _ _ (by rw [off_ne _ _ _ _ _ (by omega), off_ne _ _ _ _ _ (by omega), off_ne _ _ _ _ _ (by omega), off_ne _ _ _ _ _ (by omega), h4]; rfl)
 refine ⟨?_, ?_, ?_, ?_, ?_⟩
 ·rw [e, off_ne _ _ _ _ _ (by omega), off_ne _ _ _ _ _ (by omega), off_ne _ _ _ _ _ (by omega), off_ne _ _ _ _ _ (by omega), s0]
 ·rw [e, off_ne _ _ _ _ _ (by omega), off_ne _ _ _ _ _ (by omega), off_ne _ _ _ _ _ (by omega), s1]
 ·rw [e, off_ne _ _ _ _ _ (by omega), off_ne _ _ _ _ _ (by omega), s2]
 ·rw [e, off_ne _ _ _ _ _ (by omega), s3]
 ·rw [e, s4]
theorem put5_far_lit {x0 x1 x2 x3 x4 : Option Value} (hne : b ≠ m)
  (h : V.cell? ⟨b, o, none⟩ = x0 ∧ V.cell? ⟨b, o + 1, none⟩ = x1 ∧ V.cell? ⟨b, o + 2, none⟩ = x2 ∧ V.cell? ⟨b, o + 3, none⟩ = x3 ∧ V.cell? ⟨b, o + 4, none⟩ = x4) :
  ((((((V.setCell ⟨m, 0, none⟩ u0).setCell ⟨m, 1, none⟩ u1).setCell ⟨m, 2, none⟩ u2).setCell ⟨m, 3, none⟩ u3).setCell ⟨m, 4, none⟩ u4).drew).cell? ⟨b, o, none⟩ = x0 ∧ ((((((V.setCell ⟨m, 0, none⟩ u0).setCell ⟨m, 1, none⟩ u1).setCell ⟨m, 2, none⟩ u2).setCell ⟨m, 3, none⟩ u3).setCell ⟨m, 4, none⟩ u4).drew).cell? ⟨b, o + 1, none⟩ = x1 ∧ ((((((V.setCell ⟨m, 0, none⟩ u0).setCell ⟨m, 1, none⟩ u1).setCell ⟨m, 2, none⟩ u2).setCell ⟨m, 3, none⟩ u3).setCell ⟨m, 4, none⟩ u4).drew).cell? ⟨b, o + 2, none⟩ = x2 ∧ ((((((V.setCell ⟨m, 0, none⟩ u0).setCell ⟨m, 1, none⟩ u1).setCell ⟨m, 2, none⟩ u2).setCell ⟨m, 3, none⟩ u3).setCell ⟨m, 4, none⟩ u4).drew).cell? ⟨b, o + 3, none⟩ = x3 ∧ ((((((V.setCell ⟨m, 0, none⟩ u0).setCell ⟨m, 1, none⟩ u1).setCell ⟨m, 2, none⟩ u2).setCell ⟨m, 3, none⟩ u3).setCell ⟨m, 4, none⟩ u4).drew).cell? ⟨b, o + 4, none⟩ = x4 := put5_far hne h
theorem five_drew {x0 x1 x2 x3 x4 : Option Value}
  (h : V.cell? ⟨b, o, none⟩ = x0 ∧ V.cell? ⟨b, o + 1, none⟩ = x1 ∧ V.cell? ⟨b, o + 2, none⟩ = x2 ∧ V.cell? ⟨b, o + 3, none⟩ = x3 ∧ V.cell? ⟨b, o + 4, none⟩ = x4) :
  V.drew.cell? ⟨b, o, none⟩ = x0 ∧ V.drew.cell? ⟨b, o + 1, none⟩ = x1 ∧ V.drew.cell? ⟨b, o + 2, none⟩ = x2 ∧ V.drew.cell? ⟨b, o + 3, none⟩ = x3 ∧ V.drew.cell? ⟨b, o + 4, none⟩ = x4 := h
theorem put5_lit : (((((V.setCell ⟨m, 0, none⟩ u0).setCell ⟨m, 1, none⟩ u1).setCell ⟨m, 2, none⟩ u2).setCell ⟨m, 3, none⟩ u3).setCell ⟨m, 4, none⟩ u4).drew = put5 V m u0 u1 u2 u3 u4 := rfl
end
end Vers
end Go.Proofs.YtekhaejhmlebbaaGreat
