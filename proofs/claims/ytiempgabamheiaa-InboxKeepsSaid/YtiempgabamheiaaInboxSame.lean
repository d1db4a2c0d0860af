/-
  Whether two far writes are the same, whether two lists of them are (the law's own words).
-/
import Derived.Test.YtiempgabamheiaaInboxRefClean
import Derived.Test.YtiempgabamheiaaInboxWaits
import Derived.Test.YtiempgabamheiaaCodeSame
namespace Go.Proofs.Ytiempgabamheiaa
namespace Inbox
open Go.RowKit Vers Span Blk
attribute [local go_sem ↓] Go.wp_at_zero Go.wp_at_succ

/-- A record that was laid in a block of its own. -/
theorem rs_one {w : World} {b m c : Nat} {key : ByteArray} {A : Option Addr} {l : List Vr} (hB : Bn b 32 [.string key, .slice A m c] w) (hm : l.length = m) (hc : m ≤ c) (h1 : m ≤ 140737488355328) (h2 : key.size ≤ 140737488355328) (hv : Vs w 0 w.heap.size A l) : Code.Rs w 0 w.heap.size (some ⟨b, 0, none⟩) [(key, l)] := fun _ => by
  refine ⟨b, 0, rfl, Nat.zero_le _, hB.lt, fun j hj => ?_⟩
  obtain rfl : j = 0 := by simpa using hj
  subst hm
  exact ⟨A, c, (hB.cell 0).trans rfl, (hB.cell 1).trans rfl, hv, hc, h1, h2⟩
set_option maxRecDepth 100000 in
set_option maxHeartbeats 1000000 in
theorem same_far (fr sq : Int) (key : ByteArray) (Av : Option Addr) (cv m : Nat) (lv : List Vr) (Ar : Option Addr) (cr kr : Nat) (rt : List Int) (hm : lv.length = m) (hmc : m ≤ cv) (hkr : rt.length = kr) (hz : SzF ((fr, sq), (key, lv), rt))
    (fr' sq' : Int) (key' : ByteArray) (Av' : Option Addr) (cv' m' : Nat) (lv' : List Vr) (Ar' : Option Addr) (cr' kr' : Nat) (rt' : List Int) (hm' : lv'.length = m') (hmc' : m' ≤ cv') (hkr' : rt'.length = kr') (hz' : SzF ((fr', sq'), (key', lv'), rt')) (w : World)
    (hv : Vs w 0 w.heap.size Av lv) (hr : Ns .i64 w w.heap.size Ar rt) (hv' : Vs w 0 w.heap.size Av' lv') (hr' : Ns .i64 w w.heap.size Ar' rt') :
    Calls Try.prog 15 #[.agg #[.int .i64 fr, .int .i64 sq, .string key, .slice Av m cv, .slice Ar kr cr], .agg #[.int .i64 fr', .int .i64 sq', .string key', .slice Av' m' cv', .slice Ar' kr' cr']] w (fun e w' => e = .returned (.bool (decide ((((fr, sq), (key, lv), rt) : Fr) = ((fr', sq'), (key', lv'), rt')))) ∧ Below w.heap.size w w') := by
  obtain ⟨U, hU⟩ : ∃ U, w.alloc (.cells #[.int .i64 fr, .int .i64 sq, .string key, .slice Av m cv, .slice Ar kr cr] 35) = U := ⟨_, rfl⟩
  have bU : Below w.heap.size w U := by rw [← hU]; exact (Below.refl _ w).alloc (Nat.le_refl _) _
  have sU : U.heap.size = w.heap.size + 1 := by rw [← hU]; simp
  have BU : Bn w.heap.size 35 [.int .i64 fr, .int .i64 sq, .string key, .slice Av m cv, .slice Ar kr cr] U := by rw [← hU]; exact heap_alloc_new w _
  obtain ⟨V, hV⟩ : ∃ V, U.alloc (.cells #[.int .i64 fr', .int .i64 sq', .string key', .slice Av' m' cv', .slice Ar' kr' cr'] 41) = V := ⟨_, rfl⟩
  have bV : Below U.heap.size U V := by rw [← hV]; exact (Below.refl _ U).alloc (Nat.le_refl _) _
  have BV : Bn U.heap.size 41 [.int .i64 fr', .int .i64 sq', .string key', .slice Av' m' cv', .slice Ar' kr' cr'] V := by rw [← hV]; exact heap_alloc_new U _
  have sV : V.heap.size = w.heap.size + 2 := by rw [← hV]; simp [sU]
  have BU1 := BU.same (bV.block _ BU.lt)
  rw [sU] at BV
  have bW : Below w.heap.size w V := bU.trans (bV.mono bU.size)
  obtain ⟨X, hX⟩ : ∃ X, V.alloc (.cells #[.string key, .slice Av m cv] 32) = X := ⟨_, rfl⟩
  have bX : Below V.heap.size V X := by rw [← hX]; exact (Below.refl _ V).alloc (Nat.le_refl _) _
  have sX : X.heap.size = w.heap.size + 3 := by rw [← hX]; simp [sV]
  have BX : Bn V.heap.size 32 [.string key, .slice Av m cv] X := by rw [← hX]; exact heap_alloc_new V _
  obtain ⟨Y, hY⟩ : ∃ Y, X.alloc (.cells #[.string key', .slice Av' m' cv'] 32) = Y := ⟨_, rfl⟩
  have bY : Below X.heap.size X Y := by rw [← hY]; exact (Below.refl _ X).alloc (Nat.le_refl _) _
  have BY : Bn X.heap.size 32 [.string key', .slice Av' m' cv'] Y := by rw [← hY]; exact heap_alloc_new X _
  rw [sV] at BX
  rw [sX] at BY
  have hsX := bX.size
  have hsY := bY.size
  have bWY : Below w.heap.size w Y := (bW.trans (bX.mono (by omega))).trans (bY.mono (by omega))
  have BXY := BX.same (bY.block _ (by omega))
  have hsr := Code.srecs_any (some ⟨w.heap.size + 2, 0, none⟩) (some ⟨w.heap.size + 3, 0, none⟩) 1 1 1 1 [(key, lv)] [(key', lv')] rfl rfl Y (rs_one BXY hm hmc (by have := hz.2.1; simp only at this; omega) hz.1 ((hv.below bWY).more bWY.size)) (rs_one BY hm' hmc' (by have := hz'.2.1; simp only at this; omega) hz'.1 ((hv'.below bWY).more bWY.size)) (by omega) (by omega)
  have hir : ∀ W, Below w.heap.size w W → Calls Try.prog 41 #[.slice Ar kr cr, .slice Ar' kr' cr'] W fun e w' => e = .returned (.bool (decide (rt = rt'))) ∧ Below W.heap.size W w' := fun W hW => Code.sints_any Ar Ar' cr cr' kr kr' rt rt' hkr hkr' W ((hr.below hW).more hW.size) ((hr'.below hW).more hW.size) (by have := hz.2.2; simp only at this; omega) (by have := hz'.2.2; simp only at this; omega)
  obtain ⟨q1, hq1⟩ : ∃ q, decide ([(key, lv)] = [(key', lv')]) = q := ⟨_, rfl⟩
  obtain ⟨q2, hq2⟩ : ∃ q, decide (rt = rt') = q := ⟨_, rfl⟩
  rw [hq1] at hsr
  rw [hq2] at hir
  obtain ⟨R, hR⟩ : ∃ R, decide ((((fr, sq), (key, lv), rt) : Fr) = ((fr', sq'), (key', lv'), rt')) = R := ⟨_, rfl⟩
  rw [hR]
  have x0 := (BU1.cell 0).trans rfl
  have x1 := (BU1.cell 1).trans rfl
  have x2 := (BU1.cell 2).trans rfl
  have x3 := (BU1.cell 3).trans rfl
  have x4 := (BU1.cell 4).trans rfl
  have y0 := (BV.cell 0).trans rfl
  have y1 := (BV.cell 1).trans rfl
  have y2 := ((BV.same (bX.block _ (by omega))).cell 2).trans rfl
  have y3 := ((BV.same (bX.block _ (by omega))).cell 3).trans rfl
  have HB := Lib.hid (And.intro bW (And.intro bWY (And.intro (BU1.same ((bY.block _ (by omega)).trans (bX.block _ (by omega)))) (BV.same ((bY.block _ (by omega)).trans (bX.block _ (by omega)))))))
  have HSR := Lib.hid hsr
  have HIR := Lib.hid hir
  have HQ := Lib.hid (And.intro hq1 hq2)
  have HRR := Lib.hid hR
  clear hsr hir hq1 hq2 hR bW bWY bU bV bX bY BU BV BU1 BX BY BXY hv hr hv' hr' hm hm' hkr hkr' hz hz'
  by_cases h1 : fr = fr'
  · subst h1
    by_cases h2 : sq = sq'
    · subst h2
      go_enter Try.func15, Try.ntmps15
      go_wp2_with fail
      refine HSR.out.mono ?_
      rintro e w2 ⟨rfl, b2⟩
      have bw2 : Below w.heap.size w w2 := HB.out.2.1.trans (b2.mono HB.out.2.1.size)
      have C1 := HB.out.2.2.1.same (b2.block _ HB.out.2.2.1.lt)
      have C2 := HB.out.2.2.2.same (b2.block _ HB.out.2.2.2.lt)
      have x4' := (C1.cell 4).trans rfl
      have y4' := (C2.cell 4).trans rfl
      have HBW := Lib.hid bw2
      clear b2 bw2 C1 C2
      cases q1
      · have HR := Lib.hid (show R = false by rw [← HRR.out]; exact decide_eq_false fun h => of_decide_eq_false HQ.out.1 (by injection h with _ h; injection h with h _; rw [h]))
        go_wp2_with fail
        go_ret
        exact ⟨by rw [HR.out]; rfl, HBW.out⟩
      · have HR := Lib.hid (show R = q2 by
          rw [← HRR.out, ← HQ.out.2]
          have h := of_decide_eq_true HQ.out.1
          simp only [List.cons.injEq, and_true] at h
          rw [h]
          exact decide_eq_decide.2 ⟨fun h => by injection h with _ h; injection h, fun h => by rw [h]⟩)
        go_wp2_with fail
        refine (HIR.out w2 HBW.out).mono ?_
        rintro e w3 ⟨rfl, b3⟩
        have HB3 := Lib.hid (HBW.out.trans (b3.mono HBW.out.size))
        clear b3
        go_wp2_with fail
        go_ret
        exact ⟨by rw [HR.out]; cases q2 <;> rfl, HB3.out⟩
    · have HR := Lib.hid (show R = false by rw [← HRR.out]; exact decide_eq_false fun h => h2 (by injection h with h _; injection h))
      have g0 : (sq == sq') = false := by simp [h2]
      clear h2
      go_enter Try.func15, Try.ntmps15
      go_wp2_with fail
      go_ret
      exact ⟨by rw [HR.out]; rfl, HB.out.1⟩
  · have HR := Lib.hid (show R = false by rw [← HRR.out]; exact decide_eq_false fun h => h1 (by injection h with h _; injection h))
    have g0 : (fr == fr') = false := by simp [h1]
    clear h1
    go_enter Try.func15, Try.ntmps15
    go_wp2_with fail
    go_ret
    exact ⟨by rw [HR.out]; rfl, HB.out.1⟩
end Inbox
end Go.Proofs.Ytiempgabamheiaa
