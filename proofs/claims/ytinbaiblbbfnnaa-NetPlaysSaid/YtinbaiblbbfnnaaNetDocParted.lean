/-
  The document's Parted (layer 8).
-/
import Derived.Test.YtinbaiblbbfnnaaNetDocLook
import Derived.Test.YtinbaiblbbfnnaaNetEq
namespace Go.Proofs.Ytinbaiblbbfnnaa
namespace Net
open Go.RowKit Blk
attribute [local go_sem ↓] Go.wp_at_zero Go.wp_at_succ
theorem take_more {α : Type} {l : List α} {k : Nat} {x : α} (h : l[k]? = some x) : l.take (k + 1) = l.take k ++ [x] := by
  obtain ⟨hk, e⟩ := List.getElem?_eq_some_iff.1 h
  rw [List.take_succ_eq_append_getElem hk, e]
section
variable {F : Nat → Prop} {w : World} {mb : Nat} {A : Option Addr} {c n : Nat} {l : List PE} {B : Option Addr} {q k : Nat} {cs : List Ct} {s t u : Int}
set_option maxRecDepth 100000 in
set_option maxHeartbeats 2000000 in
theorem doc_parted (h : RN F w mb A c n l B q k cs s t u) (hbig : k ≤ 140737488355328) (a1 a2 b1 b2 : Int) :
    Calls Try.prog 15 #[.pointer (some ⟨mb, 0, none⟩), .agg #[.int .i64 a1, .int .i64 a2], .agg #[.int .i64 b1, .int .i64 b2]] w (fun e w' => e = .returned (.bool (cutC cs (a1, a2) (b1, b2))) ∧ Below w.heap.size w w') := by
  obtain ⟨D, hD⟩ : ∃ D, cutC cs (a1, a2) (b1, b2) = D := ⟨_, rfl⟩
  rw [hD]
  obtain ⟨pa, hpa⟩ : ∃ b, w.heap.size = b := ⟨_, rfl⟩
  obtain ⟨U1, hU1⟩ : ∃ V, w.alloc (.cells #[.int .i64 a1, .int .i64 a2] 33) = V := ⟨_, rfl⟩
  have b1' : Below w.heap.size w U1 := by rw [← hU1]; exact (Below.refl _ w).alloc (Nat.le_refl _) _
  have M1 : Bn pa 33 [.int .i64 a1, .int .i64 a2] U1 := by rw [← hU1, ← hpa]; exact heap_alloc_new w _
  obtain ⟨pb, hpb⟩ : ∃ b, U1.heap.size = b := ⟨_, rfl⟩
  obtain ⟨U, hU⟩ : ∃ V, U1.alloc (.cells #[.int .i64 b1, .int .i64 b2] 33) = V := ⟨_, rfl⟩
  have b2' : Below U1.heap.size U1 U := by rw [← hU]; exact (Below.refl _ U1).alloc (Nat.le_refl _) _
  have M2 : Bn pb 33 [.int .i64 b1, .int .i64 b2] U := by rw [← hU, ← hpb]; exact heap_alloc_new U1 _
  have M1' := M1.same (b2'.block pa M1.lt)
  have bU : Below w.heap.size w U := b1'.trans (b2'.mono b1'.size)
  have HX := Lib.hid (And.intro (h.below bU) (And.intro M1' (And.intro M2 (And.intro bU hD))))
  clear h M1 M1' M2 b1' b2' bU hD
  go_enter Try.func15, Try.ntmps15
  go_wp2_with fail
  clear hU hU1 hpa hpb
  go_loopw [7] (fun iv V => ∃ i : Nat, iv = .int .i64 i ∧ i ≤ k ∧ Hid (cutC (cs.take i) (a1, a2) (b1, b2) = false) ∧ Hid (Below U.heap.size U V)) (fun iv _ => k - (intOf iv).toNat)
  case atStart => exact ⟨0, rfl, by omega, Lib.hid (by simp [cutC]), Lib.hid (Below.refl _ _)⟩
  case round =>
    obtain ⟨i, rfl, hi, hz, hb⟩ := hrel
    obtain ⟨_, m1, _, _, _⟩ := (HX.out.1.below hb.out).head
    by_cases hlt : i < k
    · obtain ⟨⟨⟨e1, e2⟩, ⟨e3, e4⟩⟩, he⟩ : ∃ e, cs[i]? = some e := ⟨cs[i]'(by have := HX.out.1.2.2.1.1; omega), by simp⟩
      obtain ⟨nb, hnb⟩ : ∃ b, wr.heap.size = b := ⟨_, rfl⟩
      obtain ⟨V1, hV1⟩ : ∃ V, wr.alloc (.cells #[.int .i64 0, .int .i64 0, .int .i64 0, .int .i64 0] 66) = V := ⟨_, rfl⟩
      have bV : Below wr.heap.size wr V1 := by rw [← hV1]; exact (Below.refl _ wr).alloc (Nat.le_refl _) _
      have N1 : Bn nb 66 [.int .i64 0, .int .i64 0, .int .i64 0, .int .i64 0] V1 := by rw [← hV1, ← hnb]; exact heap_alloc_new wr _
      obtain ⟨g, rfl, _, p0, p1, p2, p3⟩ := (HX.out.1.below hb.out).cut_at he
      simp only at p0 p1 p2 p3
      have x0 := (N1.cell 0).trans rfl
      have x1 := (N1.cell 1).trans rfl
      have x2 := (N1.cell 2).trans rfl
      have x3 := (N1.cell 3).trans rfl
      have f0 := N1.frozen 0
      have f1 := N1.frozen 1
      have f2 := N1.frozen 2
      have f3 := N1.frozen 3
      have NY := (((N1.set 0 (.int .i64 e1)).set 1 (.int .i64 e2)).set 2 (.int .i64 e3)).set 3 (.int .i64 e4)
      have gY := grown_trans_one (grown_trans_one (grown_trans_one (gset V1 nb 0 (.int .i64 e1)) (gset _ nb 1 (.int .i64 e2))) (gset _ nb 2 (.int .i64 e3))) (gset _ nb 3 (.int .i64 e4))
      obtain ⟨Y, hY⟩ : ∃ V, (((V1.setCell ⟨nb, 0, none⟩ (.int .i64 e1)).setCell ⟨nb, 1, none⟩ (.int .i64 e2)).setCell ⟨nb, 2, none⟩ (.int .i64 e3)).setCell ⟨nb, 3, none⟩ (.int .i64 e4) = V := ⟨_, rfl⟩
      rw [hY] at NY gY
      simp only [List.set_cons_zero, List.set_cons_succ] at NY
      have bY : Below U.heap.size U Y := (hb.out.trans (bV.mono hb.out.size)).grown gY (by have := hb.out.size; have := bV.size; omega) fun j hj => by injection hj with hj; have := hb.out.size; omega
      have y0 := (NY.cell 0).trans rfl
      have y1 := (NY.cell 1).trans rfl
      have y2 := (NY.cell 2).trans rfl
      have y3 := (NY.cell 3).trans rfl
      have MA := HX.out.2.1.same (bY.block pa HX.out.2.1.lt)
      have MB := HX.out.2.2.1.same (bY.block pb HX.out.2.2.1.lt)
      have z0 := (MA.cell 0).trans rfl
      have z1 := (MA.cell 1).trans rfl
      have w0 := (MB.cell 0).trans rfl
      have w1 := (MB.cell 1).trans rfl
      obtain ⟨q1, hq1⟩ : ∃ r, eqA (e1, e2) (a1, a2) = r := ⟨_, rfl⟩
      obtain ⟨q2, hq2⟩ : ∃ r, eqA (e3, e4) (b1, b2) = r := ⟨_, rfl⟩
      obtain ⟨q3, hq3⟩ : ∃ r, eqA (e1, e2) (b1, b2) = r := ⟨_, rfl⟩
      obtain ⟨q4, hq4⟩ : ∃ r, eqA (e3, e4) (a1, a2) = r := ⟨_, rfl⟩
      have R1 := run_eqA e1 e2 a1 a2 q1 hq1
      have R2 := run_eqA e3 e4 b1 b2 q2 hq2
      have R3 := run_eqA e1 e2 b1 b2 q3 hq3
      have R4 := run_eqA e3 e4 a1 a2 q4 hq4
      have hstep : cutC (cs.take (i + 1)) (a1, a2) (b1, b2) = ((q1 && q2) || (q3 && q4)) := by
        rw [take_more he, cut_snoc, hz.out, Bool.false_or, ← hq1, ← hq2, ← hq3, ← hq4]
        rfl
      have hyes : ((q1 && q2) || (q3 && q4)) = true → D = true := fun hh => by
        rw [← HX.out.2.2.2.2]
        unfold cutC
        refine List.any_eq_true.2 ⟨_, List.mem_of_getElem? he, ?_⟩
        rw [← hq1, ← hq2, ← hq3, ← hq4] at hh
        exact hh
      have HS := Lib.hid (And.intro hstep (And.intro hyes bY))
      have d1 : (0 : Int) ≤ (i : Int) := by omega
      have d2 : (i : Int) < (k : Int) := by omega
      clear hstep hyes bY gY NY MA MB N1 bV he hq1 hq2 hq3 hq4 hz
      cases q1 <;> cases q2 <;> cases q3 <;> cases q4
      all_goals
        first
          | (have HF := Lib.hid (HS.out.2.1 rfl)
             have BE := Lib.hid (HX.out.2.2.2.1.trans (HS.out.2.2.mono HX.out.2.2.2.1.size))
             go_wp2_with fail
             go_ret
             exact ⟨by rw [HF.out]; rfl, BE.out⟩)
          | (have HF := Lib.hid HS.out.1
             have BE := Lib.hid HS.out.2.2
             go_wp2_with fail
             exact ⟨⟨i + 1, rfl, by omega, HF, BE⟩, by simp only [intOf]; omega⟩)
    · have hik : k = i := by omega
      subst hik
      have HF : Hid (D = false) := Lib.hid (by
        rw [← HX.out.2.2.2.2]
        have h1 := hz.out
        rwa [List.take_of_length_le (by have := HX.out.1.2.2.1.1; omega)] at h1)
      have BE := Lib.hid (HX.out.2.2.2.1.trans (hb.out.mono HX.out.2.2.2.1.size))
      go_wp2_with fail
      go_ret
      exact ⟨by rw [HF.out]; rfl, BE.out⟩
end
end Net
end Go.Proofs.Ytinbaiblbbfnnaa
