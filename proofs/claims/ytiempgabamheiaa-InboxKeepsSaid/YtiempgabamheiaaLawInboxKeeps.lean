/-
  InboxKeeps (P18.4): what is handed in stays, and isn't kept; what is told is new memory. For every input.
-/
import Derived.Test.YtiempgabamheiaaInboxArgs
import Derived.Test.YtiempgabamheiaaInboxAwake
import Derived.Test.YtiempgabamheiaaInboxSpoil
import Derived.Test.YtiempgabamheiaaInboxSame
import Derived.Test.YtiempgabamheiaaGBase
import Derived.Deep.RegionHeld3
import Derived.Deep.DrawnRows
namespace Go.Proofs.Ytiempgabamheiaa
namespace InboxKeeps
open Go.ChangeShapes Go.WideShapes Go.ChangeAt Go.RowKit Inbox Vers Span Blk
attribute [local go_sem ↓] Go.wp_at_zero Go.wp_at_succ
theorem kept_take {x : Fr} (h : okF x) : takeF 1 [] [0] x = (2, [x]) := by
  unfold takeF
  rw [if_pos h, if_neg, if_neg (by simp), if_neg (by simp)]
  · rfl
  · rintro ⟨h1, h2, h3, h4⟩
    simp only [List.length_singleton] at h3
    have e : ((vr x).s - 1).toNat = 0 := by omega
    rw [e] at h4
    have : (vr x).n ≤ 0 := h4
    omega

theorem hz7_of {a : Int × Int} {r : Code.Rc} {rt : List Int} (h : SzF (a, r, rt)) : rt.length ≤ 17592186043904 := h.2.2

set_option maxRecDepth 100000 in
set_option maxHeartbeats 8000000 in
theorem walk (w : World) (x : Fr) (a1 : Option Addr) (c1 : Nat) (a2 : Option Addr) (c2 : Nat) (hv : Vs w 0 w.heap.size a1 x.2.1.2) (hr : Ns .i64 w w.heap.size a2 x.2.2) (hz : SzF x) (hc : x.2.1.2.length ≤ c1) :
    Calls Try.prog 8 #[.agg #[.int .i64 x.1.1, .int .i64 x.1.2, .string x.2.1.1, .slice a1 x.2.1.2.length c1, .slice a2 x.2.2.length c2]] w fun e w' => e = .returned (.bool true) ∧ Below w.heap.size w w' := by
  obtain ⟨⟨f1, f2⟩, ⟨key, lv⟩, rt⟩ := x
  obtain ⟨m, hm⟩ : ∃ m, lv.length = m := ⟨_, rfl⟩
  obtain ⟨kr, hkr⟩ : ∃ m, rt.length = m := ⟨_, rfl⟩
  simp only at hv hr hc ⊢
  rw [hm] at hc
  rw [hm, hkr]
  have hAW := Lib.hid (fun W => awake_any W)
  obtain ⟨W1, hW1⟩ : ∃ W, w.alloc (.cells #[.int .i64 f1, .int .i64 f2, .string key, .slice a1 m c1, .slice a2 kr c2] 35) = W := ⟨_, rfl⟩
  have b1 : Below w.heap.size w W1 := by rw [← hW1]; exact (Below.refl _ w).alloc (Nat.le_refl _) _
  have s1 : W1.heap.size = w.heap.size + 1 := by rw [← hW1]; simp
  have B1 : Bn w.heap.size 35 [.int .i64 f1, .int .i64 f2, .string key, .slice a1 m c1, .slice a2 kr c2] W1 := by rw [← hW1]; exact heap_alloc_new w _
  obtain ⟨fb, hfb⟩ : ∃ k, w.heap.size = k := ⟨_, rfl⟩
  have hm2 : m ≤ 140737488355328 := by have := hz.2.1; simp only at this; omega
  have HRI : Hid (∀ V, Below w.heap.size w V → Calls Try.prog 27 #[.agg #[.int .i64 f1, .int .i64 f2, .string key, .slice a1 m c1, .slice a2 kr c2]] V (fun e w' => e = .returned (.bool (decide (okF ((f1, f2), (key, lv), rt)))) ∧ Below V.heap.size V w')) := Lib.hid fun V hV =>
    lright_any f1 f2 key a1 c1 m lv hm hm2 hz.1 a2 kr c2 V ((hv.below hV).more hV.size)
  rw [hfb] at B1 s1
  have HX := Lib.hid (And.intro hv (And.intro hr (And.intro hz (And.intro hm (And.intro hkr hc)))))
  have HW1 := Lib.hid (And.intro b1 (And.intro B1 s1))
  have HWE := Lib.hid (And.intro hW1 hfb)
  clear hv hr hz hm hkr hc b1 B1 s1 hW1
  by_cases hok : okF ((f1, f2), (key, lv), rt)
  · obtain ⟨hl1, hokv⟩ := ok_one hok
    obtain rfl : m = 1 := by rw [← HX.out.2.2.2.1]; exact hl1
    obtain ⟨yv, hy⟩ : ∃ y, lv.getD 0 v0 = y := ⟨_, rfl⟩
    have hlv : lv = [yv] := by
      match lv, hl1, hy with
      | [z], _, hy => rw [← hy]; rfl
    rw [hy] at hokv
    have HK : Hid (takeF 1 [] [0] ((f1, f2), (key, lv), rt) = (2, [((f1, f2), (key, lv), rt)]) ∧ lv = [yv] ∧ okV yv ∧ okF ((f1, f2), (key, lv), rt)) := Lib.hid ⟨kept_take hok, hlv, hokv, hok⟩
    rw [decide_eq_true hok] at HRI
    clear hok hl1 hokv hy hlv
    go_enter Try.func8, Try.ntmps8
    go_upto_region 1 with fail
    rw [HWE.out.1]
    go_wp2_with fail
    refine (hAW.out W1).mono ?_
    rintro e w2 ⟨rfl, b2⟩
    have B2 := HW1.out.2.1.same (b2.block _ HW1.out.2.1.lt)
    have x0 := (B2.cell 0).trans rfl
    have x1 := (B2.cell 1).trans rfl
    have x2 := (B2.cell 2).trans rfl
    have x3 := (B2.cell 3).trans rfl
    have x4 := (B2.cell 4).trans rfl
    have hb2 := HW1.out.1.trans (b2.mono HW1.out.1.size)
    have HR2 := Lib.hid (HRI.out w2 hb2)
    have H2 := Lib.hid (And.intro hb2 B2)
    clear b2 B2 hb2 HRI
    go_wp2_with fail
    refine HR2.out.mono ?_
    rintro e w3 ⟨rfl, b3⟩
    have hb3 := H2.out.1.trans (b3.mono H2.out.1.size)
    have B3 := H2.out.2.same (b3.block _ H2.out.2.lt)
    have hf3 := B3.lt
    have HNW := Lib.hid (Sit.new 1 hb3)
    rw [show max (1 : Int) 0 = 1 from rfl] at HNW
    have H3 := Lib.hid (And.intro hb3 B3)
    clear b3 hb3 B3 H2 HR2 x0 x1 x2 x3 x4
    go_wp2_with fail
    refine HNW.out.mono ?_
    rintro e w4 ⟨nb, rfl, h4⟩
    have hb4 := H3.out.1.trans (h4.out.2.mono H3.out.1.size)
    have B4 := H3.out.2.same (h4.out.2.block _ H3.out.2.lt)
    have x0 := (B4.cell 0).trans rfl
    have x1 := (B4.cell 1).trans rfl
    have x2 := (B4.cell 2).trans rfl
    have x3 := (B4.cell 3).trans rfl
    have x4 := (B4.cell 4).trans rfl
    obtain ⟨mb, hmb⟩ : ∃ k, w4.heap.size = k := ⟨_, rfl⟩
    obtain ⟨W5, hW5⟩ : ∃ W, w4.alloc (.cells #[.int .i64 f1, .int .i64 f2, .string key, .slice a1 1 c1, .slice a2 kr c2] 35) = W := ⟨_, rfl⟩
    have b5 : Below w4.heap.size w4 W5 := by rw [← hW5]; exact (Below.refl _ w4).alloc (Nat.le_refl _) _
    have BM5 : Bn w4.heap.size 35 [.int .i64 f1, .int .i64 f2, .string key, .slice a1 1 c1, .slice a2 kr c2] W5 := by rw [← hW5]; exact heap_alloc_new w4 _
    have B5 := B4.same (b5.block _ B4.lt)
    have hb5 := hb4.trans (b5.mono hb4.size)
    have hfm : fb < mb := by rw [← hmb]; exact B4.lt
    have hwm : w.heap.size ≤ mb := by rw [← hmb]; exact hb4.size
    rw [hmb] at b5 BM5
    have HOWN := Lib.hid (Own.own_any key a1 c1 1 lv HX.out.2.2.2.1 (by omega) (fun v hv => by
      rw [HK.out.2.1] at hv
      obtain rfl := List.mem_singleton.1 hv
      have := HK.out.2.2.1.2.1.1
      omega) W5 ((HX.out.1.below hb5).more hb5.size))
    have H5 := Lib.hid (And.intro b5 (And.intro BM5 (And.intro B5 hb5)))
    have HS4 := Lib.hid (And.intro h4.out.1 (And.intro hmb hb4))
    have HW5 := Lib.hid hW5
    have y2 := (B5.cell 2).trans rfl
    have y3 := (B5.cell 3).trans rfl
    clear h4 hb4 B4 hW5 b5 BM5 B5 hb5 HNW H3
    go_upto_region 5 with fail
    rw [HW5.out]
    clear x0 x1 x2 x3 x4 hmb
    go_wp2_with fail
    refine HOWN.out.mono ?_
    rintro e w6 ⟨A1, c3, ps, rfl, h6, b6⟩
    have BM6 := H5.out.2.1.same (b6.block _ H5.out.2.1.lt)
    have B6 := H5.out.2.2.1.same (b6.block _ H5.out.2.2.1.lt)
    have m2 := (BM6.cell 2).trans rfl
    have m3 := (BM6.cell 3).trans rfl
    have n2 := BM6.frozen 2
    have n3 := BM6.frozen 3
    have hs5 : mb < W5.heap.size := H5.out.2.1.lt
    have gX := grown_trans_one (gset w6 mb 2 (.string key)) (gset _ mb 3 (.slice A1 1 c3))
    have BM7 := (BM6.set 2 (.string key)).set 3 (.slice A1 1 c3)
    obtain ⟨W7, hW7⟩ : ∃ W, (w6.setCell ⟨mb, 2, none⟩ (.string key)).setCell ⟨mb, 3, none⟩ (.slice A1 1 c3) = W := ⟨_, rfl⟩
    rw [hW7] at gX BM7
    simp only [List.set_cons_zero, List.set_cons_succ] at BM7
    have B7 := B6.kept gX (by intro e; injection e with e; omega)
    have hb7 : Below mb w4 W7 := (H5.out.1.trans (b6.mono (Nat.le_of_lt hs5))).grown gX (Nat.le_trans (Nat.le_of_lt hs5) b6.size) (fun g hg => by injection hg with hg; omega)
    have hrow7 : Code.RowV (mb + 1) W7.heap.size W7 (.slice A1 1 c3) ps := ((h6.out.2.keep fun k h1 h2 => gX.block k h2 (by intro e; injection e with e; omega)).less (by omega)).more gX.size
    have H7 := Lib.hid (And.intro hb7 (And.intro BM7 (And.intro B7 (And.intro hrow7 h6.out.1))))
    have HW7 := Lib.hid hW7
    have hm7 : mb < W7.heap.size := BM7.lt
    clear h6 BM6 B6 gX BM7 B7 hb7 hrow7 hW7 b6 y2 y3 HOWN
    go_upto_region 6 with fail
    rw [HW7.out]
    clear m2 m3 n2 n3
    obtain ⟨i0, hi0, hz0, hz1, hz2⟩ := info_parts info_int
    have ho := World.ownsRow_lit (base := W7.heap.size) (e := 3) (size := 1) W7 #[] 0 (Nat.le_refl _) (by unfold maxLen; omega) rfl
    have bA : Below W7.heap.size W7 (W7.alloc (.cells #[] 3)) := (Below.refl _ W7).alloc (Nat.le_refl _) _
    have hw7 : Below w.heap.size w W7 := HS4.out.2.2.trans (H7.out.1.mono hwm)
    have q2 : Ns .i64 (W7.alloc (.cells #[] 3)) w.heap.size a2 rt := HX.out.2.1.below (hw7.trans (bA.mono hw7.size))
    have B8 := H7.out.2.2.1.same (bA.block _ H7.out.2.2.1.lt)
    have BM8 := H7.out.2.1.same (bA.block _ H7.out.2.1.lt)
    have x4 := (B8.cell 4).trans rfl
    have HB8 := Lib.hid (And.intro ho (And.intro bA BM8))
    have hz7 := hz7_of HX.out.2.2.1
    have hz7k : kr ≤ 17592186043904 := by rw [← HX.out.2.2.2.2.1]; exact hz7
    have HI := Lib.hid (And.intro hi0 (And.intro hz0 (And.intro hz1 hz2)))
    clear ho bA B8 BM8 hi0 hz0 hz1 hz2 hz7
    go_upto_region 7 with (at_builtin; refine wpList_append_ns _ rfl (.tmp 25) (.tmp 27) 33 rfl W7.heap.size 3 i0 _ 8 Try.underlying33 HI.out.1 HI.out.2.1 HI.out.2.2.1 HI.out.2.2.2 rfl (.slice (some ⟨W7.heap.size, 0, none⟩) 0 0) 0 [] rfl HB8.out.1 .i64 w.heap.size a2 kr c2 rt HX.out.2.2.2.2.1 rfl q2 (by omega) (by omega) (by simp) ?_; intro v8 w8 o8 g8 at8; obtain ⟨A8, c8, rfl⟩ := own_form o8; rw [Nat.zero_add, List.nil_append] at o8; have g8' : (W7.alloc (.cells #[] 3)).grownBy w8 (some W7.heap.size) := g8; have BM9 := HB8.out.2.2.kept g8' (by intro e; injection e with e; omega); have m4 := (BM9.cell 4).trans rfl; have n4 := BM9.frozen 4; have H8 := Lib.hid (And.intro o8 (And.intro g8' BM9)); clear o8 g8 g8' at8 BM9)
    have gY := gset w8 mb 4 (.slice A8 kr c8)
    have BM9 := H8.out.2.2.set 4 (.slice A8 kr c8)
    obtain ⟨W9, hW9⟩ : ∃ W, w8.setCell ⟨mb, 4, none⟩ (.slice A8 kr c8) = W := ⟨_, rfl⟩
    rw [hW9] at gY BM9
    simp only [List.set_cons_zero, List.set_cons_succ] at BM9
    obtain ⟨W10, hW10⟩ : ∃ W, W9.alloc (.cells #[.int .i64 0] 2) = W := ⟨_, rfl⟩
    have b10 : Below W9.heap.size W9 W10 := by rw [← hW10]; exact (Below.refl _ W9).alloc (Nat.le_refl _) _
    have B10 : Bn W9.heap.size 2 [.int .i64 0] W10 := by rw [← hW10]; exact heap_alloc_new W9 _
    obtain ⟨NB, hNB⟩ : ∃ k, W9.heap.size = k := ⟨_, rfl⟩
    rw [hNB] at b10 B10
    have hs8 : W7.heap.size < w8.heap.size := by
      have h1 := HB8.out.2.1.size
      have h2 := H8.out.2.1.size
      have h3 : (W7.alloc (.cells #[] 3)).heap.size = W7.heap.size + 1 := by simp
      omega
    have hs9 : w8.heap.size ≤ NB := by rw [← hNB]; exact gY.size
    have hs10 : NB < W10.heap.size := B10.lt
    /- what lies between W7 and W10 -/
    have hk710 : ∀ k, k < W7.heap.size → k ≠ mb → W10.heap[k]? = W7.heap[k]? := fun k h1 h2 => by
      rw [b10.block k (by omega), gY.block k (by omega) (by intro e; injection e with e; omega), H8.out.2.1.block k (by have := HB8.out.2.1.size; omega) (by intro e; injection e with e; omega), HB8.out.2.1.block k h1]
    have BM10 := BM9.same (b10.block mb (by omega))
    have ho10 : W10.ownsRow W7.heap.size 3 1 (.slice A8 kr c8) kr (nums .i64 rt) := own_keep H8.out.1 fun g hg => (b10.block g (by have := (H8.out.1.lt g hg).2; omega)).trans (gY.block g (H8.out.1.lt g hg).2 (by intro e; injection e with e; have := (H8.out.1.lt g hg).1; omega))
    have hrow10 : Code.RowV (mb + 1) W7.heap.size W10 (.slice A1 1 c3) ps := H7.out.2.2.2.1.keep fun k h1 h2 => hk710 k h2 (by omega)
    have hb10 : Below mb w4 W10 := by
      have h1 : Below mb w4 (W7.alloc (.cells #[] 3)) := H7.out.1.trans (HB8.out.2.1.mono (Nat.le_of_lt hm7))
      have h2 : Below mb w4 w8 := h1.grown H8.out.2.1 (by have := h1.size; have := HB8.out.2.1.size; omega) (fun g hg => by
        have e' : W7.heap.size = g := by simpa [Value.ownBlock] using hg
        omega)
      exact (h2.grown gY (by omega) (fun g hg => by injection hg with hg; omega)).trans (b10.mono (by omega))
    have hst10 : Sit (fun j => j = fb ∨ mb ≤ j ∧ j < W10.heap.size) w nb 1 [] W10 := (HS4.out.1.hold (by rw [HS4.out.2.1]; exact hb10)).less fun j hj => by
      rcases hj with rfl | hj
      · exact .inl hf3
      · exact .inr (.inl (by rw [HS4.out.2.1]; exact hj))
    have hw10 : Below w.heap.size w W10 := HS4.out.2.2.trans (hb10.mono hwm)
    obtain ⟨p, hp⟩ : ∃ p, ps = [p] := by
      have h := congrArg List.length H7.out.2.2.2.2
      rw [List.length_map, HX.out.2.2.2.1] at h
      match ps, h with
      | [p], _ => exact ⟨p, rfl⟩
    subst hp
    have hpy : p.1 = yv := by
      have h := H7.out.2.2.2.2
      rw [HK.out.2.1] at h
      simpa using h
    obtain ⟨⟨pv, Ap, cp⟩, hpp⟩ : ∃ q, p = q := ⟨_, rfl⟩
    subst hpp
    simp only at hpy
    subst hpy
    obtain ⟨kp, hkp⟩ : ∃ k, pv.past.length = k := ⟨_, rfl⟩
    have hkpb : kp ≤ 1024 := by rw [← hkp]; exact HK.out.2.2.1.2.1.1
    obtain ⟨g1, cur1, hA1, hg1l, hg1h, hob1, _, htk1⟩ := own_obj hrow10.1 (by simp)
    have hg1B := hrow10.2.1 g1 (by rw [hA1]; rfl)
    subst hA1
    have hardP : HardAt Soft W10 g1 2 (.slice Ap kp cp) := hard_of hob1 htk1 (by rw [← hkp]; rfl) (by unfold Soft; decide)
    have softV : SoftAt Soft mb W10.heap.size W10 g1 4 := ⟨by omega, hg1h, cur1, _, hob1, by simp at *; omega, by unfold Soft; decide⟩
    have softP : 0 < kp → ∃ gp, Ap = some ⟨gp, 0, none⟩ ∧ ∀ j, j < kp → SoftAt Soft mb W10.heap.size W10 gp (j * 3 + 2) := fun h => by
      obtain ⟨L, B', h1, h2, _, h4⟩ := hrow10.2.2 (pv, Ap, cp) (by simp)
      obtain ⟨gp, curp, hAp, hgl, hgh, hobp, hszp, _⟩ := own_obj h4.2.1 (by simp only; omega)
      simp only at hAp hszp
      exact ⟨gp, hAp, fun j hj => ⟨by omega, hgh, curp, _, hobp, by omega, by unfold Soft; exact .inr (.inl ⟨rfl, by omega⟩)⟩⟩
    have softR : 0 < kr → ∃ gr, A8 = some ⟨gr, 0, none⟩ ∧ ∀ j, j < kr → SoftAt Soft mb W10.heap.size W10 gr j := fun h => by
      obtain ⟨gr, curr, hAr, hgl, hgh, hobr, hszr, _⟩ := own_obj ho10 h
      exact ⟨gr, hAr, fun j hj => ⟨by omega, hgh, curr, _, hobr, by omega, by unfold Soft; exact .inr (.inr rfl)⟩⟩
    have hardM3 : HardAt Soft W10 mb 3 (.slice (some ⟨g1, 0, none⟩) 1 c3) := ⟨_, _, BM10, rfl, by unfold Soft; decide⟩
    have hardM4 : HardAt Soft W10 mb 4 (.slice A8 kr c8) := ⟨_, _, BM10, rfl, by unfold Soft; decide⟩
    have hNS : Ns .i64 W10 W10.heap.size (some ⟨NB, 0, none⟩) [0] := fun _ => ⟨NB, 0, rfl, B10.lt, fun j hj => by
      obtain rfl : j = 0 := by simpa using hj
      exact (B10.cell 0).trans rfl⟩
    have hVS : Vs W10 0 W10.heap.size (some ⟨g1, 0, none⟩) lv := by
      have h := (hrow10.vs (by omega)).less (Nat.zero_le _) |>.more (show W7.heap.size ≤ W10.heap.size by omega)
      rwa [H7.out.2.2.2.2] at h
    have hNR : Ns .i64 W10 W10.heap.size A8 rt := own_ns (zs := rt) (by rw [HX.out.2.2.2.2.1]; exact ho10)
    have HP := Lib.hid (hst10.take (by simp) (by simp) f1 f2 key (some ⟨g1, 0, none⟩) c3 1 lv HX.out.2.2.2.1 A8 c8 kr rt HX.out.2.2.2.2.1 HX.out.2.2.1 hVS hNR (some ⟨NB, 0, none⟩) 1 1 [0] rfl (by omega) hNS HK.out.1)
    have HM := Lib.hid (And.intro hardP (And.intro softV (And.intro softP (And.intro softR (And.intro hardM3 hardM4)))))
    have HWW := Lib.hid (And.intro hW9 (And.intro hW10 hNB))
    have m0 := (BM10.cell 0).trans rfl
    have m1 := (BM10.cell 1).trans rfl
    have m2 := (BM10.cell 2).trans rfl
    have m3 := (BM10.cell 3).trans rfl
    have m4 := (BM10.cell 4).trans rfl
    have hL : mb < W10.heap.size := by omega
    have HF10 : Hid (Bn fb 35 [.int .i64 f1, .int .i64 f2, .string key, .slice a1 1 c1, .slice a2 kr c2] W10) := Lib.hid (H7.out.2.2.1.same (hk710 fb (by omega) (by omega)))
    rw [HWW.out.1]
    clear hardP softV softP softR hardM3 hardM4 hVS hNR hNS hst10 hb10 hw10 hrow10 ho10 BM10 hk710 hob1 htk1 hg1B hg1l hg1h gY BM9 hW9 hW10 b10 B10 hNB hs8 hs9 HB8 H8 H7 hkp q2 x4
    go_upto_region 8 with fail
    rw [HWW.out.2.1, HWW.out.2.2]
    go_wp2_with fail
    refine HP.out.mono ?_
    rintro e w11 ⟨rfl, h11⟩
    obtain ⟨hi, hhi⟩ : ∃ k, W10.heap.size = k := ⟨_, rfl⟩
    have hkb : ∀ k, mb ≤ k → k < hi → w11.heap[k]? = W10.heap[k]? := fun k a b => h11.out.2.2 k (.inr ⟨a, by omega⟩)
    have BF11 := HF10.out.same (h11.out.2.2 fb (.inl rfl))
    have hM3 := HM.out.2.2.2.2.1.same (hkb mb (by omega) (by omega))
    have hM4 := HM.out.2.2.2.2.2.same (hkb mb (by omega) (by omega))
    have hsv := HM.out.2.1
    have hP2 := HM.out.1.same (hkb g1 (by have := hsv.1; omega) (by have := hsv.2.1; omega))
    have hsV := hsv.same (hkb g1 (by have := hsv.1; omega) (by have := hsv.2.1; omega))
    have hsP : Hid (0 < kp → ∃ gp, Ap = some ⟨gp, 0, none⟩ ∧ ∀ j, j < kp → SoftAt Soft mb hi w11 gp (j * 3 + 2)) := Lib.hid fun h => by
      obtain ⟨gp, e, hh⟩ := HM.out.2.2.1 h
      rw [hhi] at hh
      exact ⟨gp, e, fun j hj => (hh j hj).same (hkb gp (hh j hj).1 (hh j hj).2.1)⟩
    have hsR : Hid (0 < kr → ∃ gr, A8 = some ⟨gr, 0, none⟩ ∧ ∀ j, j < kr → SoftAt Soft mb hi w11 gr j) := Lib.hid fun h => by
      obtain ⟨gr, e, hh⟩ := HM.out.2.2.2.1 h
      rw [hhi] at hh
      exact ⟨gr, e, fun j hj => (hh j hj).same (hkb gr (hh j hj).1 (hh j hj).2.1)⟩
    rw [hhi] at hsV hL
    have hst11 : Sit (fun j => j = fb ∨ mb ≤ j ∧ j < hi) w nb 1 [((f1, f2), (key, lv), rt)] w11 := by rw [← hhi]; exact h11.out.1
    obtain ⟨⟨zv, hzv⟩, hzf, hput⟩ := (spo_refl Soft mb hi w11).put hsV
    have g3 := (spo_refl Soft mb hi w11).get hM3
    have hsp := Lib.hid (hput (.string ⟨#[115, 112, 111, 105, 108, 116]⟩))
    have HST := Lib.hid (And.intro hst11 BF11)
    have hL11 : hi ≤ w11.heap.size := by rw [← hhi]; exact h11.out.2.1
    have HHARD := Lib.hid (And.intro hM3 (And.intro hM4 hP2))
    clear h11 hkb BF11 hM3 hM4 hsv hP2 hsV hst11 hput HP HM HWW HF10 hhi m0 m1 m2 m3 m4
    go_wp2_with fail
    go_loopw [6] (fun q wr => ∃ i : Nat, q = .int .i64 i ∧ i ≤ kp ∧ Hid (Spo Soft mb hi w11 wr)) (fun q _ => kp - (intOf q).toNat)
    case atStart => exact ⟨0, rfl, by omega, hsp⟩
    case round =>
      clear hsp hzv hzf g3
      obtain ⟨i, rfl, hi1, hsp⟩ := hrel
      have g3 := hsp.out.get HHARD.out.1
      have g4 := hsp.out.get HHARD.out.2.2
      by_cases hlt : i < kp
      · obtain ⟨gp, rfl, hs⟩ := hsP.out (by omega)
        obtain ⟨⟨zv, hzv⟩, hzf, hput⟩ := hsp.out.put (hs i hlt)
        have hN := Lib.hid (hput (.int .i64 (-1)))
        have d1 : (0 : Int) ≤ (i : Int) := by omega
        have d2 : (i : Int) < (kp : Int) := by omega
        clear hput hs
        go_wp2_with fail
        go_roundw
        case rel => exact ⟨i + 1, rfl, by omega, hN⟩
        case measure => simp only [intOf]; omega
      · have d2 : ¬ (i : Int) < (kp : Int) := by omega
        go_wp2_with fail
        go_loopw [7] (fun q wr => ∃ i : Nat, q = .int .i64 i ∧ i ≤ kr ∧ Hid (Spo Soft mb hi w11 wr)) (fun q _ => kr - (intOf q).toNat)
        case atStart => exact ⟨0, rfl, by omega, hsp⟩
        case round =>
          clear hsp g3 g4 d2 hlt hi1
          obtain ⟨i, rfl, hi1, hsp⟩ := hrel
          have g3 := hsp.out.get HHARD.out.2.1
          by_cases hlt : i < kr
          · obtain ⟨gr, rfl, hs⟩ := hsR.out (by omega)
            obtain ⟨⟨zv, hzv⟩, hzf, hput⟩ := hsp.out.put (hs i hlt)
            have hN := Lib.hid (hput (.int .i64 (-1)))
            have d1 : (0 : Int) ≤ (i : Int) := by omega
            have d2 : (i : Int) < (kr : Int) := by omega
            clear hput hs
            go_wp2_with fail
            go_roundw
            case rel => exact ⟨i + 1, rfl, by omega, hN⟩
            case measure => simp only [intOf]; omega
          · have d2 : ¬ (i : Int) < (kr : Int) := by omega
            have hstW := HST.out.1.spo hsp.out (fun k h1 h2 => .inr ⟨h1, h2⟩) hwm
            have BFW := HST.out.2.same (hsp.out.1.block fb hfm)
            have HWT := Lib.hid (hstW.waitsT (fun y hy => by rw [List.mem_singleton.1 hy]; exact HK.out.2.2.2) (by simp) 1 rfl)
            have hmw : mb ≤ wr.heap.size := Nat.le_trans (Nat.le_of_lt hL) (Nat.le_trans hL11 (by rw [hsp.out.2.1]; exact Nat.le_refl _))
            have HBF := Lib.hid BFW
            clear hstW BFW hsp hi1
            go_wp2_with fail
            refine HWT.out.mono ?_
            rintro e w12 ⟨A12, c12, rfl, h12⟩
            obtain ⟨hfs, hb12, hst12, htn⟩ := h12.out
            obtain ⟨lb, lo, hA12, ⟨curl, hobl⟩, hat⟩ := htn (by simp)
            obtain ⟨p1, p2, hcl, ht1, ht2⟩ := hat 0 _ rfl
            obtain ⟨lb', lo', hA12', hlb, hat'⟩ := hfs (by simp)
            rw [hA12] at hA12'
            injection hA12' with hA12'
            injection hA12' with hA12' hlo' _
            subst hA12' hlo'
            obtain ⟨p1', p2', hcl', _, L, B, hHd, hB, hLB⟩ := hat' 0 _ rfl
            have q3 : w12.cell? ⟨lb, lo + 3, none⟩ = some (.slice p1.1 1 p1.2) := by
              have h := hcl 3 (.slice p1.1 lv.length p1.2) rfl
              rw [HX.out.2.2.2.1] at h
              simpa using h
            have q4 : w12.cell? ⟨lb, lo + 4, none⟩ = some (.slice p2.1 kr p2.2) := by
              have h := hcl 4 (.slice p2.1 rt.length p2.2) rfl
              rw [HX.out.2.2.2.2.1] at h
              simpa using h
            have e1 : p1'.1 = p1.1 := by
              have h := hcl' 3 (.slice p1'.1 lv.length p1'.2) rfl
              have h2 := hcl 3 (.slice p1.1 lv.length p1.2) rfl
              rw [h2] at h
              injection h with h
              injection h with h
              exact h.symm
            have e2 : p2'.1 = p2.1 := by
              have h := hcl' 4 (.slice p2'.1 rt.length p2'.2) rfl
              have h2 := hcl 4 (.slice p2.1 rt.length p2.2) rfl
              rw [h2] at h
              injection h with h
              injection h with h
              exact h.symm
            obtain ⟨b3, o3, hA3, hb3L, hb3B, hat3⟩ := hHd.1 (by show 0 < lv.length; rw [HX.out.2.2.2.1]; omega)
            simp only at hA3
            rw [e1] at hA3
            obtain ⟨_, _, _, _, _, _, u4, _⟩ := hat3 0 (by show 0 < lv.length; rw [HX.out.2.2.2.1]; omega)
            rw [Nat.zero_mul, Nat.add_zero] at u4
            obtain ⟨cur3, hob3⟩ := ht1 (by show 0 < lv.length; rw [HX.out.2.2.2.1]; omega) _ hA3
            obtain ⟨lo2, hlo2⟩ : ∃ k, wr.heap.size = k := ⟨_, rfl⟩
            obtain ⟨hi2, hhi2⟩ : ∃ k, w12.heap.size = k := ⟨_, rfl⟩
            have hsv3 : SoftAt Soft2 lo2 hi2 w12 b3 (o3 + 4) := soft_cell hob3 u4 (by unfold Soft2; decide) (by have := (hLB b3 hb3L hb3B); omega) (by omega)
            have hh3 : HardAt Soft2 w12 lb (lo + 3) (.slice (some ⟨b3, o3, none⟩) 1 p1.2) := hard_cell hobl (by rw [← hA3]; exact q3) (by unfold Soft2; decide)
            have hh4 : HardAt Soft2 w12 lb (lo + 4) (.slice p2.1 kr p2.2) := hard_cell hobl q4 (by unfold Soft2; decide)
            have hsR2 : Hid (0 < kr → ∃ b5 o5, p2.1 = some ⟨b5, o5, none⟩ ∧ ∀ j, j < kr → SoftAt Soft2 lo2 hi2 w12 b5 (o5 + j)) := Lib.hid fun h => by
              have h0 : 0 < rt.length := by rw [HX.out.2.2.2.2.1]; exact h
              obtain ⟨b5, o5, hA5, hb5, hat5⟩ := hHd.2.1 h0
              simp only at hA5
              have hl5 := hHd.2.2.1 h0 _ hA5
              rw [e2] at hA5
              obtain ⟨cur5, hob5⟩ := ht2 h0 _ hA5
              exact ⟨b5, o5, hA5, fun j hj => soft_cell hob5 (hat5 j (by show j < rt.length; rw [HX.out.2.2.2.2.1]; exact hj)) (by unfold Soft2; decide) (by have := hLB b5 hl5 hb5; omega) (by omega)⟩
            have hst12' : Sit (fun j => lo2 ≤ j ∧ j < hi2) w nb 1 [((f1, f2), (key, lv), rt)] w12 := hst12.less fun j hj => .inr (by rw [hlo2, hhi2]; exact hj)
            have hwl : w.heap.size ≤ lo2 := by rw [← hlo2]; exact Nat.le_trans hwm hmw
            have BF12 := HBF.out.same (hb12.block fb HBF.out.lt)
            have hfl : fb < lo2 := by rw [← hlo2]; exact HBF.out.lt
            obtain ⟨⟨zv, hzv⟩, hzf, hput⟩ := (spo_refl Soft2 lo2 hi2 w12).put hsv3
            have hsp := Lib.hid (hput (.string ⟨#[115, 112, 111, 105, 108, 116]⟩))
            have q3' : w12.cell? ⟨lb, lo + 3, none⟩ = some (.slice (some ⟨b3, o3, none⟩) 1 p1.2) := by rw [← hA3]; exact q3
            have HST2 := Lib.hid (And.intro hst12' (And.intro BF12 (And.intro hh3 (And.intro hh4 (And.intro hwl hfl)))))
            obtain ⟨⟨A5, c5⟩, hp2⟩ : ∃ q, p2 = q := ⟨_, rfl⟩
            subst hp2
            obtain ⟨⟨A3, c3'⟩, hp1⟩ : ∃ q, p1 = q := ⟨_, rfl⟩
            subst hp1
            subst hA12
            simp only at hsR2 q3' q4 HST2
            clear h12 hfs hb12 hst12 htn hobl hat hat' hcl hcl' hHd hLB hat3 u4 ht1 ht2 hob3 hsv3 hh3 hh4 hst12' BF12 hput q3 q4 hA3 e1 e2 HWT hhi2 hlo2 hwl hfl hlb hB hmw
            go_wp2_with fail
            go_loopw [9] (fun q wr => ∃ i : Nat, q = .int .i64 i ∧ i ≤ kr ∧ Hid (Spo Soft2 lo2 hi2 w12 wr)) (fun q _ => kr - (intOf q).toNat)
            case atStart => exact ⟨0, rfl, by omega, hsp⟩
            case round =>
              clear hsp hzv hzf q3'
              obtain ⟨i, rfl, hi1, hsp⟩ := hrel
              have g4 := hsp.out.get HST2.out.2.2.2.1
              by_cases hlt : i < kr
              · obtain ⟨b5, o5, rfl, hs⟩ := hsR2.out (by omega)
                obtain ⟨⟨zv, hzv⟩, hzf, hput⟩ := hsp.out.put (hs i hlt)
                have hN := Lib.hid (hput (.int .i64 (-2)))
                have d1 : (0 : Int) ≤ (i : Int) := by omega
                have d2 : (i : Int) < (kr : Int) := by omega
                clear hput hs
                go_wp2_with fail
                go_roundw
                case rel => exact ⟨i + 1, rfl, by omega, hN⟩
                case measure => simp only [intOf]; omega
              · have d2 : ¬ (i : Int) < (kr : Int) := by omega
                have hstW := HST2.out.1.spo hsp.out (fun k h1 h2 => ⟨h1, h2⟩) HST2.out.2.2.2.2.1
                have BFW := HST2.out.2.1.same (hsp.out.1.block fb HST2.out.2.2.2.2.2)
                have HWT := Lib.hid (hstW.waits (fun y hy => by rw [List.mem_singleton.1 hy]; exact HK.out.2.2.2) (by simp) 1 rfl)
                have HBF2 := Lib.hid BFW
                clear hstW BFW hsp
                go_wp2_with fail
                refine HWT.out.mono ?_
                rintro e w13 ⟨A13, c13, rfl, h13⟩
                obtain ⟨hfs, hb13, hst13⟩ := h13.out
                have BF13 := HBF2.out.same (hb13.block fb HBF2.out.lt)
                have hold := hst13.old
                obtain ⟨nb13, no13, rfl, hnb, hat⟩ := hfs (by simp)
                obtain ⟨⟨a5, k5⟩, ⟨a6, k6⟩, hcl, hv5, hr6, _, hc5⟩ := hat 0 _ rfl
                have hcell : ∀ r u, (fc (((f1, f2), (key, lv), rt), (a5, k5), (a6, k6)))[r]? = some u → w13.cell? ⟨nb13, no13 + r, none⟩ = some u := fun r u hu => by
                  have h := hcl r u hu
                  rwa [Nat.zero_mul, Nat.add_zero] at h
                have q0 := hcell 0 _ rfl
                have q1 := hcell 1 _ rfl
                have q2 := hcell 2 _ rfl
                have q3 : w13.cell? ⟨nb13, no13 + 3, none⟩ = some (.slice a5 1 k5) := by rw [← HX.out.2.2.2.1]; exact hcell 3 _ rfl
                have q4 : w13.cell? ⟨nb13, no13 + 4, none⟩ = some (.slice a6 kr k6) := by rw [← HX.out.2.2.2.2.1]; exact hcell 4 _ rfl
                rw [Nat.add_zero] at q0
                have hc5' : 1 ≤ k5 := by
                  have h := hc5
                  simp only [HX.out.2.2.2.1] at h
                  exact h
                have HC : Hid (∀ V, Below w13.heap.size w13 V → Below w13.heap.size w13 V ∧ V.cell? ⟨nb13, no13, none⟩ = some (.int .i64 f1) ∧ V.cell? ⟨nb13, no13 + 1, none⟩ = some (.int .i64 f2) ∧ V.cell? ⟨nb13, no13 + 2, none⟩ = some (.string key) ∧ V.cell? ⟨nb13, no13 + 3, none⟩ = some (.slice a5 1 k5) ∧ V.cell? ⟨nb13, no13 + 4, none⟩ = some (.slice a6 kr k6) ∧ V.cell? ⟨fb, 0, none⟩ = some (.int .i64 f1) ∧ V.cell? ⟨fb, 1, none⟩ = some (.int .i64 f2) ∧ V.cell? ⟨fb, 2, none⟩ = some (.string key) ∧ V.cell? ⟨fb, 3, none⟩ = some (.slice a1 1 c1) ∧ V.cell? ⟨fb, 4, none⟩ = some (.slice a2 kr c2)) := Lib.hid fun V hV => by
                  have g := BF13.same (hV.block fb BF13.lt)
                  exact ⟨hV, (hV.cell (p := ⟨nb13, no13, none⟩) hnb).trans q0, (hV.cell (p := ⟨nb13, no13 + 1, none⟩) hnb).trans q1, (hV.cell (p := ⟨nb13, no13 + 2, none⟩) hnb).trans q2, (hV.cell (p := ⟨nb13, no13 + 3, none⟩) hnb).trans q3, (hV.cell (p := ⟨nb13, no13 + 4, none⟩) hnb).trans q4, (g.cell 0).trans rfl, (g.cell 1).trans rfl, (g.cell 2).trans rfl, (g.cell 3).trans rfl, (g.cell 4).trans rfl⟩
                have HSA : Hid (∀ V, Below w13.heap.size w13 V → Calls Try.prog 15 #[.agg #[.int .i64 f1, .int .i64 f2, .string key, .slice a5 1 k5, .slice a6 kr k6], .agg #[.int .i64 f1, .int .i64 f2, .string key, .slice a1 1 c1, .slice a2 kr c2]] V (fun e w' => e = .returned (.bool true) ∧ Below V.heap.size V w')) := Lib.hid fun V hV => by
                  have hov := hold.trans (hV.mono hold.size)
                  have h := same_far f1 f2 key a5 k5 1 lv a6 k6 kr rt HX.out.2.2.2.1 hc5' HX.out.2.2.2.2.1 HX.out.2.2.1 f1 f2 key a1 c1 1 lv a2 c2 kr rt HX.out.2.2.2.1 HX.out.2.2.2.2.2 HX.out.2.2.2.2.1 HX.out.2.2.1 V ((hv5.below hV).more hV.size) ((hr6.below hV).more hV.size) ((HX.out.1.below hov).more hov.size) ((HX.out.2.1.below hov).more hov.size)
                  rwa [decide_eq_true rfl] at h
                have HOLD := Lib.hid hold
                have HSD := Lib.hid (HSA.out w13.drew (show Below w13.heap.size w13 w13.drew from (Below.refl _ w13).drew))
                clear HSA
                clear h13 hfs hb13 hst13 BF13 hold hat hcl hv5 hr6 hc5 hc5' hcell q0 q1 q2 q3 q4 hnb HWT HBF2 g4 d2
                go_wp2_with fail
                go_region_held3 (fun V => Below w13.heap.size w13 V ∧ V.cell? ⟨nb13, no13, none⟩ = some (.int .i64 f1) ∧ V.cell? ⟨nb13, no13 + 1, none⟩ = some (.int .i64 f2) ∧ V.cell? ⟨nb13, no13 + 2, none⟩ = some (.string key) ∧ V.cell? ⟨nb13, no13 + 3, none⟩ = some (.slice a5 1 k5) ∧ V.cell? ⟨nb13, no13 + 4, none⟩ = some (.slice a6 kr k6) ∧ V.cell? ⟨fb, 0, none⟩ = some (.int .i64 f1) ∧ V.cell? ⟨fb, 1, none⟩ = some (.int .i64 f2) ∧ V.cell? ⟨fb, 2, none⟩ = some (.string key) ∧ V.cell? ⟨fb, 3, none⟩ = some (.slice a1 1 c1) ∧ V.cell? ⟨fb, 4, none⟩ = some (.slice a2 kr c2)) (first
                    | exact HC.out _ (show Below w13.heap.size w13 w13.drew from (Below.refl _ w13).drew)
                    | exact HC.out _ b14)
                  (first
                    | (go_at_call 15; refine HSD.out.mono ?_; rintro e w14 ⟨rfl, b14'⟩; have b14 : Below w13.heap.size w13 w14 := (show Below w13.heap.size w13 w13.drew from (Below.refl _ w13).drew).trans b14'))
                have HEND := Lib.hid (HOLD.out.trans (b14.mono HOLD.out.size))
                clear b14 b14'
                go_wp2_with fail
                go_ret
                exact ⟨rfl, HEND.out⟩
  · have HRI2 : Hid (∀ V, Below w.heap.size w V → Calls Try.prog 27 #[.agg #[.int .i64 f1, .int .i64 f2, .string key, .slice a1 m c1, .slice a2 kr c2]] V (fun e w' => e = .returned (.bool false) ∧ Below V.heap.size V w')) := Lib.hid fun V hV => by
      have h := HRI.out V hV
      rwa [decide_eq_false hok] at h
    clear HRI hok
    go_enter Try.func8, Try.ntmps8
    go_upto_region 1 with fail
    rw [HWE.out.1]
    go_wp2_with fail
    refine (hAW.out W1).mono ?_
    rintro e w2 ⟨rfl, b2⟩
    have B2 := HW1.out.2.1.same (b2.block _ HW1.out.2.1.lt)
    have x0 := (B2.cell 0).trans rfl
    have x1 := (B2.cell 1).trans rfl
    have x2 := (B2.cell 2).trans rfl
    have x3 := (B2.cell 3).trans rfl
    have x4 := (B2.cell 4).trans rfl
    have hb2 := HW1.out.1.trans (b2.mono HW1.out.1.size)
    have HR2 := Lib.hid (HRI2.out w2 hb2)
    have H2 := Lib.hid hb2
    clear b2 B2 hb2 HRI2
    go_wp2_with fail
    refine HR2.out.mono ?_
    rintro e w3 ⟨rfl, b3⟩
    have hb3 := H2.out.trans (b3.mono H2.out.size)
    go_wp2_with fail
    refine (hAW.out w3).mono ?_
    rintro e w4 ⟨rfl, b4⟩
    have hb4 := hb3.trans (b4.mono hb3.size)
    go_wp2_with fail
    go_ret
    exact ⟨rfl, hb4⟩
-- ROW BEGIN
set_option maxRecDepth 100000 in
/-- What the walk gives, shut again. -/
theorem contract (H : Type) (enc : TypeId × Value → H) (W : World) (base : Nat) (args : Array Value) (ds gs : List (DataW H)) (before : List MemPlace)
    (hval : ∀ (j : Nat) t v, Try.f8.params[j]? = some t → args[j]? = some v → Value.okWide Try.prog W .any base t v)
    (hW : DataW.Whole enc Try.prog Try.f8.params.toList Rows.inboxKeepsSpec.vars false W args.toList ds gs before)
    (hsz : (DataW.weightsEach Try.prog (Try.f8.params.toList ++ Rows.inboxKeepsSpec.plain.varTypes Try.prog) (ds ++ gs)).all (· ≤ reachBytes) = true) :
    Calls Try.prog 8 args W fun e W' => ∃ v, e = .returned v ∧ Rows.inboxKeepsSpec.post enc Try.prog Try.f8 false true false false W args v W' := by
  have hW' := hW
  obtain ⟨p, q, hA0, hV, hbef, _, _⟩ := hW
  have hA : DataW.TrodAll enc Try.prog W 0 (fun _ => true) true Try.f8.params.toList args.toList ds p := hA0
  have hA1 := hA
  rw [Try.params8] at hA hval hsz
  obtain ⟨v0, vs0, d0, ds0, p0, q0, hargs, rfl, rfl, h0, r0⟩ := trodAll_cons hA
  obtain ⟨rfl, rfl, rfl⟩ := trodAll_nil r0
  obtain rfl : args = #[v0] := by cases args; simp_all
  obtain ⟨rfl, rfl⟩ := trodVars_none hV
  clear hA hargs
  obtain ⟨x0, A0, c0, B0, e0, rfl, n0, k0, s0, l0⟩ := Inbox.arg_far (hval 0 35 v0 rfl rfl) h0 (Wgt.wt_arg hsz (j := 0) rfl rfl)
  refine (walk W x0 A0 c0 B0 e0 n0 k0 s0 l0).mono fun e W' ⟨he, hb⟩ => ?_
  subst he
  exact ⟨_, rfl, law_post Facts.laid (by rfl) Try.underlying4 (by rw [Try.params8]; decide +kernel) hW' hA1 rfl hbef rfl rfl rfl hb⟩

set_option maxRecDepth 100000 in
theorem lifted (os : Os) (started : os.Started) (H : Type) (enc : TypeId × Value → H) :
    ReturnsInHanded {} Try.checked os 8 .any (Rows.inboxKeepsSpec.pre6 enc Try.prog Try.f8 Rows.inboxKeepsRow.domain false) (Rows.inboxKeepsSpec.post enc Try.prog Try.f8 false true false false) := by
  refine returnsInHanded_of_change_sized (C := Try.checked) Facts.own started (by kernel_rfl) Try.func8
    (ChangeSpec.witness6 (enc := enc) (C := Try.checked) false ⟨#[], #[.agg #[.int .i64 0, .int .i64 0, .string ⟨#[]⟩, .slice none 0 0, .slice none 0 0]], []⟩ 8 (by kernel_rfl) (by kernel_rfl) (by kernel_rfl) (by kernel_rfl)) ?_
  intro W base args ds gs before hval hW _ hsz _
  exact contract H enc W base args ds gs before hval hW hsz

theorem holds : Rows.InboxKeepsSaid :=
  OpenClaim.holds_of_wide 8 Try.f8 rfl rfl rfl rfl rfl rfl rfl ⟨rfl, rfl, rfl, rfl, rfl⟩ rfl rfl rfl rfl rfl (by kernel_rfl) Try.func8 (by kernel_rfl)
    (of_decide_eq_true (by kernel_rfl)) (by unfold Func.isWrapper; first | (rw [if_pos (by decide +kernel)]; kernel_rfl) | (rw [if_neg (by decide +kernel)]; exact ⟨rfl, rfl⟩))
    (fun os started H enc _ => lifted os started H enc)
-- ROW END
end InboxKeeps
end Go.Proofs.Ytiempgabamheiaa
