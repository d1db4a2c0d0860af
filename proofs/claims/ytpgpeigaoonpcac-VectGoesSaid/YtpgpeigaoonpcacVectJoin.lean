/-
  Two vectors joined: vect.Join and firthref04.Join.
-/
import Derived.Test.YtpgpeigaoonpcacVectNext
import Derived.Test.YtpgpeigaoonpcacRow
import Derived.Laws.CopyOwn
namespace Go.Proofs.Ytpgpeigaoonpcac
namespace Vect
open Go.RowKit Span
attribute [local go_sem ↓] Go.wp_at_zero Go.wp_at_succ

def maxV (a b : List Int) : List Int := (List.range a.length).map fun k => max (a.getD k 0) (b.getD k 0)
theorem max_len (a b : List Int) : (maxV a b).length = a.length := by simp [maxV]
theorem max_at (a b : List Int) {k : Nat} (hk : k < a.length) : (maxV a b).getD k 0 = max (a.getD k 0) (b.getD k 0) := by
  simp [maxV, List.getD_eq_getElem?_getD, hk]
def vjE (a b : List Int) : Int := if RightV a ∧ RightV b ∧ a.length = b.length then 0 else 1
def vjL (a b : List Int) : List Int := if RightV a ∧ RightV b ∧ a.length = b.length then maxV a b else []
theorem vj_wrong {a b : List Int} (h : ¬ (RightV a ∧ RightV b ∧ a.length = b.length)) : vjE a b = 1 ∧ vjL a b = [] := ⟨if_neg h, if_neg h⟩
theorem vj_good {a b : List Int} (h : RightV a ∧ RightV b ∧ a.length = b.length) : vjE a b = 0 ∧ vjL a b = maxV a b := ⟨if_pos h, if_pos h⟩

/-- The answer of Join: a vector, or the error's number; new memory. -/
def VJPost (l : List Int) (f : Int) (w : World) (e : Ending) (w' : World) : Prop :=
  ∃ A c, e = .returned (.tuple #[.slice A l.length c, .int .i64 f]) ∧ w'.ownsRow w.heap.size 2 1 (.slice A l.length c) l.length (nums .i64 l) ∧ Below w.heap.size w w'
theorem vj_nil (f : Int) (w w' : World) (hb : Below w.heap.size w w') (e : Ending) (he : e = .returned (.tuple #[.slice none 0 0, .int .i64 f])) : VJPost [] f w e w' :=
  ⟨none, 0, he, World.ownsRow_nil _ _ _ _, hb⟩

theorem info_int64 : ∃ i, Try.prog.info? 2 = some i ∧ i.zero = some (.int .i64 0) ∧ i.size = 1 ∧ i.bytes = 8 := by
  have h : (Try.prog.info? 2).map (fun i => (i.zero, i.size, i.bytes)) = some (some (.int .i64 0), 1, 8) := by kernel_rfl
  obtain ⟨i, h1, h2⟩ := Option.map_eq_some_iff.1 h
  simp only [Prod.mk.injEq] at h2
  exact ⟨i, h1, h2.1, h2.2.1, h2.2.2⟩

/-- Block g is an array of these numbers. -/
def Arr (W : World) (g : Nat) (cur : List Int) : Prop := W.heap[g]? = some (.cells (nums .i64 cur).toArray 51 (0, 0))
theorem Arr.cell {W : World} {g : Nat} {cur : List Int} (h : Arr W g cur) {j : Nat} (hj : j < cur.length) : W.cell? ⟨g, j, none⟩ = some (.int .i64 (cur.getD j 0)) := by
  rw [cell_of_row W g j _ _ (0, 0) h]
  simp [nums, List.getD_eq_getElem?_getD, hj]
theorem Arr.frozen {W : World} {g : Nat} {cur : List Int} (h : Arr W g cur) (j : Nat) : W.frozen? ⟨g, j, none⟩ = false := by
  simp [World.frozen?, show W.heap[g]? = _ from h]
theorem Arr.set {W : World} {g : Nat} {cur : List Int} (h : Arr W g cur) (j : Nat) (x : Int) : Arr (W.setCell ⟨g, j, none⟩ (.int .i64 x)) g (cur.set j x) := by
  have h' : W.heap[g]? = some (.cells (nums .i64 cur).toArray 51 (0, 0)) := h
  show (W.setCell ⟨g, j, none⟩ (.int .i64 x)).heap[g]? = _
  simp [World.setCell, Array.getElem?_modify, h', nums, List.map_set]
theorem Arr.ns {W : World} {g : Nat} {cur : List Int} (h : Arr W g cur) (n : Nat) : Ns .i64 W W.heap.size (some ⟨g, 0, none⟩) (cur.take n) := fun hp =>
  ⟨g, 0, rfl, (Array.getElem?_eq_some_iff.1 (show W.heap[g]? = _ from h)).1, fun j hj => by
    rw [List.length_take] at hj
    rw [Nat.zero_add, h.cell (by omega)]
    simp [List.getD_eq_getElem?_getD, show j < n by omega]⟩

theorem copied {W w0 : World} {G B : Nat} {cur a : List Int} (h : Arr W G cur) (hb : Below B w0 W) (hG : B ≤ G) :
    ∃ W', W.setRow G ((nums .i64 cur).toArray.toList.take 0 ++ (nums .i64 a ++ (nums .i64 cur).toArray.toList.drop (0 + (nums .i64 a).length))).toArray = W' ∧ Arr W' G (a ++ cur.drop a.length) ∧ Below B w0 W' := by
  refine ⟨_, rfl, ?_, below_setRow hb hG _⟩
  have h2 := setRow_heap W G _ ((nums .i64 cur).toArray.toList.take 0 ++ (nums .i64 a ++ (nums .i64 cur).toArray.toList.drop (0 + (nums .i64 a).length))).toArray _ _ h
  unfold Arr
  rw [h2]
  simp [nums, List.map_drop]

set_option maxHeartbeats 2000000 in
set_option maxRecDepth 100000 in
theorem vjoin_any (A A' : Option Addr) (c c' n n' : Nat) (a b : List Int) (hn : a.length = n) (hn' : b.length = n') (w : World) (hr : Ns .i64 w w.heap.size A a) (hr' : Ns .i64 w w.heap.size A' b) (hbig : n ≤ 140737488355328) (hbig' : n' ≤ 140737488355328) :
    Calls Try.prog 9 #[.slice A n c, .slice A' n' c'] w (VJPost (vjL a b) (vjE a b) w) := by
  have h1 := right_v A c n a hn w hr hbig
  have h2 := fun W h => right_v A' c' n' b hn' W h hbig'
  obtain ⟨q1, hq1⟩ : ∃ q, decide (RightV a) = q := ⟨_, rfl⟩
  obtain ⟨q2, hq2⟩ : ∃ q, decide (RightV b) = q := ⟨_, rfl⟩
  rw [hq1] at h1
  rw [hq2] at h2
  obtain ⟨L, hL⟩ : ∃ L, vjL a b = L := ⟨_, rfl⟩
  obtain ⟨E, hE⟩ : ∃ E, vjE a b = E := ⟨_, rfl⟩
  rw [hL, hE]
  have HL := Lib.hid hL
  have HE := Lib.hid hE
  have H1 := Lib.hid h1
  have H2 := Lib.hid h2
  have HR := Lib.hid hr
  have HR' := Lib.hid hr'
  clear h1 h2 hr hr' hL hE
  cases q1
  · have hw := vj_wrong (a := a) (b := b) (fun h => of_decide_eq_false hq1 h.1)
    have HW := Lib.hid (And.intro (HL.out.symm.trans hw.2) (HE.out.symm.trans hw.1))
    clear hw hq1 hq2 H2 hn hn'
    go_enter Try.func9, Try.ntmps9
    go_wp2_with fail
    refine H1.out.mono ?_
    rintro e w1 ⟨rfl, b1⟩
    go_wp2
    go_ret2
    rw [HW.out.1, HW.out.2]
    exact vj_nil _ _ _ b1 _ rfl
  · cases q2
    · have hw := vj_wrong (a := a) (b := b) (fun h => of_decide_eq_false hq2 h.2.1)
      have HW := Lib.hid (And.intro (HL.out.symm.trans hw.2) (HE.out.symm.trans hw.1))
      clear hw hq1 hq2 hn hn'
      go_enter Try.func9, Try.ntmps9
      go_wp2_with fail
      refine H1.out.mono ?_
      rintro e w1 ⟨rfl, b1⟩
      have s1 := b1.size
      go_wp2_with fail
      refine (H2.out _ ((HR'.out.below b1).more s1)).mono ?_
      rintro e w2 ⟨rfl, b2⟩
      go_wp2
      go_ret2
      rw [HW.out.1, HW.out.2]
      exact vj_nil _ _ _ (b1.trans (b2.mono s1)) _ rfl
    · have hRa := of_decide_eq_true hq1
      have hRb := of_decide_eq_true hq2
      by_cases hlen : n = n'
      · subst hlen
        have hw := vj_good (a := a) (b := b) ⟨hRa, hRb, by omega⟩
        have HW := Lib.hid (And.intro (HL.out.symm.trans hw.2) (HE.out.symm.trans hw.1))
        have hn1 : n ≤ 16 := by rw [← hn]; exact hRa.2.1
        have hn0 : 1 ≤ n := by rw [← hn]; exact hRa.1
        have HN := Lib.hid (And.intro hn hn')
        obtain ⟨info, hi, hz, hsize, hby⟩ := info_int64
        have HI := Lib.hid (And.intro hi (And.intro hz (And.intro hsize hby)))
        have HU := Lib.hid (show (Try.prog.info? 2).map (·.size) = some 1 by rw [hi]; simp [hsize])
        obtain ⟨ga, offa, rfl, hgb, hca⟩ := HR.out (by omega)
        clear hw hq1 hq2 hn hn' hRa hRb hi hz hsize hby
        go_enter Try.func9, Try.ntmps9
        go_wp2_with fail
        refine H1.out.mono ?_
        rintro e w1 ⟨rfl, b1⟩
        have s1 := b1.size
        go_wp2_with fail
        refine (H2.out _ ((HR'.out.below b1).more s1)).mono ?_
        rintro e w2 ⟨rfl, b2⟩
        have s2 := b2.size
        have b12 := b1.trans (b2.mono s1)
        clear H1 H2 b1 b2
        have hA0 : Arr (w2.alloc (.cells #[.int .i64 0, .int .i64 0, .int .i64 0, .int .i64 0, .int .i64 0, .int .i64 0, .int .i64 0, .int .i64 0, .int .i64 0, .int .i64 0, .int .i64 0, .int .i64 0, .int .i64 0, .int .i64 0, .int .i64 0, .int .i64 0] 51)) w2.heap.size [0, 0, 0, 0, 0, 0, 0, 0, 0, 0, 0, 0, 0, 0, 0, 0] := heap_alloc_new w2 _
        have hb3 := b12.alloc b12.size (.cells #[.int .i64 0, .int .i64 0, .int .i64 0, .int .i64 0, .int .i64 0, .int .i64 0, .int .i64 0, .int .i64 0, .int .i64 0, .int .i64 0, .int .i64 0, .int .i64 0, .int .i64 0, .int .i64 0, .int .i64 0, .int .i64 0] 51)
        obtain ⟨W3, hW3⟩ : ∃ W3, w2.alloc (.cells #[.int .i64 0, .int .i64 0, .int .i64 0, .int .i64 0, .int .i64 0, .int .i64 0, .int .i64 0, .int .i64 0, .int .i64 0, .int .i64 0, .int .i64 0, .int .i64 0, .int .i64 0, .int .i64 0, .int .i64 0, .int .i64 0] 51) = W3 := ⟨_, rfl⟩
        rw [hW3] at hA0 hb3
        have HA0 := Lib.hid hA0
        have HB3 := Lib.hid hb3
        have hGb : w.heap.size ≤ w2.heap.size := b12.size
        obtain ⟨G, hG⟩ : ∃ G, w2.heap.size = G := ⟨_, rfl⟩
        rw [hG] at HA0 hGb
        have hsrc : Hid (∀ j u, (nums .i64 a)[j]? = some u → W3.cell? ((⟨ga, offa, none⟩ : Addr).add j) = some u) := Lib.hid (by
          intro j u hu
          have hj : j < a.length := by
            rcases Nat.lt_or_ge j a.length with h | h
            · exact h
            · rw [List.getElem?_eq_none (by rw [nums_length]; exact h)] at hu; cases hu
          rw [show (⟨ga, offa, none⟩ : Addr).add j = ⟨ga, offa + j, none⟩ by unfold Addr.add; split <;> simp_all]
          rw [(HB3.out.cell (by exact hgb)).trans (hca j hj)]
          rw [← hu]
          simp only [nums, List.getElem?_map, List.getD_eq_getElem?_getD, List.getElem?_eq_getElem hj, Option.map_some, Option.getD_some])
        have hone : Hid (∀ u ∈ nums .i64 a, u.oneCell' = true) := Lib.hid (by
          intro u hu
          obtain ⟨y, _, rfl⟩ := List.mem_map.1 hu
          rfl)
        have hcl : Hid ((nums .i64 a).length = Nat.min n 16) := Lib.hid (by rw [nums_length, HN.out.1]; exact (Nat.min_eq_left hn1).symm)
        have hfit : Hid (0 + (nums .i64 a).length ≤ (nums .i64 [0, 0, 0, 0, 0, 0, 0, 0, 0, 0, 0, 0, 0, 0, 0, 0]).toArray.size) := Lib.hid (by rw [nums_length, HN.out.1]; simp [nums]; omega)
        clear hA0 hb3 hca b12
        go_wp2_with (refine wpList_copy_own rfl _ _ _ _ rfl 2 Try.underlying22 HU.out G 0 16 16 ⟨ga, offa, none⟩ n c rfl rfl (nums .i64 [0, 0, 0, 0, 0, 0, 0, 0, 0, 0, 0, 0, 0, 0, 0, 0]).toArray 51 HA0.out (nums .i64 a) hcl.out hsrc.out hfit.out hone.out ?_; obtain ⟨W4, hW4, hA4, b4⟩ := copied (a := a) HA0.out HB3.out hGb; rw [hW4]; clear hW4; have HA4 := Lib.hid hA4; have HB4 := Lib.hid b4; clear hA4 b4)
        clear hW3 HA0 HB3 hsrc hone hcl hfit
        go_loopw [28] (fun q wr => ∃ (i : Nat) (cur : List Int), i ≤ n ∧ q = .int .i64 i ∧ Hid (cur.length = 16) ∧ Hid (Arr wr G cur) ∧ Hid (Below w.heap.size w wr) ∧ Hid (∀ j, j < n → cur.getD j 0 = if j < i then max (a.getD j 0) (b.getD j 0) else a.getD j 0)) (fun q _ => n - (intOf q).toNat)
        case atStart =>
          refine ⟨0, _, by omega, rfl, Lib.hid ?_, HA4, HB4, Lib.hid fun j hj => ?_⟩
          · rw [List.length_append, List.length_drop, HN.out.1]
            simp
            omega
          · rw [if_neg (by omega), List.getD_eq_getElem?_getD, List.getElem?_append_left (by rw [HN.out.1]; exact hj), ← List.getD_eq_getElem?_getD]
        case round =>
          obtain ⟨i, cur, hi1, rfl, hcl, hA, hb, hst⟩ := hrel
          clear HA4 HB4
          by_cases hlt : i < n
          · obtain ⟨x, hx⟩ : ∃ x, a.getD i 0 = x := ⟨_, rfl⟩
            obtain ⟨y, hy⟩ : ∃ y, b.getD i 0 = y := ⟨_, rfl⟩
            obtain ⟨bb, ofb, rfl, hbb, d0⟩ := ns_cell HR'.out HN.out.2 hb.out hlt hy
            have hcx := hA.out.cell (j := i) (by rw [hcl.out]; omega)
            rw [hst.out i hlt, if_neg (by omega), hx] at hcx
            have hf := hA.out.frozen i
            have d0' : wr.drew.cell? ⟨bb, ofb + i, none⟩ = some (.int .i64 y) := d0
            have hcx' : wr.drew.cell? ⟨G, i, none⟩ = some (.int .i64 x) := hcx
            have hf' : wr.drew.frozen? ⟨G, i, none⟩ = false := hf
            have r0 : (0 : Int) ≤ (i : Int) := by omega
            have r1 : (i : Int) < (n : Int) := by omega
            have r2 : (i : Int) < 16 := by omega
            have HS := Lib.hid (fun z => hA.out.set i z)
            have HB5 := Lib.hid (fun z => (hb.out.setCell (p := ⟨G, i, none⟩) hGb (.int .i64 z)))
            have HM : Hid (∀ j, j < n → (cur.set i (max x y)).getD j 0 = if j < i + 1 then max (a.getD j 0) (b.getD j 0) else a.getD j 0) := Lib.hid (by
              intro j hj
              by_cases hji : j = i
              · subst hji
                rw [if_pos (by omega), hx, hy, List.getD_eq_getElem?_getD, List.getElem?_set_self (by rw [hcl.out]; omega)]
                rfl
              · rw [List.getD_eq_getElem?_getD, List.getElem?_set_ne (by omega), ← List.getD_eq_getElem?_getD, hst.out j hj]
                by_cases h1 : j < i
                · rw [if_pos h1, if_pos (by omega)]
                · rw [if_neg h1, if_neg (by omega)])
            have HC : Hid ((cur.set i (max x y)).length = 16) := Lib.hid (by rw [List.length_set]; exact hcl.out)
            clear hx hy hst hcl hA hb HN HL HE HW HR HR' HI HU
            go_wp2
            go_region_with (fail)
            all_goals
              have hmx : (if x < y then y else x) = max x y := by split <;> omega
              rw [hmx]
              obtain ⟨z, hz⟩ : ∃ z, max x y = z := ⟨_, rfl⟩
              rw [hz]
              have HA6 := HS.out z
              have HB6 := HB5.out z
              rw [hz] at HM HC
              have HA7 := Lib.hid HA6
              have HB7 := Lib.hid HB6
              clear hmx hz HA6 HB6 HS HB5
              go_wp2
              exact ⟨⟨i + 1, cur.set i z, by omega, rfl, HC, HA7, Lib.hid HB7.out.drew, HM⟩, by simp only [intOf]; omega⟩
          · have hie : i = n := by omega
            have htk : cur.take n = maxV a b := by
              refine List.ext_getElem? fun j => ?_
              by_cases hj : j < n
              · have h1 := hst.out j hj
                rw [if_pos (by omega)] at h1
                have h2 := max_at a b (k := j) (by rw [HN.out.1]; exact hj)
                rw [← h1] at h2
                rw [List.getElem?_take_of_lt hj]
                rw [List.getD_eq_getElem?_getD, List.getD_eq_getElem?_getD, List.getElem?_eq_getElem (by rw [max_len, HN.out.1]; exact hj), List.getElem?_eq_getElem (by rw [hcl.out]; omega)] at h2
                rw [List.getElem?_eq_getElem (by rw [hcl.out]; omega), List.getElem?_eq_getElem (by rw [max_len, HN.out.1]; exact hj)]
                simpa using h2.symm
              · rw [List.getElem?_eq_none (by rw [List.length_take]; omega), List.getElem?_eq_none (by rw [max_len, HN.out.1]; omega)]
            have hns := hA.out.ns n
            rw [htk] at hns
            have HNS := Lib.hid hns
            have hml : Hid ((maxV a b).length = n) := Lib.hid (by rw [max_len]; exact HN.out.1)
            have hsz := hb.out.size
            clear hns htk hst hA hcl HR HR' HL HE HN
            have hsl : (Instr.sliceAt 51 (.pointer (some ⟨G, 0, none⟩)) none (some (.int .i64 (n : Int))) none).run Try.prog wr = .ok (.slice (some ⟨G, 0, none⟩) n 16) wr := by
              rw [run_sliceAt_array_h wr 51 ⟨G, 0, none⟩ (by kernel_rfl) .i64 n (by omega) (by rw [show Try.prog.arrayLen 51 = 16 by kernel_rfl]; omega)]
              rw [show Try.prog.elem 51 = 2 by kernel_rfl, show Try.prog.arrayLen 51 = 16 by kernel_rfl]
              simp [sizeOf, typeInfo, HI.out.1, slicedAt, Addr.add]
            go_wp2_with (at_builtin; refine wpList_append_ns _ rfl _ _ _ rfl w.heap.size 2 info (.int .i64 0) 8 Try.underlying22 HI.out.1 HI.out.2.1 HI.out.2.2.1 HI.out.2.2.2 rfl (.slice none 0 0) 0 [] rfl (World.ownsRow_nil _ _ _ _) .i64 wr.heap.size (some ⟨G, 0, none⟩) n 16 (maxV a b) hml.out rfl HNS.out (by omega) (by omega) hsz ?_; intro v5 w5 o5 g5 _; obtain ⟨A5, c5, rfl⟩ := own_form o5)
            go_ret2
            rw [HW.out.1, HW.out.2]
            rw [Nat.zero_add, List.nil_append] at o5
            exact ⟨A5, c5, by rw [hml.out]; simp, by rw [hml.out]; exact o5, hb.out.grown g5 hsz (fun g hg => by cases hg)⟩
      · have hw := vj_wrong (a := a) (b := b) (fun h => hlen (by have := h.2.2; omega))
        have HW := Lib.hid (And.intro (HL.out.symm.trans hw.2) (HE.out.symm.trans hw.1))
        have hne : ((n : Int) == (n' : Int)) = false := by simp; omega
        clear hw hq1 hq2 hn hn' hRa hRb
        go_enter Try.func9, Try.ntmps9
        go_wp2_with fail
        refine H1.out.mono ?_
        rintro e w1 ⟨rfl, b1⟩
        have s1 := b1.size
        go_wp2_with fail
        refine (H2.out _ ((HR'.out.below b1).more s1)).mono ?_
        rintro e w2 ⟨rfl, b2⟩
        go_wp2
        go_ret2
        rw [HW.out.1, HW.out.2]
        exact vj_nil _ _ _ (b1.trans (b2.mono s1)) _ rfl
end Vect
end Go.Proofs.Ytpgpeigaoonpcac
