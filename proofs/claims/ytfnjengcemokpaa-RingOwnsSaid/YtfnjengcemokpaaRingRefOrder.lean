/-
  firthref12.Order tells the order.
-/
import Derived.Test.YtfnjengcemokpaaRingOrder
namespace Go.Proofs.Ytfnjengcemokpaa
namespace Ring
open Go.RowKit
attribute [local go_sem ↓] Go.wp_at_zero Go.wp_at_succ

def bestK (f m : Int) : Nat → Int
  | 0 => 18446744073709551615
  | k + 1 => min (dist f (hp m k)) (bestK f m k)
theorem bestK_four (f m : Int) : bestK f m 4 = firstF hp f m := by
  have r : ∀ x, 0 ≤ dist f x ∧ dist f x < 18446744073709551616 := fun x => by unfold dist; omega
  have h0 := r (hp m 0)
  have h1 := r (hp m 1)
  have h2 := r (hp m 2)
  have h3 := r (hp m 3)
  unfold firstF
  show min (dist f (hp m (3 : Nat))) (min (dist f (hp m (2 : Nat))) (min (dist f (hp m (1 : Nat))) (min (dist f (hp m (0 : Nat))) 18446744073709551615))) = _
  rw [show ((3 : Nat) : Int) = 3 from rfl, show ((2 : Nat) : Int) = 2 from rfl, show ((1 : Nat) : Int) = 1 from rfl, show ((0 : Nat) : Int) = 0 from rfl]
  omega
theorem wrap_dist (f x : Int) : IntKind.u64.wrap (x - f) = dist f x := by simp [IntKind.wrap, IntKind.signed, IntKind.bits, dist]

set_option maxRecDepth 100000 in
set_option maxHeartbeats 1000000 in
theorem first_any (m f : Int) (hm : 0 ≤ m ∧ m ≤ 255) (w : World) :
    Calls Try.prog 31 #[.int .i64 m, .int .u64 f] w fun e w' => e = .returned (.int .u64 (firstF hp f m)) ∧ Below w.heap.size w w' := by
  obtain ⟨m0, m1⟩ := hm
  go_enter Try.func31, Try.ntmps31
  go_wp2_with fail
  go_loopw [5, 6] (fun bv iv wr => ∃ k : Nat, iv = .int .i64 k ∧ k ≤ 4 ∧ bv = .int .u64 (bestK f m k) ∧ Below w.heap.size w wr) (fun _ iv _ => 4 - (intOf iv).toNat)
  case atStart => exact ⟨0, rfl, by omega, rfl, Below.refl _ _⟩
  case round =>
    obtain ⟨k, rfl, hk, rfl, hb⟩ := hrel
    have e1 : (0 : Int) ≤ (k : Int) := by omega
    by_cases hlt : k < 4
    · have h1 := ref_hash_any (some ⟨wr.heap.size, 0, none⟩) 2 2 [m, (k : Int)] rfl (fun z hz => by simp at hz; omega) _ (two_ns wr m k) (by omega)
      have hx : hashL [m, (k : Int)] = hp m k := rfl
      obtain ⟨x, hxx⟩ : ∃ x, hp m (k : Int) = x := ⟨_, rfl⟩
      have hd := wrap_dist f x
      obtain ⟨d, hdd⟩ : ∃ d, dist f x = d := ⟨_, rfl⟩
      obtain ⟨b, hbb⟩ : ∃ b, bestK f m k = b := ⟨_, rfl⟩
      rw [hx, hxx] at h1
      rw [hdd] at hd
      have HN : Hid (bestK f m (k + 1) = min d b) := Lib.hid (by rw [← hdd, ← hbb, ← hxx]; rfl)
      rw [hbb]
      have H1 := Lib.hid h1
      have HB := Lib.hid (hb.alloc hb.size (.cells #[.int .u8 m, .int .u8 (k : Int)] 5))
      have e2 : (k : Int) < 4 := by omega
      have e3 : (k : Int) ≤ 255 := by omega
      clear h1 hx hxx hdd hbb hb
      go_wp2_with fail
      refine H1.out.mono ?_
      rintro e w1 ⟨rfl, rfl⟩
      by_cases hdb : d < b
      · have HN2 := Lib.hid (show bestK f m (k + 1) = d by rw [HN.out]; omega)
        go_wp2_with fail
        exact ⟨⟨k + 1, rfl, by omega, by rw [HN2.out], HB.out⟩, by simp only [intOf]; omega⟩
      · have HN2 := Lib.hid (show bestK f m (k + 1) = b by rw [HN.out]; omega)
        go_wp2_with fail
        exact ⟨⟨k + 1, rfl, by omega, by rw [HN2.out], HB.out⟩, by simp only [intOf]; omega⟩
    · have hk4 : k = 4 := by omega
      subst hk4
      rw [bestK_four]
      have HB := Lib.hid hb
      clear hb
      go_wp2_with fail
      go_ret
      exact ⟨rfl, HB.out⟩

theorem info_bool : (Try.prog.info? 4).map (fun i => (i.zero, i.size, i.bytes)) = some (some (.bool false), 1, 1) := by kernel_rfl
theorem meta_made {w : World} {base g cap : Nat} {us : List Value} (h : w.ownsRow base 4 1 (.slice (some ⟨g, 0, none⟩) 9 cap) 9 us) (hu : us = List.replicate 9 (.bool false)) : MetA w g [] := by
  refine ⟨(h.lt g rfl).2, fun q hq => ⟨?_, h.frozenAt q⟩⟩
  rw [World.ownsRow.cellAt h q (by omega), hu]
  rw [List.getElem?_replicate, if_pos hq]
  simp

set_option maxRecDepth 100000 in
set_option maxHeartbeats 4000000 in
theorem ref_order_any (A : Option Addr) (c n : Nat) (ms : List Int) (hn : ms.length = n) (part : Int) (w : World) (hr : Ns .i64 w w.heap.size A ms) (hbig : n ≤ 140737488355328) :
    Calls Try.prog 23 #[.slice A n c, .int .i64 part] w (OrdPost ms part w) := by
  have h1 := ref_rightM_any A c n ms hn w hr hbig
  by_cases hrm : RightM ms
  rotate_left
  · rw [decide_eq_false hrm] at h1
    have H1 := Lib.hid h1
    have HN : Hid (¬ (RightM ms ∧ 0 ≤ part ∧ part < 8)) := Lib.hid fun h => hrm h.1
    clear h1 hrm hr hn
    go_enter Try.func23, Try.ntmps23
    go_wp2_with fail
    refine H1.out.mono ?_
    rintro e w1 ⟨rfl, b1⟩
    have B1 := Lib.hid b1
    clear b1
    go_wp2_with fail
    go_ret
    exact ordPost_none HN.out B1.out
  rw [decide_eq_true hrm] at h1
  by_cases hp0 : part < 0
  · have H1 := Lib.hid h1
    have HN : Hid (¬ (RightM ms ∧ 0 ≤ part ∧ part < 8)) := Lib.hid fun h => by omega
    clear h1 hrm hr hn
    go_enter Try.func23, Try.ntmps23
    go_wp2_with fail
    refine H1.out.mono ?_
    rintro e w1 ⟨rfl, b1⟩
    have B1 := Lib.hid b1
    clear b1
    go_wp2_with fail
    go_ret
    exact ordPost_none HN.out B1.out
  by_cases hp8 : 8 ≤ part
  · have H1 := Lib.hid h1
    have HN : Hid (¬ (RightM ms ∧ 0 ≤ part ∧ part < 8)) := Lib.hid fun h => by omega
    clear h1 hrm hr hn
    go_enter Try.func23, Try.ntmps23
    go_wp2_with fail
    refine H1.out.mono ?_
    rintro e w1 ⟨rfl, b1⟩
    have B1 := Lib.hid b1
    clear b1
    go_wp2_with fail
    go_ret
    exact ordPost_none HN.out B1.out
  have H1 := Lib.hid h1
  have HV := Lib.hid (And.intro hr (And.intro hn (And.intro hrm (show RightM ms ∧ 0 ≤ part ∧ part < 8 from ⟨hrm, by omega, by omega⟩))))
  have hn1 : 1 ≤ n := by have := hrm.1; omega
  have hn8 : n ≤ 8 := by have := hrm.2.1; omega
  obtain ⟨i0, hi0, hz0, hz1, hz2⟩ := info_parts info_bool
  obtain ⟨j0, hj0, hy0, hy1, hy2⟩ := info_parts info_int
  have p255 : part ≤ 255 := by omega
  have p0 : 0 ≤ part := by omega
  clear h1 hrm hr hn
  go_enter Try.func23, Try.ntmps23
  go_wp2_with fail
  refine H1.out.mono ?_
  rintro e w1 ⟨rfl, b1⟩
  have B1 := Lib.hid b1
  have hh := ref_hash_any (some ⟨w1.heap.size, 0, none⟩) 2 2 [255, part] rfl (fun z hz => by simp at hz; omega) _ (two_ns w1 255 part) (by omega)
  have HH := Lib.hid hh
  have B2 : Hid (Below w.heap.size w (w1.alloc (.cells #[.int .u8 255, .int .u8 part] 5))) := Lib.hid (b1.alloc b1.size _)
  clear b1 H1 hh
  go_wp2_with fail
  obtain ⟨f, hf⟩ : ∃ f, hashL [255, part] = f := ⟨_, rfl⟩
  have HF : Hid (hp 255 part = f ∧ U f) := Lib.hid ⟨hf, by rw [← hf]; exact hash_range _⟩
  rw [hf] at HH
  obtain ⟨w2, hw2⟩ : ∃ w2, w1.alloc (.cells #[.int .u8 255, .int .u8 part] 5) = w2 := ⟨_, rfl⟩
  rw [hw2] at HH B2 ⊢
  clear hf hw2
  refine HH.out.mono ?_
  rintro e w2' ⟨rfl, rfl⟩
  obtain ⟨base, hbase⟩ : ∃ base, w2.heap.size = base := ⟨_, rfl⟩
  have HBS : Hid (w2.heap.size = base) := Lib.hid hbase
  clear hbase HH
  go_wp2_with (at_make; refine wpList_make_full _ rfl _ _ 44 rfl w2.heap.size 4 i0 (.bool false) 1 Try.underlying44 hi0 hz0 hz1 _ _ _ _ 9 rfl rfl rfl rfl (by rw [hz2]; omega) (by unfold maxLen; omega) (Nat.le_refl _) ?_; intro w3 o3 g3)
  have hMA : MetA w3 w2.heap.size [] := meta_made o3 (by rw [show (Value.bool false).cells = #[Value.bool false] from rfl, Nat.mul_one, toList_madeCells_one])
  have hb3 : Below w2.heap.size w2 w3 := (Below.refl _ _).grown g3 (Nat.le_refl _) (fun k hk => by cases hk)
  obtain ⟨base2, hb2⟩ : ∃ b, w3.heap.size = b := ⟨_, rfl⟩
  rw [HBS.out] at hMA hb3 ⊢
  have HW3 : Hid (Below base w2 w3 ∧ base < base2 ∧ w3.heap.size = base2) := Lib.hid ⟨hb3, by have := hMA.1; omega, hb2⟩
  have HI : Hid (∃ (m : Nat) (Al : Option Addr) (cl : Nat) (out : List Int), Value.slice none 0 0 = .slice Al m cl ∧ m ≤ n ∧ Hid (out.length = m ∧ Sel hp f ms out ∧ w3.ownsRow base2 3 1 (.slice Al m cl) m (nums .i64 out) ∧ MetA w3 base out) ∧ Below base w3 w3) := Lib.hid ⟨0, none, 0, [], rfl, by omega, Lib.hid ⟨rfl, sel_nil, World.ownsRow_nil _ _ _ _, hMA⟩, Below.refl _ _⟩
  clear hMA hb3 hb2 o3 g3
  go_loopw [5] (fun ov wr => ∃ (m : Nat) (Al : Option Addr) (cl : Nat) (out : List Int), ov = .slice Al m cl ∧ m ≤ n ∧ Hid (out.length = m ∧ Sel hp f ms out ∧ wr.ownsRow base2 3 1 (.slice Al m cl) m (nums .i64 out) ∧ MetA wr base out) ∧ Below base w3 wr) (fun ov _ => match ov with | .slice _ m _ => n - m | _ => 0)
  case atStart => exact HI.out
  case round =>
    obtain ⟨m, Al, cl, out, rfl, hm, hH, hb⟩ := hrel
    clear HI
    by_cases hlt : m < n
    · have HBO := Lib.hid hb
      have hsz2 : base2 ≤ wr.heap.size := by have h1 := hb.size; have h2 := HW3.out.2.2; omega
      have hb0 : Hid (BestOf hp f out (ms.take 0) 0) := Lib.hid best_nil
      have HNS : Hid (Ns .i64 wr w.heap.size A ms ∧ w.heap.size ≤ wr.heap.size ∧ base < wr.heap.size) := Lib.hid (by
        have s2 := B2.out.size
        have e2 := HBS.out
        have s3 := HW3.out.2.1
        exact ⟨((HV.out.1.below B2.out).below (HW3.out.1.mono (by omega))).below (hb.mono (by omega)), by omega, by omega⟩)
      clear hb
      go_wp2_with fail
      go_loopw [8, 9] (fun bv iv V => ∃ (i : Nat) (b : Int), iv = .int .i64 i ∧ i ≤ n ∧ bv = .int .i64 b ∧ 0 ≤ b ∧ b ≤ 8 ∧ Hid (BestOf hp f out (ms.take i) b) ∧ Below wr.heap.size wr V) (fun _ iv _ => n - (intOf iv).toNat)
      case atStart => exact ⟨0, 0, rfl, by omega, rfl, by omega, by omega, hb0, Below.refl _ _⟩
      case round =>
        obtain ⟨i, b, rfl, hi, rfl, hbl, hbh, hbest, hbv⟩ := hrel
        have HBV := Lib.hid hbv
        have HMA := Lib.hid (hH.out.2.2.2.keep hbv HNS.out.2.2)
        clear hbv
        by_cases hli : i < n
        · have hil : i < ms.length := by have := HV.out.2.1; omega
          obtain ⟨pb, off, rfl, _, hc⟩ := (HNS.out.1.below (HBV.out.mono HNS.out.2.1)) (by omega)
          have c0 := hc i hil
          have hzr := (right_get HV.out.2.2.1 hil).1
          have htk : ms.take (i + 1) = ms.take i ++ [ms.getD i 0] := by
            rw [List.take_succ_eq_append_getElem hil]
            simp [List.getD_eq_getElem?_getD, hil]
          have hpre : ∀ x ∈ ms.take i, 1 ≤ x := fun x hx => (HV.out.2.2.1.2.2.1 x (List.mem_of_mem_take hx)).1
          have hrise : ∀ x ∈ ms.take i, x < ms.getD i 0 := fun x hx => by
            have hs := HV.out.2.2.1.2.2.2
            rw [← List.take_append_drop i ms, List.pairwise_append] at hs
            refine hs.2.2 x hx _ ?_
            have e : ms.getD i 0 = ms[i] := by simp [List.getD_eq_getElem?_getD, hil]
            rw [e, List.drop_eq_getElem_cons hil]
            exact List.mem_cons_self
          obtain ⟨z, hz⟩ : ∃ z : Nat, ms.getD i 0 = (z : Int) := ⟨(ms.getD i 0).toNat, by omega⟩
          rw [hz] at c0 hzr htk hrise
          have hz9 : z < 9 := by omega
          obtain ⟨mc, mf⟩ := HMA.out.2 z hz9
          have HT := Lib.hid (And.intro htk (And.intro hpre hrise))
          have e1 : (0 : Int) ≤ (i : Int) := by omega
          have e2 : (i : Int) < (n : Int) := by omega
          have e3 : (z : Int) < 9 := by omega
          have e4 : (0 : Int) ≤ (z : Int) := by omega
          clear htk hpre hrise hc hz
          by_cases hin : (z : Int) ∈ out
          · rw [decide_eq_true hin] at mc
            have HN : Hid (BestOf hp f out (ms.take (i + 1)) b) := Lib.hid (by rw [HT.out.1]; exact best_in hbest.out hin)
            clear hin hbest
            go_wp2_with fail
            exact ⟨⟨i + 1, b, rfl, by omega, rfl, hbl, hbh, HN, HBV.out⟩, by simp only [intOf]; omega⟩
          rw [decide_eq_false hin] at mc
          by_cases hb00 : b = 0
          · subst hb00
            have HN : Hid (BestOf hp f out (ms.take (i + 1)) (z : Int)) := Lib.hid (by rw [HT.out.1]; exact best_first hbest.out HT.out.2.1 hin)
            clear hin hbest
            go_wp2_with fail
            exact ⟨⟨i + 1, (z : Int), rfl, by omega, rfl, by omega, by omega, HN, HBV.out⟩, by simp only [intOf]; omega⟩
          · have f1 := first_any (z : Int) f (by omega) wr
            have f2 := fun V => first_any b f (by omega) V
            have hb1 : (b == 0) = false := by simpa using hb00
            have hlessN : firstF hp f (z : Int) < firstF hp f b → BestOf hp f out (ms.take (i + 1)) (z : Int) := fun hl => by rw [HT.out.1]; exact best_less hbest.out hb00 hin hl
            have hstayN : ¬ firstF hp f (z : Int) < firstF hp f b → BestOf hp f out (ms.take (i + 1)) b := fun hl => by rw [HT.out.1]; exact best_stay hbest.out hb00 hl HT.out.2.2
            obtain ⟨F1, hF1⟩ : ∃ F, firstF hp f (z : Int) = F := ⟨_, rfl⟩
            obtain ⟨F2, hF2⟩ : ∃ F, firstF hp f b = F := ⟨_, rfl⟩
            rw [hF1] at f1 hlessN hstayN
            simp only [hF2] at f2 hlessN hstayN
            have G1 := Lib.hid f1
            have G2 := Lib.hid f2
            have HL := Lib.hid hlessN
            have HSt := Lib.hid hstayN
            clear f1 f2 hlessN hstayN hF1 hF2 hin hbest
            go_wp2_with fail
            refine G1.out.mono ?_
            rintro e w4 ⟨rfl, b4⟩
            have B4 := Lib.hid b4
            clear b4
            go_wp2_with fail
            refine (G2.out w4).mono ?_
            rintro e w5 ⟨rfl, b5⟩
            have B5 := Lib.hid (HBV.out.trans ((B4.out.trans (b5.mono B4.out.size)).mono HBV.out.size))
            clear b5
            by_cases hlf : F1 < F2
            · have HN := Lib.hid (HL.out hlf)
              go_wp2_with fail
              exact ⟨⟨i + 1, (z : Int), rfl, by omega, rfl, by omega, by omega, HN, B5.out⟩, by simp only [intOf]; omega⟩
            · have HN := Lib.hid (HSt.out (by omega))
              go_wp2_with fail
              exact ⟨⟨i + 1, b, rfl, by omega, rfl, hbl, hbh, HN, B5.out⟩, by simp only [intOf]; omega⟩
        · have hin : i = n := by omega
          have hbi := best_is (by have h := hbest.out; rw [hin, List.take_of_length_le (by have := HV.out.2.1; omega)] at h; exact h) HV.out.2.2.1.2.2.2 (by rw [hH.out.1, HV.out.2.1]; exact hlt)
          have hbr := HV.out.2.2.1.2.2.1 b hbi.1
          obtain ⟨z, hz⟩ : ∃ z : Nat, b = (z : Int) := ⟨b.toNat, by omega⟩
          subst hz
          have hz9 : z < 9 := by omega
          obtain ⟨mc, mf⟩ := HMA.out.2 z hz9
          have hsel := sel_step hH.out.2.1 hbi
          have HSEL := Lib.hid hsel
          have e3 : (z : Int) < 9 := by omega
          have e4 : (0 : Int) ≤ (z : Int) := by omega
          have e5 : ¬ (i : Int) < (n : Int) := by omega
          have HX : Hid ((wr.setCell ⟨base, z, none⟩ (.bool true)).ownsRow base2 3 1 (.slice Al m cl) m (nums .i64 out) ∧ MetA (wr.setCell ⟨base, z, none⟩ (.bool true)) base (out ++ [(z : Int)])) := Lib.hid ⟨ownsRow_setCell_below (own_below hH.out.2.2.1 HBV.out (Nat.le_refl _)) (by have := HW3.out.2.1; show base < base2; omega) _, HMA.out.set hz9⟩
          have HBX : Hid (base2 ≤ (wr.setCell ⟨base, z, none⟩ (.bool true)).heap.size ∧ base < base2) := Lib.hid ⟨by rw [size_set]; have h1 := HBV.out.size; omega, HW3.out.2.1⟩
          have hlo : out.length = m := hH.out.1
          have HLO := Lib.hid hlo
          clear hbi hsel hbest hlo
          go_wp2_with (at_builtin; refine wpList_append_one _ rfl (.tmp 65) (.tmp 67) 22 rfl base2 3 j0 (.int .i64 0) 8 Try.underlying22 hj0 hy0 hy1 hy2 rfl (.slice Al m cl) m (nums .i64 out) rfl HX.out.1 (.int .i64 (z : Int)) 1 (by rw [size_set]; rfl) rfl (by omega) (by omega) HBX.out.1 ?_; intro v3 w6 o6 g6 at6)
          obtain ⟨A6, c6, rfl⟩ := own_form o6
          have hrow : ∀ r, (Value.slice Al m cl).ownBlock = some r → base2 ≤ r := fun r hr => (HX.out.1.lt r hr).1
          have hb6 : Below base2 (wr.setCell ⟨base, z, none⟩ (.bool true)) w6 := (Below.refl _ _).grown g6 HBX.out.1 hrow
          have hbe : Below base w3 w6 := ((HBO.out.trans (HBV.out.mono (by have := HNS.out.2.2; omega))).setCell (Nat.le_refl _) _).grown g6 (by have := HBX.out; omega) (fun r hr => by have := hrow r hr; have := HBX.out.2; omega)
          exact ⟨⟨m + 1, A6, c6, out ++ [(z : Int)], rfl, by omega, Lib.hid ⟨by rw [List.length_append, HLO.out]; rfl, HSEL.out, by
            unfold nums at o6 ⊢
            rw [List.map_append]
            exact o6, HX.out.2.keep hb6 HBX.out.2⟩, hbe⟩, by simp only; omega⟩
    · have hmn : m = n := by omega
      have hfin : OrdPost ms part w (.returned (.slice Al m cl)) wr := by
        have ho := sel_end hH.out.2.1 (by rw [hH.out.1, HV.out.2.1]; omega)
        rw [← HF.out.1] at ho
        have s2 := B2.out.size
        have e2 := HBS.out
        refine ordPost_of (ordOK_some HV.out.2.2.2 ho) ⟨Al, cl, by rw [hH.out.1], ?_, ?_⟩
        · rw [hH.out.1]
          exact own_base hH.out.2.2.1 (by have := HW3.out.2.1; omega)
        · exact B2.out.trans ((HW3.out.1.trans hb).mono (by omega))
      have HFN := Lib.hid hfin
      clear hfin hH hb
      go_wp2_with fail
      go_ret
      exact HFN.out
end Ring
end Go.Proofs.Ytfnjengcemokpaa
