/-
  TreeKeeps (P11.5): what is handed in stays and isn't kept; what is told is new memory. For every input.
-/
import Derived.Test.YtbaclinjimfncaaGreatTreeSpoil
import Derived.Test.YtbaclinjimfncaaGreatTreeArgs
namespace Go.Proofs.YtbaclinjimfncaaGreat
namespace TreeKeeps
open Go.ChangeShapes Go.WideShapes Go.ChangeAt Go.RowKit Vers Num Ring Disk Blk Tree
open Go.Proofs.YtbaclinjimfncaaGreat.Code hiding Bn
attribute [local go_sem ↓] Go.wp_at_zero Go.wp_at_succ
set_option maxRecDepth 100000 in
/-- A record among the arguments, whose slice's length is within its capacity. -/
theorem arg_recc {H : Type} {enc : TypeId × Value → H} {W : World} {v : Value} {d : DataW H} {p : List MemPlace} {r : Reach} {b0 : Nat} (hv : Value.okWide Tryz.prog W r b0 45 v) (h : DataW.Trod enc Tryz.prog W 0 (fun _ => true) true 45 v d p) (hw : Wt Tryz.prog 45 d) :
    ∃ (key : ByteArray) (l : List Vr) (A : Option Addr) (c : Nat), v = .agg #[.string key, .slice A l.length c] ∧ Vs W 0 W.heap.size A l ∧ (l.length ≤ c ∧ l.length ≤ 140737488355328) ∧ key.size ≤ 140737488355328 := by
  obtain ⟨cs, rfl, hsz⟩ := okWide_struct Tryz.underlying45 hv
  obtain ⟨fuel, hf⟩ := h
  obtain ⟨⟨⟨key, l⟩, A, c⟩, hcs, h1, h2, h3, h4⟩ := rec_at hf hw
  refine ⟨key, l, A, c, ?_, h1, ⟨h2, h3⟩, h4⟩
  congr 1
  rw [← Array.toList_inj]
  simpa [Value.cells, rcc] using hcs
set_option maxRecDepth 100000 in
set_option maxHeartbeats 16000000 in
theorem walk (w : World) (key : Nm) (lv : List Vr) (Av : Option Addr) (cv : Nat) (hv : Vs w 0 w.heap.size Av lv) (hvl : lv.length ≤ cv ∧ lv.length ≤ 140737488355328) (hkb : key.size ≤ 140737488355328) :
    Calls Tryz.prog 8 #[.agg #[.string key, .slice Av lv.length cv]] w fun e w' => e = .returned (.bool true) ∧ Below w.heap.size w w' := by
  obtain ⟨hvc, hvb⟩ := hvl
  obtain ⟨m, hm⟩ : ∃ m, lv.length = m := ⟨_, rfl⟩
  rw [hm] at hvb hvc ⊢
  obtain ⟨rb, hrb⟩ : ∃ rb, w.heap.size = rb := ⟨_, rfl⟩
  obtain ⟨U, hU⟩ : ∃ U, w.alloc (.cells #[.string key, .slice Av m cv] 45) = U := ⟨_, rfl⟩
  have bU : Below w.heap.size w U := by rw [← hU]; exact (Below.refl _ w).alloc (Nat.le_refl _) _
  have BU : Blk.Bn rb 45 [.string key, .slice Av m cv] U := by rw [← hU, ← hrb]; exact World.alloc_heap_new _ _
  have HZ := Lib.hid (And.intro hv (And.intro hm (And.intro bU (And.intro BU (And.intro hvb hkb)))))
  have HVC := Lib.hid hvc
  have H0 := Lib.hid (awake_any U)
  clear hv hm bU BU hvc
  have HC : Hid (∀ W, Below U.heap.size U W → W.cell? ⟨rb, 0, none⟩ = some (.string key) ∧ W.cell? ⟨rb, 1, none⟩ = some (.slice Av m cv)) := Lib.hid fun W hW => by
    have hB1 := HZ.out.2.2.2.1.same (hW.block rb HZ.out.2.2.2.1.lt)
    have x0 := hB1.cell 0
    have x1 := hB1.cell 1
    simp only [List.getElem?_cons_zero, List.getElem?_cons_succ] at x0 x1
    exact ⟨x0, x1⟩
  have HV : Hid (∀ W, Below U.heap.size U W → Vs W 0 w.heap.size Av lv ∧ w.heap.size ≤ W.heap.size) := Lib.hid fun W hW => ⟨HZ.out.1.below (HZ.out.2.2.1.trans (hW.mono HZ.out.2.2.1.size)), Nat.le_trans HZ.out.2.2.1.size hW.size⟩
  go_enter Tryz.func8, Tryz.ntmps8
  go_wp2_with fail
  clear hU
  refine H0.out.mono ?_
  rintro e1 w1 ⟨rfl, b1⟩
  have HB1 := Lib.hid b1
  obtain ⟨x0, x1⟩ := HC.out _ b1
  have H1 := refrecord_any Av cv m key lv HZ.out.2.1 hvb hkb w1 ((HV.out _ b1).1.more (HV.out _ b1).2)
  clear b1 H0
  by_cases hok : okR (key, lv)
  · rw [decide_eq_true hok] at H1
    have H1 := Lib.hid H1
    have HOK := Lib.hid hok
    clear hok
    go_wp2_with fail
    refine H1.out.mono ?_
    rintro e2 w2 ⟨rfl, b2⟩
    have b2' : Below U.heap.size U w2 := HB1.out.trans (b2.mono HB1.out.size)
    have hpast : ∀ v ∈ lv, v.past.length ≤ 5864062014800 := fun v hv => by
      have h1 := (HOK.out.2.2.2.1.1 v hv).2.1
      unfold Span.Right at h1
      have := h1.1
      omega
    have H2 := Lib.hid (Own.own_any key Av cv m lv HZ.out.2.1 (by have := HOK.out.2.2.1; have := HZ.out.2.1; simp only at *; omega) hpast w2 ((HV.out _ b2').1.more (HV.out _ b2').2))
    have HB2 := Lib.hid b2'
    obtain ⟨x0, x1⟩ := HC.out _ b2'
    clear b2 b2' H1 hpast
    go_wp2_with fail
    refine H2.out.mono ?_
    rintro e3 w3 ⟨A3, c3, ps, rfl, h3, b3⟩
    have HB3 := Lib.hid (HB2.out.trans (b3.mono HB2.out.size))
    have H3 := Lib.hid h3.out
    obtain ⟨mb, hmb⟩ : ∃ b, w3.heap.size = b := ⟨_, rfl⟩
    obtain ⟨X, hX⟩ : ∃ X, (w3.alloc (.cells #[.string key, .slice A3 m c3] 45)).alloc (.cells #[.string key, .slice A3 m c3] 45) = X := ⟨_, rfl⟩
    have bX : Below w3.heap.size w3 X := by rw [← hX]; exact ((Below.refl _ w3).alloc (Nat.le_refl _) _).alloc (by simp) _
    have sX : X.heap.size = w3.heap.size + 2 := by rw [← hX]; simp
    have xm : X.heap[mb]? = some (.cells #[.string key, .slice A3 m c3] 45) := by
      rw [← hX, ← hmb]
      exact (Below.heap_alloc _ _ _ (by simp)).trans (World.alloc_heap_new _ _)
    have hlm : ps.length = m := by rw [← HZ.out.2.1, ← H3.out.1, List.length_map]
    have hvs3 : Vs w3 0 w3.heap.size A3 lv := by
      have h := H3.out.2.vs (Nat.le_refl _)
      rw [H3.out.1] at h
      exact h.less (Nat.zero_le _)
    have hrs : Rs X 0 X.heap.size (some ⟨w3.heap.size + 1, 0, none⟩) [(key, lv)] := fun _ => by
      refine ⟨w3.heap.size + 1, 0, rfl, Nat.zero_le _, by omega, fun j hj => ?_⟩
      have hj0 : j = 0 := by simp at hj; omega
      subst hj0
      have hn : X.heap[w3.heap.size + 1]? = some (.cells #[.string key, .slice A3 m c3] 45) := by
        rw [← hX]
        have h := World.alloc_heap_new (w3.alloc (.cells #[.string key, .slice A3 m c3] 45)) (.cells #[.string key, .slice A3 m c3] 45)
        rw [show (w3.alloc (.cells #[.string key, .slice A3 m c3] 45)).heap.size = w3.heap.size + 1 by simp] at h
        exact h
      refine ⟨A3, c3, ?_, ?_, (hvs3.below bX).more (by omega), ?_, ?_, hkb⟩
      · unfold World.cell?; rw [hn]; rfl
      · unfold World.cell?; rw [hn]; simp [HZ.out.2.1]
      · show lv.length ≤ c3; rw [HZ.out.2.1]; have h9 := H3.out.2.1; rw [hlm] at h9; exact (own_low h9).1
      · show lv.length ≤ _; rw [HZ.out.2.1]; exact hvb
    have bX2 : Below U.heap.size U X := HB3.out.trans (bX.mono HB3.out.size)
    have H4 := Lib.hid (on_new bX2 (some ⟨w3.heap.size + 1, 0, none⟩) 1 1 [(key, lv)] rfl (by omega) hrs (fun r hr => by rw [List.mem_singleton.1 hr]; exact HOK.out))
    have hlo : U.heap.size ≤ w2.heap.size := HB2.out.size
    have h23 : w2.heap.size ≤ w3.heap.size := b3.size
    have hmv : MV SoftN 1 w2.heap.size w3.heap.size w3 A3 m := rowV_mv H3.out.2 hlm (by omega) softN_v softN_v2 softN_s
    obtain ⟨lo, hlo9⟩ : ∃ x, w2.heap.size = x := ⟨_, rfl⟩
    rw [hlo9] at hlo h23 hmv
    rw [hmb] at H4 sX h23 hmv bX
    have HX := Lib.hid (And.intro xm (And.intro hmv (And.intro bX (And.intro sX (And.intro hlo h23)))))
    clear H2 H3 b3 h3 x0 x1 H1 xm hmv sX hlo h23 hlo9 bX bX2 hrs hvs3 hlm HB1 HB2 HB3
    go_wp2_with fail
    refine H4.out.mono ?_
    rintro e4 w4 ⟨tb, rfl, h4⟩
    obtain ⟨L, hL⟩ : ∃ L, layF [(key, lv)] = L := ⟨_, rfl⟩
    rw [hL] at h4
    have HLL : Hid (withR [] (key, lv) = L) := Lib.hid (by rw [← hL]; rfl)
    have HM4 : Hid (HardAt SoftN w4 mb 1 (.slice A3 m c3) ∧ MV SoftN 1 lo mb w4 A3 m) := Lib.hid (by
      obtain ⟨F, o, hF, b4⟩ := h4.out
      have b4' : Below mb X w4 := b4.mono (by have := HX.out.2.2.2.1; omega)
      exact ⟨⟨_, _, (b4.block mb (by have := HX.out.2.2.2.1; omega)).trans HX.out.1, rfl, softN_r 1⟩, HX.out.2.1.same (HX.out.2.2.1.trans b4')⟩)
    have HO4 : Hid (∃ F, On F U w4 tb L ∧ ∀ k, F k → mb ≤ k) := Lib.hid (by
      obtain ⟨F, o, hF, b4⟩ := h4.out
      exact ⟨F, o, fun k hk => by have := hF k hk; have := HX.out.2.2.2.1; omega⟩)
    clear h4 H4 hL hX
    unfold hd
    go_wp2_with fail
    go_loopw [6] (fun q wr => ∃ i : Nat, q = .int .i64 i ∧ i ≤ m ∧ Hid (Spo SoftN lo mb w4 wr)) (fun q _ => m - (intOf q).toNat)
    case atStart => exact ⟨0, rfl, by omega, Lib.hid (spo_refl _ _ _ _)⟩
    case round =>
      obtain ⟨i, rfl, hi, hst⟩ := hrel
      have y1 := hst.out.get HM4.out.1
      by_cases hlt : i < m
      · have d1 : (0 : Int) ≤ (i : Int) := by omega
        have d2 : (i : Int) < (m : Int) := by omega
        obtain ⟨g, P, k, cp, rfl, hs1, hh1, hk1, hsp⟩ := HM4.out.2 i hlt
        have HQ := Lib.hid (And.intro hs1 (And.intro hh1 hsp))
        obtain ⟨⟨z, hz⟩, hfz, hput⟩ := hst.out.put hs1
        have HP2 := Lib.hid hput
        clear hst hs1 hh1 hsp hput
        go_wp2_with fail
        clear y1 hz hfz
        go_loopw [7] (fun q wr => ∃ j : Nat, q = .int .i64 j ∧ j ≤ k ∧ Hid (Spo SoftN lo mb w4 wr)) (fun q _ => k - (intOf q).toNat)
        case atStart => exact ⟨0, rfl, by omega, Lib.hid (HP2.out _)⟩
        case round =>
          obtain ⟨j, rfl, hj, hst⟩ := hrel
          have y1 := hst.out.get HM4.out.1
          have y2 := hst.out.get HQ.out.2.1
          by_cases hlt2 : j < k
          · have d3 : (0 : Int) ≤ (j : Int) := by omega
            have d4 : (j : Int) < (k : Int) := by omega
            obtain ⟨b, off, rfl, hs2⟩ := HQ.out.2.2 j hlt2
            obtain ⟨⟨z, hz⟩, hfz, hput⟩ := hst.out.put hs2
            have HP3 := Lib.hid hput
            clear hst hs2 hput
            go_wp2_with fail
            go_roundw
            case rel => exact ⟨j + 1, by go_num, by omega, Lib.hid (HP3.out _)⟩
            case measure => simp only [intOf]; omega
          · have hjk : j = k := by omega
            subst hjk
            go_wp2_with fail
            go_roundw
            case rel => exact ⟨i + 1, by go_num, by omega, hst⟩
            case measure => simp only [intOf]; omega
      · have him : i = m := by omega
        subst him
        have HO5 : Hid (∃ F, On F U wr tb L) := Lib.hid (by
          obtain ⟨F, o, hF⟩ := HO4.out
          exact ⟨F, o.spo hst.out (fun k hk => .inr (hF k hk)) HX.out.2.2.2.2.1⟩)
        have hold : Below U.heap.size U wr := by obtain ⟨F, o⟩ := HO5.out; exact o.old
        have HLn : Hid (L.length ≤ 1) := Lib.hid (by rw [← HLL.out]; exact with_len [] _)
        have H5 : Hid (Calls Tryz.prog 17 #[.pointer (some ⟨tb, 0, none⟩), .slice none 0 0] wr (fun e w' => ∃ A n c ps, e = .returned (.slice A n c) ∧ Hid (ps.map Prod.fst = L ∧ L.length = n ∧ Got wr.heap.size w' A ps ∧ ∃ F, On F U w' tb L ∧ (∀ k, F k → k < wr.heap.size)))) := Lib.hid (by
          obtain ⟨F, o⟩ := HO5.out
          refine (o.recs (by have := HLn.out; omega) none 0 0 [] rfl (by omega) ns_nil).mono ?_
          rintro e w' ⟨A, n, c, ps, rfl, hx⟩
          obtain ⟨p1, p2, p3, p4, p5, p6⟩ := hx.out
          have hLr : recsF L [] = L := by unfold recsF; rw [if_pos (by decide), beneath_nil]
          rw [hLr] at p1 p2
          exact ⟨A, n, c, ps, rfl, Lib.hid ⟨p1, p2.symm, p4, F, p5, fun k hk => o.lt hk⟩⟩)
        have HW := Lib.hid hold.size
        clear hst hold HO4 HM4 HO5
        go_wp2_with fail
        clear y1
        refine H5.out.mono ?_
        rintro e5 w5 ⟨A5, n5, c5, ps5, rfl, h5⟩
        have hn5 : n5 ≤ 1 := by rw [← h5.out.2.1]; exact HLn.out
        have hl5 : ps5.length = n5 := by rw [← h5.out.2.1, ← h5.out.1, List.length_map]
        obtain ⟨lo2, hlo2⟩ : ∃ x, wr.heap.size = x := ⟨_, rfl⟩
        rw [hlo2] at h5 HW
        have HM5 : Hid (∀ i, i < n5 → ∃ (g : Nat) (P : Option Addr) (k c : Nat), A5 = some ⟨g, 0, none⟩ ∧ HardAt SoftV w5 g (i * 2 + 1) (.slice P k c) ∧ k ≤ 512 ∧ MV SoftV 4 lo2 w5.heap.size w5 P k) := Lib.hid fun i hi => by
          obtain ⟨g, e1, hg, hprs, ⟨cur, hcur⟩, hrec⟩ := h5.out.2.2.1 (by omega)
          have hmem : ps5.getD i (r0, none, 0) ∈ ps5 := by
            rw [List.getD_eq_getElem?_getD, List.getElem?_eq_getElem (by omega)]
            exact List.getElem_mem _
          obtain ⟨L9, B9, q1, q2, _, q4⟩ := hrec _ hmem
          exact ⟨g, _, _, _, e1, hard_cell hcur (hprs i (by omega)).2 (softV_r _), q4.2.2.1, recN_mv q4 q1 q2 (by omega) softV_v softV_v2 softV_s⟩
        have HO5 : Hid (∃ F, On F U w5 tb L ∧ ∀ k, F k → k < lo2) := Lib.hid h5.out.2.2.2
        clear h5 hl5 hlo2 H5
        go_wp2_with fail
        go_loopw [9] (fun q wr => ∃ i : Nat, q = .int .i64 i ∧ i ≤ n5 ∧ Hid (Spo SoftV lo2 w5.heap.size w5 wr)) (fun q _ => n5 - (intOf q).toNat)
        case atStart => exact ⟨0, rfl, by omega, Lib.hid (spo_refl _ _ _ _)⟩
        case round =>
          obtain ⟨i2, rfl, hi2, hst⟩ := hrel
          by_cases hlt2 : i2 < n5
          · have d1 : (0 : Int) ≤ (i2 : Int) := by omega
            have d2 : (i2 : Int) < (n5 : Int) := by omega
            obtain ⟨g, P, k, cp, rfl, hh, hk512, hmv⟩ := HM5.out i2 hlt2
            have HH := Lib.hid (And.intro hh hmv)
            clear hh hmv
            go_wp2_with fail
            go_loopw [10] (fun q wr => ∃ j : Nat, q = .int .i64 j ∧ j ≤ k ∧ Hid (Spo SoftV lo2 w5.heap.size w5 wr)) (fun q _ => k - (intOf q).toNat)
            case atStart => exact ⟨0, rfl, by omega, hst⟩
            case round =>
              clear hst
              obtain ⟨j, rfl, hj, hst⟩ := hrel
              have y1 := hst.out.get HH.out.1
              by_cases hlt3 : j < k
              · have d3 : (0 : Int) ≤ (j : Int) := by omega
                have d4 : (j : Int) < (k : Int) := by omega
                obtain ⟨g2, P2, k2, cp2, rfl, hs1, hh1, hk1, hsp⟩ := HH.out.2 j hlt3
                have HQ := Lib.hid (And.intro hh1 hsp)
                obtain ⟨⟨z, hz⟩, hfz, hput⟩ := hst.out.put hs1
                have HP2 := Lib.hid hput
                clear hst hs1 hh1 hsp hput
                go_wp2_with fail
                clear y1 hz hfz
                go_loopw [11] (fun q wr => ∃ t : Nat, q = .int .i64 t ∧ t ≤ k2 ∧ Hid (Spo SoftV lo2 w5.heap.size w5 wr)) (fun q _ => k2 - (intOf q).toNat)
                case atStart => exact ⟨0, rfl, by omega, Lib.hid (HP2.out _)⟩
                case round =>
                  obtain ⟨t, rfl, ht, hst⟩ := hrel
                  have y1 := hst.out.get HH.out.1
                  have y2 := hst.out.get HQ.out.1
                  by_cases hlt4 : t < k2
                  · have d5 : (0 : Int) ≤ (t : Int) := by omega
                    have d6 : (t : Int) < (k2 : Int) := by omega
                    obtain ⟨b, off, rfl, hs2⟩ := HQ.out.2 t hlt4
                    obtain ⟨⟨z, hz⟩, hfz, hput⟩ := hst.out.put hs2
                    have HP3 := Lib.hid hput
                    clear hst hs2 hput
                    go_wp2_with fail
                    go_roundw
                    case rel => exact ⟨t + 1, by go_num, by omega, Lib.hid (HP3.out _)⟩
                    case measure => simp only [intOf]; omega
                  · have hjk : t = k2 := by omega
                    subst hjk
                    go_wp2_with fail
                    go_roundw
                    case rel => exact ⟨j + 1, by go_num, by omega, hst⟩
                    case measure => simp only [intOf]; omega
              · have hjk : j = k := by omega
                subst hjk
                go_wp2_with fail
                go_roundw
                case rel => exact ⟨i2 + 1, by go_num, by omega, hst⟩
                case measure => simp only [intOf]; omega
          · have him2 : i2 = n5 := by omega
            subst him2
            have HO6 : Hid (∃ F, On F U wr tb L) := Lib.hid (by
              obtain ⟨F, o, hF⟩ := HO5.out
              exact ⟨F, o.spo hst.out (fun k hk => .inl (hF k hk)) HW.out⟩)
            have hold : Below U.heap.size U wr := by obtain ⟨F, o⟩ := HO6.out; exact o.old
            obtain ⟨x0, x1⟩ := HC.out _ hold
            have H6 := with_any none Av 0 cv 0 i U.heap.size [] key lv rfl (by omega) HZ.out.2.1 ⟨HVC.out, hvb, hkb⟩ wr hold.size (fun h => by simp at h) ((HV.out _ hold).1.more HZ.out.2.2.1.size)
            rw [HLL.out] at H6
            have H6 := Lib.hid H6
            have HOW := Lib.hid hold
            clear hst hold HM5 HO5
            go_wp2_with fail
            refine H6.out.mono ?_
            rintro e6 w6 ⟨A6, n6, c6, ps6, rfl, h6, b6⟩
            have hn6 : n6 ≤ 1 := by rw [← h6.out.2.1]; exact HLn.out
            have T6 : Hid (Tw U U.heap.size tb L (.slice A6 n6 c6) w6) := Lib.hid (by
              obtain ⟨F, o⟩ := HO6.out
              exact ⟨Nat.le_refl _, F, ps6, o.below b6, h6.out.1, h6.out.2.2.2.low HOW.out.size, fun g hg hf => by have := (h6.out.2.2.2.lt g hg).1; have := o.lt hf; omega, o.2.2⟩)
            have HL6 := Lib.hid h6.out.2.1
            have H7 := T6.out.recs (by have := HLn.out; omega) none 0 0 [] rfl (by omega) ns_nil
            rw [show recsF L [] = L by unfold recsF; rw [if_pos (by decide), beneath_nil]] at H7
            unfold hd at H7
            have H7 := Lib.hid H7
            clear h6 b6 H6 HO6 x0 x1
            go_wp2_with fail
            refine H7.out.mono ?_
            rintro e7 w7 ⟨A7, n7, c7, rfl, h7⟩
            have T7 := Lib.hid h7.out.2.2.1
            have H8 := Lib.hid (same_recs c7 c6 n7 n6 L h7.out.1 HL6.out (by have := HLn.out; omega) w7 h7.out.2.1 T7.out.rs)
            clear h7 H7 T6
            go_wp2_with fail
            refine H8.out.mono ?_
            rintro e8 w8 ⟨rfl, b8⟩
            have T8 := Lib.hid (T7.out.below b8)
            have H9 := T8.out.hash (by have := HLn.out; omega) none 0 0 [] rfl (by omega) ns_nil
            unfold hd at H9
            have H9 := Lib.hid H9
            clear b8 H8 T7
            go_wp2_with fail
            refine H9.out.mono ?_
            rintro e9 w9 ⟨rfl, T9⟩
            have Ha := Lib.hid (T9.out.refhash HL6.out (by omega) none 0 0 [] rfl (by omega) ns_nil)
            clear H9 T8
            go_wp2_with fail
            refine Ha.out.mono ?_
            rintro ea wa ⟨rfl, ha⟩
            have HE := Lib.hid (HZ.out.2.2.1.trans (ha.out.1.old.mono HZ.out.2.2.1.size))
            clear ha Ha
            go_wp2_with fail
            go_ret
            exact ⟨rfl, by first | exact HE.out | (rw [← hrb]; exact HE.out)⟩
  · rw [decide_eq_false hok] at H1
    have H1 := Lib.hid H1
    clear hok
    go_wp2_with fail
    refine H1.out.mono ?_
    rintro e2 w2 ⟨rfl, b2⟩
    have H2 := Lib.hid (awake_any w2)
    have HB2 := Lib.hid (HB1.out.trans (b2.mono HB1.out.size))
    clear b2 H1 x0 x1
    go_wp2_with fail
    refine H2.out.mono ?_
    rintro e3 w3 ⟨rfl, b3⟩
    have HE : Hid (Below w.heap.size w w3) := Lib.hid (HZ.out.2.2.1.trans ((HB2.out.trans (b3.mono HB2.out.size)).mono HZ.out.2.2.1.size))
    clear b3 H2
    go_wp2_with fail
    go_ret
    exact ⟨rfl, HE.out⟩
-- ROW BEGIN
set_option maxRecDepth 100000 in
/-- What the walk gives, shut again. -/
theorem contract (H : Type) (enc : TypeId × Value → H) (W : World) (base : Nat) (args : Array Value) (ds gs : List (DataW H)) (before : List MemPlace)
    (hval : ∀ (j : Nat) t v, Tryz.f8.params[j]? = some t → args[j]? = some v → Value.okWide Tryz.prog W .any base t v)
    (hW : DataW.Whole enc Tryz.prog Tryz.f8.params.toList Rows.treeKeepsSpec.vars false W args.toList ds gs before)
    (hsz : (DataW.weightsEach Tryz.prog (Tryz.f8.params.toList ++ Rows.treeKeepsSpec.plain.varTypes Tryz.prog) (ds ++ gs)).all (· ≤ reachBytes) = true) :
    Calls Tryz.prog 8 args W fun e W' => ∃ v, e = .returned v ∧ Rows.treeKeepsSpec.post enc Tryz.prog Tryz.f8 false true false false W args v W' := by
  have hW' := hW
  obtain ⟨p, q, hA0, hV, hbef, _, _⟩ := hW
  have hA : DataW.TrodAll enc Tryz.prog W 0 (fun _ => true) true Tryz.f8.params.toList args.toList ds p := hA0
  have hA1 := hA
  rw [Tryz.params8] at hA hval hsz
  obtain ⟨v0, vs0, d0, ds0, p0, q0, hargs, rfl, rfl, h0, r0⟩ := trodAll_cons hA
  obtain ⟨rfl, rfl, rfl⟩ := trodAll_nil r0
  obtain rfl : args = #[v0] := by cases args; simp_all
  obtain ⟨rfl, rfl⟩ := trodVars_none hV
  clear hA hargs
  obtain ⟨a0, s0, A0, c0, rfl, n0, l0, b0⟩ := TreeKeeps.arg_recc (hval 0 45 v0 rfl rfl) h0 (Vers.wt_arg hsz (j := 0) rfl rfl)
  refine (walk W a0 s0 A0 c0 n0 l0 b0).mono fun e W' ⟨he, hb⟩ => ?_
  subst he
  exact ⟨_, rfl, law_post Facts.laid (by rfl) Tryz.underlying4 (by rw [Tryz.params8]; decide +kernel) hW' hA1 rfl hbef rfl rfl rfl hb⟩

set_option maxRecDepth 100000 in
theorem lifted (os : Os) (started : os.Started) (H : Type) (enc : TypeId × Value → H) :
    ReturnsInHanded {} Tryz.checked os 8 .any (Rows.treeKeepsSpec.pre6 enc Tryz.prog Tryz.f8 Rows.treeKeepsRow.domain false) (Rows.treeKeepsSpec.post enc Tryz.prog Tryz.f8 false true false false) := by
  refine returnsInHanded_of_change_sized (C := Tryz.checked) Facts.own started (by kernel_rfl) Tryz.func8
    (ChangeSpec.witness6 (enc := enc) (C := Tryz.checked) false ⟨#[], #[.agg #[.string ⟨#[]⟩, .slice none 0 0]], []⟩ 8 (by kernel_rfl) (by kernel_rfl) (by kernel_rfl) (by kernel_rfl)) ?_
  intro W base args ds gs before hval hW _ hsz _
  exact contract H enc W base args ds gs before hval hW hsz

theorem holds : Rows.TreeKeepsSaid :=
  OpenClaim.holds_of_wide 8 Tryz.f8 rfl rfl rfl rfl rfl rfl rfl ⟨rfl, rfl, rfl, rfl, rfl⟩ rfl rfl rfl rfl rfl (by kernel_rfl) Tryz.func8 (by kernel_rfl)
    (of_decide_eq_true (by kernel_rfl)) (by unfold Func.isWrapper; first | (rw [if_pos (by decide +kernel)]; kernel_rfl) | (rw [if_neg (by decide +kernel)]; exact ⟨rfl, rfl⟩))
    (fun os started H enc _ => lifted os started H enc)
-- ROW END
end TreeKeeps
end Go.Proofs.YtbaclinjimfncaaGreat
