/-
  VectGoes (P4.3): step by step a vector goes on by one dot at a time, each of which is new to it and covered from then on. For every input.
-/
import Derived.Test.YtpgpeigaoonpcacVectAwake
import Derived.Test.YtpgpeigaoonpcacVectBump
import Derived.Test.YtpgpeigaoonpcacVectRow
namespace Go.Proofs.Ytpgpeigaoonpcac
namespace Facts
theorem cells3 : Try.prog.cellsOf 3 = 1 := by kernel_rfl
theorem bytes3 : Try.prog.bytesOf 3 = 8 := by kernel_rfl
end Facts
namespace VectGoes
open Go.ChangeShapes Go.WideShapes Go.ChangeAt Go.RowKit Span Vect
attribute [local go_sem ↓] Go.wp_at_zero Go.wp_at_succ

theorem set_at {v : List Int} {k : Nat} (hk : k < v.length) (x : Int) (j : Nat) : (v.set k x).getD j 0 = if j = k then x else v.getD j 0 := by
  by_cases h : j = k
  · rw [if_pos h, h, List.getD_eq_getElem?_getD, List.getElem?_set_self hk]
    rfl
  · rw [if_neg h, List.getD_eq_getElem?_getD, List.getElem?_set_ne (fun e => h e.symm), ← List.getD_eq_getElem?_getD]
theorem goes {v : List Int} (hv : RightV v) {k : Nat} (hk : k < v.length) {x : Int} (hx : v.getD k 0 = x) (hm : ¬ x = 4611686018427387904) :
    RightV (v.set k (x + 1)) ∧ ¬ IsNext (v.set k (x + 1)) ((k : Int) + 1) (x + 1) ∧ ¬ CoversV v ((k : Int) + 1) (x + 1) ∧ CoversV (v.set k (x + 1)) ((k : Int) + 1) (x + 1) ∧ BelowV v (v.set k (x + 1)) ∧ ¬ BelowV (v.set k (x + 1)) v := by
  have hxb := hv.2.2 x (vget_mem hk hx)
  have hR : RightV (v.set k (x + 1)) := by
    refine ⟨by rw [List.length_set]; exact hv.1, by rw [List.length_set]; exact hv.2.1, fun z hz => ?_⟩
    obtain ⟨j, hj, hj2⟩ := List.getElem_of_mem hz
    rw [List.length_set] at hj
    have h1 := set_at hk (x + 1) j
    rw [List.getD_eq_getElem?_getD, List.getElem?_eq_getElem (by rw [List.length_set]; exact hj), Option.getD_some, hj2] at h1
    rw [h1]
    split
    · omega
    · exact hv.2.2 _ (vget_mem hj rfl)
  have hk0 : ((k : Int) + 1 - 1).toNat = k := by omega
  have hL : (v.set k (x + 1)).getD k 0 = x + 1 := by rw [set_at hk, if_pos rfl]
  have hle : ∀ j, v.getD j 0 ≤ (v.set k (x + 1)).getD j 0 := fun j => by
    rw [set_at hk]
    split
    · rename_i h
      rw [h, hx]
      omega
    · exact Int.le_refl _
  refine ⟨hR, fun h => ?_, fun h => ?_, ?_, ⟨hv, hR, by rw [List.length_set], fun j _ => hle j⟩, fun h => ?_⟩
  · have := (next_zero h).2.2.2.2.1
    rw [hk0, hL] at this
    omega
  · have := h.2.2.2
    rw [hk0, hx] at this
    omega
  · refine ⟨by omega, by omega, by rw [List.length_set]; omega, ?_⟩
    rw [hk0, hL]
    exact Int.le_refl _
  · have := h.2.2.2 k (by rw [List.length_set]; exact hk)
    rw [hL, hx] at this
    omega
theorem next_kinds (v : List Int) (s : Int) : (nextV v s).2.2 = 0 ∨ (nextV v s).2.2 = 1 ∨ (nextV v s).2.2 = 40 := by
  unfold nextV
  split
  · split
    · exact .inr (.inr rfl)
    · exact .inl rfl
  · exact .inr (.inl rfl)
theorem next_full {v : List Int} {s : Int} (h : (nextV v s).2.2 = 40) : atV v s = 4611686018427387904 := by
  unfold nextV at h
  split at h
  case isTrue hR =>
    split at h
    case isTrue hm =>
      unfold atV
      rw [if_pos ⟨hR.2.1, hR.2.2⟩]
      exact hm
    case isFalse => simp at h
  case isFalse => simp at h

set_option maxHeartbeats 4000000 in
set_option maxRecDepth 100000 in
theorem walk (w : World) (A : Option Addr) (c : Nat) (v : List Int) (hr : Ns .i64 w w.heap.size A v) (_hwf : ∀ z ∈ v, -9223372036854775808 ≤ z ∧ z ≤ 9223372036854775807) (hbig : v.length * 8 ≤ 140737488351232) (_hlc : v.length ≤ c)
    (A' : Option Addr) (c' : Nat) (l : List Int) (hr' : Ns .i64 w w.heap.size A' l) (hwf' : ∀ z ∈ l, -9223372036854775808 ≤ z ∧ z ≤ 9223372036854775807) (hbig' : l.length * 8 ≤ 140737488351232) (_hlc' : l.length ≤ c') :
    Calls Try.prog 4 #[.slice A v.length c, .slice A' l.length c'] w fun e w' => e = .returned (.bool true) ∧ Below w.heap.size w w' := by
  have h1 := fun W h => ref_right_v A c v.length v rfl W h (by omega)
  obtain ⟨m, hm⟩ : ∃ m, v.length = m := ⟨_, rfl⟩
  obtain ⟨n, hn⟩ : ∃ m, l.length = m := ⟨_, rfl⟩
  rw [hm] at h1 hbig
  rw [hn] at hbig'
  rw [hm, hn]
  have HA := Lib.hid (fun W => awake_v W)
  have HR := Lib.hid hr
  have HR' := Lib.hid hr'
  have HF := Lib.hid hwf'
  have HN := Lib.hid hn
  have HM := Lib.hid hm
  by_cases rv : RightV v
  · rw [decide_eq_true rv] at h1
    have hm16 : m ≤ 16 := by rw [← hm]; exact rv.2.1
    have H1 := Lib.hid h1
    have HV := Lib.hid rv
    clear h1 rv hr hr' hwf' hn hm hbig
    go_enter Try.func4, Try.ntmps4
    go_wp2_with fail
    refine (HA.out w).mono ?_
    rintro e w1 ⟨rfl, hb1⟩
    go_wp2_with fail
    refine (H1.out w1 ((HR.out.below hb1).more hb1.size)).mono ?_
    rintro e w2 ⟨rfl, b2⟩
    have HB2 := Lib.hid (hb1.trans (b2.mono hb1.size))
    have HN2 := Lib.hid ((HR.out.below HB2.out).more HB2.out.size)
    clear hb1 b2 H1 HR
    go_wp2
    go_loopw [0, 5] (fun u q wr => ∃ (i : Nat) (y : List Int) (Ay : Option Addr) (cy : Nat), i ≤ n ∧ q = .int .i64 i ∧ u = .slice Ay m cy ∧ Hid (y.length = m ∧ RightV y) ∧ Hid (Ns .i64 wr wr.heap.size Ay y) ∧ Hid (Below w.heap.size w wr)) (fun _ q _ => n - (intOf q).toNat)
    case atStart => exact ⟨0, v, A, c, by omega, rfl, rfl, Lib.hid ⟨HM.out, HV.out⟩, HN2, HB2⟩
    case round =>
      obtain ⟨i, y, Ay, cy, hi1, rfl, rfl, hy, hny, hb⟩ := hrel
      clear HB2 HN2
      by_cases hlt : i < n
      · by_cases h200 : i < 200
        · obtain ⟨s, hs⟩ : ∃ s, l.getD i 0 = s := ⟨_, rfl⟩
          obtain ⟨bs, ofs, rfl, hbs, d0⟩ := ns_cell HR'.out HN.out hb.out hlt hs
          have hsb := HF.out s (vget_mem (by rw [HN.out]; exact hlt) hs)
          have hnx := next_any Ay cy m y hy.out.1 s hsb wr hny.out (by omega)
          have hkd := next_kinds y s
          have hfull := next_full (v := y) (s := s)
          obtain ⟨⟨e1, e2, E⟩, hQ⟩ : ∃ Q, nextV y s = Q := ⟨_, rfl⟩
          rw [hQ] at hnx hkd hfull
          simp only at hkd hfull
          have HX := Lib.hid hnx
          have hws := hb.out.size
          rcases hkd with rfl | rfl | rfl
          · -- a dot more
            have hz := next_zero hQ
            obtain ⟨k, hk⟩ : ∃ k : Nat, s = (k : Int) + 1 := ⟨(s - 1).toNat, by omega⟩
            subst hk
            have hk : k < y.length := by omega
            obtain ⟨x, hx⟩ : ∃ x, y.getD k 0 = x := ⟨_, rfl⟩
            rw [show ((k : Int) + 1 - 1).toNat = k by omega, hx] at hz
            obtain ⟨hR, _, _, rfl, rfl, hxm⟩ := hz
            obtain ⟨g1, g2, g3, g4, g5, g6⟩ := goes hR hk hx hxm
            have hbm := bump_yes (v := y) (s := (k : Int) + 1) (n := x + 1) hQ
            rw [show ((k : Int) + 1 - 1).toNat = k by omega] at hbm
            have hbn := bump_no (v := y.set k (x + 1)) (s := (k : Int) + 1) (n := x + 1) g2
            have hly := hy.out.1
            obtain ⟨Z, hZ⟩ : ∃ Z, y.set k (x + 1) = Z := ⟨_, rfl⟩
            have hlz : Z.length = m := by rw [← hZ, List.length_set]; exact hly
            rw [hZ] at g1 g2 g4 g5 g6 hbm hbn
            have c1 := fun W h => bump_any Ay cy m y hly ((k : Int) + 1) (x + 1) hsb W h (by omega)
            rw [hbm.1, hbm.2] at c1
            have c2 := fun AZ cZ W h => bump_any AZ cZ m Z hlz ((k : Int) + 1) (x + 1) hsb W h (by omega)
            rw [hbn.1, hbn.2] at c2
            have c3 := fun W h => covers_any Ay cy m y hly ((k : Int) + 1) (x + 1) W h (by omega)
            rw [decide_eq_false g3] at c3
            have c4 := fun AZ cZ W h => covers_any AZ cZ m Z hlz ((k : Int) + 1) (x + 1) W h (by omega)
            rw [decide_eq_true g4] at c4
            have c5 := fun AZ cZ W h h' => vbelow_any Ay AZ cy cZ m m y Z hly hlz W h h' (by omega) (by omega)
            rw [decide_eq_true g5] at c5
            have c6 := fun AZ cZ W h h' => vbelow_any AZ Ay cZ cy m m Z y hlz hly W h h' (by omega) (by omega)
            rw [decide_eq_false g6] at c6
            have C1 := Lib.hid c1
            have C2 := Lib.hid c2
            have C3 := Lib.hid c3
            have C4 := Lib.hid c4
            have C5 := Lib.hid c5
            have C6 := Lib.hid c6
            have P1 := Lib.hid (vpost_read (L := Z) (E := 0) hlz)
            have P2 := Lib.hid (vpost_read (L := []) (E := 1) (k := 0) rfl)
            have HZR := Lib.hid (And.intro hlz g1)
            clear c1 c2 c3 c4 c5 c6 g1 g2 g3 g4 g5 g6 hbm hbn hQ hnx hfull hs hsb hk hx hR hxm hly hZ hlz hy
            go_wp2_with fail
            refine HX.out.mono ?_
            rintro e w3 ⟨rfl, b3⟩
            have hb3 := hb.out.trans (b3.mono hws)
            have n3 := (hny.out.below b3).more b3.size
            clear b3 HX hny hb d0 hws
            have o0 : (w3.alloc (.cells #[.int .i64 ((k : Int) + 1), .int .i64 (x + 1)] 24)).cell? ⟨w3.heap.size, 0, none⟩ = some (.int .i64 ((k : Int) + 1)) := by simp
            have o1 : (w3.alloc (.cells #[.int .i64 ((k : Int) + 1), .int .i64 (x + 1)] 24)).cell? ⟨w3.heap.size, 1, none⟩ = some (.int .i64 (x + 1)) := by simp
            have so : w3.heap.size < (w3.alloc (.cells #[.int .i64 ((k : Int) + 1), .int .i64 (x + 1)] 24)).heap.size := by simp
            have n4 := (n3.alloc (Nat.le_refl _) (.cells #[.int .i64 ((k : Int) + 1), .int .i64 (x + 1)] 24)).more (Nat.le_of_lt so)
            have hb4 := hb3.alloc hb3.size (.cells #[.int .i64 ((k : Int) + 1), .int .i64 (x + 1)] 24)
            obtain ⟨W4, hW4⟩ : ∃ W, w3.alloc (.cells #[.int .i64 ((k : Int) + 1), .int .i64 (x + 1)] 24) = W := ⟨_, rfl⟩
            rw [hW4] at o0 o1 so n4 hb4
            clear n3 hb3
            go_wp2_with fail
            refine (C1.out W4 n4).mono ?_
            intro e w5 hp
            obtain ⟨A5, c5, rfl, z5, b5⟩ := P1.out _ _ _ hp
            have y5 := (n4.below b5).more b5.size
            have hb5 := hb4.trans (b5.mono hb4.size)
            have p0 := cell_below b5 so o0
            have p1 := cell_below b5 so o1
            have so5 := Nat.lt_of_lt_of_le so b5.size
            clear hp b5 n4 hb4 o0 o1 so hW4 C1 P1
            go_wp2_with fail
            refine (C2.out A5 c5 w5 z5).mono ?_
            intro e w6 hp
            obtain ⟨A6, c6, rfl, _, b6⟩ := P2.out _ _ _ hp
            have y6 := (y5.below b6).more b6.size
            have z6 := (z5.below b6).more b6.size
            have hb6 := hb5.trans (b6.mono hb5.size)
            have p0b := cell_below b6 so5 p0
            have p1b := cell_below b6 so5 p1
            have so6 := Nat.lt_of_lt_of_le so5 b6.size
            clear hp b6 y5 z5 hb5 p0 p1 so5 C2 P2
            go_wp2_with fail
            refine (C3.out w6 y6).mono ?_
            rintro e w7 ⟨rfl, b7⟩
            have y7 := (y6.below b7).more b7.size
            have z7 := (z6.below b7).more b7.size
            have hb7 := hb6.trans (b7.mono hb6.size)
            have p0c := cell_below b7 so6 p0b
            have p1c := cell_below b7 so6 p1b
            clear b7 y6 z6 hb6 p0b p1b so6 C3
            go_wp2_with fail
            refine (C4.out A5 c5 w7 z7).mono ?_
            rintro e w8 ⟨rfl, b8⟩
            have y8 := (y7.below b8).more b8.size
            have z8 := (z7.below b8).more b8.size
            have hb8 := hb7.trans (b8.mono hb7.size)
            clear b8 y7 z7 hb7 p0c p1c C4
            go_wp2_with fail
            refine (C5.out A5 c5 w8 y8 z8).mono ?_
            rintro e w9 ⟨rfl, b9⟩
            have y9 := (y8.below b9).more b9.size
            have z9 := (z8.below b9).more b9.size
            have hb9 := hb8.trans (b9.mono hb8.size)
            clear b9 y8 z8 hb8 C5
            go_wp2_with fail
            refine (C6.out A5 c5 w9 z9 y9).mono ?_
            rintro e w10 ⟨rfl, b10⟩
            have z10 := Lib.hid ((z9.below b10).more b10.size)
            have hb10 := Lib.hid (hb9.trans (b10.mono hb9.size))
            clear b10 y9 z9 hb9 C6
            go_wp2
            exact ⟨⟨i + 1, Z, A5, c5, by omega, rfl, rfl, HZR, z10, hb10⟩, by simp only [intOf]; omega⟩
          · clear hfull hs hsb hQ hnx
            go_wp2_with fail
            refine HX.out.mono ?_
            rintro e w3 ⟨rfl, b3⟩
            have hb3 := hb.out.trans (b3.mono hws)
            have n3 := (hny.out.below b3).more b3.size
            have hb4 := Lib.hid (hb3.alloc hb3.size (.cells #[.int .i64 e1, .int .i64 e2] 24))
            have n4 := Lib.hid ((n3.alloc (Nat.le_refl _) (.cells #[.int .i64 e1, .int .i64 e2] 24)).more (show w3.heap.size ≤ (w3.alloc (.cells #[.int .i64 e1, .int .i64 e2] 24)).heap.size by simp))
            clear b3 HX hny hb d0 hws hb3 n3
            go_wp2
            exact ⟨⟨i + 1, y, Ay, cy, by omega, rfl, rfl, hy, n4, hb4⟩, by simp only [intOf]; omega⟩
          · have hat := fun W h => at_any Ay cy m y hy.out.1 s hsb W h (by omega)
            rw [hfull rfl] at hat
            have HT := Lib.hid hat
            have hbl := hbs
            clear hfull hs hsb hQ hnx hat
            go_wp2_with fail
            refine HX.out.mono ?_
            rintro e w3 ⟨rfl, b3⟩
            have hb3 := hb.out.trans (b3.mono hws)
            have n3 := (hny.out.below b3).more b3.size
            have f0 := cell_below b3 (by show bs < _; omega) d0
            have fl : bs < w3.heap.size := by have := b3.size; omega
            have f1 := (World.cell?_alloc_lt w3 (.cells #[.int .i64 e1, .int .i64 e2] 24) ⟨bs, ofs + i, none⟩ fl).trans f0
            have hb4 := hb3.alloc hb3.size (.cells #[.int .i64 e1, .int .i64 e2] 24)
            have n4 := (n3.alloc (Nat.le_refl _) (.cells #[.int .i64 e1, .int .i64 e2] 24)).more (show w3.heap.size ≤ (w3.alloc (.cells #[.int .i64 e1, .int .i64 e2] 24)).heap.size by simp)
            obtain ⟨W4, hW4⟩ : ∃ W, w3.alloc (.cells #[.int .i64 e1, .int .i64 e2] 24) = W := ⟨_, rfl⟩
            rw [hW4] at f1 hb4 n4
            clear b3 HX hny hb d0 hws hb3 n3 f0 fl
            go_wp2_with fail
            refine (HT.out W4 n4).mono ?_
            rintro e w5 ⟨rfl, b5⟩
            have n5 := Lib.hid ((n4.below b5).more b5.size)
            have hb5 := Lib.hid (hb4.trans (b5.mono hb4.size))
            clear b5 n4 hb4 f1 hW4 HT
            go_wp2
            exact ⟨⟨i + 1, y, Ay, cy, by omega, rfl, rfl, hy, n5, hb5⟩, by simp only [intOf]; omega⟩
        · go_wp2
          go_ret
          exact ⟨rfl, hb.out⟩
      · go_wp2
        go_ret
        exact ⟨rfl, hb.out⟩
  · rw [decide_eq_false rv] at h1
    have H1 := Lib.hid h1
    clear h1 rv hr hr' hwf' hn hm hbig hbig'
    go_enter Try.func4, Try.ntmps4
    go_wp2_with fail
    refine (HA.out w).mono ?_
    rintro e w1 ⟨rfl, hb1⟩
    go_wp2_with fail
    refine (H1.out w1 ((HR.out.below hb1).more hb1.size)).mono ?_
    rintro e w2 ⟨rfl, b2⟩
    have hb2 := hb1.trans (b2.mono hb1.size)
    go_wp2_with fail
    refine (HA.out w2).mono ?_
    rintro e w3 ⟨rfl, b3⟩
    have hb3 := hb2.trans (b3.mono hb2.size)
    go_wp2
    go_ret
    exact ⟨rfl, hb3⟩
-- ROW BEGIN
/-- What the walk gives, shut again. -/
theorem contract (H : Type) (enc : TypeId × Value → H) (W : World) (base : Nat) (args : Array Value) (ds gs : List (DataW H)) (before : List MemPlace)
    (hval : ∀ (j : Nat) t v, Try.f4.params[j]? = some t → args[j]? = some v → Value.okWide Try.prog W .any base t v)
    (hW : DataW.Whole enc Try.prog Try.f4.params.toList Rows.vectGoesSpec.vars false W args.toList ds gs before)
    (hsz : (DataW.weightsEach Try.prog (Try.f4.params.toList ++ Rows.vectGoesSpec.plain.varTypes Try.prog) (ds ++ gs)).all (· ≤ reachBytes) = true) :
    Calls Try.prog 4 args W fun e W' => ∃ v, e = .returned v ∧ Rows.vectGoesSpec.post enc Try.prog Try.f4 false true false false W args v W' := by
  have hW' := hW
  obtain ⟨p, q, hA0, hV, hbef, _, _⟩ := hW
  have hA : DataW.TrodAll enc Try.prog W 0 (fun _ => true) true Try.f4.params.toList args.toList ds p := hA0
  have hA1 := hA
  rw [Try.params4] at hA hval hsz
  obtain ⟨v0, vs0, d0, ds0, p0, q0, hargs, rfl, rfl, h0, r0⟩ := trodAll_cons hA
  obtain ⟨v1, vs1, d1, ds1, p1, q1, rfl, rfl, rfl, h1, r1⟩ := trodAll_cons r0
  obtain ⟨rfl, rfl, rfl⟩ := trodAll_nil r1
  obtain rfl : args = #[v0, v1] := by cases args; simp_all
  obtain ⟨rfl, rfl⟩ := trodVars_none hV
  clear hA hargs
  obtain ⟨A0, c0, a0, rfl, n0, w0, l0, _, o0⟩ := open_ns Try.underlying22 Try.underlying2 Facts.cells2 (hval 0 22 v0 rfl rfl) h0
  have b0 := reach_ns hsz (j := 0) rfl rfl Try.underlying22 Facts.bytes2 l0 o0
  obtain ⟨A1, c1, a1, rfl, n1, w1, l1, _, o1⟩ := open_ns Try.underlying41 Try.underlying3 Facts.cells3 (hval 1 41 v1 rfl rfl) h1
  have b1 := reach_ns hsz (j := 1) rfl rfl Try.underlying41 Facts.bytes3 l1 o1
  refine (walk W A0 c0 a0 n0 (fun z hz => wf_int (w0 z hz)) (by omega) l0 A1 c1 a1 n1 (fun z hz => wf_int (w1 z hz)) (by omega) l1).mono fun e W' ⟨he, hb⟩ => ?_
  subst he
  exact ⟨_, rfl, law_post Facts.laid (by rfl) Try.underlying4 (by rw [Try.params4]; decide +kernel) hW' hA1 rfl hbef rfl rfl rfl hb⟩

set_option maxRecDepth 100000 in
theorem lifted (os : Os) (started : os.Started) (H : Type) (enc : TypeId × Value → H) :
    ReturnsInHanded {} Try.checked os 4 .any (Rows.vectGoesSpec.pre6 enc Try.prog Try.f4 Rows.vectGoesRow.domain false) (Rows.vectGoesSpec.post enc Try.prog Try.f4 false true false false) := by
  refine returnsInHanded_of_change_sized (C := Try.checked) Facts.own started (by kernel_rfl) Try.func4
    (ChangeSpec.witness6 (enc := enc) (C := Try.checked) false ⟨#[], #[.slice none 0 0, .slice none 0 0], []⟩ 8 (by kernel_rfl) (by kernel_rfl) (by kernel_rfl) (by kernel_rfl)) ?_
  intro W base args ds gs before hval hW _ hsz _
  exact contract H enc W base args ds gs before hval hW hsz

theorem holds : Rows.VectGoesSaid :=
  OpenClaim.holds_of_wide 4 Try.f4 rfl rfl rfl rfl rfl rfl rfl ⟨rfl, rfl, rfl, rfl, rfl⟩ rfl rfl rfl rfl rfl (by kernel_rfl) Try.func4 (by kernel_rfl)
    (of_decide_eq_true (by kernel_rfl)) (by unfold Func.isWrapper; first | (rw [if_pos (by decide +kernel)]; kernel_rfl) | (rw [if_neg (by decide +kernel)]; exact ⟨rfl, rfl⟩))
    (fun os started H enc _ => lifted os started H enc)
-- ROW END
end VectGoes
end Go.Proofs.Ytpgpeigaoonpcac
