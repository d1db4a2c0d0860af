/-
  NetParts (P8.1, P8.2): between two places that are parted nothing arrives, in either direction, and all else does; once they are joined again what is sent then arrives. For every input.
-/
import Derived.Test.YtinbaiblbbfnnaaNetEq
import Derived.Test.YtinbaiblbbfnnaaNetArgs
import Derived.Test.YtinbaiblbbfnnaaNetPks
import Derived.Test.YtinbaiblbbfnnaaFrame
namespace Go.Proofs.Ytinbaiblbbfnnaa
namespace NetParts
open Go.ChangeShapes Go.WideShapes Go.ChangeAt Go.RowKit Net Blk
attribute [local go_sem ↓] Go.wp_at_zero Go.wp_at_succ
/-- The two places' variables. -/
def Two (w : World) (F : Nat → Prop) (pa pb : Nat) (a b : Ad) (V : World) : Prop := (Bn pa 33 [.int .i64 a.1, .int .i64 a.2] V ∧ w.heap.size ≤ pa ∧ ¬ F pa) ∧ (Bn pb 33 [.int .i64 b.1, .int .i64 b.2] V ∧ w.heap.size ≤ pb ∧ ¬ F pb)
theorem Two.step {w V V' : World} {F F' : Nat → Prop} {pa pb : Nat} {a b : Ad} (h : Two w F pa pb a b V) (h2 : Stp F V F' V') : Two w F' pa pb a b V' := by
  obtain ⟨⟨h1, h3, h4⟩, ⟨h5, h6, h7⟩⟩ := h
  refine ⟨⟨h1.same (h2.1.block _ h1.lt h4), h3, fun hf => ?_⟩, ⟨h5.same (h2.1.block _ h5.lt h7), h6, fun hf => ?_⟩⟩
  · rcases h2.2 _ hf with q | q
    · exact h4 q
    · have := h1.lt; omega
  · rcases h2.2 _ hf with q | q
    · exact h7 q
    · have := h5.lt; omega
theorem Two.below {w V V' : World} {F : Nat → Prop} {pa pb : Nat} {a b : Ad} (h : Two w F pa pb a b V) (hb : Below V.heap.size V V') : Two w F pa pb a b V' := h.step (Stp.of_below hb)
/-- Part, of any two places. -/
theorem part_any {F : Nat → Prop} {w : World} {nb m : Nat} {P : List Pk} {s t u : Int} {C : Ad → Ad → Bool} (h : NI F w nb P s t u C m) (hm : m ≤ 100000000000000) (a1 a2 b1 b2 : Int) (ha : okA (a1, a2)) (hb : okA (b1, b2)) (cut : Bool) :
    Calls Try.prog 20 #[hd nb, .agg #[.int .i64 a1, .int .i64 a2], .agg #[.int .i64 b1, .int .i64 b2], .bool cut] w (fun e w' => e = .returned (.tuple #[]) ∧ ∃ m', m' ≤ m + 2 ∧ Hid (NI F w' nb P s t u (if (a1, a2) = (b1, b2) then C else partC C (a1, a2) (b1, b2) cut 2) m' ∧ Stp F w F w')) := by
  by_cases hab : a1 = b1 ∧ a2 = b2
  · obtain ⟨rfl, rfl⟩ := hab
    rw [if_pos rfl]
    exact (part_same h a1 a2 cut).mono fun e w' ⟨h1, h2⟩ => ⟨h1, m, by omega, Lib.hid ⟨h.below h2, Stp.of_below h2⟩⟩
  · rw [if_neg fun e => hab (by simpa using e)]
    exact part_diff h hm a1 a2 b1 b2 ha hb hab cut

/-- Who is parted behind Part. -/
theorem six (a b f t : Ad) (C : Ad → Ad → Bool) (hC : (if a = b then (fun _ _ => false) else partC (fun _ _ => false) a b true 2) = C) (nAB eFA eTB eFB eTA : Bool) (h1 : eqA a b = !nAB) (h2 : eqA f a = eFA) (h3 : eqA t b = eTB) (h4 : eqA f b = eFB) (h5 : eqA t a = eTA) :
    (nAB = false ∧ C f t = false) ∨ (nAB = true ∧ eFA = true ∧ eTB = true ∧ C f t = true) ∨ (nAB = true ∧ eFA = true ∧ eTB = false ∧ eFB = false ∧ C f t = false) ∨
    (nAB = true ∧ eFA = false ∧ eFB = true ∧ eTA = true ∧ C f t = true) ∨ (nAB = true ∧ eFA = false ∧ eFB = true ∧ eTA = false ∧ C f t = false) ∨ (nAB = true ∧ eFA = false ∧ eFB = false ∧ C f t = false) := by
  have key : ∀ (x y : Ad) (e : Bool), eqA x y = e → e = decide (x = y) := fun x y e h => by
    rw [← h]
    by_cases q : x = y
    · rw [decide_eq_true q]; exact eqA_iff.2 q
    · rw [decide_eq_false q]
      cases hh : eqA x y
      · rfl
      · exact absurd (eqA_iff.1 hh) q
  obtain rfl : nAB = !(eqA a b) := by rw [h1]; simp
  have k1 := key _ _ _ (rfl : eqA a b = eqA a b)
  clear h1
  have k2 := key _ _ _ h2
  have k3 := key _ _ _ h3
  have k4 := key _ _ _ h4
  have k5 := key _ _ _ h5
  rw [k1]
  subst k2 k3 k4 k5 hC
  by_cases q1 : a = b
  · simp [q1]
  · rw [if_neg q1]
    have hP : partC (fun _ _ => false) a b true 2 f t = ((f == b && t == a) || (f == a && t == b)) := by simp [partC, oneC]
    rw [hP]
    by_cases q2 : f = a <;> by_cases q3 : t = b <;> by_cases q4 : f = b <;> by_cases q5 : t = a <;> simp_all
theorem back (a b : Ad) (C : Ad → Ad → Bool) (hC : (if a = b then (fun _ _ => false) else partC (fun _ _ => false) a b true 2) = C) : C b a = !(eqA a b) ∧ (if b = a then C else partC C b a false 2) a b = false := by
  subst hC
  have hne : ¬ a = b → eqA a b = false := fun q => by
    cases hh : eqA a b
    · rfl
    · exact absurd (eqA_iff.1 hh) q
  by_cases q : a = b
  · subst q
    simp [eqA_iff.2]
  · rw [if_neg q, if_neg (fun e => q e.symm), hne q]
    simp [partC, oneC]

set_option maxRecDepth 100000 in
set_option maxHeartbeats 4000000 in
theorem walk (w : World) (a1 a2 : Int) (ha : okA (a1, a2)) (b1 b2 : Int) (hb : okA (b1, b2)) (A : Option Addr) (c : Nat) (l : List PE) (hp : Pks w w.heap.size A l) (_hb : l.length * 56 ≤ 140737488351232) (_hlc : l.length ≤ c) :
    Calls Try.prog 5 #[.agg #[.int .i64 a1, .int .i64 a2], .agg #[.int .i64 b1, .int .i64 b2], .slice A l.length c] w fun e w' => e = .returned (.bool true) ∧ Below w.heap.size w w' := by
  obtain ⟨M, hM⟩ : ∃ n, l.length = n := ⟨_, rfl⟩
  rw [hM]
  obtain ⟨U, hU⟩ : ∃ U, (w.alloc (.cells #[.int .i64 a1, .int .i64 a2] 33)).alloc (.cells #[.int .i64 b1, .int .i64 b2] 33) = U := ⟨_, rfl⟩
  have hbU : Below w.heap.size w U := by rw [← hU]; exact ((Below.refl _ w).alloc (Nat.le_refl _) _).alloc (by simp) _
  have hTU : Two w (fun _ => False) w.heap.size (w.heap.size + 1) (a1, a2) (b1, b2) U := by
    refine ⟨⟨?_, Nat.le_refl _, id⟩, ⟨?_, by omega, id⟩⟩
    · rw [← hU]
      exact (Below.heap_alloc _ _ _ (by simp)).trans (heap_alloc_new w _)
    · rw [← hU]
      have h := heap_alloc_new (w.alloc (.cells #[.int .i64 a1, .int .i64 a2] 33)) (.cells #[.int .i64 b1, .int .i64 b2] 33)
      rw [World.size_alloc] at h
      exact h
  have HZ := Lib.hid (And.intro hp (And.intro hM (And.intro ha (And.intro hb (And.intro hbU hTU)))))
  have HA := Lib.hid (awake_any U)
  have hd : (decide ((2000 : Int) < (M : Int)) = true) ∨ (decide ((2000 : Int) < (M : Int)) = false ∧ M ≤ 2000) := by
    by_cases h : (2000 : Int) < (M : Int)
    · exact .inl (decide_eq_true h)
    · exact .inr ⟨decide_eq_false h, by omega⟩
  clear hp hM _hb _hlc ha hb hbU hTU
  go_enter Try.func5, Try.ntmps5
  go_wp2_with fail
  refine HA.out.mono ?_
  rintro e0 w0 ⟨rfl, b0⟩
  have HB0 := Lib.hid (And.intro (HZ.out.2.2.2.2.1.trans (b0.mono HZ.out.2.2.2.2.1.size)) (HZ.out.2.2.2.2.2.below b0))
  clear b0
  rcases hd with hd | ⟨hd, hM4⟩
  · have H1 := Lib.hid (awake_any w0)
    go_wp2_with fail
    refine H1.out.mono ?_
    rintro e1 w1 ⟨rfl, b1⟩
    have HE := Lib.hid (HB0.out.1.trans (b1.mono HB0.out.1.size))
    clear b1
    go_wp2_with fail
    go_ret
    exact ⟨rfl, HE.out⟩
  have H1 := Lib.hid (new_any w0)
  go_wp2_with fail
  refine H1.out.mono ?_
  rintro e1 w1 ⟨F1, nb, rfl, h1⟩
  obtain ⟨pa, hpa⟩ : ∃ b, w.heap.size = b := ⟨_, rfl⟩
  have S1 : Hid (Sit w nb [] 0 0 0 (fun _ _ => false) 0 F1 w1) := Lib.hid ⟨h1.out.1, HB0.out.1.trans (h1.out.2.2.mono HB0.out.1.size), fun k hk => Nat.le_trans HB0.out.1.size (h1.out.2.1 k hk)⟩
  have T1 : Hid (Two w F1 pa (pa + 1) (a1, a2) (b1, b2) w1) := Lib.hid (by
    obtain ⟨⟨q1, q2, q3⟩, ⟨q4, q5, q6⟩⟩ := HB0.out.2
    rw [hpa] at q1 q2 q4 q5
    exact ⟨⟨q1.same (h1.out.2.2.block _ q1.lt), by omega, fun hf => by have := h1.out.2.1 _ hf; have := q1.lt; omega⟩, ⟨q4.same (h1.out.2.2.block _ q4.lt), by omega, fun hf => by have := h1.out.2.1 _ hf; have := q4.lt; omega⟩⟩)
  have y0 := T1.out.1.1.cell 0
  have y1 := T1.out.1.1.cell 1
  have y2 := T1.out.2.1.cell 0
  have y3 := T1.out.2.1.cell 1
  simp only [List.getElem?_cons_zero, List.getElem?_cons_succ] at y0 y1 y2 y3
  have H2 := Lib.hid (part_any S1.out.1 (by omega) a1 a2 b1 b2 HZ.out.2.2.1 HZ.out.2.2.2.1 true)
  clear h1 hd
  go_wp2_with fail
  refine H2.out.mono ?_
  rintro e2 w2 ⟨rfl, m2, hm2, h2⟩
  obtain ⟨C, hC⟩ : ∃ C, (if (a1, a2) = (b1, b2) then (fun _ _ => false) else partC (fun _ _ => false) (a1, a2) (b1, b2) true 2) = C := ⟨_, rfl⟩
  rw [hC] at h2
  have S2 : Hid (∃ s t, Sit w nb [] s t ((0 : Nat) : Int) C m2 F1 w2 ∧ Two w F1 pa (pa + 1) (a1, a2) (b1, b2) w2) := Lib.hid ⟨_, _, S1.out.step h2.out.1 h2.out.2, T1.out.step h2.out.2⟩
  have HC := Lib.hid hC
  clear h2 S1 T1 y0 y1 y2 y3 H2 hC
  go_wp2_with fail
  go_loopw [8, 9] (fun lv q wr => ∃ (k x : Nat) (F : Nat → Prop), k ≤ M ∧ x ≤ k ∧ q = .int .i64 k ∧ lv = .int .i64 x ∧ Hid (∃ s t, Sit w nb [] s t (x : Int) C m2 F wr ∧ Two w F pa (pa + 1) (a1, a2) (b1, b2) wr)) (fun _ q _ => M - (intOf q).toNat)
  case atStart => exact ⟨0, 0, F1, by omega, by omega, rfl, rfl, S2⟩
  case round =>
    clear S2
    obtain ⟨k, x, F, hk, hxk, rfl, rfl, hst⟩ := hrel
    by_cases hlt : k < M
    · obtain ⟨s, t, hS, hT⟩ := hst.out
      obtain ⟨pb, po, hA, _⟩ := HZ.out.1.2 (by have := HZ.out.2.1; omega)
      subst hA
      obtain ⟨f1, f2, t1, t2, xs, Ad, cd, hx, hok, hns, hpbl, c0, c1, c2, c3, c4⟩ := pks_at HZ.out.1 (j := k) (by have := HZ.out.2.1; omega)
      obtain ⟨n, hn⟩ : ∃ n, xs.length = n := ⟨_, rfl⟩
      rw [hn] at c4
      have y0 := (hS.2.1.cell (p := ⟨pb, po + k * 5, none⟩) hpbl).trans c0
      have y1 := (hS.2.1.cell (p := ⟨pb, po + k * 5 + 1, none⟩) hpbl).trans c1
      have y2 := (hS.2.1.cell (p := ⟨pb, po + k * 5 + 2, none⟩) hpbl).trans c2
      have y3 := (hS.2.1.cell (p := ⟨pb, po + k * 5 + 3, none⟩) hpbl).trans c3
      have y4 := (hS.2.1.cell (p := ⟨pb, po + k * 5 + 4, none⟩) hpbl).trans c4
      have z1 : (0 : Int) ≤ (k : Int) := by omega
      have z2 : (k : Int) < (M : Int) := by omega
      have H3 := Lib.hid (send_more hS.1 (by simp) f1 f2 t1 t2 xs n hn Ad cd ((hns.below hS.2.1).more hS.2.1.size) hok)
      have HJ := Lib.hid (And.intro hS (And.intro hT (And.intro hns (And.intro hn (And.intro hpbl (And.intro c0 (And.intro c1 (And.intro c2 (And.intro c3 (And.intro c4 hok))))))))))
      clear hS hT hst hx hok hns hpbl c0 c1 c2 c3 c4 hn
      go_wp2_with fail
      refine H3.out.mono ?_
      rintro e3 w3 ⟨rfl, F3, h3⟩
      have S3 := Lib.hid (HJ.out.1.step h3.out.1 h3.out.2)
      have T3 := Lib.hid (HJ.out.2.1.step h3.out.2)
      have S3d := Lib.hid (S3.out.below ((Below.refl _ w3).drew))
      have T3d := Lib.hid (T3.out.below ((Below.refl _ w3).drew))
      have HSS : Hid (∀ V, Below w3.heap.size w3 V → V.cell? ⟨pa, 0, none⟩ = some (.int .i64 a1) ∧ V.cell? ⟨pa, 1, none⟩ = some (.int .i64 a2) ∧ V.cell? ⟨pa + 1, 0, none⟩ = some (.int .i64 b1) ∧ V.cell? ⟨pa + 1, 1, none⟩ = some (.int .i64 b2) ∧
          V.cell? ⟨pb, po + k * 5, none⟩ = some (.int .i64 f1) ∧ V.cell? ⟨pb, po + k * 5 + 1, none⟩ = some (.int .i64 f2) ∧ V.cell? ⟨pb, po + k * 5 + 2, none⟩ = some (.int .i64 t1) ∧ V.cell? ⟨pb, po + k * 5 + 3, none⟩ = some (.int .i64 t2)) := Lib.hid fun V hV => by
        have hT := T3.out.below hV
        have hw := S3.out.2.1.trans (hV.mono S3.out.2.1.size)
        obtain ⟨_, _, _, _, h11, h12, h13, h14, h15, _⟩ := HJ.out
        exact ⟨(hT.1.1.cell 0).trans rfl, (hT.1.1.cell 1).trans rfl, (hT.2.1.cell 0).trans rfl, (hT.2.1.cell 1).trans rfl, (hw.cell (p := ⟨pb, po + k * 5, none⟩) h11).trans h12, (hw.cell (p := ⟨pb, po + k * 5 + 1, none⟩) h11).trans h13, (hw.cell (p := ⟨pb, po + k * 5 + 2, none⟩) h11).trans h14, (hw.cell (p := ⟨pb, po + k * 5 + 3, none⟩) h11).trans h15⟩
      clear h3 y0 y1 y2 y3 y4
      obtain ⟨eAB, hAB⟩ : ∃ e, eqA (a1, a2) (b1, b2) = !e := ⟨!(eqA (a1, a2) (b1, b2)), by simp⟩
      obtain ⟨eFA, hFA⟩ : ∃ e, eqA (f1, f2) (a1, a2) = e := ⟨_, rfl⟩
      obtain ⟨eTB, hTB⟩ : ∃ e, eqA (t1, t2) (b1, b2) = e := ⟨_, rfl⟩
      obtain ⟨eFB, hFB⟩ : ∃ e, eqA (f1, f2) (b1, b2) = e := ⟨_, rfl⟩
      obtain ⟨eTA, hTA⟩ : ∃ e, eqA (t1, t2) (a1, a2) = e := ⟨_, rfl⟩
      have rAB := run_neA a1 a2 b1 b2 eAB hAB
      have rFA := run_eqA f1 f2 a1 a2 eFA hFA
      have rTB := run_eqA t1 t2 b1 b2 eTB hTB
      have rFB := run_eqA f1 f2 b1 b2 eFB hFB
      have rTA := run_eqA t1 t2 a1 a2 eTA hTA
      have h6 := six (a1, a2) (b1, b2) (f1, f2) (t1, t2) C HC.out eAB eFA eTB eFB eTA hAB hFA hTB hFB hTA
      obtain ⟨ap, hap⟩ : ∃ b, C (f1, f2) (t1, t2) = b := ⟨_, rfl⟩
      rw [hap] at h6
      have HAP := Lib.hid hap
      have H6 := Lib.hid h6
      clear hAB hFA hTB hFB hTA hap h6
      rcases H6.out with ⟨rfl, rfl⟩ | ⟨rfl, rfl, rfl, rfl⟩ | ⟨rfl, rfl, rfl, rfl, rfl⟩ | ⟨rfl, rfl, rfl, rfl, rfl⟩ | ⟨rfl, rfl, rfl, rfl, rfl⟩ | ⟨rfl, rfl, rfl, rfl⟩
      · go_wp2_with fail
        refine wp_region_held_drew (S := (fun V => V.cell? ⟨pa, 0, none⟩ = some (.int .i64 a1) ∧ V.cell? ⟨pa, 1, none⟩ = some (.int .i64 a2) ∧ V.cell? ⟨pa + 1, 0, none⟩ = some (.int .i64 b1) ∧ V.cell? ⟨pa + 1, 1, none⟩ = some (.int .i64 b2) ∧ V.cell? ⟨pb, po + k * 5, none⟩ = some (.int .i64 f1) ∧ V.cell? ⟨pb, po + k * 5 + 1, none⟩ = some (.int .i64 f2) ∧ V.cell? ⟨pb, po + k * 5 + 2, none⟩ = some (.int .i64 t1) ∧ V.cell? ⟨pb, po + k * 5 + 3, none⟩ = some (.int .i64 t2))) (by kernel_rfl) (by first | exact HSS.out _ (Below.refl _ _).drew | exact HSS.out _ (Below.refl _ _)) (fun hHeld => ?_)
        refine wpAnyH_take (i := 0) (oi := { dst := some 44, op := Op.load 33 (Operand.tmp 3), type := 33, pos := "law.go:132", after := #[], guard := none }) (v := ?va1_1) rfl (by kernel_rfl) (by kernel_rfl) (by kernel_rfl) (fun _ _ _ h => h) (Or.inl ⟨by rfl, ?hya1_1⟩) (by assumption) ?resta1_1
        case hya1_1 =>
          intro w hSw
          (try dsimp only at hSw)
          go_simp
          (try with_reducible rfl)
        (try simp only [Act.put, List.setIfInBounds_toArray, List.set_cons_zero, List.set_cons_succ])
        refine wpAnyH_take (i := 1) (oi := { dst := some 45, op := Op.load 33 (Operand.tmp 4), type := 33, pos := "law.go:132", after := #[], guard := none }) (v := ?va1_2) rfl (by kernel_rfl) (by kernel_rfl) (by kernel_rfl) (fun _ _ _ h => h) (Or.inl ⟨by rfl, ?hya1_2⟩) (by assumption) ?resta1_2
        case hya1_2 =>
          intro w hSw
          (try dsimp only at hSw)
          go_simp
          (try with_reducible rfl)
        (try simp only [Act.put, List.setIfInBounds_toArray, List.set_cons_zero, List.set_cons_succ])
        refine wpAnyH_take (i := 2) (oi := { dst := some 46, op := Op.binOp BinOp.neq 33 (Operand.tmp 44) (Operand.tmp 45) 33, type := 4, pos := "law.go:132", after := #[{ on := 0, ground := Ground.data }, { on := 1, ground := Ground.data }], guard := none }) (v := ?va1_3) rfl (by kernel_rfl) (by kernel_rfl) (by kernel_rfl) (fun _ _ _ h => h) (Or.inl ⟨by rfl, ?hya1_3⟩) (by assumption) ?resta1_3
        case hya1_3 =>
          intro w hSw
          (try dsimp only at hSw)
          go_simp
          (try with_reducible rfl)
        (try simp only [Act.put, List.setIfInBounds_toArray, List.set_cons_zero, List.set_cons_succ])
        refine wpAnyH_take (i := 3) (oi := { dst := some 47, op := Op.move (Operand.tmp 46), type := 4, pos := "law.go:132", after := #[{ on := 2, ground := Ground.data }], guard := none }) (v := ?va1_4) rfl (by kernel_rfl) (by kernel_rfl) (by kernel_rfl) (fun _ _ _ h => h) (Or.inl ⟨by rfl, ?hya1_4⟩) (by assumption) ?resta1_4
        case hya1_4 =>
          intro w hSw
          (try dsimp only at hSw)
          go_simp
          (try with_reducible rfl)
        (try simp only [Act.put, List.setIfInBounds_toArray, List.set_cons_zero, List.set_cons_succ])
        refine wpAnyH_take (i := 4) (oi := { dst := some 48, op := Op.move (Operand.tmp 2), type := 27, pos := "law.go:132", after := #[{ on := 3, ground := Ground.guard }], guard := some (3, true) }) (v := undef) rfl (by kernel_rfl) (by kernel_rfl) (by kernel_rfl) (fun _ _ _ h => h) (Or.inr ⟨by rfl, rfl⟩) (by assumption) ?_
        (try simp only [Act.put, List.setIfInBounds_toArray, List.set_cons_zero, List.set_cons_succ])
        refine wpAnyH_take (i := 5) (oi := { dst := some 49, op := Op.move (Operand.tmp 9), type := 3, pos := "law.go:132", after := #[{ on := 3, ground := Ground.guard }], guard := some (3, true) }) (v := undef) rfl (by kernel_rfl) (by kernel_rfl) (by kernel_rfl) (fun _ _ _ h => h) (Or.inr ⟨by rfl, rfl⟩) (by assumption) ?_
        (try simp only [Act.put, List.setIfInBounds_toArray, List.set_cons_zero, List.set_cons_succ])
        refine wpAnyH_take (i := 6) (oi := { dst := some 50, op := Op.indexAddr 27 (Operand.tmp 48) (Operand.tmp 49), type := 0, pos := "law.go:132", after := #[{ on := 4, ground := Ground.data }, { on := 5, ground := Ground.data }, { on := 3, ground := Ground.guard }], guard := some (3, true) }) (v := undef) rfl (by kernel_rfl) (by kernel_rfl) (by kernel_rfl) (fun _ _ _ h => h) (Or.inr ⟨by rfl, rfl⟩) (by assumption) ?_
        (try simp only [Act.put, List.setIfInBounds_toArray, List.set_cons_zero, List.set_cons_succ])
        refine wpAnyH_take (i := 7) (oi := { dst := some 51, op := Op.fieldAddr 36 (Operand.tmp 50) 0, type := 0, pos := "law.go:132", after := #[{ on := 6, ground := Ground.data }, { on := 3, ground := Ground.guard }], guard := some (3, true) }) (v := undef) rfl (by kernel_rfl) (by kernel_rfl) (by kernel_rfl) (fun _ _ _ h => h) (Or.inr ⟨by rfl, rfl⟩) (by assumption) ?_
        (try simp only [Act.put, List.setIfInBounds_toArray, List.set_cons_zero, List.set_cons_succ])
        refine wpAnyH_take (i := 8) (oi := { dst := some 52, op := Op.load 33 (Operand.tmp 51), type := 33, pos := "law.go:132", after := #[{ on := 7, ground := Ground.data }, { on := 3, ground := Ground.guard }], guard := some (3, true) }) (v := undef) rfl (by kernel_rfl) (by kernel_rfl) (by kernel_rfl) (fun _ _ _ h => h) (Or.inr ⟨by rfl, rfl⟩) (by assumption) ?_
        (try simp only [Act.put, List.setIfInBounds_toArray, List.set_cons_zero, List.set_cons_succ])
        refine wpAnyH_take (i := 9) (oi := { dst := some 53, op := Op.load 33 (Operand.tmp 3), type := 33, pos := "law.go:132", after := #[{ on := 3, ground := Ground.guard }], guard := some (3, true) }) (v := undef) rfl (by kernel_rfl) (by kernel_rfl) (by kernel_rfl) (fun _ _ _ h => h) (Or.inr ⟨by rfl, rfl⟩) (by assumption) ?_
        (try simp only [Act.put, List.setIfInBounds_toArray, List.set_cons_zero, List.set_cons_succ])
        refine wpAnyH_take (i := 10) (oi := { dst := some 54, op := Op.binOp BinOp.eql 33 (Operand.tmp 52) (Operand.tmp 53) 33, type := 4, pos := "law.go:132", after := #[{ on := 8, ground := Ground.data }, { on := 9, ground := Ground.data }, { on := 3, ground := Ground.guard }], guard := some (3, true) }) (v := undef) rfl (by kernel_rfl) (by kernel_rfl) (by kernel_rfl) (fun _ _ _ h => h) (Or.inr ⟨by rfl, rfl⟩) (by assumption) ?_
        (try simp only [Act.put, List.setIfInBounds_toArray, List.set_cons_zero, List.set_cons_succ])
        refine wpAnyH_take (i := 11) (oi := { dst := some 55, op := Op.move (Operand.tmp 54), type := 4, pos := "law.go:132", after := #[{ on := 10, ground := Ground.data }, { on := 3, ground := Ground.chain }, { on := 3, ground := Ground.guard }], guard := some (3, true) }) (v := undef) rfl (by kernel_rfl) (by kernel_rfl) (by kernel_rfl) (fun _ _ _ h => h) (Or.inr ⟨by rfl, rfl⟩) (by assumption) ?_
        (try simp only [Act.put, List.setIfInBounds_toArray, List.set_cons_zero, List.set_cons_succ])
        refine wpAnyH_take (i := 12) (oi := { dst := some 56, op := Op.move (Operand.tmp 2), type := 27, pos := "law.go:132", after := #[{ on := 11, ground := Ground.guard }], guard := some (11, true) }) (v := undef) rfl (by kernel_rfl) (by kernel_rfl) (by kernel_rfl) (fun _ _ _ h => h) (Or.inr ⟨by rfl, rfl⟩) (by assumption) ?_
        (try simp only [Act.put, List.setIfInBounds_toArray, List.set_cons_zero, List.set_cons_succ])
        refine wpAnyH_take (i := 13) (oi := { dst := some 57, op := Op.move (Operand.tmp 9), type := 3, pos := "law.go:132", after := #[{ on := 11, ground := Ground.guard }], guard := some (11, true) }) (v := undef) rfl (by kernel_rfl) (by kernel_rfl) (by kernel_rfl) (fun _ _ _ h => h) (Or.inr ⟨by rfl, rfl⟩) (by assumption) ?_
        (try simp only [Act.put, List.setIfInBounds_toArray, List.set_cons_zero, List.set_cons_succ])
        refine wpAnyH_take (i := 14) (oi := { dst := some 58, op := Op.indexAddr 27 (Operand.tmp 56) (Operand.tmp 57), type := 0, pos := "law.go:132", after := #[{ on := 12, ground := Ground.data }, { on := 13, ground := Ground.data }, { on := 11, ground := Ground.guard }], guard := some (11, true) }) (v := undef) rfl (by kernel_rfl) (by kernel_rfl) (by kernel_rfl) (fun _ _ _ h => h) (Or.inr ⟨by rfl, rfl⟩) (by assumption) ?_
        (try simp only [Act.put, List.setIfInBounds_toArray, List.set_cons_zero, List.set_cons_succ])
        refine wpAnyH_take (i := 15) (oi := { dst := some 59, op := Op.fieldAddr 36 (Operand.tmp 58) 1, type := 0, pos := "law.go:132", after := #[{ on := 14, ground := Ground.data }, { on := 11, ground := Ground.guard }], guard := some (11, true) }) (v := undef) rfl (by kernel_rfl) (by kernel_rfl) (by kernel_rfl) (fun _ _ _ h => h) (Or.inr ⟨by rfl, rfl⟩) (by assumption) ?_
        (try simp only [Act.put, List.setIfInBounds_toArray, List.set_cons_zero, List.set_cons_succ])
        refine wpAnyH_take (i := 16) (oi := { dst := some 60, op := Op.load 33 (Operand.tmp 59), type := 33, pos := "law.go:132", after := #[{ on := 15, ground := Ground.data }, { on := 11, ground := Ground.guard }], guard := some (11, true) }) (v := undef) rfl (by kernel_rfl) (by kernel_rfl) (by kernel_rfl) (fun _ _ _ h => h) (Or.inr ⟨by rfl, rfl⟩) (by assumption) ?_
        (try simp only [Act.put, List.setIfInBounds_toArray, List.set_cons_zero, List.set_cons_succ])
        refine wpAnyH_take (i := 17) (oi := { dst := some 61, op := Op.load 33 (Operand.tmp 4), type := 33, pos := "law.go:132", after := #[{ on := 11, ground := Ground.guard }], guard := some (11, true) }) (v := undef) rfl (by kernel_rfl) (by kernel_rfl) (by kernel_rfl) (fun _ _ _ h => h) (Or.inr ⟨by rfl, rfl⟩) (by assumption) ?_
        (try simp only [Act.put, List.setIfInBounds_toArray, List.set_cons_zero, List.set_cons_succ])
        refine wpAnyH_take (i := 18) (oi := { dst := some 62, op := Op.binOp BinOp.eql 33 (Operand.tmp 60) (Operand.tmp 61) 33, type := 4, pos := "law.go:132", after := #[{ on := 16, ground := Ground.data }, { on := 17, ground := Ground.data }, { on := 11, ground := Ground.guard }], guard := some (11, true) }) (v := undef) rfl (by kernel_rfl) (by kernel_rfl) (by kernel_rfl) (fun _ _ _ h => h) (Or.inr ⟨by rfl, rfl⟩) (by assumption) ?_
        (try simp only [Act.put, List.setIfInBounds_toArray, List.set_cons_zero, List.set_cons_succ])
        refine wpAnyH_take (i := 19) (oi := { dst := some 63, op := Op.pick (Operand.tmp 55) (Operand.tmp 62) (Operand.const (Value.bool false)), type := 4, pos := "law.go:132", after := #[{ on := 11, ground := Ground.data }, { on := 18, ground := Ground.data }, { on := 3, ground := Ground.guard }], guard := some (3, true) }) (v := undef) rfl (by kernel_rfl) (by kernel_rfl) (by kernel_rfl) (fun _ _ _ h => h) (Or.inr ⟨by rfl, rfl⟩) (by assumption) ?_
        (try simp only [Act.put, List.setIfInBounds_toArray, List.set_cons_zero, List.set_cons_succ])
        refine wpAnyH_take (i := 20) (oi := { dst := some 64, op := Op.move (Operand.tmp 63), type := 4, pos := "law.go:132", after := #[{ on := 19, ground := Ground.data }, { on := 11, ground := Ground.chain }, { on := 3, ground := Ground.guard }], guard := some (3, true) }) (v := undef) rfl (by kernel_rfl) (by kernel_rfl) (by kernel_rfl) (fun _ _ _ h => h) (Or.inr ⟨by rfl, rfl⟩) (by assumption) ?_
        (try simp only [Act.put, List.setIfInBounds_toArray, List.set_cons_zero, List.set_cons_succ])
        refine wpAnyH_take (i := 21) (oi := { dst := some 65, op := Op.move (Operand.tmp 2), type := 27, pos := "law.go:132", after := #[{ on := 20, ground := Ground.guard }], guard := some (20, false) }) (v := undef) rfl (by kernel_rfl) (by kernel_rfl) (by kernel_rfl) (fun _ _ _ h => h) (Or.inr ⟨by rfl, rfl⟩) (by assumption) ?_
        (try simp only [Act.put, List.setIfInBounds_toArray, List.set_cons_zero, List.set_cons_succ])
        refine wpAnyH_take (i := 22) (oi := { dst := some 66, op := Op.move (Operand.tmp 9), type := 3, pos := "law.go:132", after := #[{ on := 20, ground := Ground.guard }], guard := some (20, false) }) (v := undef) rfl (by kernel_rfl) (by kernel_rfl) (by kernel_rfl) (fun _ _ _ h => h) (Or.inr ⟨by rfl, rfl⟩) (by assumption) ?_
        (try simp only [Act.put, List.setIfInBounds_toArray, List.set_cons_zero, List.set_cons_succ])
        refine wpAnyH_take (i := 23) (oi := { dst := some 67, op := Op.indexAddr 27 (Operand.tmp 65) (Operand.tmp 66), type := 0, pos := "law.go:132", after := #[{ on := 21, ground := Ground.data }, { on := 22, ground := Ground.data }, { on := 20, ground := Ground.guard }], guard := some (20, false) }) (v := undef) rfl (by kernel_rfl) (by kernel_rfl) (by kernel_rfl) (fun _ _ _ h => h) (Or.inr ⟨by rfl, rfl⟩) (by assumption) ?_
        (try simp only [Act.put, List.setIfInBounds_toArray, List.set_cons_zero, List.set_cons_succ])
        refine wpAnyH_take (i := 24) (oi := { dst := some 68, op := Op.fieldAddr 36 (Operand.tmp 67) 0, type := 0, pos := "law.go:132", after := #[{ on := 23, ground := Ground.data }, { on := 20, ground := Ground.guard }], guard := some (20, false) }) (v := undef) rfl (by kernel_rfl) (by kernel_rfl) (by kernel_rfl) (fun _ _ _ h => h) (Or.inr ⟨by rfl, rfl⟩) (by assumption) ?_
        (try simp only [Act.put, List.setIfInBounds_toArray, List.set_cons_zero, List.set_cons_succ])
        refine wpAnyH_take (i := 25) (oi := { dst := some 69, op := Op.load 33 (Operand.tmp 68), type := 33, pos := "law.go:132", after := #[{ on := 24, ground := Ground.data }, { on := 20, ground := Ground.guard }], guard := some (20, false) }) (v := undef) rfl (by kernel_rfl) (by kernel_rfl) (by kernel_rfl) (fun _ _ _ h => h) (Or.inr ⟨by rfl, rfl⟩) (by assumption) ?_
        (try simp only [Act.put, List.setIfInBounds_toArray, List.set_cons_zero, List.set_cons_succ])
        refine wpAnyH_take (i := 26) (oi := { dst := some 70, op := Op.load 33 (Operand.tmp 4), type := 33, pos := "law.go:132", after := #[{ on := 20, ground := Ground.guard }], guard := some (20, false) }) (v := undef) rfl (by kernel_rfl) (by kernel_rfl) (by kernel_rfl) (fun _ _ _ h => h) (Or.inr ⟨by rfl, rfl⟩) (by assumption) ?_
        (try simp only [Act.put, List.setIfInBounds_toArray, List.set_cons_zero, List.set_cons_succ])
        refine wpAnyH_take (i := 27) (oi := { dst := some 71, op := Op.binOp BinOp.eql 33 (Operand.tmp 69) (Operand.tmp 70) 33, type := 4, pos := "law.go:132", after := #[{ on := 25, ground := Ground.data }, { on := 26, ground := Ground.data }, { on := 20, ground := Ground.guard }], guard := some (20, false) }) (v := undef) rfl (by kernel_rfl) (by kernel_rfl) (by kernel_rfl) (fun _ _ _ h => h) (Or.inr ⟨by rfl, rfl⟩) (by assumption) ?_
        (try simp only [Act.put, List.setIfInBounds_toArray, List.set_cons_zero, List.set_cons_succ])
        refine wpAnyH_take (i := 28) (oi := { dst := some 72, op := Op.move (Operand.tmp 71), type := 4, pos := "law.go:132", after := #[{ on := 27, ground := Ground.data }, { on := 20, ground := Ground.chain }, { on := 20, ground := Ground.guard }], guard := some (20, false) }) (v := undef) rfl (by kernel_rfl) (by kernel_rfl) (by kernel_rfl) (fun _ _ _ h => h) (Or.inr ⟨by rfl, rfl⟩) (by assumption) ?_
        (try simp only [Act.put, List.setIfInBounds_toArray, List.set_cons_zero, List.set_cons_succ])
        refine wpAnyH_take (i := 29) (oi := { dst := some 73, op := Op.move (Operand.tmp 2), type := 27, pos := "law.go:132", after := #[{ on := 28, ground := Ground.guard }], guard := some (28, true) }) (v := undef) rfl (by kernel_rfl) (by kernel_rfl) (by kernel_rfl) (fun _ _ _ h => h) (Or.inr ⟨by rfl, rfl⟩) (by assumption) ?_
        (try simp only [Act.put, List.setIfInBounds_toArray, List.set_cons_zero, List.set_cons_succ])
        refine wpAnyH_take (i := 30) (oi := { dst := some 74, op := Op.move (Operand.tmp 9), type := 3, pos := "law.go:132", after := #[{ on := 28, ground := Ground.guard }], guard := some (28, true) }) (v := undef) rfl (by kernel_rfl) (by kernel_rfl) (by kernel_rfl) (fun _ _ _ h => h) (Or.inr ⟨by rfl, rfl⟩) (by assumption) ?_
        (try simp only [Act.put, List.setIfInBounds_toArray, List.set_cons_zero, List.set_cons_succ])
        refine wpAnyH_take (i := 31) (oi := { dst := some 75, op := Op.indexAddr 27 (Operand.tmp 73) (Operand.tmp 74), type := 0, pos := "law.go:132", after := #[{ on := 29, ground := Ground.data }, { on := 30, ground := Ground.data }, { on := 28, ground := Ground.guard }], guard := some (28, true) }) (v := undef) rfl (by kernel_rfl) (by kernel_rfl) (by kernel_rfl) (fun _ _ _ h => h) (Or.inr ⟨by rfl, rfl⟩) (by assumption) ?_
        (try simp only [Act.put, List.setIfInBounds_toArray, List.set_cons_zero, List.set_cons_succ])
        refine wpAnyH_take (i := 32) (oi := { dst := some 76, op := Op.fieldAddr 36 (Operand.tmp 75) 1, type := 0, pos := "law.go:132", after := #[{ on := 31, ground := Ground.data }, { on := 28, ground := Ground.guard }], guard := some (28, true) }) (v := undef) rfl (by kernel_rfl) (by kernel_rfl) (by kernel_rfl) (fun _ _ _ h => h) (Or.inr ⟨by rfl, rfl⟩) (by assumption) ?_
        (try simp only [Act.put, List.setIfInBounds_toArray, List.set_cons_zero, List.set_cons_succ])
        refine wpAnyH_take (i := 33) (oi := { dst := some 77, op := Op.load 33 (Operand.tmp 76), type := 33, pos := "law.go:132", after := #[{ on := 32, ground := Ground.data }, { on := 28, ground := Ground.guard }], guard := some (28, true) }) (v := undef) rfl (by kernel_rfl) (by kernel_rfl) (by kernel_rfl) (fun _ _ _ h => h) (Or.inr ⟨by rfl, rfl⟩) (by assumption) ?_
        (try simp only [Act.put, List.setIfInBounds_toArray, List.set_cons_zero, List.set_cons_succ])
        refine wpAnyH_take (i := 34) (oi := { dst := some 78, op := Op.load 33 (Operand.tmp 3), type := 33, pos := "law.go:132", after := #[{ on := 28, ground := Ground.guard }], guard := some (28, true) }) (v := undef) rfl (by kernel_rfl) (by kernel_rfl) (by kernel_rfl) (fun _ _ _ h => h) (Or.inr ⟨by rfl, rfl⟩) (by assumption) ?_
        (try simp only [Act.put, List.setIfInBounds_toArray, List.set_cons_zero, List.set_cons_succ])
        refine wpAnyH_take (i := 35) (oi := { dst := some 79, op := Op.binOp BinOp.eql 33 (Operand.tmp 77) (Operand.tmp 78) 33, type := 4, pos := "law.go:132", after := #[{ on := 33, ground := Ground.data }, { on := 34, ground := Ground.data }, { on := 28, ground := Ground.guard }], guard := some (28, true) }) (v := undef) rfl (by kernel_rfl) (by kernel_rfl) (by kernel_rfl) (fun _ _ _ h => h) (Or.inr ⟨by rfl, rfl⟩) (by assumption) ?_
        (try simp only [Act.put, List.setIfInBounds_toArray, List.set_cons_zero, List.set_cons_succ])
        refine wpAnyH_take (i := 36) (oi := { dst := some 80, op := Op.pick (Operand.tmp 72) (Operand.tmp 79) (Operand.const (Value.bool false)), type := 4, pos := "law.go:132", after := #[{ on := 28, ground := Ground.data }, { on := 35, ground := Ground.data }, { on := 20, ground := Ground.guard }], guard := some (20, false) }) (v := undef) rfl (by kernel_rfl) (by kernel_rfl) (by kernel_rfl) (fun _ _ _ h => h) (Or.inr ⟨by rfl, rfl⟩) (by assumption) ?_
        (try simp only [Act.put, List.setIfInBounds_toArray, List.set_cons_zero, List.set_cons_succ])
        refine wpAnyH_take (i := 37) (oi := { dst := some 81, op := Op.pick (Operand.tmp 64) (Operand.const (Value.bool true)) (Operand.tmp 80), type := 4, pos := "law.go:132", after := #[{ on := 20, ground := Ground.data }, { on := 36, ground := Ground.data }, { on := 3, ground := Ground.guard }], guard := some (3, true) }) (v := undef) rfl (by kernel_rfl) (by kernel_rfl) (by kernel_rfl) (fun _ _ _ h => h) (Or.inr ⟨by rfl, rfl⟩) (by assumption) ?_
        (try simp only [Act.put, List.setIfInBounds_toArray, List.set_cons_zero, List.set_cons_succ])
        refine wpAnyH_take (i := 38) (oi := { dst := some 82, op := Op.pick (Operand.tmp 47) (Operand.tmp 81) (Operand.const (Value.bool false)), type := 4, pos := "law.go:132", after := #[{ on := 3, ground := Ground.data }, { on := 37, ground := Ground.data }], guard := none }) (v := ?va1_39) rfl (by kernel_rfl) (by kernel_rfl) (by kernel_rfl) (fun _ _ _ h => h) (Or.inl ⟨by rfl, ?hya1_39⟩) (by assumption) ?resta1_39
        case hya1_39 =>
          intro w hSw
          (try dsimp only at hSw)
          go_simp
          (try with_reducible rfl)
        (try simp only [Act.put, List.setIfInBounds_toArray, List.set_cons_zero, List.set_cons_succ])
        refine wpAnyH_take (i := 39) (oi := { dst := some 10, op := Op.assign (Operand.tmp 82), type := 4, pos := "law.go:132", after := #[{ on := 38, ground := Ground.data }, { on := 28, ground := Ground.chain }, { on := 0, ground := Ground.phase }, { on := 1, ground := Ground.phase }, { on := 2, ground := Ground.phase }, { on := 3, ground := Ground.phase }, { on := 4, ground := Ground.phase }, { on := 5, ground := Ground.phase }, { on := 6, ground := Ground.phase }, { on := 7, ground := Ground.phase }, { on := 8, ground := Ground.phase }, { on := 9, ground := Ground.phase }, { on := 10, ground := Ground.phase }, { on := 11, ground := Ground.phase }, { on := 12, ground := Ground.phase }, { on := 13, ground := Ground.phase }, { on := 14, ground := Ground.phase }, { on := 15, ground := Ground.phase }, { on := 16, ground := Ground.phase }, { on := 17, ground := Ground.phase }, { on := 18, ground := Ground.phase }, { on := 19, ground := Ground.phase }, { on := 20, ground := Ground.phase }, { on := 21, ground := Ground.phase }, { on := 22, ground := Ground.phase }, { on := 23, ground := Ground.phase }, { on := 24, ground := Ground.phase }, { on := 25, ground := Ground.phase }, { on := 26, ground := Ground.phase }, { on := 27, ground := Ground.phase }, { on := 28, ground := Ground.phase }, { on := 29, ground := Ground.phase }, { on := 30, ground := Ground.phase }, { on := 31, ground := Ground.phase }, { on := 32, ground := Ground.phase }, { on := 33, ground := Ground.phase }, { on := 34, ground := Ground.phase }, { on := 35, ground := Ground.phase }, { on := 36, ground := Ground.phase }, { on := 37, ground := Ground.phase }, { on := 38, ground := Ground.phase }], guard := none }) (v := ?va1_40) rfl (by kernel_rfl) (by kernel_rfl) (by kernel_rfl) (fun _ _ _ h => h) (Or.inl ⟨by rfl, ?hya1_40⟩) (by assumption) ?resta1_40
        case hya1_40 =>
          intro w hSw
          (try dsimp only at hSw)
          go_simp
          (try with_reducible rfl)
        (try simp only [Act.put, List.setIfInBounds_toArray, List.set_cons_zero, List.set_cons_succ])
        refine wpAnyH_done (by kernel_rfl) ?_ _
        have H7 := Lib.hid (take_in S3d.out.1 (i := 0) (a1 := f1) (a2 := f2) (b1 := t1) (b2 := t2) (zs := xs) rfl)
        go_wp2_with fail
        refine H7.out.mono ?_
        rintro e7 w7 (⟨hc, _⟩ | ⟨_, A7, c7, he7, F7, hN7, hS7, hD7, _, _⟩)
        · exact absurd (HAP.out.symm.trans hc) (by decide)
        rw [HJ.out.2.2.2.1] at hD7 he7
        subst he7
        obtain ⟨U7, hU7⟩ : ∃ U, w7.alloc (.cells #[.int .i64 f1, .int .i64 f2, .int .i64 t1, .int .i64 t2, .slice A7 n c7] 36) = U := ⟨_, rfl⟩
        have hb7 : Below w7.heap.size w7 U7 := by rw [← hU7]; exact (Below.refl _ w7).alloc (Nat.le_refl _) _
        have hP7 : Bn w7.heap.size 36 [.int .i64 f1, .int .i64 f2, .int .i64 t1, .int .i64 t2, .slice A7 n c7] U7 := by rw [← hU7]; exact heap_alloc_new w7 _
        have hS7' : Sit w nb [] _ _ _ C m2 F7 U7 := (S3d.out.step hN7 hS7).below hb7
        have hT7' := (T3d.out.step hS7).below hb7
        have hD7' := own_below hD7 hb7 (Nat.le_refl _)
        obtain ⟨pv, hpv⟩ : ∃ b, w7.heap.size = b := ⟨_, rfl⟩
        rw [hpv] at hP7
        have HLN : Hid (∀ V, Below U7.heap.size U7 V → Calls Try.prog 13 #[hd nb] V (fun e w' => e = .returned (.int .i64 0) ∧ w' = V)) := Lib.hid fun V hV => len_any (hS7'.below hV).1 0 rfl
        have HS2 : Hid (∀ V, Below U7.heap.size U7 V → (V.cell? ⟨pv, 0, none⟩ = some (.int .i64 f1) ∧ V.cell? ⟨pv, 1, none⟩ = some (.int .i64 f2) ∧ V.cell? ⟨pv, 2, none⟩ = some (.int .i64 t1) ∧ V.cell? ⟨pv, 3, none⟩ = some (.int .i64 t2) ∧ V.cell? ⟨pv, 4, none⟩ = some (.slice A7 n c7)) ∧ V.cell? ⟨pb, po + k * 5, none⟩ = some (.int .i64 f1) ∧ V.cell? ⟨pb, po + k * 5 + 1, none⟩ = some (.int .i64 f2) ∧ V.cell? ⟨pb, po + k * 5 + 2, none⟩ = some (.int .i64 t1) ∧ V.cell? ⟨pb, po + k * 5 + 3, none⟩ = some (.int .i64 t2) ∧ V.cell? ⟨pb, po + k * 5 + 4, none⟩ = some (.slice Ad n cd)) := Lib.hid fun V hV => by
          have hP := hP7.same (hV.block _ hP7.lt)
          have hw := hS7'.2.1.trans (hV.mono hS7'.2.1.size)
          obtain ⟨_, _, _, _, h11, h12, h13, h14, h15, h16, _⟩ := HJ.out
          exact ⟨⟨(hP.cell 0).trans rfl, (hP.cell 1).trans rfl, (hP.cell 2).trans rfl, (hP.cell 3).trans rfl, (hP.cell 4).trans rfl⟩, (hw.cell (p := ⟨pb, po + k * 5, none⟩) h11).trans h12, (hw.cell (p := ⟨pb, po + k * 5 + 1, none⟩) h11).trans h13, (hw.cell (p := ⟨pb, po + k * 5 + 2, none⟩) h11).trans h14, (hw.cell (p := ⟨pb, po + k * 5 + 3, none⟩) h11).trans h15, (hw.cell (p := ⟨pb, po + k * 5 + 4, none⟩) h11).trans h16⟩
        have HSM : Hid (∀ V, Below U7.heap.size U7 V → Calls Try.prog 17 #[.agg #[.int .i64 f1, .int .i64 f2, .int .i64 t1, .int .i64 t2, .slice A7 n c7], .agg #[.int .i64 f1, .int .i64 f2, .int .i64 t1, .int .i64 t2, .slice Ad n cd]] V (fun e w' => e = .returned (.bool true) ∧ Below V.heap.size V w')) := Lib.hid fun V hV => by
          have hw := hS7'.2.1.trans (hV.mono hS7'.2.1.size)
          exact same_yes V f1 f2 t1 t2 xs n HJ.out.2.2.2.1 A7 Ad c7 cd (own_ns (c := c7) (n := n) (by rw [HJ.out.2.2.2.1]; exact own_below hD7' hV (Nat.le_refl _))) ((HJ.out.2.2.1.below hw).more hw.size)
        have HS7 := Lib.hid (And.intro hS7' hT7')
        clear hb7 hP7 hS7' hT7' hD7' hN7 hS7 hD7 H7
        go_wp2_with fail
        refine wp_region_held_drew (S := (fun V => Below U7.heap.size U7 V ∧ V.cell? ⟨pv, 0, none⟩ = some (.int .i64 f1) ∧ V.cell? ⟨pv, 1, none⟩ = some (.int .i64 f2) ∧ V.cell? ⟨pv, 2, none⟩ = some (.int .i64 t1) ∧ V.cell? ⟨pv, 3, none⟩ = some (.int .i64 t2) ∧ V.cell? ⟨pv, 4, none⟩ = some (.slice A7 n c7) ∧ V.cell? ⟨pb, po + k * 5, none⟩ = some (.int .i64 f1) ∧ V.cell? ⟨pb, po + k * 5 + 1, none⟩ = some (.int .i64 f2) ∧ V.cell? ⟨pb, po + k * 5 + 2, none⟩ = some (.int .i64 t1) ∧ V.cell? ⟨pb, po + k * 5 + 3, none⟩ = some (.int .i64 t2) ∧ V.cell? ⟨pb, po + k * 5 + 4, none⟩ = some (.slice Ad n cd))) (by kernel_rfl) (by have hb8 : Below U7.heap.size U7 U7.drew := (Below.refl _ U7).drew; exact (⟨hb8, (HS2.out _ hb8).1.1, (HS2.out _ hb8).1.2.1, (HS2.out _ hb8).1.2.2.1, (HS2.out _ hb8).1.2.2.2.1, (HS2.out _ hb8).1.2.2.2.2, (HS2.out _ hb8).2⟩)) (fun hHeld => ?_)
        refine wpAnyH_take (i := 0) (oi := { dst := some 88, op := Op.move (Operand.tmp 12), type := 4, pos := "law.go:134", after := #[], guard := none }) (v := ?vb1f_1) rfl (by kernel_rfl) (by kernel_rfl) (by kernel_rfl) (fun _ _ _ h => h) (Or.inl ⟨by rfl, ?hyb1f_1⟩) (by assumption) ?restb1f_1
        case hyb1f_1 =>
          intro w hSw
          (try dsimp only at hSw)
          go_simp
          (try with_reducible rfl)
        (try simp only [Act.put, List.setIfInBounds_toArray, List.set_cons_zero, List.set_cons_succ])
        refine wpAnyH_take (i := 1) (oi := { dst := some 89, op := Op.move (Operand.tmp 10), type := 4, pos := "law.go:134", after := #[], guard := none }) (v := ?vb1f_2) rfl (by kernel_rfl) (by kernel_rfl) (by kernel_rfl) (fun _ _ _ h => h) (Or.inl ⟨by rfl, ?hyb1f_2⟩) (by assumption) ?restb1f_2
        case hyb1f_2 =>
          intro w hSw
          (try dsimp only at hSw)
          go_simp
          (try with_reducible rfl)
        (try simp only [Act.put, List.setIfInBounds_toArray, List.set_cons_zero, List.set_cons_succ])
        refine wpAnyH_take (i := 2) (oi := { dst := some 90, op := Op.binOp BinOp.eql 4 (Operand.tmp 88) (Operand.tmp 89) 4, type := 4, pos := "law.go:134", after := #[{ on := 0, ground := Ground.data }, { on := 1, ground := Ground.data }], guard := none }) (v := ?vb1f_3) rfl (by kernel_rfl) (by kernel_rfl) (by kernel_rfl) (fun _ _ _ h => h) (Or.inl ⟨by rfl, ?hyb1f_3⟩) (by assumption) ?restb1f_3
        case hyb1f_3 =>
          intro w hSw
          (try dsimp only at hSw)
          go_simp
          (try with_reducible rfl)
        (try simp only [Act.put, List.setIfInBounds_toArray, List.set_cons_zero, List.set_cons_succ])
        refine wpAnyH_take (i := 3) (oi := { dst := some 91, op := Op.move (Operand.tmp 90), type := 4, pos := "law.go:134", after := #[{ on := 2, ground := Ground.data }], guard := none }) (v := ?vb1f_4) rfl (by kernel_rfl) (by kernel_rfl) (by kernel_rfl) (fun _ _ _ h => h) (Or.inl ⟨by rfl, ?hyb1f_4⟩) (by assumption) ?restb1f_4
        case hyb1f_4 =>
          intro w hSw
          (try dsimp only at hSw)
          go_simp
          (try with_reducible rfl)
        (try simp only [Act.put, List.setIfInBounds_toArray, List.set_cons_zero, List.set_cons_succ])
        refine wpAnyH_take (i := 4) (oi := { dst := some 92, op := Op.move (Operand.tmp 12), type := 4, pos := "law.go:134", after := #[{ on := 3, ground := Ground.guard }], guard := some (3, false) }) (v := ?vb1f_5) rfl (by kernel_rfl) (by kernel_rfl) (by kernel_rfl) (fun _ _ _ h => h) (Or.inl ⟨by rfl, ?hyb1f_5⟩) (by assumption) ?restb1f_5
        case hyb1f_5 =>
          intro w hSw
          (try dsimp only at hSw)
          go_simp
          (try with_reducible rfl)
        (try simp only [Act.put, List.setIfInBounds_toArray, List.set_cons_zero, List.set_cons_succ])
        refine wpAnyH_take (i := 5) (oi := { dst := some 93, op := Op.move (Operand.tmp 92), type := 4, pos := "law.go:134", after := #[{ on := 4, ground := Ground.data }, { on := 3, ground := Ground.chain }, { on := 3, ground := Ground.guard }], guard := some (3, false) }) (v := ?vb1f_6) rfl (by kernel_rfl) (by kernel_rfl) (by kernel_rfl) (fun _ _ _ h => h) (Or.inl ⟨by rfl, ?hyb1f_6⟩) (by assumption) ?restb1f_6
        case hyb1f_6 =>
          intro w hSw
          (try dsimp only at hSw)
          go_simp
          (try with_reducible rfl)
        (try simp only [Act.put, List.setIfInBounds_toArray, List.set_cons_zero, List.set_cons_succ])
        refine wpAnyH_take (i := 6) (oi := { dst := some 94, op := Op.load 36 (Operand.tmp 11), type := 36, pos := "law.go:134", after := #[{ on := 5, ground := Ground.guard }], guard := some (5, true) }) (v := ?vb1f_7) rfl (by kernel_rfl) (by kernel_rfl) (by kernel_rfl) (fun _ _ _ h => h) (Or.inl ⟨by rfl, ?hyb1f_7⟩) (by assumption) ?restb1f_7
        case hyb1f_7 =>
          intro w hSw
          (try dsimp only at hSw)
          go_simp
          (try with_reducible rfl)
        (try simp only [Act.put, List.setIfInBounds_toArray, List.set_cons_zero, List.set_cons_succ])
        refine wpAnyH_take (i := 7) (oi := { dst := some 95, op := Op.move (Operand.tmp 2), type := 27, pos := "law.go:134", after := #[{ on := 5, ground := Ground.guard }], guard := some (5, true) }) (v := ?vb1f_8) rfl (by kernel_rfl) (by kernel_rfl) (by kernel_rfl) (fun _ _ _ h => h) (Or.inl ⟨by rfl, ?hyb1f_8⟩) (by assumption) ?restb1f_8
        case hyb1f_8 =>
          intro w hSw
          (try dsimp only at hSw)
          go_simp
          (try with_reducible rfl)
        (try simp only [Act.put, List.setIfInBounds_toArray, List.set_cons_zero, List.set_cons_succ])
        refine wpAnyH_take (i := 8) (oi := { dst := some 96, op := Op.move (Operand.tmp 9), type := 3, pos := "law.go:134", after := #[{ on := 5, ground := Ground.guard }], guard := some (5, true) }) (v := ?vb1f_9) rfl (by kernel_rfl) (by kernel_rfl) (by kernel_rfl) (fun _ _ _ h => h) (Or.inl ⟨by rfl, ?hyb1f_9⟩) (by assumption) ?restb1f_9
        case hyb1f_9 =>
          intro w hSw
          (try dsimp only at hSw)
          go_simp
          (try with_reducible rfl)
        (try simp only [Act.put, List.setIfInBounds_toArray, List.set_cons_zero, List.set_cons_succ])
        refine wpAnyH_take (i := 9) (oi := { dst := some 97, op := Op.indexAddr 27 (Operand.tmp 95) (Operand.tmp 96), type := 0, pos := "law.go:134", after := #[{ on := 7, ground := Ground.data }, { on := 8, ground := Ground.data }, { on := 5, ground := Ground.guard }], guard := some (5, true) }) (v := ?vb1f_10) rfl (by kernel_rfl) (by kernel_rfl) (by kernel_rfl) (fun _ _ _ h => h) (Or.inl ⟨by rfl, ?hyb1f_10⟩) (by assumption) ?restb1f_10
        case hyb1f_10 =>
          intro w hSw
          (try dsimp only at hSw)
          go_simp
          (try with_reducible rfl)
        (try simp only [Act.put, List.setIfInBounds_toArray, List.set_cons_zero, List.set_cons_succ])
        refine wpAnyH_take (i := 10) (oi := { dst := some 98, op := Op.load 36 (Operand.tmp 97), type := 36, pos := "law.go:134", after := #[{ on := 9, ground := Ground.data }, { on := 5, ground := Ground.guard }], guard := some (5, true) }) (v := ?vb1f_11) rfl (by kernel_rfl) (by kernel_rfl) (by kernel_rfl) (fun _ _ _ h => h) (Or.inl ⟨by rfl, ?hyb1f_11⟩) (by assumption) ?restb1f_11
        case hyb1f_11 =>
          intro w hSw
          (try dsimp only at hSw)
          go_simp
          (try with_reducible rfl)
        (try simp only [Act.put, List.setIfInBounds_toArray, List.set_cons_zero, List.set_cons_succ])
        refine wpAnyH_ready (rs := [11]) (by kernel_rfl) (by simp) ?_
        refine AllReadyH.cons (o := { dst := some 99, op := Op.call { callee := Callee.value (Operand.func 17), args := #[Operand.tmp 94, Operand.tmp 98], argTypes := #[36, 36] }, type := 4, pos := "law.go:134", after := #[{ on := 6, ground := Ground.data }, { on := 10, ground := Ground.data }, { on := 5, ground := Ground.chain }, { on := 5, ground := Ground.guard }], guard := some (5, true) }) rfl (fun K hK => ?_) AllReadyH.nil
        go_simp
        (go_at_call 17; refine (HSM.out _ hHeld.1).mono ?_; rintro e8 w8 ⟨rfl, b8⟩; have hb8 : Below U7.heap.size U7 w8 := hHeld.1.trans (b8.mono hHeld.1.size))
        go_wp2_with fail
        refine hK.out _ _ (⟨hb8, (HS2.out _ hb8).1.1, (HS2.out _ hb8).1.2.1, (HS2.out _ hb8).1.2.2.1, (HS2.out _ hb8).1.2.2.2.1, (HS2.out _ hb8).1.2.2.2.2, (HS2.out _ hb8).2⟩) (fun hHeld => ?_)
        clear hK K
        (try simp only [Act.put, List.setIfInBounds_toArray, List.set_cons_zero, List.set_cons_succ])
        refine wpAnyH_take (i := 12) (oi := { dst := some 100, op := Op.unOp UnOp.not 4 (Operand.tmp 99), type := 4, pos := "law.go:134", after := #[{ on := 11, ground := Ground.data }, { on := 5, ground := Ground.guard }], guard := some (5, true) }) (v := ?vb1f_12) rfl (by kernel_rfl) (by kernel_rfl) (by kernel_rfl) (fun _ _ _ h => h) (Or.inl ⟨by rfl, ?hyb1f_12⟩) (by assumption) ?restb1f_12
        case hyb1f_12 =>
          intro w hSw
          (try dsimp only at hSw)
          go_simp
          (try with_reducible rfl)
        (try simp only [Act.put, List.setIfInBounds_toArray, List.set_cons_zero, List.set_cons_succ])
        refine wpAnyH_take (i := 13) (oi := { dst := some 101, op := Op.pick (Operand.tmp 93) (Operand.tmp 100) (Operand.const (Value.bool false)), type := 4, pos := "law.go:134", after := #[{ on := 5, ground := Ground.data }, { on := 12, ground := Ground.data }, { on := 3, ground := Ground.guard }], guard := some (3, false) }) (v := ?vb1f_13) rfl (by kernel_rfl) (by kernel_rfl) (by kernel_rfl) (fun _ _ _ h => h) (Or.inl ⟨by rfl, ?hyb1f_13⟩) (by assumption) ?restb1f_13
        case hyb1f_13 =>
          intro w hSw
          (try dsimp only at hSw)
          go_simp
          (try with_reducible rfl)
        (try simp only [Act.put, List.setIfInBounds_toArray, List.set_cons_zero, List.set_cons_succ])
        refine wpAnyH_take (i := 14) (oi := { dst := some 102, op := Op.pick (Operand.tmp 91) (Operand.const (Value.bool true)) (Operand.tmp 101), type := 4, pos := "law.go:134", after := #[{ on := 3, ground := Ground.data }, { on := 13, ground := Ground.data }], guard := none }) (v := ?vb1f_14) rfl (by kernel_rfl) (by kernel_rfl) (by kernel_rfl) (fun _ _ _ h => h) (Or.inl ⟨by rfl, ?hyb1f_14⟩) (by assumption) ?restb1f_14
        case hyb1f_14 =>
          intro w hSw
          (try dsimp only at hSw)
          go_simp
          (try with_reducible rfl)
        (try simp only [Act.put, List.setIfInBounds_toArray, List.set_cons_zero, List.set_cons_succ])
        refine wpAnyH_take (i := 15) (oi := { dst := some 103, op := Op.move (Operand.tmp 102), type := 4, pos := "law.go:134", after := #[{ on := 14, ground := Ground.data }, { on := 11, ground := Ground.chain }], guard := none }) (v := ?vb1f_15) rfl (by kernel_rfl) (by kernel_rfl) (by kernel_rfl) (fun _ _ _ h => h) (Or.inl ⟨by rfl, ?hyb1f_15⟩) (by assumption) ?restb1f_15
        case hyb1f_15 =>
          intro w hSw
          (try dsimp only at hSw)
          go_simp
          (try with_reducible rfl)
        (try simp only [Act.put, List.setIfInBounds_toArray, List.set_cons_zero, List.set_cons_succ])
        refine wpAnyH_take (i := 16) (oi := { dst := some 104, op := Op.move (Operand.tmp 7), type := 24, pos := "law.go:134", after := #[{ on := 15, ground := Ground.guard }], guard := some (15, false) }) (v := ?vb1f_16) rfl (by kernel_rfl) (by kernel_rfl) (by kernel_rfl) (fun _ _ _ h => h) (Or.inl ⟨by rfl, ?hyb1f_16⟩) (by assumption) ?restb1f_16
        case hyb1f_16 =>
          intro w hSw
          (try dsimp only at hSw)
          go_simp
          (try with_reducible rfl)
        (try simp only [Act.put, List.setIfInBounds_toArray, List.set_cons_zero, List.set_cons_succ])
        refine wpAnyH_ready (rs := [17]) (by kernel_rfl) (by simp) ?_
        refine AllReadyH.cons (o := { dst := some 105, op := Op.call { callee := Callee.value (Operand.func 13), args := #[Operand.tmp 104], argTypes := #[24] }, type := 3, pos := "law.go:134", after := #[{ on := 16, ground := Ground.data }, { on := 15, ground := Ground.chain }, { on := 15, ground := Ground.guard }], guard := some (15, false) }) rfl (fun K hK => ?_) AllReadyH.nil
        go_simp
        (go_at_call 13; refine (HLN.out _ hHeld.1).mono ?_; rintro e9 w9 ⟨rfl, rfl⟩)
        go_wp2_with fail
        refine hK.out _ _ hHeld (fun hHeld => ?_)
        clear hK K
        (try simp only [Act.put, List.setIfInBounds_toArray, List.set_cons_zero, List.set_cons_succ])
        refine wpAnyH_take (i := 18) (oi := { dst := some 106, op := Op.binOp BinOp.neq 3 (Operand.tmp 105) (Operand.const (Value.int IntKind.i64 0)) 3, type := 4, pos := "law.go:134", after := #[{ on := 17, ground := Ground.data }, { on := 15, ground := Ground.guard }], guard := some (15, false) }) (v := ?vb1f_17) rfl (by kernel_rfl) (by kernel_rfl) (by kernel_rfl) (fun _ _ _ h => h) (Or.inl ⟨by rfl, ?hyb1f_17⟩) (by assumption) ?restb1f_17
        case hyb1f_17 =>
          intro w hSw
          (try dsimp only at hSw)
          go_simp
          (try with_reducible rfl)
        (try simp only [Act.put, List.setIfInBounds_toArray, List.set_cons_zero, List.set_cons_succ])
        refine wpAnyH_take (i := 19) (oi := { dst := some 107, op := Op.pick (Operand.tmp 103) (Operand.const (Value.bool true)) (Operand.tmp 106), type := 4, pos := "law.go:134", after := #[{ on := 15, ground := Ground.data }, { on := 18, ground := Ground.data }], guard := none }) (v := ?vb1f_18) rfl (by kernel_rfl) (by kernel_rfl) (by kernel_rfl) (fun _ _ _ h => h) (Or.inl ⟨by rfl, ?hyb1f_18⟩) (by assumption) ?restb1f_18
        case hyb1f_18 =>
          intro w hSw
          (try dsimp only at hSw)
          go_simp
          (try with_reducible rfl)
        (try simp only [Act.put, List.setIfInBounds_toArray, List.set_cons_zero, List.set_cons_succ])
        refine wpAnyH_done (by kernel_rfl) ?_ _
        have HN : Hid (∃ s t, Sit w nb [] s t (x : Int) C m2 F7 w9 ∧ Two w F7 pa (pa + 1) (a1, a2) (b1, b2) w9) := Lib.hid ⟨_, _, HS7.out.1.below hb8, HS7.out.2.below hb8⟩
        go_wp2_with fail
        go_roundw
        case rel => exact ⟨k + 1, x, F7, by omega, by omega, rfl, rfl, HN⟩
        case measure => simp only [intOf]; omega
      · go_wp2_with fail
        refine wp_region_held_drew (S := (fun V => V.cell? ⟨pa, 0, none⟩ = some (.int .i64 a1) ∧ V.cell? ⟨pa, 1, none⟩ = some (.int .i64 a2) ∧ V.cell? ⟨pa + 1, 0, none⟩ = some (.int .i64 b1) ∧ V.cell? ⟨pa + 1, 1, none⟩ = some (.int .i64 b2) ∧ V.cell? ⟨pb, po + k * 5, none⟩ = some (.int .i64 f1) ∧ V.cell? ⟨pb, po + k * 5 + 1, none⟩ = some (.int .i64 f2) ∧ V.cell? ⟨pb, po + k * 5 + 2, none⟩ = some (.int .i64 t1) ∧ V.cell? ⟨pb, po + k * 5 + 3, none⟩ = some (.int .i64 t2))) (by kernel_rfl) (by first | exact HSS.out _ (Below.refl _ _).drew | exact HSS.out _ (Below.refl _ _)) (fun hHeld => ?_)
        refine wpAnyH_take (i := 0) (oi := { dst := some 44, op := Op.load 33 (Operand.tmp 3), type := 33, pos := "law.go:132", after := #[], guard := none }) (v := ?va2_1) rfl (by kernel_rfl) (by kernel_rfl) (by kernel_rfl) (fun _ _ _ h => h) (Or.inl ⟨by rfl, ?hya2_1⟩) (by assumption) ?resta2_1
        case hya2_1 =>
          intro w hSw
          (try dsimp only at hSw)
          go_simp
          (try with_reducible rfl)
        (try simp only [Act.put, List.setIfInBounds_toArray, List.set_cons_zero, List.set_cons_succ])
        refine wpAnyH_take (i := 1) (oi := { dst := some 45, op := Op.load 33 (Operand.tmp 4), type := 33, pos := "law.go:132", after := #[], guard := none }) (v := ?va2_2) rfl (by kernel_rfl) (by kernel_rfl) (by kernel_rfl) (fun _ _ _ h => h) (Or.inl ⟨by rfl, ?hya2_2⟩) (by assumption) ?resta2_2
        case hya2_2 =>
          intro w hSw
          (try dsimp only at hSw)
          go_simp
          (try with_reducible rfl)
        (try simp only [Act.put, List.setIfInBounds_toArray, List.set_cons_zero, List.set_cons_succ])
        refine wpAnyH_take (i := 2) (oi := { dst := some 46, op := Op.binOp BinOp.neq 33 (Operand.tmp 44) (Operand.tmp 45) 33, type := 4, pos := "law.go:132", after := #[{ on := 0, ground := Ground.data }, { on := 1, ground := Ground.data }], guard := none }) (v := ?va2_3) rfl (by kernel_rfl) (by kernel_rfl) (by kernel_rfl) (fun _ _ _ h => h) (Or.inl ⟨by rfl, ?hya2_3⟩) (by assumption) ?resta2_3
        case hya2_3 =>
          intro w hSw
          (try dsimp only at hSw)
          go_simp
          (try with_reducible rfl)
        (try simp only [Act.put, List.setIfInBounds_toArray, List.set_cons_zero, List.set_cons_succ])
        refine wpAnyH_take (i := 3) (oi := { dst := some 47, op := Op.move (Operand.tmp 46), type := 4, pos := "law.go:132", after := #[{ on := 2, ground := Ground.data }], guard := none }) (v := ?va2_4) rfl (by kernel_rfl) (by kernel_rfl) (by kernel_rfl) (fun _ _ _ h => h) (Or.inl ⟨by rfl, ?hya2_4⟩) (by assumption) ?resta2_4
        case hya2_4 =>
          intro w hSw
          (try dsimp only at hSw)
          go_simp
          (try with_reducible rfl)
        (try simp only [Act.put, List.setIfInBounds_toArray, List.set_cons_zero, List.set_cons_succ])
        refine wpAnyH_take (i := 4) (oi := { dst := some 48, op := Op.move (Operand.tmp 2), type := 27, pos := "law.go:132", after := #[{ on := 3, ground := Ground.guard }], guard := some (3, true) }) (v := ?va2_5) rfl (by kernel_rfl) (by kernel_rfl) (by kernel_rfl) (fun _ _ _ h => h) (Or.inl ⟨by rfl, ?hya2_5⟩) (by assumption) ?resta2_5
        case hya2_5 =>
          intro w hSw
          (try dsimp only at hSw)
          go_simp
          (try with_reducible rfl)
        (try simp only [Act.put, List.setIfInBounds_toArray, List.set_cons_zero, List.set_cons_succ])
        refine wpAnyH_take (i := 5) (oi := { dst := some 49, op := Op.move (Operand.tmp 9), type := 3, pos := "law.go:132", after := #[{ on := 3, ground := Ground.guard }], guard := some (3, true) }) (v := ?va2_6) rfl (by kernel_rfl) (by kernel_rfl) (by kernel_rfl) (fun _ _ _ h => h) (Or.inl ⟨by rfl, ?hya2_6⟩) (by assumption) ?resta2_6
        case hya2_6 =>
          intro w hSw
          (try dsimp only at hSw)
          go_simp
          (try with_reducible rfl)
        (try simp only [Act.put, List.setIfInBounds_toArray, List.set_cons_zero, List.set_cons_succ])
        refine wpAnyH_take (i := 6) (oi := { dst := some 50, op := Op.indexAddr 27 (Operand.tmp 48) (Operand.tmp 49), type := 0, pos := "law.go:132", after := #[{ on := 4, ground := Ground.data }, { on := 5, ground := Ground.data }, { on := 3, ground := Ground.guard }], guard := some (3, true) }) (v := ?va2_7) rfl (by kernel_rfl) (by kernel_rfl) (by kernel_rfl) (fun _ _ _ h => h) (Or.inl ⟨by rfl, ?hya2_7⟩) (by assumption) ?resta2_7
        case hya2_7 =>
          intro w hSw
          (try dsimp only at hSw)
          go_simp
          (try with_reducible rfl)
        (try simp only [Act.put, List.setIfInBounds_toArray, List.set_cons_zero, List.set_cons_succ])
        refine wpAnyH_take (i := 7) (oi := { dst := some 51, op := Op.fieldAddr 36 (Operand.tmp 50) 0, type := 0, pos := "law.go:132", after := #[{ on := 6, ground := Ground.data }, { on := 3, ground := Ground.guard }], guard := some (3, true) }) (v := ?va2_8) rfl (by kernel_rfl) (by kernel_rfl) (by kernel_rfl) (fun _ _ _ h => h) (Or.inl ⟨by rfl, ?hya2_8⟩) (by assumption) ?resta2_8
        case hya2_8 =>
          intro w hSw
          (try dsimp only at hSw)
          go_simp
          (try with_reducible rfl)
        (try simp only [Act.put, List.setIfInBounds_toArray, List.set_cons_zero, List.set_cons_succ])
        refine wpAnyH_take (i := 8) (oi := { dst := some 52, op := Op.load 33 (Operand.tmp 51), type := 33, pos := "law.go:132", after := #[{ on := 7, ground := Ground.data }, { on := 3, ground := Ground.guard }], guard := some (3, true) }) (v := ?va2_9) rfl (by kernel_rfl) (by kernel_rfl) (by kernel_rfl) (fun _ _ _ h => h) (Or.inl ⟨by rfl, ?hya2_9⟩) (by assumption) ?resta2_9
        case hya2_9 =>
          intro w hSw
          (try dsimp only at hSw)
          go_simp
          (try with_reducible rfl)
        (try simp only [Act.put, List.setIfInBounds_toArray, List.set_cons_zero, List.set_cons_succ])
        refine wpAnyH_take (i := 9) (oi := { dst := some 53, op := Op.load 33 (Operand.tmp 3), type := 33, pos := "law.go:132", after := #[{ on := 3, ground := Ground.guard }], guard := some (3, true) }) (v := ?va2_10) rfl (by kernel_rfl) (by kernel_rfl) (by kernel_rfl) (fun _ _ _ h => h) (Or.inl ⟨by rfl, ?hya2_10⟩) (by assumption) ?resta2_10
        case hya2_10 =>
          intro w hSw
          (try dsimp only at hSw)
          go_simp
          (try with_reducible rfl)
        (try simp only [Act.put, List.setIfInBounds_toArray, List.set_cons_zero, List.set_cons_succ])
        refine wpAnyH_take (i := 10) (oi := { dst := some 54, op := Op.binOp BinOp.eql 33 (Operand.tmp 52) (Operand.tmp 53) 33, type := 4, pos := "law.go:132", after := #[{ on := 8, ground := Ground.data }, { on := 9, ground := Ground.data }, { on := 3, ground := Ground.guard }], guard := some (3, true) }) (v := ?va2_11) rfl (by kernel_rfl) (by kernel_rfl) (by kernel_rfl) (fun _ _ _ h => h) (Or.inl ⟨by rfl, ?hya2_11⟩) (by assumption) ?resta2_11
        case hya2_11 =>
          intro w hSw
          (try dsimp only at hSw)
          go_simp
          (try with_reducible rfl)
        (try simp only [Act.put, List.setIfInBounds_toArray, List.set_cons_zero, List.set_cons_succ])
        refine wpAnyH_take (i := 11) (oi := { dst := some 55, op := Op.move (Operand.tmp 54), type := 4, pos := "law.go:132", after := #[{ on := 10, ground := Ground.data }, { on := 3, ground := Ground.chain }, { on := 3, ground := Ground.guard }], guard := some (3, true) }) (v := ?va2_12) rfl (by kernel_rfl) (by kernel_rfl) (by kernel_rfl) (fun _ _ _ h => h) (Or.inl ⟨by rfl, ?hya2_12⟩) (by assumption) ?resta2_12
        case hya2_12 =>
          intro w hSw
          (try dsimp only at hSw)
          go_simp
          (try with_reducible rfl)
        (try simp only [Act.put, List.setIfInBounds_toArray, List.set_cons_zero, List.set_cons_succ])
        refine wpAnyH_take (i := 12) (oi := { dst := some 56, op := Op.move (Operand.tmp 2), type := 27, pos := "law.go:132", after := #[{ on := 11, ground := Ground.guard }], guard := some (11, true) }) (v := ?va2_13) rfl (by kernel_rfl) (by kernel_rfl) (by kernel_rfl) (fun _ _ _ h => h) (Or.inl ⟨by rfl, ?hya2_13⟩) (by assumption) ?resta2_13
        case hya2_13 =>
          intro w hSw
          (try dsimp only at hSw)
          go_simp
          (try with_reducible rfl)
        (try simp only [Act.put, List.setIfInBounds_toArray, List.set_cons_zero, List.set_cons_succ])
        refine wpAnyH_take (i := 13) (oi := { dst := some 57, op := Op.move (Operand.tmp 9), type := 3, pos := "law.go:132", after := #[{ on := 11, ground := Ground.guard }], guard := some (11, true) }) (v := ?va2_14) rfl (by kernel_rfl) (by kernel_rfl) (by kernel_rfl) (fun _ _ _ h => h) (Or.inl ⟨by rfl, ?hya2_14⟩) (by assumption) ?resta2_14
        case hya2_14 =>
          intro w hSw
          (try dsimp only at hSw)
          go_simp
          (try with_reducible rfl)
        (try simp only [Act.put, List.setIfInBounds_toArray, List.set_cons_zero, List.set_cons_succ])
        refine wpAnyH_take (i := 14) (oi := { dst := some 58, op := Op.indexAddr 27 (Operand.tmp 56) (Operand.tmp 57), type := 0, pos := "law.go:132", after := #[{ on := 12, ground := Ground.data }, { on := 13, ground := Ground.data }, { on := 11, ground := Ground.guard }], guard := some (11, true) }) (v := ?va2_15) rfl (by kernel_rfl) (by kernel_rfl) (by kernel_rfl) (fun _ _ _ h => h) (Or.inl ⟨by rfl, ?hya2_15⟩) (by assumption) ?resta2_15
        case hya2_15 =>
          intro w hSw
          (try dsimp only at hSw)
          go_simp
          (try with_reducible rfl)
        (try simp only [Act.put, List.setIfInBounds_toArray, List.set_cons_zero, List.set_cons_succ])
        refine wpAnyH_take (i := 15) (oi := { dst := some 59, op := Op.fieldAddr 36 (Operand.tmp 58) 1, type := 0, pos := "law.go:132", after := #[{ on := 14, ground := Ground.data }, { on := 11, ground := Ground.guard }], guard := some (11, true) }) (v := ?va2_16) rfl (by kernel_rfl) (by kernel_rfl) (by kernel_rfl) (fun _ _ _ h => h) (Or.inl ⟨by rfl, ?hya2_16⟩) (by assumption) ?resta2_16
        case hya2_16 =>
          intro w hSw
          (try dsimp only at hSw)
          go_simp
          (try with_reducible rfl)
        (try simp only [Act.put, List.setIfInBounds_toArray, List.set_cons_zero, List.set_cons_succ])
        refine wpAnyH_take (i := 16) (oi := { dst := some 60, op := Op.load 33 (Operand.tmp 59), type := 33, pos := "law.go:132", after := #[{ on := 15, ground := Ground.data }, { on := 11, ground := Ground.guard }], guard := some (11, true) }) (v := ?va2_17) rfl (by kernel_rfl) (by kernel_rfl) (by kernel_rfl) (fun _ _ _ h => h) (Or.inl ⟨by rfl, ?hya2_17⟩) (by assumption) ?resta2_17
        case hya2_17 =>
          intro w hSw
          (try dsimp only at hSw)
          go_simp
          (try with_reducible rfl)
        (try simp only [Act.put, List.setIfInBounds_toArray, List.set_cons_zero, List.set_cons_succ])
        refine wpAnyH_take (i := 17) (oi := { dst := some 61, op := Op.load 33 (Operand.tmp 4), type := 33, pos := "law.go:132", after := #[{ on := 11, ground := Ground.guard }], guard := some (11, true) }) (v := ?va2_18) rfl (by kernel_rfl) (by kernel_rfl) (by kernel_rfl) (fun _ _ _ h => h) (Or.inl ⟨by rfl, ?hya2_18⟩) (by assumption) ?resta2_18
        case hya2_18 =>
          intro w hSw
          (try dsimp only at hSw)
          go_simp
          (try with_reducible rfl)
        (try simp only [Act.put, List.setIfInBounds_toArray, List.set_cons_zero, List.set_cons_succ])
        refine wpAnyH_take (i := 18) (oi := { dst := some 62, op := Op.binOp BinOp.eql 33 (Operand.tmp 60) (Operand.tmp 61) 33, type := 4, pos := "law.go:132", after := #[{ on := 16, ground := Ground.data }, { on := 17, ground := Ground.data }, { on := 11, ground := Ground.guard }], guard := some (11, true) }) (v := ?va2_19) rfl (by kernel_rfl) (by kernel_rfl) (by kernel_rfl) (fun _ _ _ h => h) (Or.inl ⟨by rfl, ?hya2_19⟩) (by assumption) ?resta2_19
        case hya2_19 =>
          intro w hSw
          (try dsimp only at hSw)
          go_simp
          (try with_reducible rfl)
        (try simp only [Act.put, List.setIfInBounds_toArray, List.set_cons_zero, List.set_cons_succ])
        refine wpAnyH_take (i := 19) (oi := { dst := some 63, op := Op.pick (Operand.tmp 55) (Operand.tmp 62) (Operand.const (Value.bool false)), type := 4, pos := "law.go:132", after := #[{ on := 11, ground := Ground.data }, { on := 18, ground := Ground.data }, { on := 3, ground := Ground.guard }], guard := some (3, true) }) (v := ?va2_20) rfl (by kernel_rfl) (by kernel_rfl) (by kernel_rfl) (fun _ _ _ h => h) (Or.inl ⟨by rfl, ?hya2_20⟩) (by assumption) ?resta2_20
        case hya2_20 =>
          intro w hSw
          (try dsimp only at hSw)
          go_simp
          (try with_reducible rfl)
        (try simp only [Act.put, List.setIfInBounds_toArray, List.set_cons_zero, List.set_cons_succ])
        refine wpAnyH_take (i := 20) (oi := { dst := some 64, op := Op.move (Operand.tmp 63), type := 4, pos := "law.go:132", after := #[{ on := 19, ground := Ground.data }, { on := 11, ground := Ground.chain }, { on := 3, ground := Ground.guard }], guard := some (3, true) }) (v := ?va2_21) rfl (by kernel_rfl) (by kernel_rfl) (by kernel_rfl) (fun _ _ _ h => h) (Or.inl ⟨by rfl, ?hya2_21⟩) (by assumption) ?resta2_21
        case hya2_21 =>
          intro w hSw
          (try dsimp only at hSw)
          go_simp
          (try with_reducible rfl)
        (try simp only [Act.put, List.setIfInBounds_toArray, List.set_cons_zero, List.set_cons_succ])
        refine wpAnyH_take (i := 21) (oi := { dst := some 65, op := Op.move (Operand.tmp 2), type := 27, pos := "law.go:132", after := #[{ on := 20, ground := Ground.guard }], guard := some (20, false) }) (v := undef) rfl (by kernel_rfl) (by kernel_rfl) (by kernel_rfl) (fun _ _ _ h => h) (Or.inr ⟨by rfl, rfl⟩) (by assumption) ?_
        (try simp only [Act.put, List.setIfInBounds_toArray, List.set_cons_zero, List.set_cons_succ])
        refine wpAnyH_take (i := 22) (oi := { dst := some 66, op := Op.move (Operand.tmp 9), type := 3, pos := "law.go:132", after := #[{ on := 20, ground := Ground.guard }], guard := some (20, false) }) (v := undef) rfl (by kernel_rfl) (by kernel_rfl) (by kernel_rfl) (fun _ _ _ h => h) (Or.inr ⟨by rfl, rfl⟩) (by assumption) ?_
        (try simp only [Act.put, List.setIfInBounds_toArray, List.set_cons_zero, List.set_cons_succ])
        refine wpAnyH_take (i := 23) (oi := { dst := some 67, op := Op.indexAddr 27 (Operand.tmp 65) (Operand.tmp 66), type := 0, pos := "law.go:132", after := #[{ on := 21, ground := Ground.data }, { on := 22, ground := Ground.data }, { on := 20, ground := Ground.guard }], guard := some (20, false) }) (v := undef) rfl (by kernel_rfl) (by kernel_rfl) (by kernel_rfl) (fun _ _ _ h => h) (Or.inr ⟨by rfl, rfl⟩) (by assumption) ?_
        (try simp only [Act.put, List.setIfInBounds_toArray, List.set_cons_zero, List.set_cons_succ])
        refine wpAnyH_take (i := 24) (oi := { dst := some 68, op := Op.fieldAddr 36 (Operand.tmp 67) 0, type := 0, pos := "law.go:132", after := #[{ on := 23, ground := Ground.data }, { on := 20, ground := Ground.guard }], guard := some (20, false) }) (v := undef) rfl (by kernel_rfl) (by kernel_rfl) (by kernel_rfl) (fun _ _ _ h => h) (Or.inr ⟨by rfl, rfl⟩) (by assumption) ?_
        (try simp only [Act.put, List.setIfInBounds_toArray, List.set_cons_zero, List.set_cons_succ])
        refine wpAnyH_take (i := 25) (oi := { dst := some 69, op := Op.load 33 (Operand.tmp 68), type := 33, pos := "law.go:132", after := #[{ on := 24, ground := Ground.data }, { on := 20, ground := Ground.guard }], guard := some (20, false) }) (v := undef) rfl (by kernel_rfl) (by kernel_rfl) (by kernel_rfl) (fun _ _ _ h => h) (Or.inr ⟨by rfl, rfl⟩) (by assumption) ?_
        (try simp only [Act.put, List.setIfInBounds_toArray, List.set_cons_zero, List.set_cons_succ])
        refine wpAnyH_take (i := 26) (oi := { dst := some 70, op := Op.load 33 (Operand.tmp 4), type := 33, pos := "law.go:132", after := #[{ on := 20, ground := Ground.guard }], guard := some (20, false) }) (v := undef) rfl (by kernel_rfl) (by kernel_rfl) (by kernel_rfl) (fun _ _ _ h => h) (Or.inr ⟨by rfl, rfl⟩) (by assumption) ?_
        (try simp only [Act.put, List.setIfInBounds_toArray, List.set_cons_zero, List.set_cons_succ])
        refine wpAnyH_take (i := 27) (oi := { dst := some 71, op := Op.binOp BinOp.eql 33 (Operand.tmp 69) (Operand.tmp 70) 33, type := 4, pos := "law.go:132", after := #[{ on := 25, ground := Ground.data }, { on := 26, ground := Ground.data }, { on := 20, ground := Ground.guard }], guard := some (20, false) }) (v := undef) rfl (by kernel_rfl) (by kernel_rfl) (by kernel_rfl) (fun _ _ _ h => h) (Or.inr ⟨by rfl, rfl⟩) (by assumption) ?_
        (try simp only [Act.put, List.setIfInBounds_toArray, List.set_cons_zero, List.set_cons_succ])
        refine wpAnyH_take (i := 28) (oi := { dst := some 72, op := Op.move (Operand.tmp 71), type := 4, pos := "law.go:132", after := #[{ on := 27, ground := Ground.data }, { on := 20, ground := Ground.chain }, { on := 20, ground := Ground.guard }], guard := some (20, false) }) (v := undef) rfl (by kernel_rfl) (by kernel_rfl) (by kernel_rfl) (fun _ _ _ h => h) (Or.inr ⟨by rfl, rfl⟩) (by assumption) ?_
        (try simp only [Act.put, List.setIfInBounds_toArray, List.set_cons_zero, List.set_cons_succ])
        refine wpAnyH_take (i := 29) (oi := { dst := some 73, op := Op.move (Operand.tmp 2), type := 27, pos := "law.go:132", after := #[{ on := 28, ground := Ground.guard }], guard := some (28, true) }) (v := undef) rfl (by kernel_rfl) (by kernel_rfl) (by kernel_rfl) (fun _ _ _ h => h) (Or.inr ⟨by rfl, rfl⟩) (by assumption) ?_
        (try simp only [Act.put, List.setIfInBounds_toArray, List.set_cons_zero, List.set_cons_succ])
        refine wpAnyH_take (i := 30) (oi := { dst := some 74, op := Op.move (Operand.tmp 9), type := 3, pos := "law.go:132", after := #[{ on := 28, ground := Ground.guard }], guard := some (28, true) }) (v := undef) rfl (by kernel_rfl) (by kernel_rfl) (by kernel_rfl) (fun _ _ _ h => h) (Or.inr ⟨by rfl, rfl⟩) (by assumption) ?_
        (try simp only [Act.put, List.setIfInBounds_toArray, List.set_cons_zero, List.set_cons_succ])
        refine wpAnyH_take (i := 31) (oi := { dst := some 75, op := Op.indexAddr 27 (Operand.tmp 73) (Operand.tmp 74), type := 0, pos := "law.go:132", after := #[{ on := 29, ground := Ground.data }, { on := 30, ground := Ground.data }, { on := 28, ground := Ground.guard }], guard := some (28, true) }) (v := undef) rfl (by kernel_rfl) (by kernel_rfl) (by kernel_rfl) (fun _ _ _ h => h) (Or.inr ⟨by rfl, rfl⟩) (by assumption) ?_
        (try simp only [Act.put, List.setIfInBounds_toArray, List.set_cons_zero, List.set_cons_succ])
        refine wpAnyH_take (i := 32) (oi := { dst := some 76, op := Op.fieldAddr 36 (Operand.tmp 75) 1, type := 0, pos := "law.go:132", after := #[{ on := 31, ground := Ground.data }, { on := 28, ground := Ground.guard }], guard := some (28, true) }) (v := undef) rfl (by kernel_rfl) (by kernel_rfl) (by kernel_rfl) (fun _ _ _ h => h) (Or.inr ⟨by rfl, rfl⟩) (by assumption) ?_
        (try simp only [Act.put, List.setIfInBounds_toArray, List.set_cons_zero, List.set_cons_succ])
        refine wpAnyH_take (i := 33) (oi := { dst := some 77, op := Op.load 33 (Operand.tmp 76), type := 33, pos := "law.go:132", after := #[{ on := 32, ground := Ground.data }, { on := 28, ground := Ground.guard }], guard := some (28, true) }) (v := undef) rfl (by kernel_rfl) (by kernel_rfl) (by kernel_rfl) (fun _ _ _ h => h) (Or.inr ⟨by rfl, rfl⟩) (by assumption) ?_
        (try simp only [Act.put, List.setIfInBounds_toArray, List.set_cons_zero, List.set_cons_succ])
        refine wpAnyH_take (i := 34) (oi := { dst := some 78, op := Op.load 33 (Operand.tmp 3), type := 33, pos := "law.go:132", after := #[{ on := 28, ground := Ground.guard }], guard := some (28, true) }) (v := undef) rfl (by kernel_rfl) (by kernel_rfl) (by kernel_rfl) (fun _ _ _ h => h) (Or.inr ⟨by rfl, rfl⟩) (by assumption) ?_
        (try simp only [Act.put, List.setIfInBounds_toArray, List.set_cons_zero, List.set_cons_succ])
        refine wpAnyH_take (i := 35) (oi := { dst := some 79, op := Op.binOp BinOp.eql 33 (Operand.tmp 77) (Operand.tmp 78) 33, type := 4, pos := "law.go:132", after := #[{ on := 33, ground := Ground.data }, { on := 34, ground := Ground.data }, { on := 28, ground := Ground.guard }], guard := some (28, true) }) (v := undef) rfl (by kernel_rfl) (by kernel_rfl) (by kernel_rfl) (fun _ _ _ h => h) (Or.inr ⟨by rfl, rfl⟩) (by assumption) ?_
        (try simp only [Act.put, List.setIfInBounds_toArray, List.set_cons_zero, List.set_cons_succ])
        refine wpAnyH_take (i := 36) (oi := { dst := some 80, op := Op.pick (Operand.tmp 72) (Operand.tmp 79) (Operand.const (Value.bool false)), type := 4, pos := "law.go:132", after := #[{ on := 28, ground := Ground.data }, { on := 35, ground := Ground.data }, { on := 20, ground := Ground.guard }], guard := some (20, false) }) (v := undef) rfl (by kernel_rfl) (by kernel_rfl) (by kernel_rfl) (fun _ _ _ h => h) (Or.inr ⟨by rfl, rfl⟩) (by assumption) ?_
        (try simp only [Act.put, List.setIfInBounds_toArray, List.set_cons_zero, List.set_cons_succ])
        refine wpAnyH_take (i := 37) (oi := { dst := some 81, op := Op.pick (Operand.tmp 64) (Operand.const (Value.bool true)) (Operand.tmp 80), type := 4, pos := "law.go:132", after := #[{ on := 20, ground := Ground.data }, { on := 36, ground := Ground.data }, { on := 3, ground := Ground.guard }], guard := some (3, true) }) (v := ?va2_38) rfl (by kernel_rfl) (by kernel_rfl) (by kernel_rfl) (fun _ _ _ h => h) (Or.inl ⟨by rfl, ?hya2_38⟩) (by assumption) ?resta2_38
        case hya2_38 =>
          intro w hSw
          (try dsimp only at hSw)
          go_simp
          (try with_reducible rfl)
        (try simp only [Act.put, List.setIfInBounds_toArray, List.set_cons_zero, List.set_cons_succ])
        refine wpAnyH_take (i := 38) (oi := { dst := some 82, op := Op.pick (Operand.tmp 47) (Operand.tmp 81) (Operand.const (Value.bool false)), type := 4, pos := "law.go:132", after := #[{ on := 3, ground := Ground.data }, { on := 37, ground := Ground.data }], guard := none }) (v := ?va2_39) rfl (by kernel_rfl) (by kernel_rfl) (by kernel_rfl) (fun _ _ _ h => h) (Or.inl ⟨by rfl, ?hya2_39⟩) (by assumption) ?resta2_39
        case hya2_39 =>
          intro w hSw
          (try dsimp only at hSw)
          go_simp
          (try with_reducible rfl)
        (try simp only [Act.put, List.setIfInBounds_toArray, List.set_cons_zero, List.set_cons_succ])
        refine wpAnyH_take (i := 39) (oi := { dst := some 10, op := Op.assign (Operand.tmp 82), type := 4, pos := "law.go:132", after := #[{ on := 38, ground := Ground.data }, { on := 28, ground := Ground.chain }, { on := 0, ground := Ground.phase }, { on := 1, ground := Ground.phase }, { on := 2, ground := Ground.phase }, { on := 3, ground := Ground.phase }, { on := 4, ground := Ground.phase }, { on := 5, ground := Ground.phase }, { on := 6, ground := Ground.phase }, { on := 7, ground := Ground.phase }, { on := 8, ground := Ground.phase }, { on := 9, ground := Ground.phase }, { on := 10, ground := Ground.phase }, { on := 11, ground := Ground.phase }, { on := 12, ground := Ground.phase }, { on := 13, ground := Ground.phase }, { on := 14, ground := Ground.phase }, { on := 15, ground := Ground.phase }, { on := 16, ground := Ground.phase }, { on := 17, ground := Ground.phase }, { on := 18, ground := Ground.phase }, { on := 19, ground := Ground.phase }, { on := 20, ground := Ground.phase }, { on := 21, ground := Ground.phase }, { on := 22, ground := Ground.phase }, { on := 23, ground := Ground.phase }, { on := 24, ground := Ground.phase }, { on := 25, ground := Ground.phase }, { on := 26, ground := Ground.phase }, { on := 27, ground := Ground.phase }, { on := 28, ground := Ground.phase }, { on := 29, ground := Ground.phase }, { on := 30, ground := Ground.phase }, { on := 31, ground := Ground.phase }, { on := 32, ground := Ground.phase }, { on := 33, ground := Ground.phase }, { on := 34, ground := Ground.phase }, { on := 35, ground := Ground.phase }, { on := 36, ground := Ground.phase }, { on := 37, ground := Ground.phase }, { on := 38, ground := Ground.phase }], guard := none }) (v := ?va2_40) rfl (by kernel_rfl) (by kernel_rfl) (by kernel_rfl) (fun _ _ _ h => h) (Or.inl ⟨by rfl, ?hya2_40⟩) (by assumption) ?resta2_40
        case hya2_40 =>
          intro w hSw
          (try dsimp only at hSw)
          go_simp
          (try with_reducible rfl)
        (try simp only [Act.put, List.setIfInBounds_toArray, List.set_cons_zero, List.set_cons_succ])
        refine wpAnyH_done (by kernel_rfl) ?_ _
        have H7 := Lib.hid (take_in S3d.out.1 (i := 0) (a1 := f1) (a2 := f2) (b1 := t1) (b2 := t2) (zs := xs) rfl)
        go_wp2_with fail
        refine H7.out.mono ?_
        rintro e7 w7 (⟨_, he7, F7, hN7, hS7⟩ | ⟨hc, _⟩)
        rotate_left
        · exact absurd (HAP.out.symm.trans hc) (by decide)
        rw [show (zc : Array Value) = #[.int .i64 0, .int .i64 0, .int .i64 0, .int .i64 0, .slice none 0 0] from rfl] at he7
        subst he7
        obtain ⟨U7, hU7⟩ : ∃ U, w7.alloc (.cells #[.int .i64 0, .int .i64 0, .int .i64 0, .int .i64 0, .slice none 0 0] 36) = U := ⟨_, rfl⟩
        have hb7 : Below w7.heap.size w7 U7 := by rw [← hU7]; exact (Below.refl _ w7).alloc (Nat.le_refl _) _
        have hS7' : Sit w nb [] _ _ _ C m2 F7 U7 := (S3d.out.step hN7 hS7).below hb7
        have hT7' := (T3d.out.step hS7).below hb7
        have HU7 := Lib.hid hU7
        have HS7 := Lib.hid (And.intro hS7' hT7')
        have HLN : Hid (∀ V, Below U7.heap.size U7 V → Calls Try.prog 13 #[hd nb] V (fun e w' => e = .returned (.int .i64 0) ∧ w' = V)) := Lib.hid fun V hV => len_any (hS7'.below hV).1 0 rfl
        have e1 : IntKind.i64.wrap ((x : Int) + 1) = ((x : Int) + 1) := Go.IntWalk.i64_in _ (by omega)
        have HE1 := Lib.hid e1
        clear hU7 hb7 hS7' hT7' hN7 hS7 H7 e1
        go_wp2_with fail
        rw [HU7.out]
        refine wp_region_held_drew (S := (fun V => Below U7.heap.size U7 V)) (by kernel_rfl) (by first | exact (Below.refl _ _).drew | exact (Below.refl _ _)) (fun hHeld => ?_)
        refine wpAnyH_take (i := 0) (oi := { dst := some 88, op := Op.move (Operand.tmp 12), type := 4, pos := "law.go:134", after := #[], guard := none }) (v := ?vb2t_1) rfl (by kernel_rfl) (by kernel_rfl) (by kernel_rfl) (fun _ _ _ h => h) (Or.inl ⟨by rfl, ?hyb2t_1⟩) (by assumption) ?restb2t_1
        case hyb2t_1 =>
          intro w hSw
          (try dsimp only at hSw)
          go_simp
          (try with_reducible rfl)
        (try simp only [Act.put, List.setIfInBounds_toArray, List.set_cons_zero, List.set_cons_succ])
        refine wpAnyH_take (i := 1) (oi := { dst := some 89, op := Op.move (Operand.tmp 10), type := 4, pos := "law.go:134", after := #[], guard := none }) (v := ?vb2t_2) rfl (by kernel_rfl) (by kernel_rfl) (by kernel_rfl) (fun _ _ _ h => h) (Or.inl ⟨by rfl, ?hyb2t_2⟩) (by assumption) ?restb2t_2
        case hyb2t_2 =>
          intro w hSw
          (try dsimp only at hSw)
          go_simp
          (try with_reducible rfl)
        (try simp only [Act.put, List.setIfInBounds_toArray, List.set_cons_zero, List.set_cons_succ])
        refine wpAnyH_take (i := 2) (oi := { dst := some 90, op := Op.binOp BinOp.eql 4 (Operand.tmp 88) (Operand.tmp 89) 4, type := 4, pos := "law.go:134", after := #[{ on := 0, ground := Ground.data }, { on := 1, ground := Ground.data }], guard := none }) (v := ?vb2t_3) rfl (by kernel_rfl) (by kernel_rfl) (by kernel_rfl) (fun _ _ _ h => h) (Or.inl ⟨by rfl, ?hyb2t_3⟩) (by assumption) ?restb2t_3
        case hyb2t_3 =>
          intro w hSw
          (try dsimp only at hSw)
          go_simp
          (try with_reducible rfl)
        (try simp only [Act.put, List.setIfInBounds_toArray, List.set_cons_zero, List.set_cons_succ])
        refine wpAnyH_take (i := 3) (oi := { dst := some 91, op := Op.move (Operand.tmp 90), type := 4, pos := "law.go:134", after := #[{ on := 2, ground := Ground.data }], guard := none }) (v := ?vb2t_4) rfl (by kernel_rfl) (by kernel_rfl) (by kernel_rfl) (fun _ _ _ h => h) (Or.inl ⟨by rfl, ?hyb2t_4⟩) (by assumption) ?restb2t_4
        case hyb2t_4 =>
          intro w hSw
          (try dsimp only at hSw)
          go_simp
          (try with_reducible rfl)
        (try simp only [Act.put, List.setIfInBounds_toArray, List.set_cons_zero, List.set_cons_succ])
        refine wpAnyH_take (i := 4) (oi := { dst := some 92, op := Op.move (Operand.tmp 12), type := 4, pos := "law.go:134", after := #[{ on := 3, ground := Ground.guard }], guard := some (3, false) }) (v := ?vb2t_5) rfl (by kernel_rfl) (by kernel_rfl) (by kernel_rfl) (fun _ _ _ h => h) (Or.inl ⟨by rfl, ?hyb2t_5⟩) (by assumption) ?restb2t_5
        case hyb2t_5 =>
          intro w hSw
          (try dsimp only at hSw)
          go_simp
          (try with_reducible rfl)
        (try simp only [Act.put, List.setIfInBounds_toArray, List.set_cons_zero, List.set_cons_succ])
        refine wpAnyH_take (i := 5) (oi := { dst := some 93, op := Op.move (Operand.tmp 92), type := 4, pos := "law.go:134", after := #[{ on := 4, ground := Ground.data }, { on := 3, ground := Ground.chain }, { on := 3, ground := Ground.guard }], guard := some (3, false) }) (v := ?vb2t_6) rfl (by kernel_rfl) (by kernel_rfl) (by kernel_rfl) (fun _ _ _ h => h) (Or.inl ⟨by rfl, ?hyb2t_6⟩) (by assumption) ?restb2t_6
        case hyb2t_6 =>
          intro w hSw
          (try dsimp only at hSw)
          go_simp
          (try with_reducible rfl)
        (try simp only [Act.put, List.setIfInBounds_toArray, List.set_cons_zero, List.set_cons_succ])
        refine wpAnyH_take (i := 6) (oi := { dst := some 94, op := Op.load 36 (Operand.tmp 11), type := 36, pos := "law.go:134", after := #[{ on := 5, ground := Ground.guard }], guard := some (5, true) }) (v := undef) rfl (by kernel_rfl) (by kernel_rfl) (by kernel_rfl) (fun _ _ _ h => h) (Or.inr ⟨by rfl, rfl⟩) (by assumption) ?_
        (try simp only [Act.put, List.setIfInBounds_toArray, List.set_cons_zero, List.set_cons_succ])
        refine wpAnyH_take (i := 7) (oi := { dst := some 95, op := Op.move (Operand.tmp 2), type := 27, pos := "law.go:134", after := #[{ on := 5, ground := Ground.guard }], guard := some (5, true) }) (v := undef) rfl (by kernel_rfl) (by kernel_rfl) (by kernel_rfl) (fun _ _ _ h => h) (Or.inr ⟨by rfl, rfl⟩) (by assumption) ?_
        (try simp only [Act.put, List.setIfInBounds_toArray, List.set_cons_zero, List.set_cons_succ])
        refine wpAnyH_take (i := 8) (oi := { dst := some 96, op := Op.move (Operand.tmp 9), type := 3, pos := "law.go:134", after := #[{ on := 5, ground := Ground.guard }], guard := some (5, true) }) (v := undef) rfl (by kernel_rfl) (by kernel_rfl) (by kernel_rfl) (fun _ _ _ h => h) (Or.inr ⟨by rfl, rfl⟩) (by assumption) ?_
        (try simp only [Act.put, List.setIfInBounds_toArray, List.set_cons_zero, List.set_cons_succ])
        refine wpAnyH_take (i := 9) (oi := { dst := some 97, op := Op.indexAddr 27 (Operand.tmp 95) (Operand.tmp 96), type := 0, pos := "law.go:134", after := #[{ on := 7, ground := Ground.data }, { on := 8, ground := Ground.data }, { on := 5, ground := Ground.guard }], guard := some (5, true) }) (v := undef) rfl (by kernel_rfl) (by kernel_rfl) (by kernel_rfl) (fun _ _ _ h => h) (Or.inr ⟨by rfl, rfl⟩) (by assumption) ?_
        (try simp only [Act.put, List.setIfInBounds_toArray, List.set_cons_zero, List.set_cons_succ])
        refine wpAnyH_take (i := 10) (oi := { dst := some 98, op := Op.load 36 (Operand.tmp 97), type := 36, pos := "law.go:134", after := #[{ on := 9, ground := Ground.data }, { on := 5, ground := Ground.guard }], guard := some (5, true) }) (v := undef) rfl (by kernel_rfl) (by kernel_rfl) (by kernel_rfl) (fun _ _ _ h => h) (Or.inr ⟨by rfl, rfl⟩) (by assumption) ?_
        (try simp only [Act.put, List.setIfInBounds_toArray, List.set_cons_zero, List.set_cons_succ])
        refine wpAnyH_take (i := 11) (oi := { dst := some 99, op := Op.call { callee := Callee.value (Operand.func 17), args := #[Operand.tmp 94, Operand.tmp 98], argTypes := #[36, 36] }, type := 4, pos := "law.go:134", after := #[{ on := 6, ground := Ground.data }, { on := 10, ground := Ground.data }, { on := 5, ground := Ground.chain }, { on := 5, ground := Ground.guard }], guard := some (5, true) }) (v := undef) rfl (by kernel_rfl) (by kernel_rfl) (by kernel_rfl) (fun _ _ _ h => h) (Or.inr ⟨by rfl, rfl⟩) (by assumption) ?_
        (try simp only [Act.put, List.setIfInBounds_toArray, List.set_cons_zero, List.set_cons_succ])
        refine wpAnyH_take (i := 12) (oi := { dst := some 100, op := Op.unOp UnOp.not 4 (Operand.tmp 99), type := 4, pos := "law.go:134", after := #[{ on := 11, ground := Ground.data }, { on := 5, ground := Ground.guard }], guard := some (5, true) }) (v := undef) rfl (by kernel_rfl) (by kernel_rfl) (by kernel_rfl) (fun _ _ _ h => h) (Or.inr ⟨by rfl, rfl⟩) (by assumption) ?_
        (try simp only [Act.put, List.setIfInBounds_toArray, List.set_cons_zero, List.set_cons_succ])
        refine wpAnyH_take (i := 13) (oi := { dst := some 101, op := Op.pick (Operand.tmp 93) (Operand.tmp 100) (Operand.const (Value.bool false)), type := 4, pos := "law.go:134", after := #[{ on := 5, ground := Ground.data }, { on := 12, ground := Ground.data }, { on := 3, ground := Ground.guard }], guard := some (3, false) }) (v := ?vb2t_14) rfl (by kernel_rfl) (by kernel_rfl) (by kernel_rfl) (fun _ _ _ h => h) (Or.inl ⟨by rfl, ?hyb2t_14⟩) (by assumption) ?restb2t_14
        case hyb2t_14 =>
          intro w hSw
          (try dsimp only at hSw)
          go_simp
          (try with_reducible rfl)
        (try simp only [Act.put, List.setIfInBounds_toArray, List.set_cons_zero, List.set_cons_succ])
        refine wpAnyH_take (i := 14) (oi := { dst := some 102, op := Op.pick (Operand.tmp 91) (Operand.const (Value.bool true)) (Operand.tmp 101), type := 4, pos := "law.go:134", after := #[{ on := 3, ground := Ground.data }, { on := 13, ground := Ground.data }], guard := none }) (v := ?vb2t_15) rfl (by kernel_rfl) (by kernel_rfl) (by kernel_rfl) (fun _ _ _ h => h) (Or.inl ⟨by rfl, ?hyb2t_15⟩) (by assumption) ?restb2t_15
        case hyb2t_15 =>
          intro w hSw
          (try dsimp only at hSw)
          go_simp
          (try with_reducible rfl)
        (try simp only [Act.put, List.setIfInBounds_toArray, List.set_cons_zero, List.set_cons_succ])
        refine wpAnyH_take (i := 15) (oi := { dst := some 103, op := Op.move (Operand.tmp 102), type := 4, pos := "law.go:134", after := #[{ on := 14, ground := Ground.data }, { on := 11, ground := Ground.chain }], guard := none }) (v := ?vb2t_16) rfl (by kernel_rfl) (by kernel_rfl) (by kernel_rfl) (fun _ _ _ h => h) (Or.inl ⟨by rfl, ?hyb2t_16⟩) (by assumption) ?restb2t_16
        case hyb2t_16 =>
          intro w hSw
          (try dsimp only at hSw)
          go_simp
          (try with_reducible rfl)
        (try simp only [Act.put, List.setIfInBounds_toArray, List.set_cons_zero, List.set_cons_succ])
        refine wpAnyH_take (i := 16) (oi := { dst := some 104, op := Op.move (Operand.tmp 7), type := 24, pos := "law.go:134", after := #[{ on := 15, ground := Ground.guard }], guard := some (15, false) }) (v := ?vb2t_17) rfl (by kernel_rfl) (by kernel_rfl) (by kernel_rfl) (fun _ _ _ h => h) (Or.inl ⟨by rfl, ?hyb2t_17⟩) (by assumption) ?restb2t_17
        case hyb2t_17 =>
          intro w hSw
          (try dsimp only at hSw)
          go_simp
          (try with_reducible rfl)
        (try simp only [Act.put, List.setIfInBounds_toArray, List.set_cons_zero, List.set_cons_succ])
        refine wpAnyH_ready (rs := [17]) (by kernel_rfl) (by simp) ?_
        refine AllReadyH.cons (o := { dst := some 105, op := Op.call { callee := Callee.value (Operand.func 13), args := #[Operand.tmp 104], argTypes := #[24] }, type := 3, pos := "law.go:134", after := #[{ on := 16, ground := Ground.data }, { on := 15, ground := Ground.chain }, { on := 15, ground := Ground.guard }], guard := some (15, false) }) rfl (fun K hK => ?_) AllReadyH.nil
        go_simp
        (go_at_call 13; refine (HLN.out _ hHeld).mono ?_; rintro e8 w8 ⟨rfl, rfl⟩)
        go_wp2_with fail
        refine hK.out _ _ hHeld (fun hHeld => ?_)
        clear hK K
        (try simp only [Act.put, List.setIfInBounds_toArray, List.set_cons_zero, List.set_cons_succ])
        refine wpAnyH_take (i := 18) (oi := { dst := some 106, op := Op.binOp BinOp.neq 3 (Operand.tmp 105) (Operand.const (Value.int IntKind.i64 0)) 3, type := 4, pos := "law.go:134", after := #[{ on := 17, ground := Ground.data }, { on := 15, ground := Ground.guard }], guard := some (15, false) }) (v := ?vb2t_18) rfl (by kernel_rfl) (by kernel_rfl) (by kernel_rfl) (fun _ _ _ h => h) (Or.inl ⟨by rfl, ?hyb2t_18⟩) (by assumption) ?restb2t_18
        case hyb2t_18 =>
          intro w hSw
          (try dsimp only at hSw)
          go_simp
          (try with_reducible rfl)
        (try simp only [Act.put, List.setIfInBounds_toArray, List.set_cons_zero, List.set_cons_succ])
        refine wpAnyH_take (i := 19) (oi := { dst := some 107, op := Op.pick (Operand.tmp 103) (Operand.const (Value.bool true)) (Operand.tmp 106), type := 4, pos := "law.go:134", after := #[{ on := 15, ground := Ground.data }, { on := 18, ground := Ground.data }], guard := none }) (v := ?vb2t_19) rfl (by kernel_rfl) (by kernel_rfl) (by kernel_rfl) (fun _ _ _ h => h) (Or.inl ⟨by rfl, ?hyb2t_19⟩) (by assumption) ?restb2t_19
        case hyb2t_19 =>
          intro w hSw
          (try dsimp only at hSw)
          go_simp
          (try with_reducible rfl)
        (try simp only [Act.put, List.setIfInBounds_toArray, List.set_cons_zero, List.set_cons_succ])
        refine wpAnyH_done (by kernel_rfl) ?_ _
        have HN : Hid (∃ s t, Sit w nb [] s t ((x + 1 : Nat) : Int) C m2 F7 U7.drew ∧ Two w F7 pa (pa + 1) (a1, a2) (b1, b2) U7.drew) := Lib.hid (by
          have hd : Below U7.heap.size U7 U7.drew := (Below.refl _ U7).drew
          have h := HS7.out.1.below hd
          rw [HE1.out] at h
          exact ⟨_, _, h, HS7.out.2.below hd⟩)
        have e1 := HE1.out
        go_wp2_with fail
        go_roundw
        case rel => exact ⟨k + 1, x + 1, F7, by omega, by omega, rfl, rfl, HN⟩
        case measure => simp only [intOf]; omega
      · go_wp2_with fail
        refine wp_region_held_drew (S := (fun V => V.cell? ⟨pa, 0, none⟩ = some (.int .i64 a1) ∧ V.cell? ⟨pa, 1, none⟩ = some (.int .i64 a2) ∧ V.cell? ⟨pa + 1, 0, none⟩ = some (.int .i64 b1) ∧ V.cell? ⟨pa + 1, 1, none⟩ = some (.int .i64 b2) ∧ V.cell? ⟨pb, po + k * 5, none⟩ = some (.int .i64 f1) ∧ V.cell? ⟨pb, po + k * 5 + 1, none⟩ = some (.int .i64 f2) ∧ V.cell? ⟨pb, po + k * 5 + 2, none⟩ = some (.int .i64 t1) ∧ V.cell? ⟨pb, po + k * 5 + 3, none⟩ = some (.int .i64 t2))) (by kernel_rfl) (by first | exact HSS.out _ (Below.refl _ _).drew | exact HSS.out _ (Below.refl _ _)) (fun hHeld => ?_)
        refine wpAnyH_take (i := 0) (oi := { dst := some 44, op := Op.load 33 (Operand.tmp 3), type := 33, pos := "law.go:132", after := #[], guard := none }) (v := ?va3_1) rfl (by kernel_rfl) (by kernel_rfl) (by kernel_rfl) (fun _ _ _ h => h) (Or.inl ⟨by rfl, ?hya3_1⟩) (by assumption) ?resta3_1
        case hya3_1 =>
          intro w hSw
          (try dsimp only at hSw)
          go_simp
          (try with_reducible rfl)
        (try simp only [Act.put, List.setIfInBounds_toArray, List.set_cons_zero, List.set_cons_succ])
        refine wpAnyH_take (i := 1) (oi := { dst := some 45, op := Op.load 33 (Operand.tmp 4), type := 33, pos := "law.go:132", after := #[], guard := none }) (v := ?va3_2) rfl (by kernel_rfl) (by kernel_rfl) (by kernel_rfl) (fun _ _ _ h => h) (Or.inl ⟨by rfl, ?hya3_2⟩) (by assumption) ?resta3_2
        case hya3_2 =>
          intro w hSw
          (try dsimp only at hSw)
          go_simp
          (try with_reducible rfl)
        (try simp only [Act.put, List.setIfInBounds_toArray, List.set_cons_zero, List.set_cons_succ])
        refine wpAnyH_take (i := 2) (oi := { dst := some 46, op := Op.binOp BinOp.neq 33 (Operand.tmp 44) (Operand.tmp 45) 33, type := 4, pos := "law.go:132", after := #[{ on := 0, ground := Ground.data }, { on := 1, ground := Ground.data }], guard := none }) (v := ?va3_3) rfl (by kernel_rfl) (by kernel_rfl) (by kernel_rfl) (fun _ _ _ h => h) (Or.inl ⟨by rfl, ?hya3_3⟩) (by assumption) ?resta3_3
        case hya3_3 =>
          intro w hSw
          (try dsimp only at hSw)
          go_simp
          (try with_reducible rfl)
        (try simp only [Act.put, List.setIfInBounds_toArray, List.set_cons_zero, List.set_cons_succ])
        refine wpAnyH_take (i := 3) (oi := { dst := some 47, op := Op.move (Operand.tmp 46), type := 4, pos := "law.go:132", after := #[{ on := 2, ground := Ground.data }], guard := none }) (v := ?va3_4) rfl (by kernel_rfl) (by kernel_rfl) (by kernel_rfl) (fun _ _ _ h => h) (Or.inl ⟨by rfl, ?hya3_4⟩) (by assumption) ?resta3_4
        case hya3_4 =>
          intro w hSw
          (try dsimp only at hSw)
          go_simp
          (try with_reducible rfl)
        (try simp only [Act.put, List.setIfInBounds_toArray, List.set_cons_zero, List.set_cons_succ])
        refine wpAnyH_take (i := 4) (oi := { dst := some 48, op := Op.move (Operand.tmp 2), type := 27, pos := "law.go:132", after := #[{ on := 3, ground := Ground.guard }], guard := some (3, true) }) (v := ?va3_5) rfl (by kernel_rfl) (by kernel_rfl) (by kernel_rfl) (fun _ _ _ h => h) (Or.inl ⟨by rfl, ?hya3_5⟩) (by assumption) ?resta3_5
        case hya3_5 =>
          intro w hSw
          (try dsimp only at hSw)
          go_simp
          (try with_reducible rfl)
        (try simp only [Act.put, List.setIfInBounds_toArray, List.set_cons_zero, List.set_cons_succ])
        refine wpAnyH_take (i := 5) (oi := { dst := some 49, op := Op.move (Operand.tmp 9), type := 3, pos := "law.go:132", after := #[{ on := 3, ground := Ground.guard }], guard := some (3, true) }) (v := ?va3_6) rfl (by kernel_rfl) (by kernel_rfl) (by kernel_rfl) (fun _ _ _ h => h) (Or.inl ⟨by rfl, ?hya3_6⟩) (by assumption) ?resta3_6
        case hya3_6 =>
          intro w hSw
          (try dsimp only at hSw)
          go_simp
          (try with_reducible rfl)
        (try simp only [Act.put, List.setIfInBounds_toArray, List.set_cons_zero, List.set_cons_succ])
        refine wpAnyH_take (i := 6) (oi := { dst := some 50, op := Op.indexAddr 27 (Operand.tmp 48) (Operand.tmp 49), type := 0, pos := "law.go:132", after := #[{ on := 4, ground := Ground.data }, { on := 5, ground := Ground.data }, { on := 3, ground := Ground.guard }], guard := some (3, true) }) (v := ?va3_7) rfl (by kernel_rfl) (by kernel_rfl) (by kernel_rfl) (fun _ _ _ h => h) (Or.inl ⟨by rfl, ?hya3_7⟩) (by assumption) ?resta3_7
        case hya3_7 =>
          intro w hSw
          (try dsimp only at hSw)
          go_simp
          (try with_reducible rfl)
        (try simp only [Act.put, List.setIfInBounds_toArray, List.set_cons_zero, List.set_cons_succ])
        refine wpAnyH_take (i := 7) (oi := { dst := some 51, op := Op.fieldAddr 36 (Operand.tmp 50) 0, type := 0, pos := "law.go:132", after := #[{ on := 6, ground := Ground.data }, { on := 3, ground := Ground.guard }], guard := some (3, true) }) (v := ?va3_8) rfl (by kernel_rfl) (by kernel_rfl) (by kernel_rfl) (fun _ _ _ h => h) (Or.inl ⟨by rfl, ?hya3_8⟩) (by assumption) ?resta3_8
        case hya3_8 =>
          intro w hSw
          (try dsimp only at hSw)
          go_simp
          (try with_reducible rfl)
        (try simp only [Act.put, List.setIfInBounds_toArray, List.set_cons_zero, List.set_cons_succ])
        refine wpAnyH_take (i := 8) (oi := { dst := some 52, op := Op.load 33 (Operand.tmp 51), type := 33, pos := "law.go:132", after := #[{ on := 7, ground := Ground.data }, { on := 3, ground := Ground.guard }], guard := some (3, true) }) (v := ?va3_9) rfl (by kernel_rfl) (by kernel_rfl) (by kernel_rfl) (fun _ _ _ h => h) (Or.inl ⟨by rfl, ?hya3_9⟩) (by assumption) ?resta3_9
        case hya3_9 =>
          intro w hSw
          (try dsimp only at hSw)
          go_simp
          (try with_reducible rfl)
        (try simp only [Act.put, List.setIfInBounds_toArray, List.set_cons_zero, List.set_cons_succ])
        refine wpAnyH_take (i := 9) (oi := { dst := some 53, op := Op.load 33 (Operand.tmp 3), type := 33, pos := "law.go:132", after := #[{ on := 3, ground := Ground.guard }], guard := some (3, true) }) (v := ?va3_10) rfl (by kernel_rfl) (by kernel_rfl) (by kernel_rfl) (fun _ _ _ h => h) (Or.inl ⟨by rfl, ?hya3_10⟩) (by assumption) ?resta3_10
        case hya3_10 =>
          intro w hSw
          (try dsimp only at hSw)
          go_simp
          (try with_reducible rfl)
        (try simp only [Act.put, List.setIfInBounds_toArray, List.set_cons_zero, List.set_cons_succ])
        refine wpAnyH_take (i := 10) (oi := { dst := some 54, op := Op.binOp BinOp.eql 33 (Operand.tmp 52) (Operand.tmp 53) 33, type := 4, pos := "law.go:132", after := #[{ on := 8, ground := Ground.data }, { on := 9, ground := Ground.data }, { on := 3, ground := Ground.guard }], guard := some (3, true) }) (v := ?va3_11) rfl (by kernel_rfl) (by kernel_rfl) (by kernel_rfl) (fun _ _ _ h => h) (Or.inl ⟨by rfl, ?hya3_11⟩) (by assumption) ?resta3_11
        case hya3_11 =>
          intro w hSw
          (try dsimp only at hSw)
          go_simp
          (try with_reducible rfl)
        (try simp only [Act.put, List.setIfInBounds_toArray, List.set_cons_zero, List.set_cons_succ])
        refine wpAnyH_take (i := 11) (oi := { dst := some 55, op := Op.move (Operand.tmp 54), type := 4, pos := "law.go:132", after := #[{ on := 10, ground := Ground.data }, { on := 3, ground := Ground.chain }, { on := 3, ground := Ground.guard }], guard := some (3, true) }) (v := ?va3_12) rfl (by kernel_rfl) (by kernel_rfl) (by kernel_rfl) (fun _ _ _ h => h) (Or.inl ⟨by rfl, ?hya3_12⟩) (by assumption) ?resta3_12
        case hya3_12 =>
          intro w hSw
          (try dsimp only at hSw)
          go_simp
          (try with_reducible rfl)
        (try simp only [Act.put, List.setIfInBounds_toArray, List.set_cons_zero, List.set_cons_succ])
        refine wpAnyH_take (i := 12) (oi := { dst := some 56, op := Op.move (Operand.tmp 2), type := 27, pos := "law.go:132", after := #[{ on := 11, ground := Ground.guard }], guard := some (11, true) }) (v := ?va3_13) rfl (by kernel_rfl) (by kernel_rfl) (by kernel_rfl) (fun _ _ _ h => h) (Or.inl ⟨by rfl, ?hya3_13⟩) (by assumption) ?resta3_13
        case hya3_13 =>
          intro w hSw
          (try dsimp only at hSw)
          go_simp
          (try with_reducible rfl)
        (try simp only [Act.put, List.setIfInBounds_toArray, List.set_cons_zero, List.set_cons_succ])
        refine wpAnyH_take (i := 13) (oi := { dst := some 57, op := Op.move (Operand.tmp 9), type := 3, pos := "law.go:132", after := #[{ on := 11, ground := Ground.guard }], guard := some (11, true) }) (v := ?va3_14) rfl (by kernel_rfl) (by kernel_rfl) (by kernel_rfl) (fun _ _ _ h => h) (Or.inl ⟨by rfl, ?hya3_14⟩) (by assumption) ?resta3_14
        case hya3_14 =>
          intro w hSw
          (try dsimp only at hSw)
          go_simp
          (try with_reducible rfl)
        (try simp only [Act.put, List.setIfInBounds_toArray, List.set_cons_zero, List.set_cons_succ])
        refine wpAnyH_take (i := 14) (oi := { dst := some 58, op := Op.indexAddr 27 (Operand.tmp 56) (Operand.tmp 57), type := 0, pos := "law.go:132", after := #[{ on := 12, ground := Ground.data }, { on := 13, ground := Ground.data }, { on := 11, ground := Ground.guard }], guard := some (11, true) }) (v := ?va3_15) rfl (by kernel_rfl) (by kernel_rfl) (by kernel_rfl) (fun _ _ _ h => h) (Or.inl ⟨by rfl, ?hya3_15⟩) (by assumption) ?resta3_15
        case hya3_15 =>
          intro w hSw
          (try dsimp only at hSw)
          go_simp
          (try with_reducible rfl)
        (try simp only [Act.put, List.setIfInBounds_toArray, List.set_cons_zero, List.set_cons_succ])
        refine wpAnyH_take (i := 15) (oi := { dst := some 59, op := Op.fieldAddr 36 (Operand.tmp 58) 1, type := 0, pos := "law.go:132", after := #[{ on := 14, ground := Ground.data }, { on := 11, ground := Ground.guard }], guard := some (11, true) }) (v := ?va3_16) rfl (by kernel_rfl) (by kernel_rfl) (by kernel_rfl) (fun _ _ _ h => h) (Or.inl ⟨by rfl, ?hya3_16⟩) (by assumption) ?resta3_16
        case hya3_16 =>
          intro w hSw
          (try dsimp only at hSw)
          go_simp
          (try with_reducible rfl)
        (try simp only [Act.put, List.setIfInBounds_toArray, List.set_cons_zero, List.set_cons_succ])
        refine wpAnyH_take (i := 16) (oi := { dst := some 60, op := Op.load 33 (Operand.tmp 59), type := 33, pos := "law.go:132", after := #[{ on := 15, ground := Ground.data }, { on := 11, ground := Ground.guard }], guard := some (11, true) }) (v := ?va3_17) rfl (by kernel_rfl) (by kernel_rfl) (by kernel_rfl) (fun _ _ _ h => h) (Or.inl ⟨by rfl, ?hya3_17⟩) (by assumption) ?resta3_17
        case hya3_17 =>
          intro w hSw
          (try dsimp only at hSw)
          go_simp
          (try with_reducible rfl)
        (try simp only [Act.put, List.setIfInBounds_toArray, List.set_cons_zero, List.set_cons_succ])
        refine wpAnyH_take (i := 17) (oi := { dst := some 61, op := Op.load 33 (Operand.tmp 4), type := 33, pos := "law.go:132", after := #[{ on := 11, ground := Ground.guard }], guard := some (11, true) }) (v := ?va3_18) rfl (by kernel_rfl) (by kernel_rfl) (by kernel_rfl) (fun _ _ _ h => h) (Or.inl ⟨by rfl, ?hya3_18⟩) (by assumption) ?resta3_18
        case hya3_18 =>
          intro w hSw
          (try dsimp only at hSw)
          go_simp
          (try with_reducible rfl)
        (try simp only [Act.put, List.setIfInBounds_toArray, List.set_cons_zero, List.set_cons_succ])
        refine wpAnyH_take (i := 18) (oi := { dst := some 62, op := Op.binOp BinOp.eql 33 (Operand.tmp 60) (Operand.tmp 61) 33, type := 4, pos := "law.go:132", after := #[{ on := 16, ground := Ground.data }, { on := 17, ground := Ground.data }, { on := 11, ground := Ground.guard }], guard := some (11, true) }) (v := ?va3_19) rfl (by kernel_rfl) (by kernel_rfl) (by kernel_rfl) (fun _ _ _ h => h) (Or.inl ⟨by rfl, ?hya3_19⟩) (by assumption) ?resta3_19
        case hya3_19 =>
          intro w hSw
          (try dsimp only at hSw)
          go_simp
          (try with_reducible rfl)
        (try simp only [Act.put, List.setIfInBounds_toArray, List.set_cons_zero, List.set_cons_succ])
        refine wpAnyH_take (i := 19) (oi := { dst := some 63, op := Op.pick (Operand.tmp 55) (Operand.tmp 62) (Operand.const (Value.bool false)), type := 4, pos := "law.go:132", after := #[{ on := 11, ground := Ground.data }, { on := 18, ground := Ground.data }, { on := 3, ground := Ground.guard }], guard := some (3, true) }) (v := ?va3_20) rfl (by kernel_rfl) (by kernel_rfl) (by kernel_rfl) (fun _ _ _ h => h) (Or.inl ⟨by rfl, ?hya3_20⟩) (by assumption) ?resta3_20
        case hya3_20 =>
          intro w hSw
          (try dsimp only at hSw)
          go_simp
          (try with_reducible rfl)
        (try simp only [Act.put, List.setIfInBounds_toArray, List.set_cons_zero, List.set_cons_succ])
        refine wpAnyH_take (i := 20) (oi := { dst := some 64, op := Op.move (Operand.tmp 63), type := 4, pos := "law.go:132", after := #[{ on := 19, ground := Ground.data }, { on := 11, ground := Ground.chain }, { on := 3, ground := Ground.guard }], guard := some (3, true) }) (v := ?va3_21) rfl (by kernel_rfl) (by kernel_rfl) (by kernel_rfl) (fun _ _ _ h => h) (Or.inl ⟨by rfl, ?hya3_21⟩) (by assumption) ?resta3_21
        case hya3_21 =>
          intro w hSw
          (try dsimp only at hSw)
          go_simp
          (try with_reducible rfl)
        (try simp only [Act.put, List.setIfInBounds_toArray, List.set_cons_zero, List.set_cons_succ])
        refine wpAnyH_take (i := 21) (oi := { dst := some 65, op := Op.move (Operand.tmp 2), type := 27, pos := "law.go:132", after := #[{ on := 20, ground := Ground.guard }], guard := some (20, false) }) (v := ?va3_22) rfl (by kernel_rfl) (by kernel_rfl) (by kernel_rfl) (fun _ _ _ h => h) (Or.inl ⟨by rfl, ?hya3_22⟩) (by assumption) ?resta3_22
        case hya3_22 =>
          intro w hSw
          (try dsimp only at hSw)
          go_simp
          (try with_reducible rfl)
        (try simp only [Act.put, List.setIfInBounds_toArray, List.set_cons_zero, List.set_cons_succ])
        refine wpAnyH_take (i := 22) (oi := { dst := some 66, op := Op.move (Operand.tmp 9), type := 3, pos := "law.go:132", after := #[{ on := 20, ground := Ground.guard }], guard := some (20, false) }) (v := ?va3_23) rfl (by kernel_rfl) (by kernel_rfl) (by kernel_rfl) (fun _ _ _ h => h) (Or.inl ⟨by rfl, ?hya3_23⟩) (by assumption) ?resta3_23
        case hya3_23 =>
          intro w hSw
          (try dsimp only at hSw)
          go_simp
          (try with_reducible rfl)
        (try simp only [Act.put, List.setIfInBounds_toArray, List.set_cons_zero, List.set_cons_succ])
        refine wpAnyH_take (i := 23) (oi := { dst := some 67, op := Op.indexAddr 27 (Operand.tmp 65) (Operand.tmp 66), type := 0, pos := "law.go:132", after := #[{ on := 21, ground := Ground.data }, { on := 22, ground := Ground.data }, { on := 20, ground := Ground.guard }], guard := some (20, false) }) (v := ?va3_24) rfl (by kernel_rfl) (by kernel_rfl) (by kernel_rfl) (fun _ _ _ h => h) (Or.inl ⟨by rfl, ?hya3_24⟩) (by assumption) ?resta3_24
        case hya3_24 =>
          intro w hSw
          (try dsimp only at hSw)
          go_simp
          (try with_reducible rfl)
        (try simp only [Act.put, List.setIfInBounds_toArray, List.set_cons_zero, List.set_cons_succ])
        refine wpAnyH_take (i := 24) (oi := { dst := some 68, op := Op.fieldAddr 36 (Operand.tmp 67) 0, type := 0, pos := "law.go:132", after := #[{ on := 23, ground := Ground.data }, { on := 20, ground := Ground.guard }], guard := some (20, false) }) (v := ?va3_25) rfl (by kernel_rfl) (by kernel_rfl) (by kernel_rfl) (fun _ _ _ h => h) (Or.inl ⟨by rfl, ?hya3_25⟩) (by assumption) ?resta3_25
        case hya3_25 =>
          intro w hSw
          (try dsimp only at hSw)
          go_simp
          (try with_reducible rfl)
        (try simp only [Act.put, List.setIfInBounds_toArray, List.set_cons_zero, List.set_cons_succ])
        refine wpAnyH_take (i := 25) (oi := { dst := some 69, op := Op.load 33 (Operand.tmp 68), type := 33, pos := "law.go:132", after := #[{ on := 24, ground := Ground.data }, { on := 20, ground := Ground.guard }], guard := some (20, false) }) (v := ?va3_26) rfl (by kernel_rfl) (by kernel_rfl) (by kernel_rfl) (fun _ _ _ h => h) (Or.inl ⟨by rfl, ?hya3_26⟩) (by assumption) ?resta3_26
        case hya3_26 =>
          intro w hSw
          (try dsimp only at hSw)
          go_simp
          (try with_reducible rfl)
        (try simp only [Act.put, List.setIfInBounds_toArray, List.set_cons_zero, List.set_cons_succ])
        refine wpAnyH_take (i := 26) (oi := { dst := some 70, op := Op.load 33 (Operand.tmp 4), type := 33, pos := "law.go:132", after := #[{ on := 20, ground := Ground.guard }], guard := some (20, false) }) (v := ?va3_27) rfl (by kernel_rfl) (by kernel_rfl) (by kernel_rfl) (fun _ _ _ h => h) (Or.inl ⟨by rfl, ?hya3_27⟩) (by assumption) ?resta3_27
        case hya3_27 =>
          intro w hSw
          (try dsimp only at hSw)
          go_simp
          (try with_reducible rfl)
        (try simp only [Act.put, List.setIfInBounds_toArray, List.set_cons_zero, List.set_cons_succ])
        refine wpAnyH_take (i := 27) (oi := { dst := some 71, op := Op.binOp BinOp.eql 33 (Operand.tmp 69) (Operand.tmp 70) 33, type := 4, pos := "law.go:132", after := #[{ on := 25, ground := Ground.data }, { on := 26, ground := Ground.data }, { on := 20, ground := Ground.guard }], guard := some (20, false) }) (v := ?va3_28) rfl (by kernel_rfl) (by kernel_rfl) (by kernel_rfl) (fun _ _ _ h => h) (Or.inl ⟨by rfl, ?hya3_28⟩) (by assumption) ?resta3_28
        case hya3_28 =>
          intro w hSw
          (try dsimp only at hSw)
          go_simp
          (try with_reducible rfl)
        (try simp only [Act.put, List.setIfInBounds_toArray, List.set_cons_zero, List.set_cons_succ])
        refine wpAnyH_take (i := 28) (oi := { dst := some 72, op := Op.move (Operand.tmp 71), type := 4, pos := "law.go:132", after := #[{ on := 27, ground := Ground.data }, { on := 20, ground := Ground.chain }, { on := 20, ground := Ground.guard }], guard := some (20, false) }) (v := ?va3_29) rfl (by kernel_rfl) (by kernel_rfl) (by kernel_rfl) (fun _ _ _ h => h) (Or.inl ⟨by rfl, ?hya3_29⟩) (by assumption) ?resta3_29
        case hya3_29 =>
          intro w hSw
          (try dsimp only at hSw)
          go_simp
          (try with_reducible rfl)
        (try simp only [Act.put, List.setIfInBounds_toArray, List.set_cons_zero, List.set_cons_succ])
        refine wpAnyH_take (i := 29) (oi := { dst := some 73, op := Op.move (Operand.tmp 2), type := 27, pos := "law.go:132", after := #[{ on := 28, ground := Ground.guard }], guard := some (28, true) }) (v := undef) rfl (by kernel_rfl) (by kernel_rfl) (by kernel_rfl) (fun _ _ _ h => h) (Or.inr ⟨by rfl, rfl⟩) (by assumption) ?_
        (try simp only [Act.put, List.setIfInBounds_toArray, List.set_cons_zero, List.set_cons_succ])
        refine wpAnyH_take (i := 30) (oi := { dst := some 74, op := Op.move (Operand.tmp 9), type := 3, pos := "law.go:132", after := #[{ on := 28, ground := Ground.guard }], guard := some (28, true) }) (v := undef) rfl (by kernel_rfl) (by kernel_rfl) (by kernel_rfl) (fun _ _ _ h => h) (Or.inr ⟨by rfl, rfl⟩) (by assumption) ?_
        (try simp only [Act.put, List.setIfInBounds_toArray, List.set_cons_zero, List.set_cons_succ])
        refine wpAnyH_take (i := 31) (oi := { dst := some 75, op := Op.indexAddr 27 (Operand.tmp 73) (Operand.tmp 74), type := 0, pos := "law.go:132", after := #[{ on := 29, ground := Ground.data }, { on := 30, ground := Ground.data }, { on := 28, ground := Ground.guard }], guard := some (28, true) }) (v := undef) rfl (by kernel_rfl) (by kernel_rfl) (by kernel_rfl) (fun _ _ _ h => h) (Or.inr ⟨by rfl, rfl⟩) (by assumption) ?_
        (try simp only [Act.put, List.setIfInBounds_toArray, List.set_cons_zero, List.set_cons_succ])
        refine wpAnyH_take (i := 32) (oi := { dst := some 76, op := Op.fieldAddr 36 (Operand.tmp 75) 1, type := 0, pos := "law.go:132", after := #[{ on := 31, ground := Ground.data }, { on := 28, ground := Ground.guard }], guard := some (28, true) }) (v := undef) rfl (by kernel_rfl) (by kernel_rfl) (by kernel_rfl) (fun _ _ _ h => h) (Or.inr ⟨by rfl, rfl⟩) (by assumption) ?_
        (try simp only [Act.put, List.setIfInBounds_toArray, List.set_cons_zero, List.set_cons_succ])
        refine wpAnyH_take (i := 33) (oi := { dst := some 77, op := Op.load 33 (Operand.tmp 76), type := 33, pos := "law.go:132", after := #[{ on := 32, ground := Ground.data }, { on := 28, ground := Ground.guard }], guard := some (28, true) }) (v := undef) rfl (by kernel_rfl) (by kernel_rfl) (by kernel_rfl) (fun _ _ _ h => h) (Or.inr ⟨by rfl, rfl⟩) (by assumption) ?_
        (try simp only [Act.put, List.setIfInBounds_toArray, List.set_cons_zero, List.set_cons_succ])
        refine wpAnyH_take (i := 34) (oi := { dst := some 78, op := Op.load 33 (Operand.tmp 3), type := 33, pos := "law.go:132", after := #[{ on := 28, ground := Ground.guard }], guard := some (28, true) }) (v := undef) rfl (by kernel_rfl) (by kernel_rfl) (by kernel_rfl) (fun _ _ _ h => h) (Or.inr ⟨by rfl, rfl⟩) (by assumption) ?_
        (try simp only [Act.put, List.setIfInBounds_toArray, List.set_cons_zero, List.set_cons_succ])
        refine wpAnyH_take (i := 35) (oi := { dst := some 79, op := Op.binOp BinOp.eql 33 (Operand.tmp 77) (Operand.tmp 78) 33, type := 4, pos := "law.go:132", after := #[{ on := 33, ground := Ground.data }, { on := 34, ground := Ground.data }, { on := 28, ground := Ground.guard }], guard := some (28, true) }) (v := undef) rfl (by kernel_rfl) (by kernel_rfl) (by kernel_rfl) (fun _ _ _ h => h) (Or.inr ⟨by rfl, rfl⟩) (by assumption) ?_
        (try simp only [Act.put, List.setIfInBounds_toArray, List.set_cons_zero, List.set_cons_succ])
        refine wpAnyH_take (i := 36) (oi := { dst := some 80, op := Op.pick (Operand.tmp 72) (Operand.tmp 79) (Operand.const (Value.bool false)), type := 4, pos := "law.go:132", after := #[{ on := 28, ground := Ground.data }, { on := 35, ground := Ground.data }, { on := 20, ground := Ground.guard }], guard := some (20, false) }) (v := ?va3_37) rfl (by kernel_rfl) (by kernel_rfl) (by kernel_rfl) (fun _ _ _ h => h) (Or.inl ⟨by rfl, ?hya3_37⟩) (by assumption) ?resta3_37
        case hya3_37 =>
          intro w hSw
          (try dsimp only at hSw)
          go_simp
          (try with_reducible rfl)
        (try simp only [Act.put, List.setIfInBounds_toArray, List.set_cons_zero, List.set_cons_succ])
        refine wpAnyH_take (i := 37) (oi := { dst := some 81, op := Op.pick (Operand.tmp 64) (Operand.const (Value.bool true)) (Operand.tmp 80), type := 4, pos := "law.go:132", after := #[{ on := 20, ground := Ground.data }, { on := 36, ground := Ground.data }, { on := 3, ground := Ground.guard }], guard := some (3, true) }) (v := ?va3_38) rfl (by kernel_rfl) (by kernel_rfl) (by kernel_rfl) (fun _ _ _ h => h) (Or.inl ⟨by rfl, ?hya3_38⟩) (by assumption) ?resta3_38
        case hya3_38 =>
          intro w hSw
          (try dsimp only at hSw)
          go_simp
          (try with_reducible rfl)
        (try simp only [Act.put, List.setIfInBounds_toArray, List.set_cons_zero, List.set_cons_succ])
        refine wpAnyH_take (i := 38) (oi := { dst := some 82, op := Op.pick (Operand.tmp 47) (Operand.tmp 81) (Operand.const (Value.bool false)), type := 4, pos := "law.go:132", after := #[{ on := 3, ground := Ground.data }, { on := 37, ground := Ground.data }], guard := none }) (v := ?va3_39) rfl (by kernel_rfl) (by kernel_rfl) (by kernel_rfl) (fun _ _ _ h => h) (Or.inl ⟨by rfl, ?hya3_39⟩) (by assumption) ?resta3_39
        case hya3_39 =>
          intro w hSw
          (try dsimp only at hSw)
          go_simp
          (try with_reducible rfl)
        (try simp only [Act.put, List.setIfInBounds_toArray, List.set_cons_zero, List.set_cons_succ])
        refine wpAnyH_take (i := 39) (oi := { dst := some 10, op := Op.assign (Operand.tmp 82), type := 4, pos := "law.go:132", after := #[{ on := 38, ground := Ground.data }, { on := 28, ground := Ground.chain }, { on := 0, ground := Ground.phase }, { on := 1, ground := Ground.phase }, { on := 2, ground := Ground.phase }, { on := 3, ground := Ground.phase }, { on := 4, ground := Ground.phase }, { on := 5, ground := Ground.phase }, { on := 6, ground := Ground.phase }, { on := 7, ground := Ground.phase }, { on := 8, ground := Ground.phase }, { on := 9, ground := Ground.phase }, { on := 10, ground := Ground.phase }, { on := 11, ground := Ground.phase }, { on := 12, ground := Ground.phase }, { on := 13, ground := Ground.phase }, { on := 14, ground := Ground.phase }, { on := 15, ground := Ground.phase }, { on := 16, ground := Ground.phase }, { on := 17, ground := Ground.phase }, { on := 18, ground := Ground.phase }, { on := 19, ground := Ground.phase }, { on := 20, ground := Ground.phase }, { on := 21, ground := Ground.phase }, { on := 22, ground := Ground.phase }, { on := 23, ground := Ground.phase }, { on := 24, ground := Ground.phase }, { on := 25, ground := Ground.phase }, { on := 26, ground := Ground.phase }, { on := 27, ground := Ground.phase }, { on := 28, ground := Ground.phase }, { on := 29, ground := Ground.phase }, { on := 30, ground := Ground.phase }, { on := 31, ground := Ground.phase }, { on := 32, ground := Ground.phase }, { on := 33, ground := Ground.phase }, { on := 34, ground := Ground.phase }, { on := 35, ground := Ground.phase }, { on := 36, ground := Ground.phase }, { on := 37, ground := Ground.phase }, { on := 38, ground := Ground.phase }], guard := none }) (v := ?va3_40) rfl (by kernel_rfl) (by kernel_rfl) (by kernel_rfl) (fun _ _ _ h => h) (Or.inl ⟨by rfl, ?hya3_40⟩) (by assumption) ?resta3_40
        case hya3_40 =>
          intro w hSw
          (try dsimp only at hSw)
          go_simp
          (try with_reducible rfl)
        (try simp only [Act.put, List.setIfInBounds_toArray, List.set_cons_zero, List.set_cons_succ])
        refine wpAnyH_done (by kernel_rfl) ?_ _
        have H7 := Lib.hid (take_in S3d.out.1 (i := 0) (a1 := f1) (a2 := f2) (b1 := t1) (b2 := t2) (zs := xs) rfl)
        go_wp2_with fail
        refine H7.out.mono ?_
        rintro e7 w7 (⟨hc, _⟩ | ⟨_, A7, c7, he7, F7, hN7, hS7, hD7, _, _⟩)
        · exact absurd (HAP.out.symm.trans hc) (by decide)
        rw [HJ.out.2.2.2.1] at hD7 he7
        subst he7
        obtain ⟨U7, hU7⟩ : ∃ U, w7.alloc (.cells #[.int .i64 f1, .int .i64 f2, .int .i64 t1, .int .i64 t2, .slice A7 n c7] 36) = U := ⟨_, rfl⟩
        have hb7 : Below w7.heap.size w7 U7 := by rw [← hU7]; exact (Below.refl _ w7).alloc (Nat.le_refl _) _
        have hP7 : Bn w7.heap.size 36 [.int .i64 f1, .int .i64 f2, .int .i64 t1, .int .i64 t2, .slice A7 n c7] U7 := by rw [← hU7]; exact heap_alloc_new w7 _
        have hS7' : Sit w nb [] _ _ _ C m2 F7 U7 := (S3d.out.step hN7 hS7).below hb7
        have hT7' := (T3d.out.step hS7).below hb7
        have hD7' := own_below hD7 hb7 (Nat.le_refl _)
        obtain ⟨pv, hpv⟩ : ∃ b, w7.heap.size = b := ⟨_, rfl⟩
        rw [hpv] at hP7
        have HLN : Hid (∀ V, Below U7.heap.size U7 V → Calls Try.prog 13 #[hd nb] V (fun e w' => e = .returned (.int .i64 0) ∧ w' = V)) := Lib.hid fun V hV => len_any (hS7'.below hV).1 0 rfl
        have HS2 : Hid (∀ V, Below U7.heap.size U7 V → (V.cell? ⟨pv, 0, none⟩ = some (.int .i64 f1) ∧ V.cell? ⟨pv, 1, none⟩ = some (.int .i64 f2) ∧ V.cell? ⟨pv, 2, none⟩ = some (.int .i64 t1) ∧ V.cell? ⟨pv, 3, none⟩ = some (.int .i64 t2) ∧ V.cell? ⟨pv, 4, none⟩ = some (.slice A7 n c7)) ∧ V.cell? ⟨pb, po + k * 5, none⟩ = some (.int .i64 f1) ∧ V.cell? ⟨pb, po + k * 5 + 1, none⟩ = some (.int .i64 f2) ∧ V.cell? ⟨pb, po + k * 5 + 2, none⟩ = some (.int .i64 t1) ∧ V.cell? ⟨pb, po + k * 5 + 3, none⟩ = some (.int .i64 t2) ∧ V.cell? ⟨pb, po + k * 5 + 4, none⟩ = some (.slice Ad n cd)) := Lib.hid fun V hV => by
          have hP := hP7.same (hV.block _ hP7.lt)
          have hw := hS7'.2.1.trans (hV.mono hS7'.2.1.size)
          obtain ⟨_, _, _, _, h11, h12, h13, h14, h15, h16, _⟩ := HJ.out
          exact ⟨⟨(hP.cell 0).trans rfl, (hP.cell 1).trans rfl, (hP.cell 2).trans rfl, (hP.cell 3).trans rfl, (hP.cell 4).trans rfl⟩, (hw.cell (p := ⟨pb, po + k * 5, none⟩) h11).trans h12, (hw.cell (p := ⟨pb, po + k * 5 + 1, none⟩) h11).trans h13, (hw.cell (p := ⟨pb, po + k * 5 + 2, none⟩) h11).trans h14, (hw.cell (p := ⟨pb, po + k * 5 + 3, none⟩) h11).trans h15, (hw.cell (p := ⟨pb, po + k * 5 + 4, none⟩) h11).trans h16⟩
        have HSM : Hid (∀ V, Below U7.heap.size U7 V → Calls Try.prog 17 #[.agg #[.int .i64 f1, .int .i64 f2, .int .i64 t1, .int .i64 t2, .slice A7 n c7], .agg #[.int .i64 f1, .int .i64 f2, .int .i64 t1, .int .i64 t2, .slice Ad n cd]] V (fun e w' => e = .returned (.bool true) ∧ Below V.heap.size V w')) := Lib.hid fun V hV => by
          have hw := hS7'.2.1.trans (hV.mono hS7'.2.1.size)
          exact same_yes V f1 f2 t1 t2 xs n HJ.out.2.2.2.1 A7 Ad c7 cd (own_ns (c := c7) (n := n) (by rw [HJ.out.2.2.2.1]; exact own_below hD7' hV (Nat.le_refl _))) ((HJ.out.2.2.1.below hw).more hw.size)
        have HS7 := Lib.hid (And.intro hS7' hT7')
        clear hb7 hP7 hS7' hT7' hD7' hN7 hS7 hD7 H7
        go_wp2_with fail
        refine wp_region_held_drew (S := (fun V => Below U7.heap.size U7 V ∧ V.cell? ⟨pv, 0, none⟩ = some (.int .i64 f1) ∧ V.cell? ⟨pv, 1, none⟩ = some (.int .i64 f2) ∧ V.cell? ⟨pv, 2, none⟩ = some (.int .i64 t1) ∧ V.cell? ⟨pv, 3, none⟩ = some (.int .i64 t2) ∧ V.cell? ⟨pv, 4, none⟩ = some (.slice A7 n c7) ∧ V.cell? ⟨pb, po + k * 5, none⟩ = some (.int .i64 f1) ∧ V.cell? ⟨pb, po + k * 5 + 1, none⟩ = some (.int .i64 f2) ∧ V.cell? ⟨pb, po + k * 5 + 2, none⟩ = some (.int .i64 t1) ∧ V.cell? ⟨pb, po + k * 5 + 3, none⟩ = some (.int .i64 t2) ∧ V.cell? ⟨pb, po + k * 5 + 4, none⟩ = some (.slice Ad n cd))) (by kernel_rfl) (by have hb8 : Below U7.heap.size U7 U7.drew := (Below.refl _ U7).drew; exact (⟨hb8, (HS2.out _ hb8).1.1, (HS2.out _ hb8).1.2.1, (HS2.out _ hb8).1.2.2.1, (HS2.out _ hb8).1.2.2.2.1, (HS2.out _ hb8).1.2.2.2.2, (HS2.out _ hb8).2⟩)) (fun hHeld => ?_)
        refine wpAnyH_take (i := 0) (oi := { dst := some 88, op := Op.move (Operand.tmp 12), type := 4, pos := "law.go:134", after := #[], guard := none }) (v := ?vb3f_1) rfl (by kernel_rfl) (by kernel_rfl) (by kernel_rfl) (fun _ _ _ h => h) (Or.inl ⟨by rfl, ?hyb3f_1⟩) (by assumption) ?restb3f_1
        case hyb3f_1 =>
          intro w hSw
          (try dsimp only at hSw)
          go_simp
          (try with_reducible rfl)
        (try simp only [Act.put, List.setIfInBounds_toArray, List.set_cons_zero, List.set_cons_succ])
        refine wpAnyH_take (i := 1) (oi := { dst := some 89, op := Op.move (Operand.tmp 10), type := 4, pos := "law.go:134", after := #[], guard := none }) (v := ?vb3f_2) rfl (by kernel_rfl) (by kernel_rfl) (by kernel_rfl) (fun _ _ _ h => h) (Or.inl ⟨by rfl, ?hyb3f_2⟩) (by assumption) ?restb3f_2
        case hyb3f_2 =>
          intro w hSw
          (try dsimp only at hSw)
          go_simp
          (try with_reducible rfl)
        (try simp only [Act.put, List.setIfInBounds_toArray, List.set_cons_zero, List.set_cons_succ])
        refine wpAnyH_take (i := 2) (oi := { dst := some 90, op := Op.binOp BinOp.eql 4 (Operand.tmp 88) (Operand.tmp 89) 4, type := 4, pos := "law.go:134", after := #[{ on := 0, ground := Ground.data }, { on := 1, ground := Ground.data }], guard := none }) (v := ?vb3f_3) rfl (by kernel_rfl) (by kernel_rfl) (by kernel_rfl) (fun _ _ _ h => h) (Or.inl ⟨by rfl, ?hyb3f_3⟩) (by assumption) ?restb3f_3
        case hyb3f_3 =>
          intro w hSw
          (try dsimp only at hSw)
          go_simp
          (try with_reducible rfl)
        (try simp only [Act.put, List.setIfInBounds_toArray, List.set_cons_zero, List.set_cons_succ])
        refine wpAnyH_take (i := 3) (oi := { dst := some 91, op := Op.move (Operand.tmp 90), type := 4, pos := "law.go:134", after := #[{ on := 2, ground := Ground.data }], guard := none }) (v := ?vb3f_4) rfl (by kernel_rfl) (by kernel_rfl) (by kernel_rfl) (fun _ _ _ h => h) (Or.inl ⟨by rfl, ?hyb3f_4⟩) (by assumption) ?restb3f_4
        case hyb3f_4 =>
          intro w hSw
          (try dsimp only at hSw)
          go_simp
          (try with_reducible rfl)
        (try simp only [Act.put, List.setIfInBounds_toArray, List.set_cons_zero, List.set_cons_succ])
        refine wpAnyH_take (i := 4) (oi := { dst := some 92, op := Op.move (Operand.tmp 12), type := 4, pos := "law.go:134", after := #[{ on := 3, ground := Ground.guard }], guard := some (3, false) }) (v := ?vb3f_5) rfl (by kernel_rfl) (by kernel_rfl) (by kernel_rfl) (fun _ _ _ h => h) (Or.inl ⟨by rfl, ?hyb3f_5⟩) (by assumption) ?restb3f_5
        case hyb3f_5 =>
          intro w hSw
          (try dsimp only at hSw)
          go_simp
          (try with_reducible rfl)
        (try simp only [Act.put, List.setIfInBounds_toArray, List.set_cons_zero, List.set_cons_succ])
        refine wpAnyH_take (i := 5) (oi := { dst := some 93, op := Op.move (Operand.tmp 92), type := 4, pos := "law.go:134", after := #[{ on := 4, ground := Ground.data }, { on := 3, ground := Ground.chain }, { on := 3, ground := Ground.guard }], guard := some (3, false) }) (v := ?vb3f_6) rfl (by kernel_rfl) (by kernel_rfl) (by kernel_rfl) (fun _ _ _ h => h) (Or.inl ⟨by rfl, ?hyb3f_6⟩) (by assumption) ?restb3f_6
        case hyb3f_6 =>
          intro w hSw
          (try dsimp only at hSw)
          go_simp
          (try with_reducible rfl)
        (try simp only [Act.put, List.setIfInBounds_toArray, List.set_cons_zero, List.set_cons_succ])
        refine wpAnyH_take (i := 6) (oi := { dst := some 94, op := Op.load 36 (Operand.tmp 11), type := 36, pos := "law.go:134", after := #[{ on := 5, ground := Ground.guard }], guard := some (5, true) }) (v := ?vb3f_7) rfl (by kernel_rfl) (by kernel_rfl) (by kernel_rfl) (fun _ _ _ h => h) (Or.inl ⟨by rfl, ?hyb3f_7⟩) (by assumption) ?restb3f_7
        case hyb3f_7 =>
          intro w hSw
          (try dsimp only at hSw)
          go_simp
          (try with_reducible rfl)
        (try simp only [Act.put, List.setIfInBounds_toArray, List.set_cons_zero, List.set_cons_succ])
        refine wpAnyH_take (i := 7) (oi := { dst := some 95, op := Op.move (Operand.tmp 2), type := 27, pos := "law.go:134", after := #[{ on := 5, ground := Ground.guard }], guard := some (5, true) }) (v := ?vb3f_8) rfl (by kernel_rfl) (by kernel_rfl) (by kernel_rfl) (fun _ _ _ h => h) (Or.inl ⟨by rfl, ?hyb3f_8⟩) (by assumption) ?restb3f_8
        case hyb3f_8 =>
          intro w hSw
          (try dsimp only at hSw)
          go_simp
          (try with_reducible rfl)
        (try simp only [Act.put, List.setIfInBounds_toArray, List.set_cons_zero, List.set_cons_succ])
        refine wpAnyH_take (i := 8) (oi := { dst := some 96, op := Op.move (Operand.tmp 9), type := 3, pos := "law.go:134", after := #[{ on := 5, ground := Ground.guard }], guard := some (5, true) }) (v := ?vb3f_9) rfl (by kernel_rfl) (by kernel_rfl) (by kernel_rfl) (fun _ _ _ h => h) (Or.inl ⟨by rfl, ?hyb3f_9⟩) (by assumption) ?restb3f_9
        case hyb3f_9 =>
          intro w hSw
          (try dsimp only at hSw)
          go_simp
          (try with_reducible rfl)
        (try simp only [Act.put, List.setIfInBounds_toArray, List.set_cons_zero, List.set_cons_succ])
        refine wpAnyH_take (i := 9) (oi := { dst := some 97, op := Op.indexAddr 27 (Operand.tmp 95) (Operand.tmp 96), type := 0, pos := "law.go:134", after := #[{ on := 7, ground := Ground.data }, { on := 8, ground := Ground.data }, { on := 5, ground := Ground.guard }], guard := some (5, true) }) (v := ?vb3f_10) rfl (by kernel_rfl) (by kernel_rfl) (by kernel_rfl) (fun _ _ _ h => h) (Or.inl ⟨by rfl, ?hyb3f_10⟩) (by assumption) ?restb3f_10
        case hyb3f_10 =>
          intro w hSw
          (try dsimp only at hSw)
          go_simp
          (try with_reducible rfl)
        (try simp only [Act.put, List.setIfInBounds_toArray, List.set_cons_zero, List.set_cons_succ])
        refine wpAnyH_take (i := 10) (oi := { dst := some 98, op := Op.load 36 (Operand.tmp 97), type := 36, pos := "law.go:134", after := #[{ on := 9, ground := Ground.data }, { on := 5, ground := Ground.guard }], guard := some (5, true) }) (v := ?vb3f_11) rfl (by kernel_rfl) (by kernel_rfl) (by kernel_rfl) (fun _ _ _ h => h) (Or.inl ⟨by rfl, ?hyb3f_11⟩) (by assumption) ?restb3f_11
        case hyb3f_11 =>
          intro w hSw
          (try dsimp only at hSw)
          go_simp
          (try with_reducible rfl)
        (try simp only [Act.put, List.setIfInBounds_toArray, List.set_cons_zero, List.set_cons_succ])
        refine wpAnyH_ready (rs := [11]) (by kernel_rfl) (by simp) ?_
        refine AllReadyH.cons (o := { dst := some 99, op := Op.call { callee := Callee.value (Operand.func 17), args := #[Operand.tmp 94, Operand.tmp 98], argTypes := #[36, 36] }, type := 4, pos := "law.go:134", after := #[{ on := 6, ground := Ground.data }, { on := 10, ground := Ground.data }, { on := 5, ground := Ground.chain }, { on := 5, ground := Ground.guard }], guard := some (5, true) }) rfl (fun K hK => ?_) AllReadyH.nil
        go_simp
        (go_at_call 17; refine (HSM.out _ hHeld.1).mono ?_; rintro e8 w8 ⟨rfl, b8⟩; have hb8 : Below U7.heap.size U7 w8 := hHeld.1.trans (b8.mono hHeld.1.size))
        go_wp2_with fail
        refine hK.out _ _ (⟨hb8, (HS2.out _ hb8).1.1, (HS2.out _ hb8).1.2.1, (HS2.out _ hb8).1.2.2.1, (HS2.out _ hb8).1.2.2.2.1, (HS2.out _ hb8).1.2.2.2.2, (HS2.out _ hb8).2⟩) (fun hHeld => ?_)
        clear hK K
        (try simp only [Act.put, List.setIfInBounds_toArray, List.set_cons_zero, List.set_cons_succ])
        refine wpAnyH_take (i := 12) (oi := { dst := some 100, op := Op.unOp UnOp.not 4 (Operand.tmp 99), type := 4, pos := "law.go:134", after := #[{ on := 11, ground := Ground.data }, { on := 5, ground := Ground.guard }], guard := some (5, true) }) (v := ?vb3f_12) rfl (by kernel_rfl) (by kernel_rfl) (by kernel_rfl) (fun _ _ _ h => h) (Or.inl ⟨by rfl, ?hyb3f_12⟩) (by assumption) ?restb3f_12
        case hyb3f_12 =>
          intro w hSw
          (try dsimp only at hSw)
          go_simp
          (try with_reducible rfl)
        (try simp only [Act.put, List.setIfInBounds_toArray, List.set_cons_zero, List.set_cons_succ])
        refine wpAnyH_take (i := 13) (oi := { dst := some 101, op := Op.pick (Operand.tmp 93) (Operand.tmp 100) (Operand.const (Value.bool false)), type := 4, pos := "law.go:134", after := #[{ on := 5, ground := Ground.data }, { on := 12, ground := Ground.data }, { on := 3, ground := Ground.guard }], guard := some (3, false) }) (v := ?vb3f_13) rfl (by kernel_rfl) (by kernel_rfl) (by kernel_rfl) (fun _ _ _ h => h) (Or.inl ⟨by rfl, ?hyb3f_13⟩) (by assumption) ?restb3f_13
        case hyb3f_13 =>
          intro w hSw
          (try dsimp only at hSw)
          go_simp
          (try with_reducible rfl)
        (try simp only [Act.put, List.setIfInBounds_toArray, List.set_cons_zero, List.set_cons_succ])
        refine wpAnyH_take (i := 14) (oi := { dst := some 102, op := Op.pick (Operand.tmp 91) (Operand.const (Value.bool true)) (Operand.tmp 101), type := 4, pos := "law.go:134", after := #[{ on := 3, ground := Ground.data }, { on := 13, ground := Ground.data }], guard := none }) (v := ?vb3f_14) rfl (by kernel_rfl) (by kernel_rfl) (by kernel_rfl) (fun _ _ _ h => h) (Or.inl ⟨by rfl, ?hyb3f_14⟩) (by assumption) ?restb3f_14
        case hyb3f_14 =>
          intro w hSw
          (try dsimp only at hSw)
          go_simp
          (try with_reducible rfl)
        (try simp only [Act.put, List.setIfInBounds_toArray, List.set_cons_zero, List.set_cons_succ])
        refine wpAnyH_take (i := 15) (oi := { dst := some 103, op := Op.move (Operand.tmp 102), type := 4, pos := "law.go:134", after := #[{ on := 14, ground := Ground.data }, { on := 11, ground := Ground.chain }], guard := none }) (v := ?vb3f_15) rfl (by kernel_rfl) (by kernel_rfl) (by kernel_rfl) (fun _ _ _ h => h) (Or.inl ⟨by rfl, ?hyb3f_15⟩) (by assumption) ?restb3f_15
        case hyb3f_15 =>
          intro w hSw
          (try dsimp only at hSw)
          go_simp
          (try with_reducible rfl)
        (try simp only [Act.put, List.setIfInBounds_toArray, List.set_cons_zero, List.set_cons_succ])
        refine wpAnyH_take (i := 16) (oi := { dst := some 104, op := Op.move (Operand.tmp 7), type := 24, pos := "law.go:134", after := #[{ on := 15, ground := Ground.guard }], guard := some (15, false) }) (v := ?vb3f_16) rfl (by kernel_rfl) (by kernel_rfl) (by kernel_rfl) (fun _ _ _ h => h) (Or.inl ⟨by rfl, ?hyb3f_16⟩) (by assumption) ?restb3f_16
        case hyb3f_16 =>
          intro w hSw
          (try dsimp only at hSw)
          go_simp
          (try with_reducible rfl)
        (try simp only [Act.put, List.setIfInBounds_toArray, List.set_cons_zero, List.set_cons_succ])
        refine wpAnyH_ready (rs := [17]) (by kernel_rfl) (by simp) ?_
        refine AllReadyH.cons (o := { dst := some 105, op := Op.call { callee := Callee.value (Operand.func 13), args := #[Operand.tmp 104], argTypes := #[24] }, type := 3, pos := "law.go:134", after := #[{ on := 16, ground := Ground.data }, { on := 15, ground := Ground.chain }, { on := 15, ground := Ground.guard }], guard := some (15, false) }) rfl (fun K hK => ?_) AllReadyH.nil
        go_simp
        (go_at_call 13; refine (HLN.out _ hHeld.1).mono ?_; rintro e9 w9 ⟨rfl, rfl⟩)
        go_wp2_with fail
        refine hK.out _ _ hHeld (fun hHeld => ?_)
        clear hK K
        (try simp only [Act.put, List.setIfInBounds_toArray, List.set_cons_zero, List.set_cons_succ])
        refine wpAnyH_take (i := 18) (oi := { dst := some 106, op := Op.binOp BinOp.neq 3 (Operand.tmp 105) (Operand.const (Value.int IntKind.i64 0)) 3, type := 4, pos := "law.go:134", after := #[{ on := 17, ground := Ground.data }, { on := 15, ground := Ground.guard }], guard := some (15, false) }) (v := ?vb3f_17) rfl (by kernel_rfl) (by kernel_rfl) (by kernel_rfl) (fun _ _ _ h => h) (Or.inl ⟨by rfl, ?hyb3f_17⟩) (by assumption) ?restb3f_17
        case hyb3f_17 =>
          intro w hSw
          (try dsimp only at hSw)
          go_simp
          (try with_reducible rfl)
        (try simp only [Act.put, List.setIfInBounds_toArray, List.set_cons_zero, List.set_cons_succ])
        refine wpAnyH_take (i := 19) (oi := { dst := some 107, op := Op.pick (Operand.tmp 103) (Operand.const (Value.bool true)) (Operand.tmp 106), type := 4, pos := "law.go:134", after := #[{ on := 15, ground := Ground.data }, { on := 18, ground := Ground.data }], guard := none }) (v := ?vb3f_18) rfl (by kernel_rfl) (by kernel_rfl) (by kernel_rfl) (fun _ _ _ h => h) (Or.inl ⟨by rfl, ?hyb3f_18⟩) (by assumption) ?restb3f_18
        case hyb3f_18 =>
          intro w hSw
          (try dsimp only at hSw)
          go_simp
          (try with_reducible rfl)
        (try simp only [Act.put, List.setIfInBounds_toArray, List.set_cons_zero, List.set_cons_succ])
        refine wpAnyH_done (by kernel_rfl) ?_ _
        have HN : Hid (∃ s t, Sit w nb [] s t (x : Int) C m2 F7 w9 ∧ Two w F7 pa (pa + 1) (a1, a2) (b1, b2) w9) := Lib.hid ⟨_, _, HS7.out.1.below hb8, HS7.out.2.below hb8⟩
        go_wp2_with fail
        go_roundw
        case rel => exact ⟨k + 1, x, F7, by omega, by omega, rfl, rfl, HN⟩
        case measure => simp only [intOf]; omega
      · go_wp2_with fail
        refine wp_region_held_drew (S := (fun V => V.cell? ⟨pa, 0, none⟩ = some (.int .i64 a1) ∧ V.cell? ⟨pa, 1, none⟩ = some (.int .i64 a2) ∧ V.cell? ⟨pa + 1, 0, none⟩ = some (.int .i64 b1) ∧ V.cell? ⟨pa + 1, 1, none⟩ = some (.int .i64 b2) ∧ V.cell? ⟨pb, po + k * 5, none⟩ = some (.int .i64 f1) ∧ V.cell? ⟨pb, po + k * 5 + 1, none⟩ = some (.int .i64 f2) ∧ V.cell? ⟨pb, po + k * 5 + 2, none⟩ = some (.int .i64 t1) ∧ V.cell? ⟨pb, po + k * 5 + 3, none⟩ = some (.int .i64 t2))) (by kernel_rfl) (by first | exact HSS.out _ (Below.refl _ _).drew | exact HSS.out _ (Below.refl _ _)) (fun hHeld => ?_)
        refine wpAnyH_take (i := 0) (oi := { dst := some 44, op := Op.load 33 (Operand.tmp 3), type := 33, pos := "law.go:132", after := #[], guard := none }) (v := ?va4_1) rfl (by kernel_rfl) (by kernel_rfl) (by kernel_rfl) (fun _ _ _ h => h) (Or.inl ⟨by rfl, ?hya4_1⟩) (by assumption) ?resta4_1
        case hya4_1 =>
          intro w hSw
          (try dsimp only at hSw)
          go_simp
          (try with_reducible rfl)
        (try simp only [Act.put, List.setIfInBounds_toArray, List.set_cons_zero, List.set_cons_succ])
        refine wpAnyH_take (i := 1) (oi := { dst := some 45, op := Op.load 33 (Operand.tmp 4), type := 33, pos := "law.go:132", after := #[], guard := none }) (v := ?va4_2) rfl (by kernel_rfl) (by kernel_rfl) (by kernel_rfl) (fun _ _ _ h => h) (Or.inl ⟨by rfl, ?hya4_2⟩) (by assumption) ?resta4_2
        case hya4_2 =>
          intro w hSw
          (try dsimp only at hSw)
          go_simp
          (try with_reducible rfl)
        (try simp only [Act.put, List.setIfInBounds_toArray, List.set_cons_zero, List.set_cons_succ])
        refine wpAnyH_take (i := 2) (oi := { dst := some 46, op := Op.binOp BinOp.neq 33 (Operand.tmp 44) (Operand.tmp 45) 33, type := 4, pos := "law.go:132", after := #[{ on := 0, ground := Ground.data }, { on := 1, ground := Ground.data }], guard := none }) (v := ?va4_3) rfl (by kernel_rfl) (by kernel_rfl) (by kernel_rfl) (fun _ _ _ h => h) (Or.inl ⟨by rfl, ?hya4_3⟩) (by assumption) ?resta4_3
        case hya4_3 =>
          intro w hSw
          (try dsimp only at hSw)
          go_simp
          (try with_reducible rfl)
        (try simp only [Act.put, List.setIfInBounds_toArray, List.set_cons_zero, List.set_cons_succ])
        refine wpAnyH_take (i := 3) (oi := { dst := some 47, op := Op.move (Operand.tmp 46), type := 4, pos := "law.go:132", after := #[{ on := 2, ground := Ground.data }], guard := none }) (v := ?va4_4) rfl (by kernel_rfl) (by kernel_rfl) (by kernel_rfl) (fun _ _ _ h => h) (Or.inl ⟨by rfl, ?hya4_4⟩) (by assumption) ?resta4_4
        case hya4_4 =>
          intro w hSw
          (try dsimp only at hSw)
          go_simp
          (try with_reducible rfl)
        (try simp only [Act.put, List.setIfInBounds_toArray, List.set_cons_zero, List.set_cons_succ])
        refine wpAnyH_take (i := 4) (oi := { dst := some 48, op := Op.move (Operand.tmp 2), type := 27, pos := "law.go:132", after := #[{ on := 3, ground := Ground.guard }], guard := some (3, true) }) (v := ?va4_5) rfl (by kernel_rfl) (by kernel_rfl) (by kernel_rfl) (fun _ _ _ h => h) (Or.inl ⟨by rfl, ?hya4_5⟩) (by assumption) ?resta4_5
        case hya4_5 =>
          intro w hSw
          (try dsimp only at hSw)
          go_simp
          (try with_reducible rfl)
        (try simp only [Act.put, List.setIfInBounds_toArray, List.set_cons_zero, List.set_cons_succ])
        refine wpAnyH_take (i := 5) (oi := { dst := some 49, op := Op.move (Operand.tmp 9), type := 3, pos := "law.go:132", after := #[{ on := 3, ground := Ground.guard }], guard := some (3, true) }) (v := ?va4_6) rfl (by kernel_rfl) (by kernel_rfl) (by kernel_rfl) (fun _ _ _ h => h) (Or.inl ⟨by rfl, ?hya4_6⟩) (by assumption) ?resta4_6
        case hya4_6 =>
          intro w hSw
          (try dsimp only at hSw)
          go_simp
          (try with_reducible rfl)
        (try simp only [Act.put, List.setIfInBounds_toArray, List.set_cons_zero, List.set_cons_succ])
        refine wpAnyH_take (i := 6) (oi := { dst := some 50, op := Op.indexAddr 27 (Operand.tmp 48) (Operand.tmp 49), type := 0, pos := "law.go:132", after := #[{ on := 4, ground := Ground.data }, { on := 5, ground := Ground.data }, { on := 3, ground := Ground.guard }], guard := some (3, true) }) (v := ?va4_7) rfl (by kernel_rfl) (by kernel_rfl) (by kernel_rfl) (fun _ _ _ h => h) (Or.inl ⟨by rfl, ?hya4_7⟩) (by assumption) ?resta4_7
        case hya4_7 =>
          intro w hSw
          (try dsimp only at hSw)
          go_simp
          (try with_reducible rfl)
        (try simp only [Act.put, List.setIfInBounds_toArray, List.set_cons_zero, List.set_cons_succ])
        refine wpAnyH_take (i := 7) (oi := { dst := some 51, op := Op.fieldAddr 36 (Operand.tmp 50) 0, type := 0, pos := "law.go:132", after := #[{ on := 6, ground := Ground.data }, { on := 3, ground := Ground.guard }], guard := some (3, true) }) (v := ?va4_8) rfl (by kernel_rfl) (by kernel_rfl) (by kernel_rfl) (fun _ _ _ h => h) (Or.inl ⟨by rfl, ?hya4_8⟩) (by assumption) ?resta4_8
        case hya4_8 =>
          intro w hSw
          (try dsimp only at hSw)
          go_simp
          (try with_reducible rfl)
        (try simp only [Act.put, List.setIfInBounds_toArray, List.set_cons_zero, List.set_cons_succ])
        refine wpAnyH_take (i := 8) (oi := { dst := some 52, op := Op.load 33 (Operand.tmp 51), type := 33, pos := "law.go:132", after := #[{ on := 7, ground := Ground.data }, { on := 3, ground := Ground.guard }], guard := some (3, true) }) (v := ?va4_9) rfl (by kernel_rfl) (by kernel_rfl) (by kernel_rfl) (fun _ _ _ h => h) (Or.inl ⟨by rfl, ?hya4_9⟩) (by assumption) ?resta4_9
        case hya4_9 =>
          intro w hSw
          (try dsimp only at hSw)
          go_simp
          (try with_reducible rfl)
        (try simp only [Act.put, List.setIfInBounds_toArray, List.set_cons_zero, List.set_cons_succ])
        refine wpAnyH_take (i := 9) (oi := { dst := some 53, op := Op.load 33 (Operand.tmp 3), type := 33, pos := "law.go:132", after := #[{ on := 3, ground := Ground.guard }], guard := some (3, true) }) (v := ?va4_10) rfl (by kernel_rfl) (by kernel_rfl) (by kernel_rfl) (fun _ _ _ h => h) (Or.inl ⟨by rfl, ?hya4_10⟩) (by assumption) ?resta4_10
        case hya4_10 =>
          intro w hSw
          (try dsimp only at hSw)
          go_simp
          (try with_reducible rfl)
        (try simp only [Act.put, List.setIfInBounds_toArray, List.set_cons_zero, List.set_cons_succ])
        refine wpAnyH_take (i := 10) (oi := { dst := some 54, op := Op.binOp BinOp.eql 33 (Operand.tmp 52) (Operand.tmp 53) 33, type := 4, pos := "law.go:132", after := #[{ on := 8, ground := Ground.data }, { on := 9, ground := Ground.data }, { on := 3, ground := Ground.guard }], guard := some (3, true) }) (v := ?va4_11) rfl (by kernel_rfl) (by kernel_rfl) (by kernel_rfl) (fun _ _ _ h => h) (Or.inl ⟨by rfl, ?hya4_11⟩) (by assumption) ?resta4_11
        case hya4_11 =>
          intro w hSw
          (try dsimp only at hSw)
          go_simp
          (try with_reducible rfl)
        (try simp only [Act.put, List.setIfInBounds_toArray, List.set_cons_zero, List.set_cons_succ])
        refine wpAnyH_take (i := 11) (oi := { dst := some 55, op := Op.move (Operand.tmp 54), type := 4, pos := "law.go:132", after := #[{ on := 10, ground := Ground.data }, { on := 3, ground := Ground.chain }, { on := 3, ground := Ground.guard }], guard := some (3, true) }) (v := ?va4_12) rfl (by kernel_rfl) (by kernel_rfl) (by kernel_rfl) (fun _ _ _ h => h) (Or.inl ⟨by rfl, ?hya4_12⟩) (by assumption) ?resta4_12
        case hya4_12 =>
          intro w hSw
          (try dsimp only at hSw)
          go_simp
          (try with_reducible rfl)
        (try simp only [Act.put, List.setIfInBounds_toArray, List.set_cons_zero, List.set_cons_succ])
        refine wpAnyH_take (i := 12) (oi := { dst := some 56, op := Op.move (Operand.tmp 2), type := 27, pos := "law.go:132", after := #[{ on := 11, ground := Ground.guard }], guard := some (11, true) }) (v := undef) rfl (by kernel_rfl) (by kernel_rfl) (by kernel_rfl) (fun _ _ _ h => h) (Or.inr ⟨by rfl, rfl⟩) (by assumption) ?_
        (try simp only [Act.put, List.setIfInBounds_toArray, List.set_cons_zero, List.set_cons_succ])
        refine wpAnyH_take (i := 13) (oi := { dst := some 57, op := Op.move (Operand.tmp 9), type := 3, pos := "law.go:132", after := #[{ on := 11, ground := Ground.guard }], guard := some (11, true) }) (v := undef) rfl (by kernel_rfl) (by kernel_rfl) (by kernel_rfl) (fun _ _ _ h => h) (Or.inr ⟨by rfl, rfl⟩) (by assumption) ?_
        (try simp only [Act.put, List.setIfInBounds_toArray, List.set_cons_zero, List.set_cons_succ])
        refine wpAnyH_take (i := 14) (oi := { dst := some 58, op := Op.indexAddr 27 (Operand.tmp 56) (Operand.tmp 57), type := 0, pos := "law.go:132", after := #[{ on := 12, ground := Ground.data }, { on := 13, ground := Ground.data }, { on := 11, ground := Ground.guard }], guard := some (11, true) }) (v := undef) rfl (by kernel_rfl) (by kernel_rfl) (by kernel_rfl) (fun _ _ _ h => h) (Or.inr ⟨by rfl, rfl⟩) (by assumption) ?_
        (try simp only [Act.put, List.setIfInBounds_toArray, List.set_cons_zero, List.set_cons_succ])
        refine wpAnyH_take (i := 15) (oi := { dst := some 59, op := Op.fieldAddr 36 (Operand.tmp 58) 1, type := 0, pos := "law.go:132", after := #[{ on := 14, ground := Ground.data }, { on := 11, ground := Ground.guard }], guard := some (11, true) }) (v := undef) rfl (by kernel_rfl) (by kernel_rfl) (by kernel_rfl) (fun _ _ _ h => h) (Or.inr ⟨by rfl, rfl⟩) (by assumption) ?_
        (try simp only [Act.put, List.setIfInBounds_toArray, List.set_cons_zero, List.set_cons_succ])
        refine wpAnyH_take (i := 16) (oi := { dst := some 60, op := Op.load 33 (Operand.tmp 59), type := 33, pos := "law.go:132", after := #[{ on := 15, ground := Ground.data }, { on := 11, ground := Ground.guard }], guard := some (11, true) }) (v := undef) rfl (by kernel_rfl) (by kernel_rfl) (by kernel_rfl) (fun _ _ _ h => h) (Or.inr ⟨by rfl, rfl⟩) (by assumption) ?_
        (try simp only [Act.put, List.setIfInBounds_toArray, List.set_cons_zero, List.set_cons_succ])
        refine wpAnyH_take (i := 17) (oi := { dst := some 61, op := Op.load 33 (Operand.tmp 4), type := 33, pos := "law.go:132", after := #[{ on := 11, ground := Ground.guard }], guard := some (11, true) }) (v := undef) rfl (by kernel_rfl) (by kernel_rfl) (by kernel_rfl) (fun _ _ _ h => h) (Or.inr ⟨by rfl, rfl⟩) (by assumption) ?_
        (try simp only [Act.put, List.setIfInBounds_toArray, List.set_cons_zero, List.set_cons_succ])
        refine wpAnyH_take (i := 18) (oi := { dst := some 62, op := Op.binOp BinOp.eql 33 (Operand.tmp 60) (Operand.tmp 61) 33, type := 4, pos := "law.go:132", after := #[{ on := 16, ground := Ground.data }, { on := 17, ground := Ground.data }, { on := 11, ground := Ground.guard }], guard := some (11, true) }) (v := undef) rfl (by kernel_rfl) (by kernel_rfl) (by kernel_rfl) (fun _ _ _ h => h) (Or.inr ⟨by rfl, rfl⟩) (by assumption) ?_
        (try simp only [Act.put, List.setIfInBounds_toArray, List.set_cons_zero, List.set_cons_succ])
        refine wpAnyH_take (i := 19) (oi := { dst := some 63, op := Op.pick (Operand.tmp 55) (Operand.tmp 62) (Operand.const (Value.bool false)), type := 4, pos := "law.go:132", after := #[{ on := 11, ground := Ground.data }, { on := 18, ground := Ground.data }, { on := 3, ground := Ground.guard }], guard := some (3, true) }) (v := ?va4_20) rfl (by kernel_rfl) (by kernel_rfl) (by kernel_rfl) (fun _ _ _ h => h) (Or.inl ⟨by rfl, ?hya4_20⟩) (by assumption) ?resta4_20
        case hya4_20 =>
          intro w hSw
          (try dsimp only at hSw)
          go_simp
          (try with_reducible rfl)
        (try simp only [Act.put, List.setIfInBounds_toArray, List.set_cons_zero, List.set_cons_succ])
        refine wpAnyH_take (i := 20) (oi := { dst := some 64, op := Op.move (Operand.tmp 63), type := 4, pos := "law.go:132", after := #[{ on := 19, ground := Ground.data }, { on := 11, ground := Ground.chain }, { on := 3, ground := Ground.guard }], guard := some (3, true) }) (v := ?va4_21) rfl (by kernel_rfl) (by kernel_rfl) (by kernel_rfl) (fun _ _ _ h => h) (Or.inl ⟨by rfl, ?hya4_21⟩) (by assumption) ?resta4_21
        case hya4_21 =>
          intro w hSw
          (try dsimp only at hSw)
          go_simp
          (try with_reducible rfl)
        (try simp only [Act.put, List.setIfInBounds_toArray, List.set_cons_zero, List.set_cons_succ])
        refine wpAnyH_take (i := 21) (oi := { dst := some 65, op := Op.move (Operand.tmp 2), type := 27, pos := "law.go:132", after := #[{ on := 20, ground := Ground.guard }], guard := some (20, false) }) (v := ?va4_22) rfl (by kernel_rfl) (by kernel_rfl) (by kernel_rfl) (fun _ _ _ h => h) (Or.inl ⟨by rfl, ?hya4_22⟩) (by assumption) ?resta4_22
        case hya4_22 =>
          intro w hSw
          (try dsimp only at hSw)
          go_simp
          (try with_reducible rfl)
        (try simp only [Act.put, List.setIfInBounds_toArray, List.set_cons_zero, List.set_cons_succ])
        refine wpAnyH_take (i := 22) (oi := { dst := some 66, op := Op.move (Operand.tmp 9), type := 3, pos := "law.go:132", after := #[{ on := 20, ground := Ground.guard }], guard := some (20, false) }) (v := ?va4_23) rfl (by kernel_rfl) (by kernel_rfl) (by kernel_rfl) (fun _ _ _ h => h) (Or.inl ⟨by rfl, ?hya4_23⟩) (by assumption) ?resta4_23
        case hya4_23 =>
          intro w hSw
          (try dsimp only at hSw)
          go_simp
          (try with_reducible rfl)
        (try simp only [Act.put, List.setIfInBounds_toArray, List.set_cons_zero, List.set_cons_succ])
        refine wpAnyH_take (i := 23) (oi := { dst := some 67, op := Op.indexAddr 27 (Operand.tmp 65) (Operand.tmp 66), type := 0, pos := "law.go:132", after := #[{ on := 21, ground := Ground.data }, { on := 22, ground := Ground.data }, { on := 20, ground := Ground.guard }], guard := some (20, false) }) (v := ?va4_24) rfl (by kernel_rfl) (by kernel_rfl) (by kernel_rfl) (fun _ _ _ h => h) (Or.inl ⟨by rfl, ?hya4_24⟩) (by assumption) ?resta4_24
        case hya4_24 =>
          intro w hSw
          (try dsimp only at hSw)
          go_simp
          (try with_reducible rfl)
        (try simp only [Act.put, List.setIfInBounds_toArray, List.set_cons_zero, List.set_cons_succ])
        refine wpAnyH_take (i := 24) (oi := { dst := some 68, op := Op.fieldAddr 36 (Operand.tmp 67) 0, type := 0, pos := "law.go:132", after := #[{ on := 23, ground := Ground.data }, { on := 20, ground := Ground.guard }], guard := some (20, false) }) (v := ?va4_25) rfl (by kernel_rfl) (by kernel_rfl) (by kernel_rfl) (fun _ _ _ h => h) (Or.inl ⟨by rfl, ?hya4_25⟩) (by assumption) ?resta4_25
        case hya4_25 =>
          intro w hSw
          (try dsimp only at hSw)
          go_simp
          (try with_reducible rfl)
        (try simp only [Act.put, List.setIfInBounds_toArray, List.set_cons_zero, List.set_cons_succ])
        refine wpAnyH_take (i := 25) (oi := { dst := some 69, op := Op.load 33 (Operand.tmp 68), type := 33, pos := "law.go:132", after := #[{ on := 24, ground := Ground.data }, { on := 20, ground := Ground.guard }], guard := some (20, false) }) (v := ?va4_26) rfl (by kernel_rfl) (by kernel_rfl) (by kernel_rfl) (fun _ _ _ h => h) (Or.inl ⟨by rfl, ?hya4_26⟩) (by assumption) ?resta4_26
        case hya4_26 =>
          intro w hSw
          (try dsimp only at hSw)
          go_simp
          (try with_reducible rfl)
        (try simp only [Act.put, List.setIfInBounds_toArray, List.set_cons_zero, List.set_cons_succ])
        refine wpAnyH_take (i := 26) (oi := { dst := some 70, op := Op.load 33 (Operand.tmp 4), type := 33, pos := "law.go:132", after := #[{ on := 20, ground := Ground.guard }], guard := some (20, false) }) (v := ?va4_27) rfl (by kernel_rfl) (by kernel_rfl) (by kernel_rfl) (fun _ _ _ h => h) (Or.inl ⟨by rfl, ?hya4_27⟩) (by assumption) ?resta4_27
        case hya4_27 =>
          intro w hSw
          (try dsimp only at hSw)
          go_simp
          (try with_reducible rfl)
        (try simp only [Act.put, List.setIfInBounds_toArray, List.set_cons_zero, List.set_cons_succ])
        refine wpAnyH_take (i := 27) (oi := { dst := some 71, op := Op.binOp BinOp.eql 33 (Operand.tmp 69) (Operand.tmp 70) 33, type := 4, pos := "law.go:132", after := #[{ on := 25, ground := Ground.data }, { on := 26, ground := Ground.data }, { on := 20, ground := Ground.guard }], guard := some (20, false) }) (v := ?va4_28) rfl (by kernel_rfl) (by kernel_rfl) (by kernel_rfl) (fun _ _ _ h => h) (Or.inl ⟨by rfl, ?hya4_28⟩) (by assumption) ?resta4_28
        case hya4_28 =>
          intro w hSw
          (try dsimp only at hSw)
          go_simp
          (try with_reducible rfl)
        (try simp only [Act.put, List.setIfInBounds_toArray, List.set_cons_zero, List.set_cons_succ])
        refine wpAnyH_take (i := 28) (oi := { dst := some 72, op := Op.move (Operand.tmp 71), type := 4, pos := "law.go:132", after := #[{ on := 27, ground := Ground.data }, { on := 20, ground := Ground.chain }, { on := 20, ground := Ground.guard }], guard := some (20, false) }) (v := ?va4_29) rfl (by kernel_rfl) (by kernel_rfl) (by kernel_rfl) (fun _ _ _ h => h) (Or.inl ⟨by rfl, ?hya4_29⟩) (by assumption) ?resta4_29
        case hya4_29 =>
          intro w hSw
          (try dsimp only at hSw)
          go_simp
          (try with_reducible rfl)
        (try simp only [Act.put, List.setIfInBounds_toArray, List.set_cons_zero, List.set_cons_succ])
        refine wpAnyH_take (i := 29) (oi := { dst := some 73, op := Op.move (Operand.tmp 2), type := 27, pos := "law.go:132", after := #[{ on := 28, ground := Ground.guard }], guard := some (28, true) }) (v := ?va4_30) rfl (by kernel_rfl) (by kernel_rfl) (by kernel_rfl) (fun _ _ _ h => h) (Or.inl ⟨by rfl, ?hya4_30⟩) (by assumption) ?resta4_30
        case hya4_30 =>
          intro w hSw
          (try dsimp only at hSw)
          go_simp
          (try with_reducible rfl)
        (try simp only [Act.put, List.setIfInBounds_toArray, List.set_cons_zero, List.set_cons_succ])
        refine wpAnyH_take (i := 30) (oi := { dst := some 74, op := Op.move (Operand.tmp 9), type := 3, pos := "law.go:132", after := #[{ on := 28, ground := Ground.guard }], guard := some (28, true) }) (v := ?va4_31) rfl (by kernel_rfl) (by kernel_rfl) (by kernel_rfl) (fun _ _ _ h => h) (Or.inl ⟨by rfl, ?hya4_31⟩) (by assumption) ?resta4_31
        case hya4_31 =>
          intro w hSw
          (try dsimp only at hSw)
          go_simp
          (try with_reducible rfl)
        (try simp only [Act.put, List.setIfInBounds_toArray, List.set_cons_zero, List.set_cons_succ])
        refine wpAnyH_take (i := 31) (oi := { dst := some 75, op := Op.indexAddr 27 (Operand.tmp 73) (Operand.tmp 74), type := 0, pos := "law.go:132", after := #[{ on := 29, ground := Ground.data }, { on := 30, ground := Ground.data }, { on := 28, ground := Ground.guard }], guard := some (28, true) }) (v := ?va4_32) rfl (by kernel_rfl) (by kernel_rfl) (by kernel_rfl) (fun _ _ _ h => h) (Or.inl ⟨by rfl, ?hya4_32⟩) (by assumption) ?resta4_32
        case hya4_32 =>
          intro w hSw
          (try dsimp only at hSw)
          go_simp
          (try with_reducible rfl)
        (try simp only [Act.put, List.setIfInBounds_toArray, List.set_cons_zero, List.set_cons_succ])
        refine wpAnyH_take (i := 32) (oi := { dst := some 76, op := Op.fieldAddr 36 (Operand.tmp 75) 1, type := 0, pos := "law.go:132", after := #[{ on := 31, ground := Ground.data }, { on := 28, ground := Ground.guard }], guard := some (28, true) }) (v := ?va4_33) rfl (by kernel_rfl) (by kernel_rfl) (by kernel_rfl) (fun _ _ _ h => h) (Or.inl ⟨by rfl, ?hya4_33⟩) (by assumption) ?resta4_33
        case hya4_33 =>
          intro w hSw
          (try dsimp only at hSw)
          go_simp
          (try with_reducible rfl)
        (try simp only [Act.put, List.setIfInBounds_toArray, List.set_cons_zero, List.set_cons_succ])
        refine wpAnyH_take (i := 33) (oi := { dst := some 77, op := Op.load 33 (Operand.tmp 76), type := 33, pos := "law.go:132", after := #[{ on := 32, ground := Ground.data }, { on := 28, ground := Ground.guard }], guard := some (28, true) }) (v := ?va4_34) rfl (by kernel_rfl) (by kernel_rfl) (by kernel_rfl) (fun _ _ _ h => h) (Or.inl ⟨by rfl, ?hya4_34⟩) (by assumption) ?resta4_34
        case hya4_34 =>
          intro w hSw
          (try dsimp only at hSw)
          go_simp
          (try with_reducible rfl)
        (try simp only [Act.put, List.setIfInBounds_toArray, List.set_cons_zero, List.set_cons_succ])
        refine wpAnyH_take (i := 34) (oi := { dst := some 78, op := Op.load 33 (Operand.tmp 3), type := 33, pos := "law.go:132", after := #[{ on := 28, ground := Ground.guard }], guard := some (28, true) }) (v := ?va4_35) rfl (by kernel_rfl) (by kernel_rfl) (by kernel_rfl) (fun _ _ _ h => h) (Or.inl ⟨by rfl, ?hya4_35⟩) (by assumption) ?resta4_35
        case hya4_35 =>
          intro w hSw
          (try dsimp only at hSw)
          go_simp
          (try with_reducible rfl)
        (try simp only [Act.put, List.setIfInBounds_toArray, List.set_cons_zero, List.set_cons_succ])
        refine wpAnyH_take (i := 35) (oi := { dst := some 79, op := Op.binOp BinOp.eql 33 (Operand.tmp 77) (Operand.tmp 78) 33, type := 4, pos := "law.go:132", after := #[{ on := 33, ground := Ground.data }, { on := 34, ground := Ground.data }, { on := 28, ground := Ground.guard }], guard := some (28, true) }) (v := ?va4_36) rfl (by kernel_rfl) (by kernel_rfl) (by kernel_rfl) (fun _ _ _ h => h) (Or.inl ⟨by rfl, ?hya4_36⟩) (by assumption) ?resta4_36
        case hya4_36 =>
          intro w hSw
          (try dsimp only at hSw)
          go_simp
          (try with_reducible rfl)
        (try simp only [Act.put, List.setIfInBounds_toArray, List.set_cons_zero, List.set_cons_succ])
        refine wpAnyH_take (i := 36) (oi := { dst := some 80, op := Op.pick (Operand.tmp 72) (Operand.tmp 79) (Operand.const (Value.bool false)), type := 4, pos := "law.go:132", after := #[{ on := 28, ground := Ground.data }, { on := 35, ground := Ground.data }, { on := 20, ground := Ground.guard }], guard := some (20, false) }) (v := ?va4_37) rfl (by kernel_rfl) (by kernel_rfl) (by kernel_rfl) (fun _ _ _ h => h) (Or.inl ⟨by rfl, ?hya4_37⟩) (by assumption) ?resta4_37
        case hya4_37 =>
          intro w hSw
          (try dsimp only at hSw)
          go_simp
          (try with_reducible rfl)
        (try simp only [Act.put, List.setIfInBounds_toArray, List.set_cons_zero, List.set_cons_succ])
        refine wpAnyH_take (i := 37) (oi := { dst := some 81, op := Op.pick (Operand.tmp 64) (Operand.const (Value.bool true)) (Operand.tmp 80), type := 4, pos := "law.go:132", after := #[{ on := 20, ground := Ground.data }, { on := 36, ground := Ground.data }, { on := 3, ground := Ground.guard }], guard := some (3, true) }) (v := ?va4_38) rfl (by kernel_rfl) (by kernel_rfl) (by kernel_rfl) (fun _ _ _ h => h) (Or.inl ⟨by rfl, ?hya4_38⟩) (by assumption) ?resta4_38
        case hya4_38 =>
          intro w hSw
          (try dsimp only at hSw)
          go_simp
          (try with_reducible rfl)
        (try simp only [Act.put, List.setIfInBounds_toArray, List.set_cons_zero, List.set_cons_succ])
        refine wpAnyH_take (i := 38) (oi := { dst := some 82, op := Op.pick (Operand.tmp 47) (Operand.tmp 81) (Operand.const (Value.bool false)), type := 4, pos := "law.go:132", after := #[{ on := 3, ground := Ground.data }, { on := 37, ground := Ground.data }], guard := none }) (v := ?va4_39) rfl (by kernel_rfl) (by kernel_rfl) (by kernel_rfl) (fun _ _ _ h => h) (Or.inl ⟨by rfl, ?hya4_39⟩) (by assumption) ?resta4_39
        case hya4_39 =>
          intro w hSw
          (try dsimp only at hSw)
          go_simp
          (try with_reducible rfl)
        (try simp only [Act.put, List.setIfInBounds_toArray, List.set_cons_zero, List.set_cons_succ])
        refine wpAnyH_take (i := 39) (oi := { dst := some 10, op := Op.assign (Operand.tmp 82), type := 4, pos := "law.go:132", after := #[{ on := 38, ground := Ground.data }, { on := 28, ground := Ground.chain }, { on := 0, ground := Ground.phase }, { on := 1, ground := Ground.phase }, { on := 2, ground := Ground.phase }, { on := 3, ground := Ground.phase }, { on := 4, ground := Ground.phase }, { on := 5, ground := Ground.phase }, { on := 6, ground := Ground.phase }, { on := 7, ground := Ground.phase }, { on := 8, ground := Ground.phase }, { on := 9, ground := Ground.phase }, { on := 10, ground := Ground.phase }, { on := 11, ground := Ground.phase }, { on := 12, ground := Ground.phase }, { on := 13, ground := Ground.phase }, { on := 14, ground := Ground.phase }, { on := 15, ground := Ground.phase }, { on := 16, ground := Ground.phase }, { on := 17, ground := Ground.phase }, { on := 18, ground := Ground.phase }, { on := 19, ground := Ground.phase }, { on := 20, ground := Ground.phase }, { on := 21, ground := Ground.phase }, { on := 22, ground := Ground.phase }, { on := 23, ground := Ground.phase }, { on := 24, ground := Ground.phase }, { on := 25, ground := Ground.phase }, { on := 26, ground := Ground.phase }, { on := 27, ground := Ground.phase }, { on := 28, ground := Ground.phase }, { on := 29, ground := Ground.phase }, { on := 30, ground := Ground.phase }, { on := 31, ground := Ground.phase }, { on := 32, ground := Ground.phase }, { on := 33, ground := Ground.phase }, { on := 34, ground := Ground.phase }, { on := 35, ground := Ground.phase }, { on := 36, ground := Ground.phase }, { on := 37, ground := Ground.phase }, { on := 38, ground := Ground.phase }], guard := none }) (v := ?va4_40) rfl (by kernel_rfl) (by kernel_rfl) (by kernel_rfl) (fun _ _ _ h => h) (Or.inl ⟨by rfl, ?hya4_40⟩) (by assumption) ?resta4_40
        case hya4_40 =>
          intro w hSw
          (try dsimp only at hSw)
          go_simp
          (try with_reducible rfl)
        (try simp only [Act.put, List.setIfInBounds_toArray, List.set_cons_zero, List.set_cons_succ])
        refine wpAnyH_done (by kernel_rfl) ?_ _
        have H7 := Lib.hid (take_in S3d.out.1 (i := 0) (a1 := f1) (a2 := f2) (b1 := t1) (b2 := t2) (zs := xs) rfl)
        go_wp2_with fail
        refine H7.out.mono ?_
        rintro e7 w7 (⟨_, he7, F7, hN7, hS7⟩ | ⟨hc, _⟩)
        rotate_left
        · exact absurd (HAP.out.symm.trans hc) (by decide)
        rw [show (zc : Array Value) = #[.int .i64 0, .int .i64 0, .int .i64 0, .int .i64 0, .slice none 0 0] from rfl] at he7
        subst he7
        obtain ⟨U7, hU7⟩ : ∃ U, w7.alloc (.cells #[.int .i64 0, .int .i64 0, .int .i64 0, .int .i64 0, .slice none 0 0] 36) = U := ⟨_, rfl⟩
        have hb7 : Below w7.heap.size w7 U7 := by rw [← hU7]; exact (Below.refl _ w7).alloc (Nat.le_refl _) _
        have hS7' : Sit w nb [] _ _ _ C m2 F7 U7 := (S3d.out.step hN7 hS7).below hb7
        have hT7' := (T3d.out.step hS7).below hb7
        have HU7 := Lib.hid hU7
        have HS7 := Lib.hid (And.intro hS7' hT7')
        have HLN : Hid (∀ V, Below U7.heap.size U7 V → Calls Try.prog 13 #[hd nb] V (fun e w' => e = .returned (.int .i64 0) ∧ w' = V)) := Lib.hid fun V hV => len_any (hS7'.below hV).1 0 rfl
        have e1 : IntKind.i64.wrap ((x : Int) + 1) = ((x : Int) + 1) := Go.IntWalk.i64_in _ (by omega)
        have HE1 := Lib.hid e1
        clear hU7 hb7 hS7' hT7' hN7 hS7 H7 e1
        go_wp2_with fail
        rw [HU7.out]
        refine wp_region_held_drew (S := (fun V => Below U7.heap.size U7 V)) (by kernel_rfl) (by first | exact (Below.refl _ _).drew | exact (Below.refl _ _)) (fun hHeld => ?_)
        refine wpAnyH_take (i := 0) (oi := { dst := some 88, op := Op.move (Operand.tmp 12), type := 4, pos := "law.go:134", after := #[], guard := none }) (v := ?vb4t_1) rfl (by kernel_rfl) (by kernel_rfl) (by kernel_rfl) (fun _ _ _ h => h) (Or.inl ⟨by rfl, ?hyb4t_1⟩) (by assumption) ?restb4t_1
        case hyb4t_1 =>
          intro w hSw
          (try dsimp only at hSw)
          go_simp
          (try with_reducible rfl)
        (try simp only [Act.put, List.setIfInBounds_toArray, List.set_cons_zero, List.set_cons_succ])
        refine wpAnyH_take (i := 1) (oi := { dst := some 89, op := Op.move (Operand.tmp 10), type := 4, pos := "law.go:134", after := #[], guard := none }) (v := ?vb4t_2) rfl (by kernel_rfl) (by kernel_rfl) (by kernel_rfl) (fun _ _ _ h => h) (Or.inl ⟨by rfl, ?hyb4t_2⟩) (by assumption) ?restb4t_2
        case hyb4t_2 =>
          intro w hSw
          (try dsimp only at hSw)
          go_simp
          (try with_reducible rfl)
        (try simp only [Act.put, List.setIfInBounds_toArray, List.set_cons_zero, List.set_cons_succ])
        refine wpAnyH_take (i := 2) (oi := { dst := some 90, op := Op.binOp BinOp.eql 4 (Operand.tmp 88) (Operand.tmp 89) 4, type := 4, pos := "law.go:134", after := #[{ on := 0, ground := Ground.data }, { on := 1, ground := Ground.data }], guard := none }) (v := ?vb4t_3) rfl (by kernel_rfl) (by kernel_rfl) (by kernel_rfl) (fun _ _ _ h => h) (Or.inl ⟨by rfl, ?hyb4t_3⟩) (by assumption) ?restb4t_3
        case hyb4t_3 =>
          intro w hSw
          (try dsimp only at hSw)
          go_simp
          (try with_reducible rfl)
        (try simp only [Act.put, List.setIfInBounds_toArray, List.set_cons_zero, List.set_cons_succ])
        refine wpAnyH_take (i := 3) (oi := { dst := some 91, op := Op.move (Operand.tmp 90), type := 4, pos := "law.go:134", after := #[{ on := 2, ground := Ground.data }], guard := none }) (v := ?vb4t_4) rfl (by kernel_rfl) (by kernel_rfl) (by kernel_rfl) (fun _ _ _ h => h) (Or.inl ⟨by rfl, ?hyb4t_4⟩) (by assumption) ?restb4t_4
        case hyb4t_4 =>
          intro w hSw
          (try dsimp only at hSw)
          go_simp
          (try with_reducible rfl)
        (try simp only [Act.put, List.setIfInBounds_toArray, List.set_cons_zero, List.set_cons_succ])
        refine wpAnyH_take (i := 4) (oi := { dst := some 92, op := Op.move (Operand.tmp 12), type := 4, pos := "law.go:134", after := #[{ on := 3, ground := Ground.guard }], guard := some (3, false) }) (v := ?vb4t_5) rfl (by kernel_rfl) (by kernel_rfl) (by kernel_rfl) (fun _ _ _ h => h) (Or.inl ⟨by rfl, ?hyb4t_5⟩) (by assumption) ?restb4t_5
        case hyb4t_5 =>
          intro w hSw
          (try dsimp only at hSw)
          go_simp
          (try with_reducible rfl)
        (try simp only [Act.put, List.setIfInBounds_toArray, List.set_cons_zero, List.set_cons_succ])
        refine wpAnyH_take (i := 5) (oi := { dst := some 93, op := Op.move (Operand.tmp 92), type := 4, pos := "law.go:134", after := #[{ on := 4, ground := Ground.data }, { on := 3, ground := Ground.chain }, { on := 3, ground := Ground.guard }], guard := some (3, false) }) (v := ?vb4t_6) rfl (by kernel_rfl) (by kernel_rfl) (by kernel_rfl) (fun _ _ _ h => h) (Or.inl ⟨by rfl, ?hyb4t_6⟩) (by assumption) ?restb4t_6
        case hyb4t_6 =>
          intro w hSw
          (try dsimp only at hSw)
          go_simp
          (try with_reducible rfl)
        (try simp only [Act.put, List.setIfInBounds_toArray, List.set_cons_zero, List.set_cons_succ])
        refine wpAnyH_take (i := 6) (oi := { dst := some 94, op := Op.load 36 (Operand.tmp 11), type := 36, pos := "law.go:134", after := #[{ on := 5, ground := Ground.guard }], guard := some (5, true) }) (v := undef) rfl (by kernel_rfl) (by kernel_rfl) (by kernel_rfl) (fun _ _ _ h => h) (Or.inr ⟨by rfl, rfl⟩) (by assumption) ?_
        (try simp only [Act.put, List.setIfInBounds_toArray, List.set_cons_zero, List.set_cons_succ])
        refine wpAnyH_take (i := 7) (oi := { dst := some 95, op := Op.move (Operand.tmp 2), type := 27, pos := "law.go:134", after := #[{ on := 5, ground := Ground.guard }], guard := some (5, true) }) (v := undef) rfl (by kernel_rfl) (by kernel_rfl) (by kernel_rfl) (fun _ _ _ h => h) (Or.inr ⟨by rfl, rfl⟩) (by assumption) ?_
        (try simp only [Act.put, List.setIfInBounds_toArray, List.set_cons_zero, List.set_cons_succ])
        refine wpAnyH_take (i := 8) (oi := { dst := some 96, op := Op.move (Operand.tmp 9), type := 3, pos := "law.go:134", after := #[{ on := 5, ground := Ground.guard }], guard := some (5, true) }) (v := undef) rfl (by kernel_rfl) (by kernel_rfl) (by kernel_rfl) (fun _ _ _ h => h) (Or.inr ⟨by rfl, rfl⟩) (by assumption) ?_
        (try simp only [Act.put, List.setIfInBounds_toArray, List.set_cons_zero, List.set_cons_succ])
        refine wpAnyH_take (i := 9) (oi := { dst := some 97, op := Op.indexAddr 27 (Operand.tmp 95) (Operand.tmp 96), type := 0, pos := "law.go:134", after := #[{ on := 7, ground := Ground.data }, { on := 8, ground := Ground.data }, { on := 5, ground := Ground.guard }], guard := some (5, true) }) (v := undef) rfl (by kernel_rfl) (by kernel_rfl) (by kernel_rfl) (fun _ _ _ h => h) (Or.inr ⟨by rfl, rfl⟩) (by assumption) ?_
        (try simp only [Act.put, List.setIfInBounds_toArray, List.set_cons_zero, List.set_cons_succ])
        refine wpAnyH_take (i := 10) (oi := { dst := some 98, op := Op.load 36 (Operand.tmp 97), type := 36, pos := "law.go:134", after := #[{ on := 9, ground := Ground.data }, { on := 5, ground := Ground.guard }], guard := some (5, true) }) (v := undef) rfl (by kernel_rfl) (by kernel_rfl) (by kernel_rfl) (fun _ _ _ h => h) (Or.inr ⟨by rfl, rfl⟩) (by assumption) ?_
        (try simp only [Act.put, List.setIfInBounds_toArray, List.set_cons_zero, List.set_cons_succ])
        refine wpAnyH_take (i := 11) (oi := { dst := some 99, op := Op.call { callee := Callee.value (Operand.func 17), args := #[Operand.tmp 94, Operand.tmp 98], argTypes := #[36, 36] }, type := 4, pos := "law.go:134", after := #[{ on := 6, ground := Ground.data }, { on := 10, ground := Ground.data }, { on := 5, ground := Ground.chain }, { on := 5, ground := Ground.guard }], guard := some (5, true) }) (v := undef) rfl (by kernel_rfl) (by kernel_rfl) (by kernel_rfl) (fun _ _ _ h => h) (Or.inr ⟨by rfl, rfl⟩) (by assumption) ?_
        (try simp only [Act.put, List.setIfInBounds_toArray, List.set_cons_zero, List.set_cons_succ])
        refine wpAnyH_take (i := 12) (oi := { dst := some 100, op := Op.unOp UnOp.not 4 (Operand.tmp 99), type := 4, pos := "law.go:134", after := #[{ on := 11, ground := Ground.data }, { on := 5, ground := Ground.guard }], guard := some (5, true) }) (v := undef) rfl (by kernel_rfl) (by kernel_rfl) (by kernel_rfl) (fun _ _ _ h => h) (Or.inr ⟨by rfl, rfl⟩) (by assumption) ?_
        (try simp only [Act.put, List.setIfInBounds_toArray, List.set_cons_zero, List.set_cons_succ])
        refine wpAnyH_take (i := 13) (oi := { dst := some 101, op := Op.pick (Operand.tmp 93) (Operand.tmp 100) (Operand.const (Value.bool false)), type := 4, pos := "law.go:134", after := #[{ on := 5, ground := Ground.data }, { on := 12, ground := Ground.data }, { on := 3, ground := Ground.guard }], guard := some (3, false) }) (v := ?vb4t_14) rfl (by kernel_rfl) (by kernel_rfl) (by kernel_rfl) (fun _ _ _ h => h) (Or.inl ⟨by rfl, ?hyb4t_14⟩) (by assumption) ?restb4t_14
        case hyb4t_14 =>
          intro w hSw
          (try dsimp only at hSw)
          go_simp
          (try with_reducible rfl)
        (try simp only [Act.put, List.setIfInBounds_toArray, List.set_cons_zero, List.set_cons_succ])
        refine wpAnyH_take (i := 14) (oi := { dst := some 102, op := Op.pick (Operand.tmp 91) (Operand.const (Value.bool true)) (Operand.tmp 101), type := 4, pos := "law.go:134", after := #[{ on := 3, ground := Ground.data }, { on := 13, ground := Ground.data }], guard := none }) (v := ?vb4t_15) rfl (by kernel_rfl) (by kernel_rfl) (by kernel_rfl) (fun _ _ _ h => h) (Or.inl ⟨by rfl, ?hyb4t_15⟩) (by assumption) ?restb4t_15
        case hyb4t_15 =>
          intro w hSw
          (try dsimp only at hSw)
          go_simp
          (try with_reducible rfl)
        (try simp only [Act.put, List.setIfInBounds_toArray, List.set_cons_zero, List.set_cons_succ])
        refine wpAnyH_take (i := 15) (oi := { dst := some 103, op := Op.move (Operand.tmp 102), type := 4, pos := "law.go:134", after := #[{ on := 14, ground := Ground.data }, { on := 11, ground := Ground.chain }], guard := none }) (v := ?vb4t_16) rfl (by kernel_rfl) (by kernel_rfl) (by kernel_rfl) (fun _ _ _ h => h) (Or.inl ⟨by rfl, ?hyb4t_16⟩) (by assumption) ?restb4t_16
        case hyb4t_16 =>
          intro w hSw
          (try dsimp only at hSw)
          go_simp
          (try with_reducible rfl)
        (try simp only [Act.put, List.setIfInBounds_toArray, List.set_cons_zero, List.set_cons_succ])
        refine wpAnyH_take (i := 16) (oi := { dst := some 104, op := Op.move (Operand.tmp 7), type := 24, pos := "law.go:134", after := #[{ on := 15, ground := Ground.guard }], guard := some (15, false) }) (v := ?vb4t_17) rfl (by kernel_rfl) (by kernel_rfl) (by kernel_rfl) (fun _ _ _ h => h) (Or.inl ⟨by rfl, ?hyb4t_17⟩) (by assumption) ?restb4t_17
        case hyb4t_17 =>
          intro w hSw
          (try dsimp only at hSw)
          go_simp
          (try with_reducible rfl)
        (try simp only [Act.put, List.setIfInBounds_toArray, List.set_cons_zero, List.set_cons_succ])
        refine wpAnyH_ready (rs := [17]) (by kernel_rfl) (by simp) ?_
        refine AllReadyH.cons (o := { dst := some 105, op := Op.call { callee := Callee.value (Operand.func 13), args := #[Operand.tmp 104], argTypes := #[24] }, type := 3, pos := "law.go:134", after := #[{ on := 16, ground := Ground.data }, { on := 15, ground := Ground.chain }, { on := 15, ground := Ground.guard }], guard := some (15, false) }) rfl (fun K hK => ?_) AllReadyH.nil
        go_simp
        (go_at_call 13; refine (HLN.out _ hHeld).mono ?_; rintro e8 w8 ⟨rfl, rfl⟩)
        go_wp2_with fail
        refine hK.out _ _ hHeld (fun hHeld => ?_)
        clear hK K
        (try simp only [Act.put, List.setIfInBounds_toArray, List.set_cons_zero, List.set_cons_succ])
        refine wpAnyH_take (i := 18) (oi := { dst := some 106, op := Op.binOp BinOp.neq 3 (Operand.tmp 105) (Operand.const (Value.int IntKind.i64 0)) 3, type := 4, pos := "law.go:134", after := #[{ on := 17, ground := Ground.data }, { on := 15, ground := Ground.guard }], guard := some (15, false) }) (v := ?vb4t_18) rfl (by kernel_rfl) (by kernel_rfl) (by kernel_rfl) (fun _ _ _ h => h) (Or.inl ⟨by rfl, ?hyb4t_18⟩) (by assumption) ?restb4t_18
        case hyb4t_18 =>
          intro w hSw
          (try dsimp only at hSw)
          go_simp
          (try with_reducible rfl)
        (try simp only [Act.put, List.setIfInBounds_toArray, List.set_cons_zero, List.set_cons_succ])
        refine wpAnyH_take (i := 19) (oi := { dst := some 107, op := Op.pick (Operand.tmp 103) (Operand.const (Value.bool true)) (Operand.tmp 106), type := 4, pos := "law.go:134", after := #[{ on := 15, ground := Ground.data }, { on := 18, ground := Ground.data }], guard := none }) (v := ?vb4t_19) rfl (by kernel_rfl) (by kernel_rfl) (by kernel_rfl) (fun _ _ _ h => h) (Or.inl ⟨by rfl, ?hyb4t_19⟩) (by assumption) ?restb4t_19
        case hyb4t_19 =>
          intro w hSw
          (try dsimp only at hSw)
          go_simp
          (try with_reducible rfl)
        (try simp only [Act.put, List.setIfInBounds_toArray, List.set_cons_zero, List.set_cons_succ])
        refine wpAnyH_done (by kernel_rfl) ?_ _
        have HN : Hid (∃ s t, Sit w nb [] s t ((x + 1 : Nat) : Int) C m2 F7 U7.drew ∧ Two w F7 pa (pa + 1) (a1, a2) (b1, b2) U7.drew) := Lib.hid (by
          have hd : Below U7.heap.size U7 U7.drew := (Below.refl _ U7).drew
          have h := HS7.out.1.below hd
          rw [HE1.out] at h
          exact ⟨_, _, h, HS7.out.2.below hd⟩)
        have e1 := HE1.out
        go_wp2_with fail
        go_roundw
        case rel => exact ⟨k + 1, x + 1, F7, by omega, by omega, rfl, rfl, HN⟩
        case measure => simp only [intOf]; omega
      · go_wp2_with fail
        refine wp_region_held_drew (S := (fun V => V.cell? ⟨pa, 0, none⟩ = some (.int .i64 a1) ∧ V.cell? ⟨pa, 1, none⟩ = some (.int .i64 a2) ∧ V.cell? ⟨pa + 1, 0, none⟩ = some (.int .i64 b1) ∧ V.cell? ⟨pa + 1, 1, none⟩ = some (.int .i64 b2) ∧ V.cell? ⟨pb, po + k * 5, none⟩ = some (.int .i64 f1) ∧ V.cell? ⟨pb, po + k * 5 + 1, none⟩ = some (.int .i64 f2) ∧ V.cell? ⟨pb, po + k * 5 + 2, none⟩ = some (.int .i64 t1) ∧ V.cell? ⟨pb, po + k * 5 + 3, none⟩ = some (.int .i64 t2))) (by kernel_rfl) (by first | exact HSS.out _ (Below.refl _ _).drew | exact HSS.out _ (Below.refl _ _)) (fun hHeld => ?_)
        refine wpAnyH_take (i := 0) (oi := { dst := some 44, op := Op.load 33 (Operand.tmp 3), type := 33, pos := "law.go:132", after := #[], guard := none }) (v := ?va5_1) rfl (by kernel_rfl) (by kernel_rfl) (by kernel_rfl) (fun _ _ _ h => h) (Or.inl ⟨by rfl, ?hya5_1⟩) (by assumption) ?resta5_1
        case hya5_1 =>
          intro w hSw
          (try dsimp only at hSw)
          go_simp
          (try with_reducible rfl)
        (try simp only [Act.put, List.setIfInBounds_toArray, List.set_cons_zero, List.set_cons_succ])
        refine wpAnyH_take (i := 1) (oi := { dst := some 45, op := Op.load 33 (Operand.tmp 4), type := 33, pos := "law.go:132", after := #[], guard := none }) (v := ?va5_2) rfl (by kernel_rfl) (by kernel_rfl) (by kernel_rfl) (fun _ _ _ h => h) (Or.inl ⟨by rfl, ?hya5_2⟩) (by assumption) ?resta5_2
        case hya5_2 =>
          intro w hSw
          (try dsimp only at hSw)
          go_simp
          (try with_reducible rfl)
        (try simp only [Act.put, List.setIfInBounds_toArray, List.set_cons_zero, List.set_cons_succ])
        refine wpAnyH_take (i := 2) (oi := { dst := some 46, op := Op.binOp BinOp.neq 33 (Operand.tmp 44) (Operand.tmp 45) 33, type := 4, pos := "law.go:132", after := #[{ on := 0, ground := Ground.data }, { on := 1, ground := Ground.data }], guard := none }) (v := ?va5_3) rfl (by kernel_rfl) (by kernel_rfl) (by kernel_rfl) (fun _ _ _ h => h) (Or.inl ⟨by rfl, ?hya5_3⟩) (by assumption) ?resta5_3
        case hya5_3 =>
          intro w hSw
          (try dsimp only at hSw)
          go_simp
          (try with_reducible rfl)
        (try simp only [Act.put, List.setIfInBounds_toArray, List.set_cons_zero, List.set_cons_succ])
        refine wpAnyH_take (i := 3) (oi := { dst := some 47, op := Op.move (Operand.tmp 46), type := 4, pos := "law.go:132", after := #[{ on := 2, ground := Ground.data }], guard := none }) (v := ?va5_4) rfl (by kernel_rfl) (by kernel_rfl) (by kernel_rfl) (fun _ _ _ h => h) (Or.inl ⟨by rfl, ?hya5_4⟩) (by assumption) ?resta5_4
        case hya5_4 =>
          intro w hSw
          (try dsimp only at hSw)
          go_simp
          (try with_reducible rfl)
        (try simp only [Act.put, List.setIfInBounds_toArray, List.set_cons_zero, List.set_cons_succ])
        refine wpAnyH_take (i := 4) (oi := { dst := some 48, op := Op.move (Operand.tmp 2), type := 27, pos := "law.go:132", after := #[{ on := 3, ground := Ground.guard }], guard := some (3, true) }) (v := ?va5_5) rfl (by kernel_rfl) (by kernel_rfl) (by kernel_rfl) (fun _ _ _ h => h) (Or.inl ⟨by rfl, ?hya5_5⟩) (by assumption) ?resta5_5
        case hya5_5 =>
          intro w hSw
          (try dsimp only at hSw)
          go_simp
          (try with_reducible rfl)
        (try simp only [Act.put, List.setIfInBounds_toArray, List.set_cons_zero, List.set_cons_succ])
        refine wpAnyH_take (i := 5) (oi := { dst := some 49, op := Op.move (Operand.tmp 9), type := 3, pos := "law.go:132", after := #[{ on := 3, ground := Ground.guard }], guard := some (3, true) }) (v := ?va5_6) rfl (by kernel_rfl) (by kernel_rfl) (by kernel_rfl) (fun _ _ _ h => h) (Or.inl ⟨by rfl, ?hya5_6⟩) (by assumption) ?resta5_6
        case hya5_6 =>
          intro w hSw
          (try dsimp only at hSw)
          go_simp
          (try with_reducible rfl)
        (try simp only [Act.put, List.setIfInBounds_toArray, List.set_cons_zero, List.set_cons_succ])
        refine wpAnyH_take (i := 6) (oi := { dst := some 50, op := Op.indexAddr 27 (Operand.tmp 48) (Operand.tmp 49), type := 0, pos := "law.go:132", after := #[{ on := 4, ground := Ground.data }, { on := 5, ground := Ground.data }, { on := 3, ground := Ground.guard }], guard := some (3, true) }) (v := ?va5_7) rfl (by kernel_rfl) (by kernel_rfl) (by kernel_rfl) (fun _ _ _ h => h) (Or.inl ⟨by rfl, ?hya5_7⟩) (by assumption) ?resta5_7
        case hya5_7 =>
          intro w hSw
          (try dsimp only at hSw)
          go_simp
          (try with_reducible rfl)
        (try simp only [Act.put, List.setIfInBounds_toArray, List.set_cons_zero, List.set_cons_succ])
        refine wpAnyH_take (i := 7) (oi := { dst := some 51, op := Op.fieldAddr 36 (Operand.tmp 50) 0, type := 0, pos := "law.go:132", after := #[{ on := 6, ground := Ground.data }, { on := 3, ground := Ground.guard }], guard := some (3, true) }) (v := ?va5_8) rfl (by kernel_rfl) (by kernel_rfl) (by kernel_rfl) (fun _ _ _ h => h) (Or.inl ⟨by rfl, ?hya5_8⟩) (by assumption) ?resta5_8
        case hya5_8 =>
          intro w hSw
          (try dsimp only at hSw)
          go_simp
          (try with_reducible rfl)
        (try simp only [Act.put, List.setIfInBounds_toArray, List.set_cons_zero, List.set_cons_succ])
        refine wpAnyH_take (i := 8) (oi := { dst := some 52, op := Op.load 33 (Operand.tmp 51), type := 33, pos := "law.go:132", after := #[{ on := 7, ground := Ground.data }, { on := 3, ground := Ground.guard }], guard := some (3, true) }) (v := ?va5_9) rfl (by kernel_rfl) (by kernel_rfl) (by kernel_rfl) (fun _ _ _ h => h) (Or.inl ⟨by rfl, ?hya5_9⟩) (by assumption) ?resta5_9
        case hya5_9 =>
          intro w hSw
          (try dsimp only at hSw)
          go_simp
          (try with_reducible rfl)
        (try simp only [Act.put, List.setIfInBounds_toArray, List.set_cons_zero, List.set_cons_succ])
        refine wpAnyH_take (i := 9) (oi := { dst := some 53, op := Op.load 33 (Operand.tmp 3), type := 33, pos := "law.go:132", after := #[{ on := 3, ground := Ground.guard }], guard := some (3, true) }) (v := ?va5_10) rfl (by kernel_rfl) (by kernel_rfl) (by kernel_rfl) (fun _ _ _ h => h) (Or.inl ⟨by rfl, ?hya5_10⟩) (by assumption) ?resta5_10
        case hya5_10 =>
          intro w hSw
          (try dsimp only at hSw)
          go_simp
          (try with_reducible rfl)
        (try simp only [Act.put, List.setIfInBounds_toArray, List.set_cons_zero, List.set_cons_succ])
        refine wpAnyH_take (i := 10) (oi := { dst := some 54, op := Op.binOp BinOp.eql 33 (Operand.tmp 52) (Operand.tmp 53) 33, type := 4, pos := "law.go:132", after := #[{ on := 8, ground := Ground.data }, { on := 9, ground := Ground.data }, { on := 3, ground := Ground.guard }], guard := some (3, true) }) (v := ?va5_11) rfl (by kernel_rfl) (by kernel_rfl) (by kernel_rfl) (fun _ _ _ h => h) (Or.inl ⟨by rfl, ?hya5_11⟩) (by assumption) ?resta5_11
        case hya5_11 =>
          intro w hSw
          (try dsimp only at hSw)
          go_simp
          (try with_reducible rfl)
        (try simp only [Act.put, List.setIfInBounds_toArray, List.set_cons_zero, List.set_cons_succ])
        refine wpAnyH_take (i := 11) (oi := { dst := some 55, op := Op.move (Operand.tmp 54), type := 4, pos := "law.go:132", after := #[{ on := 10, ground := Ground.data }, { on := 3, ground := Ground.chain }, { on := 3, ground := Ground.guard }], guard := some (3, true) }) (v := ?va5_12) rfl (by kernel_rfl) (by kernel_rfl) (by kernel_rfl) (fun _ _ _ h => h) (Or.inl ⟨by rfl, ?hya5_12⟩) (by assumption) ?resta5_12
        case hya5_12 =>
          intro w hSw
          (try dsimp only at hSw)
          go_simp
          (try with_reducible rfl)
        (try simp only [Act.put, List.setIfInBounds_toArray, List.set_cons_zero, List.set_cons_succ])
        refine wpAnyH_take (i := 12) (oi := { dst := some 56, op := Op.move (Operand.tmp 2), type := 27, pos := "law.go:132", after := #[{ on := 11, ground := Ground.guard }], guard := some (11, true) }) (v := undef) rfl (by kernel_rfl) (by kernel_rfl) (by kernel_rfl) (fun _ _ _ h => h) (Or.inr ⟨by rfl, rfl⟩) (by assumption) ?_
        (try simp only [Act.put, List.setIfInBounds_toArray, List.set_cons_zero, List.set_cons_succ])
        refine wpAnyH_take (i := 13) (oi := { dst := some 57, op := Op.move (Operand.tmp 9), type := 3, pos := "law.go:132", after := #[{ on := 11, ground := Ground.guard }], guard := some (11, true) }) (v := undef) rfl (by kernel_rfl) (by kernel_rfl) (by kernel_rfl) (fun _ _ _ h => h) (Or.inr ⟨by rfl, rfl⟩) (by assumption) ?_
        (try simp only [Act.put, List.setIfInBounds_toArray, List.set_cons_zero, List.set_cons_succ])
        refine wpAnyH_take (i := 14) (oi := { dst := some 58, op := Op.indexAddr 27 (Operand.tmp 56) (Operand.tmp 57), type := 0, pos := "law.go:132", after := #[{ on := 12, ground := Ground.data }, { on := 13, ground := Ground.data }, { on := 11, ground := Ground.guard }], guard := some (11, true) }) (v := undef) rfl (by kernel_rfl) (by kernel_rfl) (by kernel_rfl) (fun _ _ _ h => h) (Or.inr ⟨by rfl, rfl⟩) (by assumption) ?_
        (try simp only [Act.put, List.setIfInBounds_toArray, List.set_cons_zero, List.set_cons_succ])
        refine wpAnyH_take (i := 15) (oi := { dst := some 59, op := Op.fieldAddr 36 (Operand.tmp 58) 1, type := 0, pos := "law.go:132", after := #[{ on := 14, ground := Ground.data }, { on := 11, ground := Ground.guard }], guard := some (11, true) }) (v := undef) rfl (by kernel_rfl) (by kernel_rfl) (by kernel_rfl) (fun _ _ _ h => h) (Or.inr ⟨by rfl, rfl⟩) (by assumption) ?_
        (try simp only [Act.put, List.setIfInBounds_toArray, List.set_cons_zero, List.set_cons_succ])
        refine wpAnyH_take (i := 16) (oi := { dst := some 60, op := Op.load 33 (Operand.tmp 59), type := 33, pos := "law.go:132", after := #[{ on := 15, ground := Ground.data }, { on := 11, ground := Ground.guard }], guard := some (11, true) }) (v := undef) rfl (by kernel_rfl) (by kernel_rfl) (by kernel_rfl) (fun _ _ _ h => h) (Or.inr ⟨by rfl, rfl⟩) (by assumption) ?_
        (try simp only [Act.put, List.setIfInBounds_toArray, List.set_cons_zero, List.set_cons_succ])
        refine wpAnyH_take (i := 17) (oi := { dst := some 61, op := Op.load 33 (Operand.tmp 4), type := 33, pos := "law.go:132", after := #[{ on := 11, ground := Ground.guard }], guard := some (11, true) }) (v := undef) rfl (by kernel_rfl) (by kernel_rfl) (by kernel_rfl) (fun _ _ _ h => h) (Or.inr ⟨by rfl, rfl⟩) (by assumption) ?_
        (try simp only [Act.put, List.setIfInBounds_toArray, List.set_cons_zero, List.set_cons_succ])
        refine wpAnyH_take (i := 18) (oi := { dst := some 62, op := Op.binOp BinOp.eql 33 (Operand.tmp 60) (Operand.tmp 61) 33, type := 4, pos := "law.go:132", after := #[{ on := 16, ground := Ground.data }, { on := 17, ground := Ground.data }, { on := 11, ground := Ground.guard }], guard := some (11, true) }) (v := undef) rfl (by kernel_rfl) (by kernel_rfl) (by kernel_rfl) (fun _ _ _ h => h) (Or.inr ⟨by rfl, rfl⟩) (by assumption) ?_
        (try simp only [Act.put, List.setIfInBounds_toArray, List.set_cons_zero, List.set_cons_succ])
        refine wpAnyH_take (i := 19) (oi := { dst := some 63, op := Op.pick (Operand.tmp 55) (Operand.tmp 62) (Operand.const (Value.bool false)), type := 4, pos := "law.go:132", after := #[{ on := 11, ground := Ground.data }, { on := 18, ground := Ground.data }, { on := 3, ground := Ground.guard }], guard := some (3, true) }) (v := ?va5_20) rfl (by kernel_rfl) (by kernel_rfl) (by kernel_rfl) (fun _ _ _ h => h) (Or.inl ⟨by rfl, ?hya5_20⟩) (by assumption) ?resta5_20
        case hya5_20 =>
          intro w hSw
          (try dsimp only at hSw)
          go_simp
          (try with_reducible rfl)
        (try simp only [Act.put, List.setIfInBounds_toArray, List.set_cons_zero, List.set_cons_succ])
        refine wpAnyH_take (i := 20) (oi := { dst := some 64, op := Op.move (Operand.tmp 63), type := 4, pos := "law.go:132", after := #[{ on := 19, ground := Ground.data }, { on := 11, ground := Ground.chain }, { on := 3, ground := Ground.guard }], guard := some (3, true) }) (v := ?va5_21) rfl (by kernel_rfl) (by kernel_rfl) (by kernel_rfl) (fun _ _ _ h => h) (Or.inl ⟨by rfl, ?hya5_21⟩) (by assumption) ?resta5_21
        case hya5_21 =>
          intro w hSw
          (try dsimp only at hSw)
          go_simp
          (try with_reducible rfl)
        (try simp only [Act.put, List.setIfInBounds_toArray, List.set_cons_zero, List.set_cons_succ])
        refine wpAnyH_take (i := 21) (oi := { dst := some 65, op := Op.move (Operand.tmp 2), type := 27, pos := "law.go:132", after := #[{ on := 20, ground := Ground.guard }], guard := some (20, false) }) (v := ?va5_22) rfl (by kernel_rfl) (by kernel_rfl) (by kernel_rfl) (fun _ _ _ h => h) (Or.inl ⟨by rfl, ?hya5_22⟩) (by assumption) ?resta5_22
        case hya5_22 =>
          intro w hSw
          (try dsimp only at hSw)
          go_simp
          (try with_reducible rfl)
        (try simp only [Act.put, List.setIfInBounds_toArray, List.set_cons_zero, List.set_cons_succ])
        refine wpAnyH_take (i := 22) (oi := { dst := some 66, op := Op.move (Operand.tmp 9), type := 3, pos := "law.go:132", after := #[{ on := 20, ground := Ground.guard }], guard := some (20, false) }) (v := ?va5_23) rfl (by kernel_rfl) (by kernel_rfl) (by kernel_rfl) (fun _ _ _ h => h) (Or.inl ⟨by rfl, ?hya5_23⟩) (by assumption) ?resta5_23
        case hya5_23 =>
          intro w hSw
          (try dsimp only at hSw)
          go_simp
          (try with_reducible rfl)
        (try simp only [Act.put, List.setIfInBounds_toArray, List.set_cons_zero, List.set_cons_succ])
        refine wpAnyH_take (i := 23) (oi := { dst := some 67, op := Op.indexAddr 27 (Operand.tmp 65) (Operand.tmp 66), type := 0, pos := "law.go:132", after := #[{ on := 21, ground := Ground.data }, { on := 22, ground := Ground.data }, { on := 20, ground := Ground.guard }], guard := some (20, false) }) (v := ?va5_24) rfl (by kernel_rfl) (by kernel_rfl) (by kernel_rfl) (fun _ _ _ h => h) (Or.inl ⟨by rfl, ?hya5_24⟩) (by assumption) ?resta5_24
        case hya5_24 =>
          intro w hSw
          (try dsimp only at hSw)
          go_simp
          (try with_reducible rfl)
        (try simp only [Act.put, List.setIfInBounds_toArray, List.set_cons_zero, List.set_cons_succ])
        refine wpAnyH_take (i := 24) (oi := { dst := some 68, op := Op.fieldAddr 36 (Operand.tmp 67) 0, type := 0, pos := "law.go:132", after := #[{ on := 23, ground := Ground.data }, { on := 20, ground := Ground.guard }], guard := some (20, false) }) (v := ?va5_25) rfl (by kernel_rfl) (by kernel_rfl) (by kernel_rfl) (fun _ _ _ h => h) (Or.inl ⟨by rfl, ?hya5_25⟩) (by assumption) ?resta5_25
        case hya5_25 =>
          intro w hSw
          (try dsimp only at hSw)
          go_simp
          (try with_reducible rfl)
        (try simp only [Act.put, List.setIfInBounds_toArray, List.set_cons_zero, List.set_cons_succ])
        refine wpAnyH_take (i := 25) (oi := { dst := some 69, op := Op.load 33 (Operand.tmp 68), type := 33, pos := "law.go:132", after := #[{ on := 24, ground := Ground.data }, { on := 20, ground := Ground.guard }], guard := some (20, false) }) (v := ?va5_26) rfl (by kernel_rfl) (by kernel_rfl) (by kernel_rfl) (fun _ _ _ h => h) (Or.inl ⟨by rfl, ?hya5_26⟩) (by assumption) ?resta5_26
        case hya5_26 =>
          intro w hSw
          (try dsimp only at hSw)
          go_simp
          (try with_reducible rfl)
        (try simp only [Act.put, List.setIfInBounds_toArray, List.set_cons_zero, List.set_cons_succ])
        refine wpAnyH_take (i := 26) (oi := { dst := some 70, op := Op.load 33 (Operand.tmp 4), type := 33, pos := "law.go:132", after := #[{ on := 20, ground := Ground.guard }], guard := some (20, false) }) (v := ?va5_27) rfl (by kernel_rfl) (by kernel_rfl) (by kernel_rfl) (fun _ _ _ h => h) (Or.inl ⟨by rfl, ?hya5_27⟩) (by assumption) ?resta5_27
        case hya5_27 =>
          intro w hSw
          (try dsimp only at hSw)
          go_simp
          (try with_reducible rfl)
        (try simp only [Act.put, List.setIfInBounds_toArray, List.set_cons_zero, List.set_cons_succ])
        refine wpAnyH_take (i := 27) (oi := { dst := some 71, op := Op.binOp BinOp.eql 33 (Operand.tmp 69) (Operand.tmp 70) 33, type := 4, pos := "law.go:132", after := #[{ on := 25, ground := Ground.data }, { on := 26, ground := Ground.data }, { on := 20, ground := Ground.guard }], guard := some (20, false) }) (v := ?va5_28) rfl (by kernel_rfl) (by kernel_rfl) (by kernel_rfl) (fun _ _ _ h => h) (Or.inl ⟨by rfl, ?hya5_28⟩) (by assumption) ?resta5_28
        case hya5_28 =>
          intro w hSw
          (try dsimp only at hSw)
          go_simp
          (try with_reducible rfl)
        (try simp only [Act.put, List.setIfInBounds_toArray, List.set_cons_zero, List.set_cons_succ])
        refine wpAnyH_take (i := 28) (oi := { dst := some 72, op := Op.move (Operand.tmp 71), type := 4, pos := "law.go:132", after := #[{ on := 27, ground := Ground.data }, { on := 20, ground := Ground.chain }, { on := 20, ground := Ground.guard }], guard := some (20, false) }) (v := ?va5_29) rfl (by kernel_rfl) (by kernel_rfl) (by kernel_rfl) (fun _ _ _ h => h) (Or.inl ⟨by rfl, ?hya5_29⟩) (by assumption) ?resta5_29
        case hya5_29 =>
          intro w hSw
          (try dsimp only at hSw)
          go_simp
          (try with_reducible rfl)
        (try simp only [Act.put, List.setIfInBounds_toArray, List.set_cons_zero, List.set_cons_succ])
        refine wpAnyH_take (i := 29) (oi := { dst := some 73, op := Op.move (Operand.tmp 2), type := 27, pos := "law.go:132", after := #[{ on := 28, ground := Ground.guard }], guard := some (28, true) }) (v := ?va5_30) rfl (by kernel_rfl) (by kernel_rfl) (by kernel_rfl) (fun _ _ _ h => h) (Or.inl ⟨by rfl, ?hya5_30⟩) (by assumption) ?resta5_30
        case hya5_30 =>
          intro w hSw
          (try dsimp only at hSw)
          go_simp
          (try with_reducible rfl)
        (try simp only [Act.put, List.setIfInBounds_toArray, List.set_cons_zero, List.set_cons_succ])
        refine wpAnyH_take (i := 30) (oi := { dst := some 74, op := Op.move (Operand.tmp 9), type := 3, pos := "law.go:132", after := #[{ on := 28, ground := Ground.guard }], guard := some (28, true) }) (v := ?va5_31) rfl (by kernel_rfl) (by kernel_rfl) (by kernel_rfl) (fun _ _ _ h => h) (Or.inl ⟨by rfl, ?hya5_31⟩) (by assumption) ?resta5_31
        case hya5_31 =>
          intro w hSw
          (try dsimp only at hSw)
          go_simp
          (try with_reducible rfl)
        (try simp only [Act.put, List.setIfInBounds_toArray, List.set_cons_zero, List.set_cons_succ])
        refine wpAnyH_take (i := 31) (oi := { dst := some 75, op := Op.indexAddr 27 (Operand.tmp 73) (Operand.tmp 74), type := 0, pos := "law.go:132", after := #[{ on := 29, ground := Ground.data }, { on := 30, ground := Ground.data }, { on := 28, ground := Ground.guard }], guard := some (28, true) }) (v := ?va5_32) rfl (by kernel_rfl) (by kernel_rfl) (by kernel_rfl) (fun _ _ _ h => h) (Or.inl ⟨by rfl, ?hya5_32⟩) (by assumption) ?resta5_32
        case hya5_32 =>
          intro w hSw
          (try dsimp only at hSw)
          go_simp
          (try with_reducible rfl)
        (try simp only [Act.put, List.setIfInBounds_toArray, List.set_cons_zero, List.set_cons_succ])
        refine wpAnyH_take (i := 32) (oi := { dst := some 76, op := Op.fieldAddr 36 (Operand.tmp 75) 1, type := 0, pos := "law.go:132", after := #[{ on := 31, ground := Ground.data }, { on := 28, ground := Ground.guard }], guard := some (28, true) }) (v := ?va5_33) rfl (by kernel_rfl) (by kernel_rfl) (by kernel_rfl) (fun _ _ _ h => h) (Or.inl ⟨by rfl, ?hya5_33⟩) (by assumption) ?resta5_33
        case hya5_33 =>
          intro w hSw
          (try dsimp only at hSw)
          go_simp
          (try with_reducible rfl)
        (try simp only [Act.put, List.setIfInBounds_toArray, List.set_cons_zero, List.set_cons_succ])
        refine wpAnyH_take (i := 33) (oi := { dst := some 77, op := Op.load 33 (Operand.tmp 76), type := 33, pos := "law.go:132", after := #[{ on := 32, ground := Ground.data }, { on := 28, ground := Ground.guard }], guard := some (28, true) }) (v := ?va5_34) rfl (by kernel_rfl) (by kernel_rfl) (by kernel_rfl) (fun _ _ _ h => h) (Or.inl ⟨by rfl, ?hya5_34⟩) (by assumption) ?resta5_34
        case hya5_34 =>
          intro w hSw
          (try dsimp only at hSw)
          go_simp
          (try with_reducible rfl)
        (try simp only [Act.put, List.setIfInBounds_toArray, List.set_cons_zero, List.set_cons_succ])
        refine wpAnyH_take (i := 34) (oi := { dst := some 78, op := Op.load 33 (Operand.tmp 3), type := 33, pos := "law.go:132", after := #[{ on := 28, ground := Ground.guard }], guard := some (28, true) }) (v := ?va5_35) rfl (by kernel_rfl) (by kernel_rfl) (by kernel_rfl) (fun _ _ _ h => h) (Or.inl ⟨by rfl, ?hya5_35⟩) (by assumption) ?resta5_35
        case hya5_35 =>
          intro w hSw
          (try dsimp only at hSw)
          go_simp
          (try with_reducible rfl)
        (try simp only [Act.put, List.setIfInBounds_toArray, List.set_cons_zero, List.set_cons_succ])
        refine wpAnyH_take (i := 35) (oi := { dst := some 79, op := Op.binOp BinOp.eql 33 (Operand.tmp 77) (Operand.tmp 78) 33, type := 4, pos := "law.go:132", after := #[{ on := 33, ground := Ground.data }, { on := 34, ground := Ground.data }, { on := 28, ground := Ground.guard }], guard := some (28, true) }) (v := ?va5_36) rfl (by kernel_rfl) (by kernel_rfl) (by kernel_rfl) (fun _ _ _ h => h) (Or.inl ⟨by rfl, ?hya5_36⟩) (by assumption) ?resta5_36
        case hya5_36 =>
          intro w hSw
          (try dsimp only at hSw)
          go_simp
          (try with_reducible rfl)
        (try simp only [Act.put, List.setIfInBounds_toArray, List.set_cons_zero, List.set_cons_succ])
        refine wpAnyH_take (i := 36) (oi := { dst := some 80, op := Op.pick (Operand.tmp 72) (Operand.tmp 79) (Operand.const (Value.bool false)), type := 4, pos := "law.go:132", after := #[{ on := 28, ground := Ground.data }, { on := 35, ground := Ground.data }, { on := 20, ground := Ground.guard }], guard := some (20, false) }) (v := ?va5_37) rfl (by kernel_rfl) (by kernel_rfl) (by kernel_rfl) (fun _ _ _ h => h) (Or.inl ⟨by rfl, ?hya5_37⟩) (by assumption) ?resta5_37
        case hya5_37 =>
          intro w hSw
          (try dsimp only at hSw)
          go_simp
          (try with_reducible rfl)
        (try simp only [Act.put, List.setIfInBounds_toArray, List.set_cons_zero, List.set_cons_succ])
        refine wpAnyH_take (i := 37) (oi := { dst := some 81, op := Op.pick (Operand.tmp 64) (Operand.const (Value.bool true)) (Operand.tmp 80), type := 4, pos := "law.go:132", after := #[{ on := 20, ground := Ground.data }, { on := 36, ground := Ground.data }, { on := 3, ground := Ground.guard }], guard := some (3, true) }) (v := ?va5_38) rfl (by kernel_rfl) (by kernel_rfl) (by kernel_rfl) (fun _ _ _ h => h) (Or.inl ⟨by rfl, ?hya5_38⟩) (by assumption) ?resta5_38
        case hya5_38 =>
          intro w hSw
          (try dsimp only at hSw)
          go_simp
          (try with_reducible rfl)
        (try simp only [Act.put, List.setIfInBounds_toArray, List.set_cons_zero, List.set_cons_succ])
        refine wpAnyH_take (i := 38) (oi := { dst := some 82, op := Op.pick (Operand.tmp 47) (Operand.tmp 81) (Operand.const (Value.bool false)), type := 4, pos := "law.go:132", after := #[{ on := 3, ground := Ground.data }, { on := 37, ground := Ground.data }], guard := none }) (v := ?va5_39) rfl (by kernel_rfl) (by kernel_rfl) (by kernel_rfl) (fun _ _ _ h => h) (Or.inl ⟨by rfl, ?hya5_39⟩) (by assumption) ?resta5_39
        case hya5_39 =>
          intro w hSw
          (try dsimp only at hSw)
          go_simp
          (try with_reducible rfl)
        (try simp only [Act.put, List.setIfInBounds_toArray, List.set_cons_zero, List.set_cons_succ])
        refine wpAnyH_take (i := 39) (oi := { dst := some 10, op := Op.assign (Operand.tmp 82), type := 4, pos := "law.go:132", after := #[{ on := 38, ground := Ground.data }, { on := 28, ground := Ground.chain }, { on := 0, ground := Ground.phase }, { on := 1, ground := Ground.phase }, { on := 2, ground := Ground.phase }, { on := 3, ground := Ground.phase }, { on := 4, ground := Ground.phase }, { on := 5, ground := Ground.phase }, { on := 6, ground := Ground.phase }, { on := 7, ground := Ground.phase }, { on := 8, ground := Ground.phase }, { on := 9, ground := Ground.phase }, { on := 10, ground := Ground.phase }, { on := 11, ground := Ground.phase }, { on := 12, ground := Ground.phase }, { on := 13, ground := Ground.phase }, { on := 14, ground := Ground.phase }, { on := 15, ground := Ground.phase }, { on := 16, ground := Ground.phase }, { on := 17, ground := Ground.phase }, { on := 18, ground := Ground.phase }, { on := 19, ground := Ground.phase }, { on := 20, ground := Ground.phase }, { on := 21, ground := Ground.phase }, { on := 22, ground := Ground.phase }, { on := 23, ground := Ground.phase }, { on := 24, ground := Ground.phase }, { on := 25, ground := Ground.phase }, { on := 26, ground := Ground.phase }, { on := 27, ground := Ground.phase }, { on := 28, ground := Ground.phase }, { on := 29, ground := Ground.phase }, { on := 30, ground := Ground.phase }, { on := 31, ground := Ground.phase }, { on := 32, ground := Ground.phase }, { on := 33, ground := Ground.phase }, { on := 34, ground := Ground.phase }, { on := 35, ground := Ground.phase }, { on := 36, ground := Ground.phase }, { on := 37, ground := Ground.phase }, { on := 38, ground := Ground.phase }], guard := none }) (v := ?va5_40) rfl (by kernel_rfl) (by kernel_rfl) (by kernel_rfl) (fun _ _ _ h => h) (Or.inl ⟨by rfl, ?hya5_40⟩) (by assumption) ?resta5_40
        case hya5_40 =>
          intro w hSw
          (try dsimp only at hSw)
          go_simp
          (try with_reducible rfl)
        (try simp only [Act.put, List.setIfInBounds_toArray, List.set_cons_zero, List.set_cons_succ])
        refine wpAnyH_done (by kernel_rfl) ?_ _
        have H7 := Lib.hid (take_in S3d.out.1 (i := 0) (a1 := f1) (a2 := f2) (b1 := t1) (b2 := t2) (zs := xs) rfl)
        go_wp2_with fail
        refine H7.out.mono ?_
        rintro e7 w7 (⟨hc, _⟩ | ⟨_, A7, c7, he7, F7, hN7, hS7, hD7, _, _⟩)
        · exact absurd (HAP.out.symm.trans hc) (by decide)
        rw [HJ.out.2.2.2.1] at hD7 he7
        subst he7
        obtain ⟨U7, hU7⟩ : ∃ U, w7.alloc (.cells #[.int .i64 f1, .int .i64 f2, .int .i64 t1, .int .i64 t2, .slice A7 n c7] 36) = U := ⟨_, rfl⟩
        have hb7 : Below w7.heap.size w7 U7 := by rw [← hU7]; exact (Below.refl _ w7).alloc (Nat.le_refl _) _
        have hP7 : Bn w7.heap.size 36 [.int .i64 f1, .int .i64 f2, .int .i64 t1, .int .i64 t2, .slice A7 n c7] U7 := by rw [← hU7]; exact heap_alloc_new w7 _
        have hS7' : Sit w nb [] _ _ _ C m2 F7 U7 := (S3d.out.step hN7 hS7).below hb7
        have hT7' := (T3d.out.step hS7).below hb7
        have hD7' := own_below hD7 hb7 (Nat.le_refl _)
        obtain ⟨pv, hpv⟩ : ∃ b, w7.heap.size = b := ⟨_, rfl⟩
        rw [hpv] at hP7
        have HLN : Hid (∀ V, Below U7.heap.size U7 V → Calls Try.prog 13 #[hd nb] V (fun e w' => e = .returned (.int .i64 0) ∧ w' = V)) := Lib.hid fun V hV => len_any (hS7'.below hV).1 0 rfl
        have HS2 : Hid (∀ V, Below U7.heap.size U7 V → (V.cell? ⟨pv, 0, none⟩ = some (.int .i64 f1) ∧ V.cell? ⟨pv, 1, none⟩ = some (.int .i64 f2) ∧ V.cell? ⟨pv, 2, none⟩ = some (.int .i64 t1) ∧ V.cell? ⟨pv, 3, none⟩ = some (.int .i64 t2) ∧ V.cell? ⟨pv, 4, none⟩ = some (.slice A7 n c7)) ∧ V.cell? ⟨pb, po + k * 5, none⟩ = some (.int .i64 f1) ∧ V.cell? ⟨pb, po + k * 5 + 1, none⟩ = some (.int .i64 f2) ∧ V.cell? ⟨pb, po + k * 5 + 2, none⟩ = some (.int .i64 t1) ∧ V.cell? ⟨pb, po + k * 5 + 3, none⟩ = some (.int .i64 t2) ∧ V.cell? ⟨pb, po + k * 5 + 4, none⟩ = some (.slice Ad n cd)) := Lib.hid fun V hV => by
          have hP := hP7.same (hV.block _ hP7.lt)
          have hw := hS7'.2.1.trans (hV.mono hS7'.2.1.size)
          obtain ⟨_, _, _, _, h11, h12, h13, h14, h15, h16, _⟩ := HJ.out
          exact ⟨⟨(hP.cell 0).trans rfl, (hP.cell 1).trans rfl, (hP.cell 2).trans rfl, (hP.cell 3).trans rfl, (hP.cell 4).trans rfl⟩, (hw.cell (p := ⟨pb, po + k * 5, none⟩) h11).trans h12, (hw.cell (p := ⟨pb, po + k * 5 + 1, none⟩) h11).trans h13, (hw.cell (p := ⟨pb, po + k * 5 + 2, none⟩) h11).trans h14, (hw.cell (p := ⟨pb, po + k * 5 + 3, none⟩) h11).trans h15, (hw.cell (p := ⟨pb, po + k * 5 + 4, none⟩) h11).trans h16⟩
        have HSM : Hid (∀ V, Below U7.heap.size U7 V → Calls Try.prog 17 #[.agg #[.int .i64 f1, .int .i64 f2, .int .i64 t1, .int .i64 t2, .slice A7 n c7], .agg #[.int .i64 f1, .int .i64 f2, .int .i64 t1, .int .i64 t2, .slice Ad n cd]] V (fun e w' => e = .returned (.bool true) ∧ Below V.heap.size V w')) := Lib.hid fun V hV => by
          have hw := hS7'.2.1.trans (hV.mono hS7'.2.1.size)
          exact same_yes V f1 f2 t1 t2 xs n HJ.out.2.2.2.1 A7 Ad c7 cd (own_ns (c := c7) (n := n) (by rw [HJ.out.2.2.2.1]; exact own_below hD7' hV (Nat.le_refl _))) ((HJ.out.2.2.1.below hw).more hw.size)
        have HS7 := Lib.hid (And.intro hS7' hT7')
        clear hb7 hP7 hS7' hT7' hD7' hN7 hS7 hD7 H7
        go_wp2_with fail
        refine wp_region_held_drew (S := (fun V => Below U7.heap.size U7 V ∧ V.cell? ⟨pv, 0, none⟩ = some (.int .i64 f1) ∧ V.cell? ⟨pv, 1, none⟩ = some (.int .i64 f2) ∧ V.cell? ⟨pv, 2, none⟩ = some (.int .i64 t1) ∧ V.cell? ⟨pv, 3, none⟩ = some (.int .i64 t2) ∧ V.cell? ⟨pv, 4, none⟩ = some (.slice A7 n c7) ∧ V.cell? ⟨pb, po + k * 5, none⟩ = some (.int .i64 f1) ∧ V.cell? ⟨pb, po + k * 5 + 1, none⟩ = some (.int .i64 f2) ∧ V.cell? ⟨pb, po + k * 5 + 2, none⟩ = some (.int .i64 t1) ∧ V.cell? ⟨pb, po + k * 5 + 3, none⟩ = some (.int .i64 t2) ∧ V.cell? ⟨pb, po + k * 5 + 4, none⟩ = some (.slice Ad n cd))) (by kernel_rfl) (by have hb8 : Below U7.heap.size U7 U7.drew := (Below.refl _ U7).drew; exact (⟨hb8, (HS2.out _ hb8).1.1, (HS2.out _ hb8).1.2.1, (HS2.out _ hb8).1.2.2.1, (HS2.out _ hb8).1.2.2.2.1, (HS2.out _ hb8).1.2.2.2.2, (HS2.out _ hb8).2⟩)) (fun hHeld => ?_)
        refine wpAnyH_take (i := 0) (oi := { dst := some 88, op := Op.move (Operand.tmp 12), type := 4, pos := "law.go:134", after := #[], guard := none }) (v := ?vb5f_1) rfl (by kernel_rfl) (by kernel_rfl) (by kernel_rfl) (fun _ _ _ h => h) (Or.inl ⟨by rfl, ?hyb5f_1⟩) (by assumption) ?restb5f_1
        case hyb5f_1 =>
          intro w hSw
          (try dsimp only at hSw)
          go_simp
          (try with_reducible rfl)
        (try simp only [Act.put, List.setIfInBounds_toArray, List.set_cons_zero, List.set_cons_succ])
        refine wpAnyH_take (i := 1) (oi := { dst := some 89, op := Op.move (Operand.tmp 10), type := 4, pos := "law.go:134", after := #[], guard := none }) (v := ?vb5f_2) rfl (by kernel_rfl) (by kernel_rfl) (by kernel_rfl) (fun _ _ _ h => h) (Or.inl ⟨by rfl, ?hyb5f_2⟩) (by assumption) ?restb5f_2
        case hyb5f_2 =>
          intro w hSw
          (try dsimp only at hSw)
          go_simp
          (try with_reducible rfl)
        (try simp only [Act.put, List.setIfInBounds_toArray, List.set_cons_zero, List.set_cons_succ])
        refine wpAnyH_take (i := 2) (oi := { dst := some 90, op := Op.binOp BinOp.eql 4 (Operand.tmp 88) (Operand.tmp 89) 4, type := 4, pos := "law.go:134", after := #[{ on := 0, ground := Ground.data }, { on := 1, ground := Ground.data }], guard := none }) (v := ?vb5f_3) rfl (by kernel_rfl) (by kernel_rfl) (by kernel_rfl) (fun _ _ _ h => h) (Or.inl ⟨by rfl, ?hyb5f_3⟩) (by assumption) ?restb5f_3
        case hyb5f_3 =>
          intro w hSw
          (try dsimp only at hSw)
          go_simp
          (try with_reducible rfl)
        (try simp only [Act.put, List.setIfInBounds_toArray, List.set_cons_zero, List.set_cons_succ])
        refine wpAnyH_take (i := 3) (oi := { dst := some 91, op := Op.move (Operand.tmp 90), type := 4, pos := "law.go:134", after := #[{ on := 2, ground := Ground.data }], guard := none }) (v := ?vb5f_4) rfl (by kernel_rfl) (by kernel_rfl) (by kernel_rfl) (fun _ _ _ h => h) (Or.inl ⟨by rfl, ?hyb5f_4⟩) (by assumption) ?restb5f_4
        case hyb5f_4 =>
          intro w hSw
          (try dsimp only at hSw)
          go_simp
          (try with_reducible rfl)
        (try simp only [Act.put, List.setIfInBounds_toArray, List.set_cons_zero, List.set_cons_succ])
        refine wpAnyH_take (i := 4) (oi := { dst := some 92, op := Op.move (Operand.tmp 12), type := 4, pos := "law.go:134", after := #[{ on := 3, ground := Ground.guard }], guard := some (3, false) }) (v := ?vb5f_5) rfl (by kernel_rfl) (by kernel_rfl) (by kernel_rfl) (fun _ _ _ h => h) (Or.inl ⟨by rfl, ?hyb5f_5⟩) (by assumption) ?restb5f_5
        case hyb5f_5 =>
          intro w hSw
          (try dsimp only at hSw)
          go_simp
          (try with_reducible rfl)
        (try simp only [Act.put, List.setIfInBounds_toArray, List.set_cons_zero, List.set_cons_succ])
        refine wpAnyH_take (i := 5) (oi := { dst := some 93, op := Op.move (Operand.tmp 92), type := 4, pos := "law.go:134", after := #[{ on := 4, ground := Ground.data }, { on := 3, ground := Ground.chain }, { on := 3, ground := Ground.guard }], guard := some (3, false) }) (v := ?vb5f_6) rfl (by kernel_rfl) (by kernel_rfl) (by kernel_rfl) (fun _ _ _ h => h) (Or.inl ⟨by rfl, ?hyb5f_6⟩) (by assumption) ?restb5f_6
        case hyb5f_6 =>
          intro w hSw
          (try dsimp only at hSw)
          go_simp
          (try with_reducible rfl)
        (try simp only [Act.put, List.setIfInBounds_toArray, List.set_cons_zero, List.set_cons_succ])
        refine wpAnyH_take (i := 6) (oi := { dst := some 94, op := Op.load 36 (Operand.tmp 11), type := 36, pos := "law.go:134", after := #[{ on := 5, ground := Ground.guard }], guard := some (5, true) }) (v := ?vb5f_7) rfl (by kernel_rfl) (by kernel_rfl) (by kernel_rfl) (fun _ _ _ h => h) (Or.inl ⟨by rfl, ?hyb5f_7⟩) (by assumption) ?restb5f_7
        case hyb5f_7 =>
          intro w hSw
          (try dsimp only at hSw)
          go_simp
          (try with_reducible rfl)
        (try simp only [Act.put, List.setIfInBounds_toArray, List.set_cons_zero, List.set_cons_succ])
        refine wpAnyH_take (i := 7) (oi := { dst := some 95, op := Op.move (Operand.tmp 2), type := 27, pos := "law.go:134", after := #[{ on := 5, ground := Ground.guard }], guard := some (5, true) }) (v := ?vb5f_8) rfl (by kernel_rfl) (by kernel_rfl) (by kernel_rfl) (fun _ _ _ h => h) (Or.inl ⟨by rfl, ?hyb5f_8⟩) (by assumption) ?restb5f_8
        case hyb5f_8 =>
          intro w hSw
          (try dsimp only at hSw)
          go_simp
          (try with_reducible rfl)
        (try simp only [Act.put, List.setIfInBounds_toArray, List.set_cons_zero, List.set_cons_succ])
        refine wpAnyH_take (i := 8) (oi := { dst := some 96, op := Op.move (Operand.tmp 9), type := 3, pos := "law.go:134", after := #[{ on := 5, ground := Ground.guard }], guard := some (5, true) }) (v := ?vb5f_9) rfl (by kernel_rfl) (by kernel_rfl) (by kernel_rfl) (fun _ _ _ h => h) (Or.inl ⟨by rfl, ?hyb5f_9⟩) (by assumption) ?restb5f_9
        case hyb5f_9 =>
          intro w hSw
          (try dsimp only at hSw)
          go_simp
          (try with_reducible rfl)
        (try simp only [Act.put, List.setIfInBounds_toArray, List.set_cons_zero, List.set_cons_succ])
        refine wpAnyH_take (i := 9) (oi := { dst := some 97, op := Op.indexAddr 27 (Operand.tmp 95) (Operand.tmp 96), type := 0, pos := "law.go:134", after := #[{ on := 7, ground := Ground.data }, { on := 8, ground := Ground.data }, { on := 5, ground := Ground.guard }], guard := some (5, true) }) (v := ?vb5f_10) rfl (by kernel_rfl) (by kernel_rfl) (by kernel_rfl) (fun _ _ _ h => h) (Or.inl ⟨by rfl, ?hyb5f_10⟩) (by assumption) ?restb5f_10
        case hyb5f_10 =>
          intro w hSw
          (try dsimp only at hSw)
          go_simp
          (try with_reducible rfl)
        (try simp only [Act.put, List.setIfInBounds_toArray, List.set_cons_zero, List.set_cons_succ])
        refine wpAnyH_take (i := 10) (oi := { dst := some 98, op := Op.load 36 (Operand.tmp 97), type := 36, pos := "law.go:134", after := #[{ on := 9, ground := Ground.data }, { on := 5, ground := Ground.guard }], guard := some (5, true) }) (v := ?vb5f_11) rfl (by kernel_rfl) (by kernel_rfl) (by kernel_rfl) (fun _ _ _ h => h) (Or.inl ⟨by rfl, ?hyb5f_11⟩) (by assumption) ?restb5f_11
        case hyb5f_11 =>
          intro w hSw
          (try dsimp only at hSw)
          go_simp
          (try with_reducible rfl)
        (try simp only [Act.put, List.setIfInBounds_toArray, List.set_cons_zero, List.set_cons_succ])
        refine wpAnyH_ready (rs := [11]) (by kernel_rfl) (by simp) ?_
        refine AllReadyH.cons (o := { dst := some 99, op := Op.call { callee := Callee.value (Operand.func 17), args := #[Operand.tmp 94, Operand.tmp 98], argTypes := #[36, 36] }, type := 4, pos := "law.go:134", after := #[{ on := 6, ground := Ground.data }, { on := 10, ground := Ground.data }, { on := 5, ground := Ground.chain }, { on := 5, ground := Ground.guard }], guard := some (5, true) }) rfl (fun K hK => ?_) AllReadyH.nil
        go_simp
        (go_at_call 17; refine (HSM.out _ hHeld.1).mono ?_; rintro e8 w8 ⟨rfl, b8⟩; have hb8 : Below U7.heap.size U7 w8 := hHeld.1.trans (b8.mono hHeld.1.size))
        go_wp2_with fail
        refine hK.out _ _ (⟨hb8, (HS2.out _ hb8).1.1, (HS2.out _ hb8).1.2.1, (HS2.out _ hb8).1.2.2.1, (HS2.out _ hb8).1.2.2.2.1, (HS2.out _ hb8).1.2.2.2.2, (HS2.out _ hb8).2⟩) (fun hHeld => ?_)
        clear hK K
        (try simp only [Act.put, List.setIfInBounds_toArray, List.set_cons_zero, List.set_cons_succ])
        refine wpAnyH_take (i := 12) (oi := { dst := some 100, op := Op.unOp UnOp.not 4 (Operand.tmp 99), type := 4, pos := "law.go:134", after := #[{ on := 11, ground := Ground.data }, { on := 5, ground := Ground.guard }], guard := some (5, true) }) (v := ?vb5f_12) rfl (by kernel_rfl) (by kernel_rfl) (by kernel_rfl) (fun _ _ _ h => h) (Or.inl ⟨by rfl, ?hyb5f_12⟩) (by assumption) ?restb5f_12
        case hyb5f_12 =>
          intro w hSw
          (try dsimp only at hSw)
          go_simp
          (try with_reducible rfl)
        (try simp only [Act.put, List.setIfInBounds_toArray, List.set_cons_zero, List.set_cons_succ])
        refine wpAnyH_take (i := 13) (oi := { dst := some 101, op := Op.pick (Operand.tmp 93) (Operand.tmp 100) (Operand.const (Value.bool false)), type := 4, pos := "law.go:134", after := #[{ on := 5, ground := Ground.data }, { on := 12, ground := Ground.data }, { on := 3, ground := Ground.guard }], guard := some (3, false) }) (v := ?vb5f_13) rfl (by kernel_rfl) (by kernel_rfl) (by kernel_rfl) (fun _ _ _ h => h) (Or.inl ⟨by rfl, ?hyb5f_13⟩) (by assumption) ?restb5f_13
        case hyb5f_13 =>
          intro w hSw
          (try dsimp only at hSw)
          go_simp
          (try with_reducible rfl)
        (try simp only [Act.put, List.setIfInBounds_toArray, List.set_cons_zero, List.set_cons_succ])
        refine wpAnyH_take (i := 14) (oi := { dst := some 102, op := Op.pick (Operand.tmp 91) (Operand.const (Value.bool true)) (Operand.tmp 101), type := 4, pos := "law.go:134", after := #[{ on := 3, ground := Ground.data }, { on := 13, ground := Ground.data }], guard := none }) (v := ?vb5f_14) rfl (by kernel_rfl) (by kernel_rfl) (by kernel_rfl) (fun _ _ _ h => h) (Or.inl ⟨by rfl, ?hyb5f_14⟩) (by assumption) ?restb5f_14
        case hyb5f_14 =>
          intro w hSw
          (try dsimp only at hSw)
          go_simp
          (try with_reducible rfl)
        (try simp only [Act.put, List.setIfInBounds_toArray, List.set_cons_zero, List.set_cons_succ])
        refine wpAnyH_take (i := 15) (oi := { dst := some 103, op := Op.move (Operand.tmp 102), type := 4, pos := "law.go:134", after := #[{ on := 14, ground := Ground.data }, { on := 11, ground := Ground.chain }], guard := none }) (v := ?vb5f_15) rfl (by kernel_rfl) (by kernel_rfl) (by kernel_rfl) (fun _ _ _ h => h) (Or.inl ⟨by rfl, ?hyb5f_15⟩) (by assumption) ?restb5f_15
        case hyb5f_15 =>
          intro w hSw
          (try dsimp only at hSw)
          go_simp
          (try with_reducible rfl)
        (try simp only [Act.put, List.setIfInBounds_toArray, List.set_cons_zero, List.set_cons_succ])
        refine wpAnyH_take (i := 16) (oi := { dst := some 104, op := Op.move (Operand.tmp 7), type := 24, pos := "law.go:134", after := #[{ on := 15, ground := Ground.guard }], guard := some (15, false) }) (v := ?vb5f_16) rfl (by kernel_rfl) (by kernel_rfl) (by kernel_rfl) (fun _ _ _ h => h) (Or.inl ⟨by rfl, ?hyb5f_16⟩) (by assumption) ?restb5f_16
        case hyb5f_16 =>
          intro w hSw
          (try dsimp only at hSw)
          go_simp
          (try with_reducible rfl)
        (try simp only [Act.put, List.setIfInBounds_toArray, List.set_cons_zero, List.set_cons_succ])
        refine wpAnyH_ready (rs := [17]) (by kernel_rfl) (by simp) ?_
        refine AllReadyH.cons (o := { dst := some 105, op := Op.call { callee := Callee.value (Operand.func 13), args := #[Operand.tmp 104], argTypes := #[24] }, type := 3, pos := "law.go:134", after := #[{ on := 16, ground := Ground.data }, { on := 15, ground := Ground.chain }, { on := 15, ground := Ground.guard }], guard := some (15, false) }) rfl (fun K hK => ?_) AllReadyH.nil
        go_simp
        (go_at_call 13; refine (HLN.out _ hHeld.1).mono ?_; rintro e9 w9 ⟨rfl, rfl⟩)
        go_wp2_with fail
        refine hK.out _ _ hHeld (fun hHeld => ?_)
        clear hK K
        (try simp only [Act.put, List.setIfInBounds_toArray, List.set_cons_zero, List.set_cons_succ])
        refine wpAnyH_take (i := 18) (oi := { dst := some 106, op := Op.binOp BinOp.neq 3 (Operand.tmp 105) (Operand.const (Value.int IntKind.i64 0)) 3, type := 4, pos := "law.go:134", after := #[{ on := 17, ground := Ground.data }, { on := 15, ground := Ground.guard }], guard := some (15, false) }) (v := ?vb5f_17) rfl (by kernel_rfl) (by kernel_rfl) (by kernel_rfl) (fun _ _ _ h => h) (Or.inl ⟨by rfl, ?hyb5f_17⟩) (by assumption) ?restb5f_17
        case hyb5f_17 =>
          intro w hSw
          (try dsimp only at hSw)
          go_simp
          (try with_reducible rfl)
        (try simp only [Act.put, List.setIfInBounds_toArray, List.set_cons_zero, List.set_cons_succ])
        refine wpAnyH_take (i := 19) (oi := { dst := some 107, op := Op.pick (Operand.tmp 103) (Operand.const (Value.bool true)) (Operand.tmp 106), type := 4, pos := "law.go:134", after := #[{ on := 15, ground := Ground.data }, { on := 18, ground := Ground.data }], guard := none }) (v := ?vb5f_18) rfl (by kernel_rfl) (by kernel_rfl) (by kernel_rfl) (fun _ _ _ h => h) (Or.inl ⟨by rfl, ?hyb5f_18⟩) (by assumption) ?restb5f_18
        case hyb5f_18 =>
          intro w hSw
          (try dsimp only at hSw)
          go_simp
          (try with_reducible rfl)
        (try simp only [Act.put, List.setIfInBounds_toArray, List.set_cons_zero, List.set_cons_succ])
        refine wpAnyH_done (by kernel_rfl) ?_ _
        have HN : Hid (∃ s t, Sit w nb [] s t (x : Int) C m2 F7 w9 ∧ Two w F7 pa (pa + 1) (a1, a2) (b1, b2) w9) := Lib.hid ⟨_, _, HS7.out.1.below hb8, HS7.out.2.below hb8⟩
        go_wp2_with fail
        go_roundw
        case rel => exact ⟨k + 1, x, F7, by omega, by omega, rfl, rfl, HN⟩
        case measure => simp only [intOf]; omega
      · go_wp2_with fail
        refine wp_region_held_drew (S := (fun V => V.cell? ⟨pa, 0, none⟩ = some (.int .i64 a1) ∧ V.cell? ⟨pa, 1, none⟩ = some (.int .i64 a2) ∧ V.cell? ⟨pa + 1, 0, none⟩ = some (.int .i64 b1) ∧ V.cell? ⟨pa + 1, 1, none⟩ = some (.int .i64 b2) ∧ V.cell? ⟨pb, po + k * 5, none⟩ = some (.int .i64 f1) ∧ V.cell? ⟨pb, po + k * 5 + 1, none⟩ = some (.int .i64 f2) ∧ V.cell? ⟨pb, po + k * 5 + 2, none⟩ = some (.int .i64 t1) ∧ V.cell? ⟨pb, po + k * 5 + 3, none⟩ = some (.int .i64 t2))) (by kernel_rfl) (by first | exact HSS.out _ (Below.refl _ _).drew | exact HSS.out _ (Below.refl _ _)) (fun hHeld => ?_)
        refine wpAnyH_take (i := 0) (oi := { dst := some 44, op := Op.load 33 (Operand.tmp 3), type := 33, pos := "law.go:132", after := #[], guard := none }) (v := ?va6_1) rfl (by kernel_rfl) (by kernel_rfl) (by kernel_rfl) (fun _ _ _ h => h) (Or.inl ⟨by rfl, ?hya6_1⟩) (by assumption) ?resta6_1
        case hya6_1 =>
          intro w hSw
          (try dsimp only at hSw)
          go_simp
          (try with_reducible rfl)
        (try simp only [Act.put, List.setIfInBounds_toArray, List.set_cons_zero, List.set_cons_succ])
        refine wpAnyH_take (i := 1) (oi := { dst := some 45, op := Op.load 33 (Operand.tmp 4), type := 33, pos := "law.go:132", after := #[], guard := none }) (v := ?va6_2) rfl (by kernel_rfl) (by kernel_rfl) (by kernel_rfl) (fun _ _ _ h => h) (Or.inl ⟨by rfl, ?hya6_2⟩) (by assumption) ?resta6_2
        case hya6_2 =>
          intro w hSw
          (try dsimp only at hSw)
          go_simp
          (try with_reducible rfl)
        (try simp only [Act.put, List.setIfInBounds_toArray, List.set_cons_zero, List.set_cons_succ])
        refine wpAnyH_take (i := 2) (oi := { dst := some 46, op := Op.binOp BinOp.neq 33 (Operand.tmp 44) (Operand.tmp 45) 33, type := 4, pos := "law.go:132", after := #[{ on := 0, ground := Ground.data }, { on := 1, ground := Ground.data }], guard := none }) (v := ?va6_3) rfl (by kernel_rfl) (by kernel_rfl) (by kernel_rfl) (fun _ _ _ h => h) (Or.inl ⟨by rfl, ?hya6_3⟩) (by assumption) ?resta6_3
        case hya6_3 =>
          intro w hSw
          (try dsimp only at hSw)
          go_simp
          (try with_reducible rfl)
        (try simp only [Act.put, List.setIfInBounds_toArray, List.set_cons_zero, List.set_cons_succ])
        refine wpAnyH_take (i := 3) (oi := { dst := some 47, op := Op.move (Operand.tmp 46), type := 4, pos := "law.go:132", after := #[{ on := 2, ground := Ground.data }], guard := none }) (v := ?va6_4) rfl (by kernel_rfl) (by kernel_rfl) (by kernel_rfl) (fun _ _ _ h => h) (Or.inl ⟨by rfl, ?hya6_4⟩) (by assumption) ?resta6_4
        case hya6_4 =>
          intro w hSw
          (try dsimp only at hSw)
          go_simp
          (try with_reducible rfl)
        (try simp only [Act.put, List.setIfInBounds_toArray, List.set_cons_zero, List.set_cons_succ])
        refine wpAnyH_take (i := 4) (oi := { dst := some 48, op := Op.move (Operand.tmp 2), type := 27, pos := "law.go:132", after := #[{ on := 3, ground := Ground.guard }], guard := some (3, true) }) (v := ?va6_5) rfl (by kernel_rfl) (by kernel_rfl) (by kernel_rfl) (fun _ _ _ h => h) (Or.inl ⟨by rfl, ?hya6_5⟩) (by assumption) ?resta6_5
        case hya6_5 =>
          intro w hSw
          (try dsimp only at hSw)
          go_simp
          (try with_reducible rfl)
        (try simp only [Act.put, List.setIfInBounds_toArray, List.set_cons_zero, List.set_cons_succ])
        refine wpAnyH_take (i := 5) (oi := { dst := some 49, op := Op.move (Operand.tmp 9), type := 3, pos := "law.go:132", after := #[{ on := 3, ground := Ground.guard }], guard := some (3, true) }) (v := ?va6_6) rfl (by kernel_rfl) (by kernel_rfl) (by kernel_rfl) (fun _ _ _ h => h) (Or.inl ⟨by rfl, ?hya6_6⟩) (by assumption) ?resta6_6
        case hya6_6 =>
          intro w hSw
          (try dsimp only at hSw)
          go_simp
          (try with_reducible rfl)
        (try simp only [Act.put, List.setIfInBounds_toArray, List.set_cons_zero, List.set_cons_succ])
        refine wpAnyH_take (i := 6) (oi := { dst := some 50, op := Op.indexAddr 27 (Operand.tmp 48) (Operand.tmp 49), type := 0, pos := "law.go:132", after := #[{ on := 4, ground := Ground.data }, { on := 5, ground := Ground.data }, { on := 3, ground := Ground.guard }], guard := some (3, true) }) (v := ?va6_7) rfl (by kernel_rfl) (by kernel_rfl) (by kernel_rfl) (fun _ _ _ h => h) (Or.inl ⟨by rfl, ?hya6_7⟩) (by assumption) ?resta6_7
        case hya6_7 =>
          intro w hSw
          (try dsimp only at hSw)
          go_simp
          (try with_reducible rfl)
        (try simp only [Act.put, List.setIfInBounds_toArray, List.set_cons_zero, List.set_cons_succ])
        refine wpAnyH_take (i := 7) (oi := { dst := some 51, op := Op.fieldAddr 36 (Operand.tmp 50) 0, type := 0, pos := "law.go:132", after := #[{ on := 6, ground := Ground.data }, { on := 3, ground := Ground.guard }], guard := some (3, true) }) (v := ?va6_8) rfl (by kernel_rfl) (by kernel_rfl) (by kernel_rfl) (fun _ _ _ h => h) (Or.inl ⟨by rfl, ?hya6_8⟩) (by assumption) ?resta6_8
        case hya6_8 =>
          intro w hSw
          (try dsimp only at hSw)
          go_simp
          (try with_reducible rfl)
        (try simp only [Act.put, List.setIfInBounds_toArray, List.set_cons_zero, List.set_cons_succ])
        refine wpAnyH_take (i := 8) (oi := { dst := some 52, op := Op.load 33 (Operand.tmp 51), type := 33, pos := "law.go:132", after := #[{ on := 7, ground := Ground.data }, { on := 3, ground := Ground.guard }], guard := some (3, true) }) (v := ?va6_9) rfl (by kernel_rfl) (by kernel_rfl) (by kernel_rfl) (fun _ _ _ h => h) (Or.inl ⟨by rfl, ?hya6_9⟩) (by assumption) ?resta6_9
        case hya6_9 =>
          intro w hSw
          (try dsimp only at hSw)
          go_simp
          (try with_reducible rfl)
        (try simp only [Act.put, List.setIfInBounds_toArray, List.set_cons_zero, List.set_cons_succ])
        refine wpAnyH_take (i := 9) (oi := { dst := some 53, op := Op.load 33 (Operand.tmp 3), type := 33, pos := "law.go:132", after := #[{ on := 3, ground := Ground.guard }], guard := some (3, true) }) (v := ?va6_10) rfl (by kernel_rfl) (by kernel_rfl) (by kernel_rfl) (fun _ _ _ h => h) (Or.inl ⟨by rfl, ?hya6_10⟩) (by assumption) ?resta6_10
        case hya6_10 =>
          intro w hSw
          (try dsimp only at hSw)
          go_simp
          (try with_reducible rfl)
        (try simp only [Act.put, List.setIfInBounds_toArray, List.set_cons_zero, List.set_cons_succ])
        refine wpAnyH_take (i := 10) (oi := { dst := some 54, op := Op.binOp BinOp.eql 33 (Operand.tmp 52) (Operand.tmp 53) 33, type := 4, pos := "law.go:132", after := #[{ on := 8, ground := Ground.data }, { on := 9, ground := Ground.data }, { on := 3, ground := Ground.guard }], guard := some (3, true) }) (v := ?va6_11) rfl (by kernel_rfl) (by kernel_rfl) (by kernel_rfl) (fun _ _ _ h => h) (Or.inl ⟨by rfl, ?hya6_11⟩) (by assumption) ?resta6_11
        case hya6_11 =>
          intro w hSw
          (try dsimp only at hSw)
          go_simp
          (try with_reducible rfl)
        (try simp only [Act.put, List.setIfInBounds_toArray, List.set_cons_zero, List.set_cons_succ])
        refine wpAnyH_take (i := 11) (oi := { dst := some 55, op := Op.move (Operand.tmp 54), type := 4, pos := "law.go:132", after := #[{ on := 10, ground := Ground.data }, { on := 3, ground := Ground.chain }, { on := 3, ground := Ground.guard }], guard := some (3, true) }) (v := ?va6_12) rfl (by kernel_rfl) (by kernel_rfl) (by kernel_rfl) (fun _ _ _ h => h) (Or.inl ⟨by rfl, ?hya6_12⟩) (by assumption) ?resta6_12
        case hya6_12 =>
          intro w hSw
          (try dsimp only at hSw)
          go_simp
          (try with_reducible rfl)
        (try simp only [Act.put, List.setIfInBounds_toArray, List.set_cons_zero, List.set_cons_succ])
        refine wpAnyH_take (i := 12) (oi := { dst := some 56, op := Op.move (Operand.tmp 2), type := 27, pos := "law.go:132", after := #[{ on := 11, ground := Ground.guard }], guard := some (11, true) }) (v := undef) rfl (by kernel_rfl) (by kernel_rfl) (by kernel_rfl) (fun _ _ _ h => h) (Or.inr ⟨by rfl, rfl⟩) (by assumption) ?_
        (try simp only [Act.put, List.setIfInBounds_toArray, List.set_cons_zero, List.set_cons_succ])
        refine wpAnyH_take (i := 13) (oi := { dst := some 57, op := Op.move (Operand.tmp 9), type := 3, pos := "law.go:132", after := #[{ on := 11, ground := Ground.guard }], guard := some (11, true) }) (v := undef) rfl (by kernel_rfl) (by kernel_rfl) (by kernel_rfl) (fun _ _ _ h => h) (Or.inr ⟨by rfl, rfl⟩) (by assumption) ?_
        (try simp only [Act.put, List.setIfInBounds_toArray, List.set_cons_zero, List.set_cons_succ])
        refine wpAnyH_take (i := 14) (oi := { dst := some 58, op := Op.indexAddr 27 (Operand.tmp 56) (Operand.tmp 57), type := 0, pos := "law.go:132", after := #[{ on := 12, ground := Ground.data }, { on := 13, ground := Ground.data }, { on := 11, ground := Ground.guard }], guard := some (11, true) }) (v := undef) rfl (by kernel_rfl) (by kernel_rfl) (by kernel_rfl) (fun _ _ _ h => h) (Or.inr ⟨by rfl, rfl⟩) (by assumption) ?_
        (try simp only [Act.put, List.setIfInBounds_toArray, List.set_cons_zero, List.set_cons_succ])
        refine wpAnyH_take (i := 15) (oi := { dst := some 59, op := Op.fieldAddr 36 (Operand.tmp 58) 1, type := 0, pos := "law.go:132", after := #[{ on := 14, ground := Ground.data }, { on := 11, ground := Ground.guard }], guard := some (11, true) }) (v := undef) rfl (by kernel_rfl) (by kernel_rfl) (by kernel_rfl) (fun _ _ _ h => h) (Or.inr ⟨by rfl, rfl⟩) (by assumption) ?_
        (try simp only [Act.put, List.setIfInBounds_toArray, List.set_cons_zero, List.set_cons_succ])
        refine wpAnyH_take (i := 16) (oi := { dst := some 60, op := Op.load 33 (Operand.tmp 59), type := 33, pos := "law.go:132", after := #[{ on := 15, ground := Ground.data }, { on := 11, ground := Ground.guard }], guard := some (11, true) }) (v := undef) rfl (by kernel_rfl) (by kernel_rfl) (by kernel_rfl) (fun _ _ _ h => h) (Or.inr ⟨by rfl, rfl⟩) (by assumption) ?_
        (try simp only [Act.put, List.setIfInBounds_toArray, List.set_cons_zero, List.set_cons_succ])
        refine wpAnyH_take (i := 17) (oi := { dst := some 61, op := Op.load 33 (Operand.tmp 4), type := 33, pos := "law.go:132", after := #[{ on := 11, ground := Ground.guard }], guard := some (11, true) }) (v := undef) rfl (by kernel_rfl) (by kernel_rfl) (by kernel_rfl) (fun _ _ _ h => h) (Or.inr ⟨by rfl, rfl⟩) (by assumption) ?_
        (try simp only [Act.put, List.setIfInBounds_toArray, List.set_cons_zero, List.set_cons_succ])
        refine wpAnyH_take (i := 18) (oi := { dst := some 62, op := Op.binOp BinOp.eql 33 (Operand.tmp 60) (Operand.tmp 61) 33, type := 4, pos := "law.go:132", after := #[{ on := 16, ground := Ground.data }, { on := 17, ground := Ground.data }, { on := 11, ground := Ground.guard }], guard := some (11, true) }) (v := undef) rfl (by kernel_rfl) (by kernel_rfl) (by kernel_rfl) (fun _ _ _ h => h) (Or.inr ⟨by rfl, rfl⟩) (by assumption) ?_
        (try simp only [Act.put, List.setIfInBounds_toArray, List.set_cons_zero, List.set_cons_succ])
        refine wpAnyH_take (i := 19) (oi := { dst := some 63, op := Op.pick (Operand.tmp 55) (Operand.tmp 62) (Operand.const (Value.bool false)), type := 4, pos := "law.go:132", after := #[{ on := 11, ground := Ground.data }, { on := 18, ground := Ground.data }, { on := 3, ground := Ground.guard }], guard := some (3, true) }) (v := ?va6_20) rfl (by kernel_rfl) (by kernel_rfl) (by kernel_rfl) (fun _ _ _ h => h) (Or.inl ⟨by rfl, ?hya6_20⟩) (by assumption) ?resta6_20
        case hya6_20 =>
          intro w hSw
          (try dsimp only at hSw)
          go_simp
          (try with_reducible rfl)
        (try simp only [Act.put, List.setIfInBounds_toArray, List.set_cons_zero, List.set_cons_succ])
        refine wpAnyH_take (i := 20) (oi := { dst := some 64, op := Op.move (Operand.tmp 63), type := 4, pos := "law.go:132", after := #[{ on := 19, ground := Ground.data }, { on := 11, ground := Ground.chain }, { on := 3, ground := Ground.guard }], guard := some (3, true) }) (v := ?va6_21) rfl (by kernel_rfl) (by kernel_rfl) (by kernel_rfl) (fun _ _ _ h => h) (Or.inl ⟨by rfl, ?hya6_21⟩) (by assumption) ?resta6_21
        case hya6_21 =>
          intro w hSw
          (try dsimp only at hSw)
          go_simp
          (try with_reducible rfl)
        (try simp only [Act.put, List.setIfInBounds_toArray, List.set_cons_zero, List.set_cons_succ])
        refine wpAnyH_take (i := 21) (oi := { dst := some 65, op := Op.move (Operand.tmp 2), type := 27, pos := "law.go:132", after := #[{ on := 20, ground := Ground.guard }], guard := some (20, false) }) (v := ?va6_22) rfl (by kernel_rfl) (by kernel_rfl) (by kernel_rfl) (fun _ _ _ h => h) (Or.inl ⟨by rfl, ?hya6_22⟩) (by assumption) ?resta6_22
        case hya6_22 =>
          intro w hSw
          (try dsimp only at hSw)
          go_simp
          (try with_reducible rfl)
        (try simp only [Act.put, List.setIfInBounds_toArray, List.set_cons_zero, List.set_cons_succ])
        refine wpAnyH_take (i := 22) (oi := { dst := some 66, op := Op.move (Operand.tmp 9), type := 3, pos := "law.go:132", after := #[{ on := 20, ground := Ground.guard }], guard := some (20, false) }) (v := ?va6_23) rfl (by kernel_rfl) (by kernel_rfl) (by kernel_rfl) (fun _ _ _ h => h) (Or.inl ⟨by rfl, ?hya6_23⟩) (by assumption) ?resta6_23
        case hya6_23 =>
          intro w hSw
          (try dsimp only at hSw)
          go_simp
          (try with_reducible rfl)
        (try simp only [Act.put, List.setIfInBounds_toArray, List.set_cons_zero, List.set_cons_succ])
        refine wpAnyH_take (i := 23) (oi := { dst := some 67, op := Op.indexAddr 27 (Operand.tmp 65) (Operand.tmp 66), type := 0, pos := "law.go:132", after := #[{ on := 21, ground := Ground.data }, { on := 22, ground := Ground.data }, { on := 20, ground := Ground.guard }], guard := some (20, false) }) (v := ?va6_24) rfl (by kernel_rfl) (by kernel_rfl) (by kernel_rfl) (fun _ _ _ h => h) (Or.inl ⟨by rfl, ?hya6_24⟩) (by assumption) ?resta6_24
        case hya6_24 =>
          intro w hSw
          (try dsimp only at hSw)
          go_simp
          (try with_reducible rfl)
        (try simp only [Act.put, List.setIfInBounds_toArray, List.set_cons_zero, List.set_cons_succ])
        refine wpAnyH_take (i := 24) (oi := { dst := some 68, op := Op.fieldAddr 36 (Operand.tmp 67) 0, type := 0, pos := "law.go:132", after := #[{ on := 23, ground := Ground.data }, { on := 20, ground := Ground.guard }], guard := some (20, false) }) (v := ?va6_25) rfl (by kernel_rfl) (by kernel_rfl) (by kernel_rfl) (fun _ _ _ h => h) (Or.inl ⟨by rfl, ?hya6_25⟩) (by assumption) ?resta6_25
        case hya6_25 =>
          intro w hSw
          (try dsimp only at hSw)
          go_simp
          (try with_reducible rfl)
        (try simp only [Act.put, List.setIfInBounds_toArray, List.set_cons_zero, List.set_cons_succ])
        refine wpAnyH_take (i := 25) (oi := { dst := some 69, op := Op.load 33 (Operand.tmp 68), type := 33, pos := "law.go:132", after := #[{ on := 24, ground := Ground.data }, { on := 20, ground := Ground.guard }], guard := some (20, false) }) (v := ?va6_26) rfl (by kernel_rfl) (by kernel_rfl) (by kernel_rfl) (fun _ _ _ h => h) (Or.inl ⟨by rfl, ?hya6_26⟩) (by assumption) ?resta6_26
        case hya6_26 =>
          intro w hSw
          (try dsimp only at hSw)
          go_simp
          (try with_reducible rfl)
        (try simp only [Act.put, List.setIfInBounds_toArray, List.set_cons_zero, List.set_cons_succ])
        refine wpAnyH_take (i := 26) (oi := { dst := some 70, op := Op.load 33 (Operand.tmp 4), type := 33, pos := "law.go:132", after := #[{ on := 20, ground := Ground.guard }], guard := some (20, false) }) (v := ?va6_27) rfl (by kernel_rfl) (by kernel_rfl) (by kernel_rfl) (fun _ _ _ h => h) (Or.inl ⟨by rfl, ?hya6_27⟩) (by assumption) ?resta6_27
        case hya6_27 =>
          intro w hSw
          (try dsimp only at hSw)
          go_simp
          (try with_reducible rfl)
        (try simp only [Act.put, List.setIfInBounds_toArray, List.set_cons_zero, List.set_cons_succ])
        refine wpAnyH_take (i := 27) (oi := { dst := some 71, op := Op.binOp BinOp.eql 33 (Operand.tmp 69) (Operand.tmp 70) 33, type := 4, pos := "law.go:132", after := #[{ on := 25, ground := Ground.data }, { on := 26, ground := Ground.data }, { on := 20, ground := Ground.guard }], guard := some (20, false) }) (v := ?va6_28) rfl (by kernel_rfl) (by kernel_rfl) (by kernel_rfl) (fun _ _ _ h => h) (Or.inl ⟨by rfl, ?hya6_28⟩) (by assumption) ?resta6_28
        case hya6_28 =>
          intro w hSw
          (try dsimp only at hSw)
          go_simp
          (try with_reducible rfl)
        (try simp only [Act.put, List.setIfInBounds_toArray, List.set_cons_zero, List.set_cons_succ])
        refine wpAnyH_take (i := 28) (oi := { dst := some 72, op := Op.move (Operand.tmp 71), type := 4, pos := "law.go:132", after := #[{ on := 27, ground := Ground.data }, { on := 20, ground := Ground.chain }, { on := 20, ground := Ground.guard }], guard := some (20, false) }) (v := ?va6_29) rfl (by kernel_rfl) (by kernel_rfl) (by kernel_rfl) (fun _ _ _ h => h) (Or.inl ⟨by rfl, ?hya6_29⟩) (by assumption) ?resta6_29
        case hya6_29 =>
          intro w hSw
          (try dsimp only at hSw)
          go_simp
          (try with_reducible rfl)
        (try simp only [Act.put, List.setIfInBounds_toArray, List.set_cons_zero, List.set_cons_succ])
        refine wpAnyH_take (i := 29) (oi := { dst := some 73, op := Op.move (Operand.tmp 2), type := 27, pos := "law.go:132", after := #[{ on := 28, ground := Ground.guard }], guard := some (28, true) }) (v := undef) rfl (by kernel_rfl) (by kernel_rfl) (by kernel_rfl) (fun _ _ _ h => h) (Or.inr ⟨by rfl, rfl⟩) (by assumption) ?_
        (try simp only [Act.put, List.setIfInBounds_toArray, List.set_cons_zero, List.set_cons_succ])
        refine wpAnyH_take (i := 30) (oi := { dst := some 74, op := Op.move (Operand.tmp 9), type := 3, pos := "law.go:132", after := #[{ on := 28, ground := Ground.guard }], guard := some (28, true) }) (v := undef) rfl (by kernel_rfl) (by kernel_rfl) (by kernel_rfl) (fun _ _ _ h => h) (Or.inr ⟨by rfl, rfl⟩) (by assumption) ?_
        (try simp only [Act.put, List.setIfInBounds_toArray, List.set_cons_zero, List.set_cons_succ])
        refine wpAnyH_take (i := 31) (oi := { dst := some 75, op := Op.indexAddr 27 (Operand.tmp 73) (Operand.tmp 74), type := 0, pos := "law.go:132", after := #[{ on := 29, ground := Ground.data }, { on := 30, ground := Ground.data }, { on := 28, ground := Ground.guard }], guard := some (28, true) }) (v := undef) rfl (by kernel_rfl) (by kernel_rfl) (by kernel_rfl) (fun _ _ _ h => h) (Or.inr ⟨by rfl, rfl⟩) (by assumption) ?_
        (try simp only [Act.put, List.setIfInBounds_toArray, List.set_cons_zero, List.set_cons_succ])
        refine wpAnyH_take (i := 32) (oi := { dst := some 76, op := Op.fieldAddr 36 (Operand.tmp 75) 1, type := 0, pos := "law.go:132", after := #[{ on := 31, ground := Ground.data }, { on := 28, ground := Ground.guard }], guard := some (28, true) }) (v := undef) rfl (by kernel_rfl) (by kernel_rfl) (by kernel_rfl) (fun _ _ _ h => h) (Or.inr ⟨by rfl, rfl⟩) (by assumption) ?_
        (try simp only [Act.put, List.setIfInBounds_toArray, List.set_cons_zero, List.set_cons_succ])
        refine wpAnyH_take (i := 33) (oi := { dst := some 77, op := Op.load 33 (Operand.tmp 76), type := 33, pos := "law.go:132", after := #[{ on := 32, ground := Ground.data }, { on := 28, ground := Ground.guard }], guard := some (28, true) }) (v := undef) rfl (by kernel_rfl) (by kernel_rfl) (by kernel_rfl) (fun _ _ _ h => h) (Or.inr ⟨by rfl, rfl⟩) (by assumption) ?_
        (try simp only [Act.put, List.setIfInBounds_toArray, List.set_cons_zero, List.set_cons_succ])
        refine wpAnyH_take (i := 34) (oi := { dst := some 78, op := Op.load 33 (Operand.tmp 3), type := 33, pos := "law.go:132", after := #[{ on := 28, ground := Ground.guard }], guard := some (28, true) }) (v := undef) rfl (by kernel_rfl) (by kernel_rfl) (by kernel_rfl) (fun _ _ _ h => h) (Or.inr ⟨by rfl, rfl⟩) (by assumption) ?_
        (try simp only [Act.put, List.setIfInBounds_toArray, List.set_cons_zero, List.set_cons_succ])
        refine wpAnyH_take (i := 35) (oi := { dst := some 79, op := Op.binOp BinOp.eql 33 (Operand.tmp 77) (Operand.tmp 78) 33, type := 4, pos := "law.go:132", after := #[{ on := 33, ground := Ground.data }, { on := 34, ground := Ground.data }, { on := 28, ground := Ground.guard }], guard := some (28, true) }) (v := undef) rfl (by kernel_rfl) (by kernel_rfl) (by kernel_rfl) (fun _ _ _ h => h) (Or.inr ⟨by rfl, rfl⟩) (by assumption) ?_
        (try simp only [Act.put, List.setIfInBounds_toArray, List.set_cons_zero, List.set_cons_succ])
        refine wpAnyH_take (i := 36) (oi := { dst := some 80, op := Op.pick (Operand.tmp 72) (Operand.tmp 79) (Operand.const (Value.bool false)), type := 4, pos := "law.go:132", after := #[{ on := 28, ground := Ground.data }, { on := 35, ground := Ground.data }, { on := 20, ground := Ground.guard }], guard := some (20, false) }) (v := ?va6_37) rfl (by kernel_rfl) (by kernel_rfl) (by kernel_rfl) (fun _ _ _ h => h) (Or.inl ⟨by rfl, ?hya6_37⟩) (by assumption) ?resta6_37
        case hya6_37 =>
          intro w hSw
          (try dsimp only at hSw)
          go_simp
          (try with_reducible rfl)
        (try simp only [Act.put, List.setIfInBounds_toArray, List.set_cons_zero, List.set_cons_succ])
        refine wpAnyH_take (i := 37) (oi := { dst := some 81, op := Op.pick (Operand.tmp 64) (Operand.const (Value.bool true)) (Operand.tmp 80), type := 4, pos := "law.go:132", after := #[{ on := 20, ground := Ground.data }, { on := 36, ground := Ground.data }, { on := 3, ground := Ground.guard }], guard := some (3, true) }) (v := ?va6_38) rfl (by kernel_rfl) (by kernel_rfl) (by kernel_rfl) (fun _ _ _ h => h) (Or.inl ⟨by rfl, ?hya6_38⟩) (by assumption) ?resta6_38
        case hya6_38 =>
          intro w hSw
          (try dsimp only at hSw)
          go_simp
          (try with_reducible rfl)
        (try simp only [Act.put, List.setIfInBounds_toArray, List.set_cons_zero, List.set_cons_succ])
        refine wpAnyH_take (i := 38) (oi := { dst := some 82, op := Op.pick (Operand.tmp 47) (Operand.tmp 81) (Operand.const (Value.bool false)), type := 4, pos := "law.go:132", after := #[{ on := 3, ground := Ground.data }, { on := 37, ground := Ground.data }], guard := none }) (v := ?va6_39) rfl (by kernel_rfl) (by kernel_rfl) (by kernel_rfl) (fun _ _ _ h => h) (Or.inl ⟨by rfl, ?hya6_39⟩) (by assumption) ?resta6_39
        case hya6_39 =>
          intro w hSw
          (try dsimp only at hSw)
          go_simp
          (try with_reducible rfl)
        (try simp only [Act.put, List.setIfInBounds_toArray, List.set_cons_zero, List.set_cons_succ])
        refine wpAnyH_take (i := 39) (oi := { dst := some 10, op := Op.assign (Operand.tmp 82), type := 4, pos := "law.go:132", after := #[{ on := 38, ground := Ground.data }, { on := 28, ground := Ground.chain }, { on := 0, ground := Ground.phase }, { on := 1, ground := Ground.phase }, { on := 2, ground := Ground.phase }, { on := 3, ground := Ground.phase }, { on := 4, ground := Ground.phase }, { on := 5, ground := Ground.phase }, { on := 6, ground := Ground.phase }, { on := 7, ground := Ground.phase }, { on := 8, ground := Ground.phase }, { on := 9, ground := Ground.phase }, { on := 10, ground := Ground.phase }, { on := 11, ground := Ground.phase }, { on := 12, ground := Ground.phase }, { on := 13, ground := Ground.phase }, { on := 14, ground := Ground.phase }, { on := 15, ground := Ground.phase }, { on := 16, ground := Ground.phase }, { on := 17, ground := Ground.phase }, { on := 18, ground := Ground.phase }, { on := 19, ground := Ground.phase }, { on := 20, ground := Ground.phase }, { on := 21, ground := Ground.phase }, { on := 22, ground := Ground.phase }, { on := 23, ground := Ground.phase }, { on := 24, ground := Ground.phase }, { on := 25, ground := Ground.phase }, { on := 26, ground := Ground.phase }, { on := 27, ground := Ground.phase }, { on := 28, ground := Ground.phase }, { on := 29, ground := Ground.phase }, { on := 30, ground := Ground.phase }, { on := 31, ground := Ground.phase }, { on := 32, ground := Ground.phase }, { on := 33, ground := Ground.phase }, { on := 34, ground := Ground.phase }, { on := 35, ground := Ground.phase }, { on := 36, ground := Ground.phase }, { on := 37, ground := Ground.phase }, { on := 38, ground := Ground.phase }], guard := none }) (v := ?va6_40) rfl (by kernel_rfl) (by kernel_rfl) (by kernel_rfl) (fun _ _ _ h => h) (Or.inl ⟨by rfl, ?hya6_40⟩) (by assumption) ?resta6_40
        case hya6_40 =>
          intro w hSw
          (try dsimp only at hSw)
          go_simp
          (try with_reducible rfl)
        (try simp only [Act.put, List.setIfInBounds_toArray, List.set_cons_zero, List.set_cons_succ])
        refine wpAnyH_done (by kernel_rfl) ?_ _
        have H7 := Lib.hid (take_in S3d.out.1 (i := 0) (a1 := f1) (a2 := f2) (b1 := t1) (b2 := t2) (zs := xs) rfl)
        go_wp2_with fail
        refine H7.out.mono ?_
        rintro e7 w7 (⟨hc, _⟩ | ⟨_, A7, c7, he7, F7, hN7, hS7, hD7, _, _⟩)
        · exact absurd (HAP.out.symm.trans hc) (by decide)
        rw [HJ.out.2.2.2.1] at hD7 he7
        subst he7
        obtain ⟨U7, hU7⟩ : ∃ U, w7.alloc (.cells #[.int .i64 f1, .int .i64 f2, .int .i64 t1, .int .i64 t2, .slice A7 n c7] 36) = U := ⟨_, rfl⟩
        have hb7 : Below w7.heap.size w7 U7 := by rw [← hU7]; exact (Below.refl _ w7).alloc (Nat.le_refl _) _
        have hP7 : Bn w7.heap.size 36 [.int .i64 f1, .int .i64 f2, .int .i64 t1, .int .i64 t2, .slice A7 n c7] U7 := by rw [← hU7]; exact heap_alloc_new w7 _
        have hS7' : Sit w nb [] _ _ _ C m2 F7 U7 := (S3d.out.step hN7 hS7).below hb7
        have hT7' := (T3d.out.step hS7).below hb7
        have hD7' := own_below hD7 hb7 (Nat.le_refl _)
        obtain ⟨pv, hpv⟩ : ∃ b, w7.heap.size = b := ⟨_, rfl⟩
        rw [hpv] at hP7
        have HLN : Hid (∀ V, Below U7.heap.size U7 V → Calls Try.prog 13 #[hd nb] V (fun e w' => e = .returned (.int .i64 0) ∧ w' = V)) := Lib.hid fun V hV => len_any (hS7'.below hV).1 0 rfl
        have HS2 : Hid (∀ V, Below U7.heap.size U7 V → (V.cell? ⟨pv, 0, none⟩ = some (.int .i64 f1) ∧ V.cell? ⟨pv, 1, none⟩ = some (.int .i64 f2) ∧ V.cell? ⟨pv, 2, none⟩ = some (.int .i64 t1) ∧ V.cell? ⟨pv, 3, none⟩ = some (.int .i64 t2) ∧ V.cell? ⟨pv, 4, none⟩ = some (.slice A7 n c7)) ∧ V.cell? ⟨pb, po + k * 5, none⟩ = some (.int .i64 f1) ∧ V.cell? ⟨pb, po + k * 5 + 1, none⟩ = some (.int .i64 f2) ∧ V.cell? ⟨pb, po + k * 5 + 2, none⟩ = some (.int .i64 t1) ∧ V.cell? ⟨pb, po + k * 5 + 3, none⟩ = some (.int .i64 t2) ∧ V.cell? ⟨pb, po + k * 5 + 4, none⟩ = some (.slice Ad n cd)) := Lib.hid fun V hV => by
          have hP := hP7.same (hV.block _ hP7.lt)
          have hw := hS7'.2.1.trans (hV.mono hS7'.2.1.size)
          obtain ⟨_, _, _, _, h11, h12, h13, h14, h15, h16, _⟩ := HJ.out
          exact ⟨⟨(hP.cell 0).trans rfl, (hP.cell 1).trans rfl, (hP.cell 2).trans rfl, (hP.cell 3).trans rfl, (hP.cell 4).trans rfl⟩, (hw.cell (p := ⟨pb, po + k * 5, none⟩) h11).trans h12, (hw.cell (p := ⟨pb, po + k * 5 + 1, none⟩) h11).trans h13, (hw.cell (p := ⟨pb, po + k * 5 + 2, none⟩) h11).trans h14, (hw.cell (p := ⟨pb, po + k * 5 + 3, none⟩) h11).trans h15, (hw.cell (p := ⟨pb, po + k * 5 + 4, none⟩) h11).trans h16⟩
        have HSM : Hid (∀ V, Below U7.heap.size U7 V → Calls Try.prog 17 #[.agg #[.int .i64 f1, .int .i64 f2, .int .i64 t1, .int .i64 t2, .slice A7 n c7], .agg #[.int .i64 f1, .int .i64 f2, .int .i64 t1, .int .i64 t2, .slice Ad n cd]] V (fun e w' => e = .returned (.bool true) ∧ Below V.heap.size V w')) := Lib.hid fun V hV => by
          have hw := hS7'.2.1.trans (hV.mono hS7'.2.1.size)
          exact same_yes V f1 f2 t1 t2 xs n HJ.out.2.2.2.1 A7 Ad c7 cd (own_ns (c := c7) (n := n) (by rw [HJ.out.2.2.2.1]; exact own_below hD7' hV (Nat.le_refl _))) ((HJ.out.2.2.1.below hw).more hw.size)
        have HS7 := Lib.hid (And.intro hS7' hT7')
        clear hb7 hP7 hS7' hT7' hD7' hN7 hS7 hD7 H7
        go_wp2_with fail
        refine wp_region_held_drew (S := (fun V => Below U7.heap.size U7 V ∧ V.cell? ⟨pv, 0, none⟩ = some (.int .i64 f1) ∧ V.cell? ⟨pv, 1, none⟩ = some (.int .i64 f2) ∧ V.cell? ⟨pv, 2, none⟩ = some (.int .i64 t1) ∧ V.cell? ⟨pv, 3, none⟩ = some (.int .i64 t2) ∧ V.cell? ⟨pv, 4, none⟩ = some (.slice A7 n c7) ∧ V.cell? ⟨pb, po + k * 5, none⟩ = some (.int .i64 f1) ∧ V.cell? ⟨pb, po + k * 5 + 1, none⟩ = some (.int .i64 f2) ∧ V.cell? ⟨pb, po + k * 5 + 2, none⟩ = some (.int .i64 t1) ∧ V.cell? ⟨pb, po + k * 5 + 3, none⟩ = some (.int .i64 t2) ∧ V.cell? ⟨pb, po + k * 5 + 4, none⟩ = some (.slice Ad n cd))) (by kernel_rfl) (by have hb8 : Below U7.heap.size U7 U7.drew := (Below.refl _ U7).drew; exact (⟨hb8, (HS2.out _ hb8).1.1, (HS2.out _ hb8).1.2.1, (HS2.out _ hb8).1.2.2.1, (HS2.out _ hb8).1.2.2.2.1, (HS2.out _ hb8).1.2.2.2.2, (HS2.out _ hb8).2⟩)) (fun hHeld => ?_)
        refine wpAnyH_take (i := 0) (oi := { dst := some 88, op := Op.move (Operand.tmp 12), type := 4, pos := "law.go:134", after := #[], guard := none }) (v := ?vb6f_1) rfl (by kernel_rfl) (by kernel_rfl) (by kernel_rfl) (fun _ _ _ h => h) (Or.inl ⟨by rfl, ?hyb6f_1⟩) (by assumption) ?restb6f_1
        case hyb6f_1 =>
          intro w hSw
          (try dsimp only at hSw)
          go_simp
          (try with_reducible rfl)
        (try simp only [Act.put, List.setIfInBounds_toArray, List.set_cons_zero, List.set_cons_succ])
        refine wpAnyH_take (i := 1) (oi := { dst := some 89, op := Op.move (Operand.tmp 10), type := 4, pos := "law.go:134", after := #[], guard := none }) (v := ?vb6f_2) rfl (by kernel_rfl) (by kernel_rfl) (by kernel_rfl) (fun _ _ _ h => h) (Or.inl ⟨by rfl, ?hyb6f_2⟩) (by assumption) ?restb6f_2
        case hyb6f_2 =>
          intro w hSw
          (try dsimp only at hSw)
          go_simp
          (try with_reducible rfl)
        (try simp only [Act.put, List.setIfInBounds_toArray, List.set_cons_zero, List.set_cons_succ])
        refine wpAnyH_take (i := 2) (oi := { dst := some 90, op := Op.binOp BinOp.eql 4 (Operand.tmp 88) (Operand.tmp 89) 4, type := 4, pos := "law.go:134", after := #[{ on := 0, ground := Ground.data }, { on := 1, ground := Ground.data }], guard := none }) (v := ?vb6f_3) rfl (by kernel_rfl) (by kernel_rfl) (by kernel_rfl) (fun _ _ _ h => h) (Or.inl ⟨by rfl, ?hyb6f_3⟩) (by assumption) ?restb6f_3
        case hyb6f_3 =>
          intro w hSw
          (try dsimp only at hSw)
          go_simp
          (try with_reducible rfl)
        (try simp only [Act.put, List.setIfInBounds_toArray, List.set_cons_zero, List.set_cons_succ])
        refine wpAnyH_take (i := 3) (oi := { dst := some 91, op := Op.move (Operand.tmp 90), type := 4, pos := "law.go:134", after := #[{ on := 2, ground := Ground.data }], guard := none }) (v := ?vb6f_4) rfl (by kernel_rfl) (by kernel_rfl) (by kernel_rfl) (fun _ _ _ h => h) (Or.inl ⟨by rfl, ?hyb6f_4⟩) (by assumption) ?restb6f_4
        case hyb6f_4 =>
          intro w hSw
          (try dsimp only at hSw)
          go_simp
          (try with_reducible rfl)
        (try simp only [Act.put, List.setIfInBounds_toArray, List.set_cons_zero, List.set_cons_succ])
        refine wpAnyH_take (i := 4) (oi := { dst := some 92, op := Op.move (Operand.tmp 12), type := 4, pos := "law.go:134", after := #[{ on := 3, ground := Ground.guard }], guard := some (3, false) }) (v := ?vb6f_5) rfl (by kernel_rfl) (by kernel_rfl) (by kernel_rfl) (fun _ _ _ h => h) (Or.inl ⟨by rfl, ?hyb6f_5⟩) (by assumption) ?restb6f_5
        case hyb6f_5 =>
          intro w hSw
          (try dsimp only at hSw)
          go_simp
          (try with_reducible rfl)
        (try simp only [Act.put, List.setIfInBounds_toArray, List.set_cons_zero, List.set_cons_succ])
        refine wpAnyH_take (i := 5) (oi := { dst := some 93, op := Op.move (Operand.tmp 92), type := 4, pos := "law.go:134", after := #[{ on := 4, ground := Ground.data }, { on := 3, ground := Ground.chain }, { on := 3, ground := Ground.guard }], guard := some (3, false) }) (v := ?vb6f_6) rfl (by kernel_rfl) (by kernel_rfl) (by kernel_rfl) (fun _ _ _ h => h) (Or.inl ⟨by rfl, ?hyb6f_6⟩) (by assumption) ?restb6f_6
        case hyb6f_6 =>
          intro w hSw
          (try dsimp only at hSw)
          go_simp
          (try with_reducible rfl)
        (try simp only [Act.put, List.setIfInBounds_toArray, List.set_cons_zero, List.set_cons_succ])
        refine wpAnyH_take (i := 6) (oi := { dst := some 94, op := Op.load 36 (Operand.tmp 11), type := 36, pos := "law.go:134", after := #[{ on := 5, ground := Ground.guard }], guard := some (5, true) }) (v := ?vb6f_7) rfl (by kernel_rfl) (by kernel_rfl) (by kernel_rfl) (fun _ _ _ h => h) (Or.inl ⟨by rfl, ?hyb6f_7⟩) (by assumption) ?restb6f_7
        case hyb6f_7 =>
          intro w hSw
          (try dsimp only at hSw)
          go_simp
          (try with_reducible rfl)
        (try simp only [Act.put, List.setIfInBounds_toArray, List.set_cons_zero, List.set_cons_succ])
        refine wpAnyH_take (i := 7) (oi := { dst := some 95, op := Op.move (Operand.tmp 2), type := 27, pos := "law.go:134", after := #[{ on := 5, ground := Ground.guard }], guard := some (5, true) }) (v := ?vb6f_8) rfl (by kernel_rfl) (by kernel_rfl) (by kernel_rfl) (fun _ _ _ h => h) (Or.inl ⟨by rfl, ?hyb6f_8⟩) (by assumption) ?restb6f_8
        case hyb6f_8 =>
          intro w hSw
          (try dsimp only at hSw)
          go_simp
          (try with_reducible rfl)
        (try simp only [Act.put, List.setIfInBounds_toArray, List.set_cons_zero, List.set_cons_succ])
        refine wpAnyH_take (i := 8) (oi := { dst := some 96, op := Op.move (Operand.tmp 9), type := 3, pos := "law.go:134", after := #[{ on := 5, ground := Ground.guard }], guard := some (5, true) }) (v := ?vb6f_9) rfl (by kernel_rfl) (by kernel_rfl) (by kernel_rfl) (fun _ _ _ h => h) (Or.inl ⟨by rfl, ?hyb6f_9⟩) (by assumption) ?restb6f_9
        case hyb6f_9 =>
          intro w hSw
          (try dsimp only at hSw)
          go_simp
          (try with_reducible rfl)
        (try simp only [Act.put, List.setIfInBounds_toArray, List.set_cons_zero, List.set_cons_succ])
        refine wpAnyH_take (i := 9) (oi := { dst := some 97, op := Op.indexAddr 27 (Operand.tmp 95) (Operand.tmp 96), type := 0, pos := "law.go:134", after := #[{ on := 7, ground := Ground.data }, { on := 8, ground := Ground.data }, { on := 5, ground := Ground.guard }], guard := some (5, true) }) (v := ?vb6f_10) rfl (by kernel_rfl) (by kernel_rfl) (by kernel_rfl) (fun _ _ _ h => h) (Or.inl ⟨by rfl, ?hyb6f_10⟩) (by assumption) ?restb6f_10
        case hyb6f_10 =>
          intro w hSw
          (try dsimp only at hSw)
          go_simp
          (try with_reducible rfl)
        (try simp only [Act.put, List.setIfInBounds_toArray, List.set_cons_zero, List.set_cons_succ])
        refine wpAnyH_take (i := 10) (oi := { dst := some 98, op := Op.load 36 (Operand.tmp 97), type := 36, pos := "law.go:134", after := #[{ on := 9, ground := Ground.data }, { on := 5, ground := Ground.guard }], guard := some (5, true) }) (v := ?vb6f_11) rfl (by kernel_rfl) (by kernel_rfl) (by kernel_rfl) (fun _ _ _ h => h) (Or.inl ⟨by rfl, ?hyb6f_11⟩) (by assumption) ?restb6f_11
        case hyb6f_11 =>
          intro w hSw
          (try dsimp only at hSw)
          go_simp
          (try with_reducible rfl)
        (try simp only [Act.put, List.setIfInBounds_toArray, List.set_cons_zero, List.set_cons_succ])
        refine wpAnyH_ready (rs := [11]) (by kernel_rfl) (by simp) ?_
        refine AllReadyH.cons (o := { dst := some 99, op := Op.call { callee := Callee.value (Operand.func 17), args := #[Operand.tmp 94, Operand.tmp 98], argTypes := #[36, 36] }, type := 4, pos := "law.go:134", after := #[{ on := 6, ground := Ground.data }, { on := 10, ground := Ground.data }, { on := 5, ground := Ground.chain }, { on := 5, ground := Ground.guard }], guard := some (5, true) }) rfl (fun K hK => ?_) AllReadyH.nil
        go_simp
        (go_at_call 17; refine (HSM.out _ hHeld.1).mono ?_; rintro e8 w8 ⟨rfl, b8⟩; have hb8 : Below U7.heap.size U7 w8 := hHeld.1.trans (b8.mono hHeld.1.size))
        go_wp2_with fail
        refine hK.out _ _ (⟨hb8, (HS2.out _ hb8).1.1, (HS2.out _ hb8).1.2.1, (HS2.out _ hb8).1.2.2.1, (HS2.out _ hb8).1.2.2.2.1, (HS2.out _ hb8).1.2.2.2.2, (HS2.out _ hb8).2⟩) (fun hHeld => ?_)
        clear hK K
        (try simp only [Act.put, List.setIfInBounds_toArray, List.set_cons_zero, List.set_cons_succ])
        refine wpAnyH_take (i := 12) (oi := { dst := some 100, op := Op.unOp UnOp.not 4 (Operand.tmp 99), type := 4, pos := "law.go:134", after := #[{ on := 11, ground := Ground.data }, { on := 5, ground := Ground.guard }], guard := some (5, true) }) (v := ?vb6f_12) rfl (by kernel_rfl) (by kernel_rfl) (by kernel_rfl) (fun _ _ _ h => h) (Or.inl ⟨by rfl, ?hyb6f_12⟩) (by assumption) ?restb6f_12
        case hyb6f_12 =>
          intro w hSw
          (try dsimp only at hSw)
          go_simp
          (try with_reducible rfl)
        (try simp only [Act.put, List.setIfInBounds_toArray, List.set_cons_zero, List.set_cons_succ])
        refine wpAnyH_take (i := 13) (oi := { dst := some 101, op := Op.pick (Operand.tmp 93) (Operand.tmp 100) (Operand.const (Value.bool false)), type := 4, pos := "law.go:134", after := #[{ on := 5, ground := Ground.data }, { on := 12, ground := Ground.data }, { on := 3, ground := Ground.guard }], guard := some (3, false) }) (v := ?vb6f_13) rfl (by kernel_rfl) (by kernel_rfl) (by kernel_rfl) (fun _ _ _ h => h) (Or.inl ⟨by rfl, ?hyb6f_13⟩) (by assumption) ?restb6f_13
        case hyb6f_13 =>
          intro w hSw
          (try dsimp only at hSw)
          go_simp
          (try with_reducible rfl)
        (try simp only [Act.put, List.setIfInBounds_toArray, List.set_cons_zero, List.set_cons_succ])
        refine wpAnyH_take (i := 14) (oi := { dst := some 102, op := Op.pick (Operand.tmp 91) (Operand.const (Value.bool true)) (Operand.tmp 101), type := 4, pos := "law.go:134", after := #[{ on := 3, ground := Ground.data }, { on := 13, ground := Ground.data }], guard := none }) (v := ?vb6f_14) rfl (by kernel_rfl) (by kernel_rfl) (by kernel_rfl) (fun _ _ _ h => h) (Or.inl ⟨by rfl, ?hyb6f_14⟩) (by assumption) ?restb6f_14
        case hyb6f_14 =>
          intro w hSw
          (try dsimp only at hSw)
          go_simp
          (try with_reducible rfl)
        (try simp only [Act.put, List.setIfInBounds_toArray, List.set_cons_zero, List.set_cons_succ])
        refine wpAnyH_take (i := 15) (oi := { dst := some 103, op := Op.move (Operand.tmp 102), type := 4, pos := "law.go:134", after := #[{ on := 14, ground := Ground.data }, { on := 11, ground := Ground.chain }], guard := none }) (v := ?vb6f_15) rfl (by kernel_rfl) (by kernel_rfl) (by kernel_rfl) (fun _ _ _ h => h) (Or.inl ⟨by rfl, ?hyb6f_15⟩) (by assumption) ?restb6f_15
        case hyb6f_15 =>
          intro w hSw
          (try dsimp only at hSw)
          go_simp
          (try with_reducible rfl)
        (try simp only [Act.put, List.setIfInBounds_toArray, List.set_cons_zero, List.set_cons_succ])
        refine wpAnyH_take (i := 16) (oi := { dst := some 104, op := Op.move (Operand.tmp 7), type := 24, pos := "law.go:134", after := #[{ on := 15, ground := Ground.guard }], guard := some (15, false) }) (v := ?vb6f_16) rfl (by kernel_rfl) (by kernel_rfl) (by kernel_rfl) (fun _ _ _ h => h) (Or.inl ⟨by rfl, ?hyb6f_16⟩) (by assumption) ?restb6f_16
        case hyb6f_16 =>
          intro w hSw
          (try dsimp only at hSw)
          go_simp
          (try with_reducible rfl)
        (try simp only [Act.put, List.setIfInBounds_toArray, List.set_cons_zero, List.set_cons_succ])
        refine wpAnyH_ready (rs := [17]) (by kernel_rfl) (by simp) ?_
        refine AllReadyH.cons (o := { dst := some 105, op := Op.call { callee := Callee.value (Operand.func 13), args := #[Operand.tmp 104], argTypes := #[24] }, type := 3, pos := "law.go:134", after := #[{ on := 16, ground := Ground.data }, { on := 15, ground := Ground.chain }, { on := 15, ground := Ground.guard }], guard := some (15, false) }) rfl (fun K hK => ?_) AllReadyH.nil
        go_simp
        (go_at_call 13; refine (HLN.out _ hHeld.1).mono ?_; rintro e9 w9 ⟨rfl, rfl⟩)
        go_wp2_with fail
        refine hK.out _ _ hHeld (fun hHeld => ?_)
        clear hK K
        (try simp only [Act.put, List.setIfInBounds_toArray, List.set_cons_zero, List.set_cons_succ])
        refine wpAnyH_take (i := 18) (oi := { dst := some 106, op := Op.binOp BinOp.neq 3 (Operand.tmp 105) (Operand.const (Value.int IntKind.i64 0)) 3, type := 4, pos := "law.go:134", after := #[{ on := 17, ground := Ground.data }, { on := 15, ground := Ground.guard }], guard := some (15, false) }) (v := ?vb6f_17) rfl (by kernel_rfl) (by kernel_rfl) (by kernel_rfl) (fun _ _ _ h => h) (Or.inl ⟨by rfl, ?hyb6f_17⟩) (by assumption) ?restb6f_17
        case hyb6f_17 =>
          intro w hSw
          (try dsimp only at hSw)
          go_simp
          (try with_reducible rfl)
        (try simp only [Act.put, List.setIfInBounds_toArray, List.set_cons_zero, List.set_cons_succ])
        refine wpAnyH_take (i := 19) (oi := { dst := some 107, op := Op.pick (Operand.tmp 103) (Operand.const (Value.bool true)) (Operand.tmp 106), type := 4, pos := "law.go:134", after := #[{ on := 15, ground := Ground.data }, { on := 18, ground := Ground.data }], guard := none }) (v := ?vb6f_18) rfl (by kernel_rfl) (by kernel_rfl) (by kernel_rfl) (fun _ _ _ h => h) (Or.inl ⟨by rfl, ?hyb6f_18⟩) (by assumption) ?restb6f_18
        case hyb6f_18 =>
          intro w hSw
          (try dsimp only at hSw)
          go_simp
          (try with_reducible rfl)
        (try simp only [Act.put, List.setIfInBounds_toArray, List.set_cons_zero, List.set_cons_succ])
        refine wpAnyH_done (by kernel_rfl) ?_ _
        have HN : Hid (∃ s t, Sit w nb [] s t (x : Int) C m2 F7 w9 ∧ Two w F7 pa (pa + 1) (a1, a2) (b1, b2) w9) := Lib.hid ⟨_, _, HS7.out.1.below hb8, HS7.out.2.below hb8⟩
        go_wp2_with fail
        go_roundw
        case rel => exact ⟨k + 1, x, F7, by omega, by omega, rfl, rfl, HN⟩
        case measure => simp only [intOf]; omega
    · -- END OF LOOP
      obtain ⟨s, t, hS, hT⟩ := hst.out
      have S3 := Lib.hid hS
      have T3 := Lib.hid hT
      have H3 := Lib.hid (tally_any hS.1)
      clear hS hT hst
      go_wp2_with fail
      refine H3.out.mono ?_
      rintro e3 w3 ⟨rfl, b3⟩
      have S4 := Lib.hid (S3.out.below b3)
      have T4 := Lib.hid (T3.out.below b3)
      obtain ⟨nAB, hAB⟩ : ∃ e, eqA (a1, a2) (b1, b2) = !e := ⟨!(eqA (a1, a2) (b1, b2)), by simp⟩
      have hbk := back (a1, a2) (b1, b2) C HC.out
      rw [hAB] at hbk
      have hb1 : C (b1, b2) (a1, a2) = nAB := by rw [hbk.1]; simp
      have HBK := Lib.hid hbk.2
      have H4 := Lib.hid (parted_any S4.out.1 b1 b2 a1 a2 HZ.out.2.2.2.1 HZ.out.2.2.1)
      rw [hb1] at H4
      have rAB := run_neA a1 a2 b1 b2 nAB hAB
      have y0 := T4.out.1.1.cell 0
      have y1 := T4.out.1.1.cell 1
      have y2 := T4.out.2.1.cell 0
      have y3 := T4.out.2.1.cell 1
      simp only [List.getElem?_cons_zero, List.getElem?_cons_succ] at y0 y1 y2 y3
      clear b3 S3 T3 H3 hbk hb1 hAB
      go_wp2_with fail
      refine H4.out.mono ?_
      rintro e4 w4 ⟨rfl, b4⟩
      have S5 := Lib.hid (S4.out.below b4)
      have T5 := Lib.hid (T4.out.below b4)
      have H5 := Lib.hid (part_any S5.out.1 (by omega) b1 b2 a1 a2 HZ.out.2.2.2.1 HZ.out.2.2.1 false)
      have y0 := T5.out.1.1.cell 0
      have y1 := T5.out.1.1.cell 1
      have y2 := T5.out.2.1.cell 0
      have y3 := T5.out.2.1.cell 1
      simp only [List.getElem?_cons_zero, List.getElem?_cons_succ] at y0 y1 y2 y3
      clear b4 S4 T4 H4
      go_wp2_with fail
      refine H5.out.mono ?_
      rintro e5 w5 ⟨rfl, m5, hm5, h5⟩
      obtain ⟨C2, hC2⟩ : ∃ C2, (if (b1, b2) = (a1, a2) then C else partC C (b1, b2) (a1, a2) false 2) = C2 := ⟨_, rfl⟩
      have hc2 := HBK.out
      rw [hC2] at h5 hc2
      have S6 := Lib.hid (S5.out.step h5.out.1 h5.out.2)
      have T6 := Lib.hid (T5.out.step h5.out.2)
      have HC2 := Lib.hid hc2
      have y0 := T6.out.1.1.cell 0
      have y1 := T6.out.1.1.cell 1
      have y2 := T6.out.2.1.cell 0
      have y3 := T6.out.2.1.cell 1
      simp only [List.getElem?_cons_zero, List.getElem?_cons_succ] at y0 y1 y2 y3
      have H6 := Lib.hid (send_more S6.out.1 (by simp) a1 a2 b1 b2 [] 0 rfl none 0 (Ns.nil _) ⟨⟨HZ.out.2.2.1, HZ.out.2.2.2.1⟩, by simp, fun z hz => by cases hz⟩)
      clear h5 S5 T5 H5 hC2 hc2
      go_wp2_with fail
      refine H6.out.mono ?_
      rintro e6 w6 ⟨rfl, F6, h6⟩
      have S7 := Lib.hid (S6.out.step h6.out.1 h6.out.2)
      have T7 := Lib.hid (T6.out.step h6.out.2)
      have H7 := Lib.hid (take_in S7.out.1 (i := 0) (a1 := a1) (a2 := a2) (b1 := b1) (b2 := b2) (zs := []) rfl)
      clear h6 S6 T6 H6 y0 y1 y2 y3
      go_wp2_with fail
      refine H7.out.mono ?_
      rintro e7 w7 (⟨hc, _⟩ | ⟨_, A7, c7, he7, F7, hN7, hS7, _⟩)
      · exact absurd (HC2.out.symm.trans hc) (by decide)
      simp only [List.length_nil] at he7
      subst he7
      obtain ⟨U7, hU7⟩ : ∃ U, w7.alloc (.cells #[.int .i64 a1, .int .i64 a2, .int .i64 b1, .int .i64 b2, .slice A7 0 c7] 36) = U := ⟨_, rfl⟩
      have hb7 : Below w7.heap.size w7 U7 := by rw [← hU7]; exact (Below.refl _ w7).alloc (Nat.le_refl _) _
      have S8 := Lib.hid ((S7.out.step hN7 hS7).below hb7)
      have T8 := Lib.hid ((T7.out.step hS7).below hb7)
      have H8 := Lib.hid (parted_any S8.out.1 a1 a2 b1 b2 HZ.out.2.2.1 HZ.out.2.2.2.1)
      rw [HC2.out] at H8
      have y0 := T8.out.1.1.cell 0
      have y1 := T8.out.1.1.cell 1
      have y2 := T8.out.2.1.cell 0
      have y3 := T8.out.2.1.cell 1
      simp only [List.getElem?_cons_zero, List.getElem?_cons_succ] at y0 y1 y2 y3
      clear hN7 hS7 hb7 S7 T7 H7
      cases nAB with
      | true =>
        go_wp2_with fail
        refine H8.out.mono ?_
        rintro e8 w8 ⟨rfl, b8⟩
        have HE := Lib.hid (S8.out.2.1.trans (b8.mono S8.out.2.1.size))
        clear b8
        go_wp2_with fail
        go_ret
        exact ⟨rfl, HE.out⟩
      | false =>
        go_wp2_with fail
        refine H8.out.mono ?_
        rintro e8 w8 ⟨rfl, b8⟩
        have HE := Lib.hid (S8.out.2.1.trans (b8.mono S8.out.2.1.size))
        clear b8
        go_wp2_with fail
        go_ret
        exact ⟨rfl, HE.out⟩
-- ROW BEGIN
set_option maxRecDepth 100000 in
/-- What the walk gives, shut again. -/
theorem contract (H : Type) (enc : TypeId × Value → H) (W : World) (base : Nat) (args : Array Value) (ds gs : List (DataW H)) (before : List MemPlace)
    (hval : ∀ (j : Nat) t v, Try.f5.params[j]? = some t → args[j]? = some v → Value.okWide Try.prog W .any base t v)
    (hW : DataW.Whole enc Try.prog Try.f5.params.toList Rows.netPartsSpec.vars false W args.toList ds gs before)
    (hsz : (DataW.weightsEach Try.prog (Try.f5.params.toList ++ Rows.netPartsSpec.plain.varTypes Try.prog) (ds ++ gs)).all (· ≤ reachBytes) = true) :
    Calls Try.prog 5 args W fun e W' => ∃ v, e = .returned v ∧ Rows.netPartsSpec.post enc Try.prog Try.f5 false true false false W args v W' := by
  have hW' := hW
  obtain ⟨p, q, hA0, hV, hbef, _, _⟩ := hW
  have hA : DataW.TrodAll enc Try.prog W 0 (fun _ => true) true Try.f5.params.toList args.toList ds p := hA0
  have hA1 := hA
  rw [Try.params5] at hA hval hsz
  obtain ⟨v0, vs0, d0, ds0, p0, q0, hargs, rfl, rfl, h0, r0⟩ := trodAll_cons hA
  obtain ⟨v1, vs1, d1, ds1, p1, q1, rfl, rfl, rfl, h1, r1⟩ := trodAll_cons r0
  obtain ⟨v2, vs2, d2, ds2, p2, q2, rfl, rfl, rfl, h2, r2⟩ := trodAll_cons r1
  obtain ⟨rfl, rfl, rfl⟩ := trodAll_nil r2
  obtain rfl : args = #[v0, v1, v2] := by cases args; simp_all
  obtain ⟨rfl, rfl⟩ := trodVars_none hV
  clear hA hargs
  obtain ⟨a0, s0, rfl, k0⟩ := Net.arg_addr (hval 0 33 v0 rfl rfl) h0
  obtain ⟨a1, s1, rfl, k1⟩ := Net.arg_addr (hval 1 33 v1 rfl rfl) h1
  obtain ⟨A2, c2, a2, rfl, n2, l2, b2⟩ := Net.arg_pkts (hval 2 27 v2 rfl rfl) h2 (Wgt.wt_arg hsz (j := 2) rfl rfl)
  refine (walk W a0 s0 k0 a1 s1 k1 A2 c2 a2 n2 b2 l2).mono fun e W' ⟨he, hb⟩ => ?_
  subst he
  exact ⟨_, rfl, law_post Facts.laid (by rfl) Try.underlying4 (by rw [Try.params5]; decide +kernel) hW' hA1 rfl hbef rfl rfl rfl hb⟩

set_option maxRecDepth 100000 in
theorem lifted (os : Os) (started : os.Started) (H : Type) (enc : TypeId × Value → H) :
    ReturnsInHanded {} Try.checked os 5 .any (Rows.netPartsSpec.pre6 enc Try.prog Try.f5 Rows.netPartsRow.domain false) (Rows.netPartsSpec.post enc Try.prog Try.f5 false true false false) := by
  refine returnsInHanded_of_change_sized (C := Try.checked) Facts.own started (by kernel_rfl) Try.func5
    (ChangeSpec.witness6 (enc := enc) (C := Try.checked) false ⟨#[], #[.agg #[.int .i64 0, .int .i64 0], .agg #[.int .i64 0, .int .i64 0], .slice none 0 0], []⟩ 8 (by kernel_rfl) (by kernel_rfl) (by kernel_rfl) (by kernel_rfl)) ?_
  intro W base args ds gs before hval hW _ hsz _
  exact contract H enc W base args ds gs before hval hW hsz

theorem holds : Rows.NetPartsSaid :=
  OpenClaim.holds_of_wide 5 Try.f5 rfl rfl rfl rfl rfl rfl rfl ⟨rfl, rfl, rfl, rfl, rfl⟩ rfl rfl rfl rfl rfl (by kernel_rfl) Try.func5 (by kernel_rfl)
    (of_decide_eq_true (by kernel_rfl)) (by unfold Func.isWrapper; first | (rw [if_pos (by decide +kernel)]; kernel_rfl) | (rw [if_neg (by decide +kernel)]; exact ⟨rfl, rfl⟩))
    (fun os started H enc _ => lifted os started H enc)
-- ROW END
end NetParts
end Go.Proofs.Ytinbaiblbbfnnaa
