/-
  ring.Moves, told.
-/
import Derived.Test.YtfnjengcemokpaaRingMove
namespace Go.Proofs.Ytfnjengcemokpaa
namespace Ring
open Go.RowKit
attribute [local go_sem ↓] Go.wp_at_zero Go.wp_at_succ

theorem info_move : (Try.prog.info? 33).map (fun i => (i.zero, i.size, i.bytes)) = some (some (.agg #[.int .i64 0, .slice none 0 0, .slice none 0 0]), 3, 56) := by kernel_rfl
def MovesPost (ms ms' : List Int) (x : Int) (w : World) (e : Ending) (w' : World) : Prop :=
  ∃ A m c es, e = .returned (.slice A m c) ∧ m ≤ 8 ∧ Hid (OwnM w.heap.size w' (.slice A m c) m ms ms' x es ∧ es.map Mv.p = if RightM ms ∧ RightM ms' then movs ms ms' x 8 else []) ∧ Below w.heap.size w w'
def Moving (ms ms' : List Int) (x : Int) (base : Nat) (W : World) (k : Nat) (pv : Value) (wr : World) : Prop :=
  ∃ (m : Nat) (Al : Option Addr) (cl : Nat) (es : List Mv), pv = .slice Al m cl ∧ m ≤ k ∧ Hid (OwnM base wr (.slice Al m cl) m ms ms' x es ∧ es.map Mv.p = movs ms ms' x k) ∧ Hid (Below base W wr)
theorem moving_start (ms ms' : List Int) (x : Int) (base : Nat) (W w : World) (hb : Below base W w) : Moving ms ms' x base W 0 (.slice none 0 0) w :=
  ⟨0, none, 0, [], rfl, Nat.le_refl _, Lib.hid ⟨⟨rfl, World.ownsRow_nil _ _ _ _, fun e he => by simp at he⟩, rfl⟩, Lib.hid hb⟩

theorem moving_skip {ms ms' : List Int} {x : Int} {base : Nat} {W wr V : World} {k m : Nat} {Al : Option Addr} {cl : Nat} {es : List Mv} (h : Hid (OwnM base wr (.slice Al m cl) m ms ms' x es ∧ es.map Mv.p = movs ms ms' x k)) (hm : m ≤ k) (hb : Hid (Below base W wr)) (hw : base ≤ wr.heap.size) (hV : Below wr.heap.size wr V) (hq : listF ms (k : Int) x = listF ms' (k : Int) x) : Moving ms ms' x base W (k + 1) (.slice Al m cl) V :=
  ⟨m, Al, cl, es, rfl, by omega, Lib.hid ⟨h.out.1.below hV, by rw [movs, if_pos hq]; exact h.out.2⟩, Lib.hid (hb.out.trans (hV.mono hw))⟩
theorem moving_add {ms ms' : List Int} {x : Int} {base : Nat} {W wr V V' : World} {k m : Nat} {Al : Option Addr} {cl : Nat} {es : List Mv} {A4 A5 : Option Addr} {kl c4 kl' c5 : Nat} {v3 : Value} (h : Hid (OwnM base wr (.slice Al m cl) m ms ms' x es ∧ es.map Mv.p = movs ms ms' x k)) (hm : m ≤ k)
    (hX : Hid (OwnM base V (.slice Al m cl) m ms ms' x es ∧ Below base W V ∧ MvOK V (Value.slice Al m cl).ownBlock ms ms' x ⟨k, A4, kl, c4, A5, kl', c5⟩)) (hw : base ≤ V.heap.size) (hq : ¬ listF ms (k : Int) x = listF ms' (k : Int) x)
    (o : V'.ownsRow base 33 3 v3 (m + 1) (mvs (es ++ [⟨k, A4, kl, c4, A5, kl', c5⟩]))) (g : V.grownBy V' (Value.slice Al m cl).ownBlock) (hat : v3.ownBlock = (Value.slice Al m cl).ownBlock ∨ ∃ g, v3.ownBlock = some g ∧ V.heap.size ≤ g) : Moving ms ms' x base W (k + 1) v3 V' := by
  obtain ⟨A6, c6, rfl⟩ := own_form o
  refine ⟨m + 1, A6, c6, es ++ [⟨k, A4, kl, c4, A5, kl', c5⟩], rfl, by omega, Lib.hid ⟨hX.out.1.add hX.out.2.2 o g hat, ?_⟩, Lib.hid (hX.out.2.1.grown g hw fun r hr => (hX.out.1.2.1.lt r hr).1)⟩
  rw [movs, if_neg hq, List.map_append, h.out.2]
  rfl

set_option maxRecDepth 100000 in
set_option maxHeartbeats 2000000 in
theorem moves_any (A A' : Option Addr) (c c' n n' : Nat) (ms ms' : List Int) (hn : ms.length = n) (hn' : ms'.length = n') (x : Int) (w : World) (hr : Ns .i64 w w.heap.size A ms) (hr' : Ns .i64 w w.heap.size A' ms') (hbig : n ≤ 140737488355328) (hbig' : n' ≤ 140737488355328) :
    Calls Try.prog 21 #[.slice A n c, .slice A' n' c', .int .i64 x] w (MovesPost ms ms' x w) := by
  have hS : ∀ W, Below w.heap.size w W → Ns .i64 W W.heap.size A ms ∧ Ns .i64 W W.heap.size A' ms' := fun W h => ⟨(hr.below h).more h.size, (hr'.below h).more h.size⟩
  have h1 := fun W h => rightM_any A c n ms hn W (hS W h).1 hbig
  have h2 := fun W h => rightM_any A' c' n' ms' hn' W (hS W h).2 hbig'
  have HL := Lib.hid (fun p W h => list_any A c n ms hn p x W (hS W h).1 hbig)
  have HL' := Lib.hid (fun p W h => list_any A' c' n' ms' hn' p x W (hS W h).2 hbig')
  have hend : ∀ W, ¬ (RightM ms ∧ RightM ms') → Below w.heap.size w W → MovesPost ms ms' x w (.returned (.slice none 0 0)) W := fun W h hb =>
    ⟨none, 0, 0, [], rfl, by omega, Lib.hid ⟨⟨rfl, World.ownsRow_nil _ _ _ _, fun e he => by simp at he⟩, by rw [if_neg h]; rfl⟩, hb⟩
  by_cases hc : RightM ms
  · rw [decide_eq_true hc] at h1
    by_cases hc' : RightM ms'
    · rw [decide_eq_true hc'] at h2
      have H1 := Lib.hid h1
      have H2 := Lib.hid h2
      obtain ⟨base, hbase⟩ : ∃ base, w.heap.size = base := ⟨_, rfl⟩
      have HBS := Lib.hid hbase
      have HFIN : Hid (∀ pv wr, Moving ms ms' x base w 8 pv wr → MovesPost ms ms' x w (.returned pv) wr) := Lib.hid (fun pv wr h => by
        obtain ⟨m, Al, cl, es, rfl, hm, h3, h4⟩ := h
        rw [← hbase] at h3 h4
        exact ⟨Al, m, cl, es, rfl, hm, Lib.hid ⟨h3.out.1, by rw [if_pos ⟨hc, hc'⟩]; exact h3.out.2⟩, h4.out⟩)
      obtain ⟨j0, hj0, hy0, hy1, hy2⟩ := info_parts info_move
      have HI := Lib.hid (And.intro hj0 (And.intro hy0 (And.intro hy1 hy2)))
      clear h1 h2 hr hr' hn hn' hS hend hbase hj0 hy0 hy1 hy2
      go_enter Try.func21, Try.ntmps21
      go_wp2_with fail
      refine (H1.out w (Below.refl _ _)).mono ?_
      rintro e w1 ⟨rfl, b1⟩
      have B1 := Lib.hid b1
      clear b1
      go_wp2_with fail
      refine (H2.out w1 B1.out).mono ?_
      rintro e w2 ⟨rfl, b2⟩
      have HST : Hid (Moving ms ms' x base w 0 (.slice none 0 0) w2) := Lib.hid (moving_start _ _ _ _ _ _ (by
        have e := HBS.out
        subst e
        exact B1.out.trans (b2.mono B1.out.size)))
      clear b2 B1
      go_wp2_with fail
      go_loopw [7, 18] (fun pv iv wr => ∃ k : Nat, iv = .int .i64 k ∧ k ≤ 8 ∧ Moving ms ms' x base w k pv wr) (fun _ iv _ => 8 - (intOf iv).toNat)
      case atStart => exact ⟨0, rfl, by omega, HST.out⟩
      case round =>
        clear HST
        obtain ⟨k, rfl, hk, hrel⟩ := hrel
        by_cases hlt : k < 8
        · obtain ⟨m, Al, cl, es, rfl, hm, hH, hb⟩ := hrel
          have HW : Hid (Below w.heap.size w wr ∧ base ≤ wr.heap.size ∧ ∀ g, (Value.slice Al m cl).ownBlock = some g → g < wr.heap.size) := Lib.hid (by
            have e := HBS.out
            subst e
            exact ⟨hb.out, hb.out.size, fun g hg => (hH.out.1.2.1.lt g hg).2⟩)
          obtain ⟨L, hL⟩ : ∃ L, listF ms (k : Int) x = L := ⟨_, rfl⟩
          obtain ⟨kl, hkl⟩ : ∃ k, L.length = k := ⟨_, rfl⟩
          obtain ⟨L', hL'⟩ : ∃ L, listF ms' (k : Int) x = L := ⟨_, rfl⟩
          obtain ⟨kl', hkl'⟩ : ∃ k, L'.length = k := ⟨_, rfl⟩
          have G1 := Lib.hid (list_low hL hkl)
          have G2 := Lib.hid (list_low hL' hkl')
          have HLL := Lib.hid (And.intro hL (And.intro hkl (And.intro hL' hkl')))
          have d1 : (k : Int) < 8 := by omega
          clear hL hkl hL' hkl'
          go_wp2_with fail
          refine (HL.out (k : Int) wr HW.out.1).mono ?_
          rintro e w4 hl
          obtain ⟨A4, c4, rfl, hc4, hk4, n4, b4, lo4⟩ := G1.out _ _ _ hl
          have B4 := Lib.hid b4
          have N4 := Lib.hid (And.intro n4 lo4)
          clear hl n4 b4 lo4
          go_wp2_with fail
          refine (HL'.out (k : Int) w4 (HW.out.1.trans (B4.out.mono HW.out.1.size))).mono ?_
          rintro e w5 hl
          obtain ⟨A5, c5, rfl, hc5, hk5, n5, b5, lo5⟩ := G2.out _ _ _ hl
          have B5 := Lib.hid (B4.out.trans (b5.mono B4.out.size))
          have N5 := Lib.hid (And.intro ((N4.out.1.below b5).more b5.size) (And.intro n5 (fun b off h => Nat.le_trans B4.out.size (lo5 b off h))))
          have HE := Lib.hid (fun W (h : Below w5.heap.size w5 W) => equal_any A4 A5 c4 c5 kl kl' L L' HLL.out.2.1 HLL.out.2.2.2 W ((N5.out.1.below h).more h.size) ((N5.out.2.1.below h).more h.size) (by omega) (by omega))
          clear hl n5 b5 lo5
          go_wp2_with fail
          obtain ⟨mb, hmb⟩ : ∃ mb, w5.heap.size = mb := ⟨_, rfl⟩
          obtain ⟨V5, hV5⟩ : ∃ V, w5.alloc (.cells #[.int .i64 (k : Int), .slice A4 kl c4, .slice A5 kl' c5] 33) = V := ⟨_, rfl⟩
          have HV5 : Hid (Below w5.heap.size w5 V5 ∧ mb < V5.heap.size ∧ V5.cell? ⟨mb, 0, none⟩ = some (.int .i64 (k : Int)) ∧ V5.cell? ⟨mb, 1, none⟩ = some (.slice A4 kl c4) ∧ V5.cell? ⟨mb, 2, none⟩ = some (.slice A5 kl' c5)) := Lib.hid (by
            subst hV5
            subst hmb
            exact ⟨(Below.refl _ w5).alloc (Nat.le_refl _) _, by simp, by simp, by simp, by simp⟩)
          rw [hV5, hmb]
          clear hV5 hmb
          have k1 := HV5.out.2.2.2.1
          have k2 := HV5.out.2.2.2.2
          by_cases heq : L = L'
          · rw [decide_eq_true heq] at HE
            have HQ := Lib.hid heq
            clear heq
            go_wp2_with fail
            refine (HE.out V5 HV5.out.1).mono ?_
            rintro e w6 ⟨rfl, b6⟩
            have B6 := Lib.hid (B5.out.trans ((HV5.out.1.trans (b6.mono HV5.out.1.size)).mono B5.out.size))
            clear b6
            go_wp2_with fail
            exact ⟨⟨k + 1, rfl, by omega, moving_skip hH hm hb HW.out.2.1 B6.out (by rw [HLL.out.1, HLL.out.2.2.1]; exact HQ.out)⟩, by simp only [intOf]; omega⟩
          · rw [decide_eq_false heq] at HE
            have HQ := Lib.hid heq
            clear heq
            go_wp2_with fail
            refine (HE.out V5 HV5.out.1).mono ?_
            rintro e w6 ⟨rfl, b6⟩
            have b56 := HV5.out.1.trans (b6.mono HV5.out.1.size)
            have B6 := Lib.hid (B5.out.trans (b56.mono B5.out.size))
            have l0 : w6.cell? ⟨mb, 0, none⟩ = some (.int .i64 (k : Int)) := (b6.cell HV5.out.2.1).trans HV5.out.2.2.1
            have l1 : w6.cell? ⟨mb, 1, none⟩ = some (.slice A4 kl c4) := (b6.cell HV5.out.2.1).trans HV5.out.2.2.2.1
            have l2 : w6.cell? ⟨mb, 2, none⟩ = some (.slice A5 kl' c5) := (b6.cell HV5.out.2.1).trans HV5.out.2.2.2.2
            have HX : Hid (OwnM base w6 (.slice Al m cl) m ms ms' x es ∧ Below base w w6 ∧ MvOK w6 (Value.slice Al m cl).ownBlock ms ms' x ⟨k, A4, kl, c4, A5, kl', c5⟩) := Lib.hid ⟨hH.out.1.below B6.out, hb.out.trans (B6.out.mono HW.out.2.1), by
              refine ⟨?_, ?_, ?_, ?_⟩
              · show kl = (listF ms (k : Int) x).length
                rw [HLL.out.1, HLL.out.2.1]
              · show kl' = (listF ms' (k : Int) x).length
                rw [HLL.out.2.2.1, HLL.out.2.2.2]
              · show NsF w6 _ A4 (listF ms (k : Int) x)
                rw [HLL.out.1]
                exact NsF.of ((N5.out.1.below b56).more b56.size) N4.out.2 HW.out.2.2
              · show NsF w6 _ A5 (listF ms' (k : Int) x)
                rw [HLL.out.2.2.1]
                exact NsF.of ((N5.out.2.1.below b56).more b56.size) N5.out.2.2 HW.out.2.2⟩
            have HSZ : Hid (base ≤ w6.heap.size) := Lib.hid (by have h1 := HW.out.2.1; have h2 := B6.out.size; omega)
            clear b6 b56 HE k1 k2
            go_wp2_with (at_builtin; refine wpList_append_mv _ rfl _ _ 30 rfl base 33 j0 _ 56 Try.underlying30 HI.out.1 HI.out.2.1 HI.out.2.2.1 HI.out.2.2.2 rfl (.slice Al m cl) m es rfl HX.out.1.2.1 ⟨k, A4, kl, c4, A5, kl', c5⟩ 1 (by rfl) (by omega) (by omega) HSZ.out ?_; intro v3 w7 o7 g7 at7)
            exact ⟨⟨k + 1, rfl, by omega, moving_add hH hm HX HSZ.out (by rw [HLL.out.1, HLL.out.2.2.1]; exact HQ.out) o7 g7 at7⟩, by simp only [intOf]; omega⟩
        · have hk8 : k = 8 := by omega
          have HF := Lib.hid (HFIN.out _ wr (by rw [← hk8]; exact hrel))
          clear hrel
          go_wp2_with fail
          go_ret
          exact HF.out
    · rw [decide_eq_false hc'] at h2
      have H1 := Lib.hid h1
      have H2 := Lib.hid h2
      have HE := Lib.hid (fun W h => hend W (fun h => hc' h.2) h)
      clear h1 h2 hr hr' hn hn' hS hend
      go_enter Try.func21, Try.ntmps21
      go_wp2_with fail
      refine (H1.out w (Below.refl _ _)).mono ?_
      rintro e w1 ⟨rfl, b1⟩
      have B1 := Lib.hid b1
      clear b1
      go_wp2_with fail
      refine (H2.out w1 B1.out).mono ?_
      rintro e w2 ⟨rfl, b2⟩
      have B2 := Lib.hid (B1.out.trans (b2.mono B1.out.size))
      clear b2
      go_wp2_with fail
      go_ret
      exact HE.out _ B2.out
  · rw [decide_eq_false hc] at h1
    have H1 := Lib.hid h1
    have HE := Lib.hid (fun W h => hend W (fun h => hc h.1) h)
    clear h1 h2 hr hr' hn hn' hS hend
    go_enter Try.func21, Try.ntmps21
    go_wp2_with fail
    refine (H1.out w (Below.refl _ _)).mono ?_
    rintro e w1 ⟨rfl, b1⟩
    have B1 := Lib.hid b1
    clear b1
    go_wp2_with fail
    go_ret
    exact HE.out _ B1.out
end Ring
end Go.Proofs.Ytfnjengcemokpaa
