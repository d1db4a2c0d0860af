/-
  A copy of a far write (the program's copied).
-/
import Derived.Test.YtiempgabamheiaaInboxCopy
namespace Go.Proofs.Ytiempgabamheiaa
namespace Inbox
open Go.RowKit Vers Span Blk
attribute [local go_sem ↓] Go.wp_at_zero Go.wp_at_succ

/-- A far write of the call's own. -/
def NewF (fr sq : Int) (key : ByteArray) (l : List Vr) (m : Nat) (rt : List Int) (k : Nat) (w : World) (e : Ending) (w' : World) : Prop := ∃ A1 c1 A2 c2, e = .returned (.agg #[.int .i64 fr, .int .i64 sq, .string key, .slice A1 m c1, .slice A2 k c2]) ∧ Hid (Hd w' w.heap.size w'.heap.size (((fr, sq), (key, l), rt), (A1, c1), (A2, c2)) ∧ Tn 59 w' m A1 ∧ Tn 3 w' k A2) ∧ Below w.heap.size w w'
theorem hid3 {a b c : Prop} (ha : a) (hb : b) (hc : c) : Hid (a ∧ b ∧ c) := Lib.hid ⟨ha, hb, hc⟩
set_option maxRecDepth 100000 in
set_option maxHeartbeats 1000000 in
theorem copied_any (fr sq : Int) (key : ByteArray) (A : Option Addr) (c m : Nat) (l : List Vr) (hm : l.length = m) (hbig : m ≤ 1024) (hp : ∀ v ∈ l, v.past.length ≤ 4294967296) (Ar : Option Addr) (cr k : Nat) (rt : List Int) (hk : rt.length = k) (hkb : k ≤ 17592186043904) (w : World) (hv : Vs w 0 w.heap.size A l) (hr : Ns .i64 w w.heap.size Ar rt) :
    Calls Try.prog 35 #[.agg #[.int .i64 fr, .int .i64 sq, .string key, .slice A m c, .slice Ar k cr]] w (NewF fr sq key l m rt k w) := by
  obtain ⟨U, hU⟩ : ∃ U, w.alloc (.cells #[.int .i64 fr, .int .i64 sq, .string key, .slice A m c, .slice Ar k cr] 35) = U := ⟨_, rfl⟩
  have bU : Below w.heap.size w U := by rw [← hU]; exact (Below.refl _ w).alloc (Nat.le_refl _) _
  have sU : U.heap.size = w.heap.size + 1 := by rw [← hU]; simp
  have BU : Bn w.heap.size 35 [.int .i64 fr, .int .i64 sq, .string key, .slice A m c, .slice Ar k cr] U := by rw [← hU]; exact heap_alloc_new w _
  obtain ⟨V, hV⟩ : ∃ V, U.alloc (.cells #[.int .i64 0, .int .i64 0, .string ⟨#[]⟩, .slice none 0 0, .slice none 0 0] 35) = V := ⟨_, rfl⟩
  have bV : Below U.heap.size U V := by rw [← hV]; exact (Below.refl _ U).alloc (Nat.le_refl _) _
  have BV : Bn U.heap.size 35 [.int .i64 0, .int .i64 0, .string ⟨#[]⟩, .slice none 0 0, .slice none 0 0] V := by rw [← hV]; exact heap_alloc_new U _
  have sV : V.heap.size = w.heap.size + 2 := by rw [← hV]; simp [sU]
  rw [sU] at BV
  have BU' := BU.same (bV.block _ BU.lt)
  have bB : Below w.heap.size w V := bU.trans (bV.mono bU.size)
  have x2 := BU'.cell 2
  have x3 := BU'.cell 3
  simp only [List.getElem?_cons_zero, List.getElem?_cons_succ] at x2 x3
  have h := Lib.hid (rec_any key A c m l hm hbig hp V ((hv.below bB).more bB.size))
  have HB := Lib.hid (And.intro bB (And.intro BU' (And.intro BV (And.intro sV (And.intro hr (And.intro hk hkb))))))
  have HMM := Lib.hid hm
  clear hv hm hp bB BU' BV sV bV bU BU hr hk
  go_enter Try.func35, Try.ntmps35
  go_wp2_with fail
  refine h.out.mono ?_
  rintro e w2 ⟨A1, c1, rfl, h2, b2⟩
  have B1 := HB.out.2.1.same (b2.block _ HB.out.2.1.lt)
  have B2 := HB.out.2.2.1.same (b2.block _ HB.out.2.2.1.lt)
  have p2 := B1.cell 2
  have p3 := B1.cell 3
  have f2' := B1.frozen 2
  have f3' := B1.frozen 3
  have BX := (B1.set 2 (.string key)).set 3 (.slice A1 m c1)
  have gX := grown_trans_one (gset w2 w.heap.size 2 (.string key)) (gset _ w.heap.size 3 (.slice A1 m c1))
  obtain ⟨X, hX⟩ : ∃ X, (w2.setCell ⟨w.heap.size, 2, none⟩ (.string key)).setCell ⟨w.heap.size, 3, none⟩ (.slice A1 m c1) = X := ⟨_, rfl⟩
  rw [hX] at BX gX
  simp only [List.set] at BX
  have B2X := B2.kept gX (by intro q; injection q with q; omega)
  have d4 := BX.cell 4
  simp at p2 p3 d4
  have s2 := HB.out.2.2.2.1
  have s3 := b2.size
  have hw2 : Below w.heap.size w w2 := HB.out.1.trans (b2.mono HB.out.1.size)
  have hX' : Below w.heap.size w X := hw2.grown gX hw2.size fun j hj => by injection hj with hj; omega
  have g1 := gX.size
  have hvX : Vs X w.heap.size X.heap.size A1 l := Vs.less (Vs.more (h2.out.1.keep fun p hp1 hp2 => World.cell?_of_block (gX.block _ hp2 (by intro q; injection q with q; omega))) g1) (by omega)
  have hvL : Vs X V.heap.size X.heap.size A1 l := Vs.more (h2.out.1.keep fun p hp1 hp2 => World.cell?_of_block (gX.block _ hp2 (by intro q; injection q with q; omega))) g1
  have hTX : (Tn 59 X m A1) ∧ ∀ a, 0 < m → A1 = some a → w.heap.size + 2 ≤ a.block := by
    have hlow : ∀ a, 0 < m → A1 = some a → w.heap.size + 2 ≤ a.block := fun a hn ha => by
      obtain ⟨b, off, e, hb, _⟩ := h2.out.1 (by rw [HMM.out]; exact hn)
      rw [e] at ha
      injection ha with ha
      subst ha
      simp only
      omega
    exact ⟨h2.out.2.2.same fun a hn ha => gX.block _ (h2.out.2.2.lt hn ha) (by intro q; injection q with q; have := hlow a hn ha; omega), hlow⟩
  have hc := Lib.hid (clonei_any Ar cr k rt HB.out.2.2.2.2.2.1 X ((HB.out.2.2.2.2.1.below hX').more hX'.size) HB.out.2.2.2.2.2.2)
  have HX := Lib.hid (And.intro hX' (And.intro hvL (And.intro BX (And.intro B2X (And.intro (show w.heap.size + 2 ≤ X.heap.size by omega) (And.intro h2.out.2.1 hTX))))))
  clear hX' hvX hvL BX B2X gX B1 B2 b2 h2 hw2 s2 s3 g1 h
  go_wp2_with fail
  refine hc.out.mono ?_
  rintro e w3 ⟨A2, c2, rfl, h3, b3⟩
  have B1 := HX.out.2.2.1.same (b3.block _ HX.out.2.2.1.lt)
  have B2 := HX.out.2.2.2.1.same (b3.block _ HX.out.2.2.2.1.lt)
  have p4 := B1.cell 4
  have f4' := B1.frozen 4
  have BZ := B1.set 4 (.slice A2 k c2)
  have gZ := gset w3 w.heap.size 4 (.slice A2 k c2)
  obtain ⟨Z, hZ⟩ : ∃ Z, w3.setCell ⟨w.heap.size, 4, none⟩ (.slice A2 k c2) = Z := ⟨_, rfl⟩
  rw [hZ] at BZ gZ
  simp only [List.set] at BZ
  have B2Z := B2.kept gZ (by intro q; injection q with q; omega)
  have q0 := BZ.cell 0
  have q1 := BZ.cell 1
  have q2 := BZ.cell 2
  have q3 := BZ.cell 3
  have q4 := BZ.cell 4
  have z0 := B2Z.cell 0
  have z1 := B2Z.cell 1
  have z2 := B2Z.cell 2
  have z3 := B2Z.cell 3
  have z4 := B2Z.cell 4
  have z0f := B2Z.frozen 0
  have z1f := B2Z.frozen 1
  have z2f := B2Z.frozen 2
  have z3f := B2Z.frozen 3
  have z4f := B2Z.frozen 4
  simp at p4 q0 q1 q2 q3 q4 z0 z1 z2 z3 z4
  have BY := five_bn B2Z (.int .i64 fr) (.int .i64 sq) (.string key) (.slice A1 m c1) (.slice A2 k c2)
  have gY := five_grown Z (w.heap.size + 1) (.int .i64 fr) (.int .i64 sq) (.string key) (.slice A1 m c1) (.slice A2 k c2)
  obtain ⟨Y, hY⟩ : ∃ Y, five Z (w.heap.size + 1) (.int .i64 fr) (.int .i64 sq) (.string key) (.slice A1 m c1) (.slice A2 k c2) = Y := ⟨_, rfl⟩
  rw [hY] at BY gY
  unfold five at hY
  have y0 := BY.cell 0
  have y1 := BY.cell 1
  have y2 := BY.cell 2
  have y3 := BY.cell 3
  have y4 := BY.cell 4
  simp at y0 y1 y2 y3 y4
  have hR : NewF fr sq key l m rt k w (.returned (.agg #[.int .i64 fr, .int .i64 sq, .string key, .slice A1 m c1, .slice A2 k c2])) Y := by
    have s1 := HX.out.2.2.2.2.1
    have s3 := b3.size
    have hw3 : Below w.heap.size w w3 := HX.out.1.trans (b3.mono HX.out.1.size)
    have hZ' : Below w.heap.size w Z := hw3.grown gZ hw3.size fun j hj => by injection hj with hj; omega
    have hY' : Below w.heap.size w Y := hZ'.grown gY hZ'.size fun j hj => by injection hj with hj; omega
    have g1 := gZ.size
    have g2 := gY.size
    have key1 : ∀ p : Addr, w.heap.size + 2 ≤ p.block → p.block < w3.heap.size → Y.cell? p = w3.cell? p := fun p hp1 hp2 => (World.cell?_of_block (gY.block _ (by omega) (by intro q; injection q with q; omega))).trans (World.cell?_of_block (gZ.block _ hp2 (by intro q; injection q with q; omega)))
    have sV := HB.out.2.2.2.1
    refine ⟨A1, c1, A2, c2, rfl, hid3 ⟨?_, ?_, ?_, by have h := HX.out.2.2.2.2.2.1; have h2 := HMM.out; simp only; omega⟩ ?_ ?_, hY'⟩
    · exact Vs.less (Vs.more (HX.out.2.1.keep fun p hp1 hp2 => (key1 p (by omega) (by omega)).trans (World.cell?_of_block (b3.block _ hp2))) (show X.heap.size ≤ Y.heap.size by omega)) (by omega)
    · intro hp
      obtain ⟨b, off, e, hb, hcell⟩ := h3.out.1 hp
      have hlow := h3.out.2.1 (by rw [← HB.out.2.2.2.2.2.1]; exact hp) _ e
      exact ⟨b, off, e, (by omega : b < Y.heap.size), fun j hj => (key1 ⟨b, off + j, none⟩ (by simp only at hlow ⊢; omega) hb).trans (hcell j hj)⟩
    · intro hp a ha
      have := h3.out.2.1 (by rw [← HB.out.2.2.2.2.2.1]; exact hp) a ha
      omega
    · refine HX.out.2.2.2.2.2.2.1.same fun a hn ha => ?_
      have hlo := HX.out.2.2.2.2.2.2.2 a hn ha
      have hlt := HX.out.2.2.2.2.2.2.1.lt hn ha
      exact ((gY.block _ (by omega) (by intro q; injection q with q; omega)).trans (gZ.block _ (by omega) (by intro q; injection q with q; omega))).trans (b3.block _ hlt)
    · refine h3.out.2.2.same fun a hn ha => ?_
      have hlo := h3.out.2.1 hn a ha
      have hlt := h3.out.2.2.lt hn ha
      exact (gY.block _ (by omega) (by intro q; injection q with q; omega)).trans (gZ.block _ (by omega) (by intro q; injection q with q; omega))
  have HR := Lib.hid hR
  clear hR gZ gY BY BZ B1 B2 B2Z b3 h3 HX hc
  go_wp2_with fail
  refine bodyPost_ret (v := .agg #[.int .i64 fr, .int .i64 sq, .string key, .slice A1 m c1, .slice A2 k c2]) ?_ rfl HR.out
  rw [Blk.results_cell1 rfl]
  go_simp
end Inbox
end Go.Proofs.Ytiempgabamheiaa
