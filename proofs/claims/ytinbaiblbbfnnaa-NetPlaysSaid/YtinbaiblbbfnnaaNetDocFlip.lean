/-
  The document's Flip (layer 8).
-/
import Derived.Test.YtinbaiblbbfnnaaNetDocTake
import Derived.Test.YtinbaiblbbfnnaaNetFlip
namespace Go.Proofs.Ytinbaiblbbfnnaa
namespace Net
open Go.RowKit Blk
attribute [local go_sem ↓] Go.wp_at_zero Go.wp_at_succ
section
variable {F : Nat → Prop} {w : World} {mb : Nat} {A : Option Addr} {c n : Nat} {l : List PE} {B : Option Addr} {q k : Nat} {cs : List Ct} {s t u : Int}
/-- A packet's five cells are written into its row. -/
theorem pcs_set (x : PE) : ∀ (l : List PE) (i : Nat) (v0 v1 v2 v3 v4 : Value), pc x = [v0, v1, v2, v3, v4] → ((((((pcs l).set (i * 5) v0).set (i * 5 + 1) v1).set (i * 5 + 2) v2).set (i * 5 + 3) v3).set (i * 5 + 4) v4) = pcs (l.set i x) := by
  intro l
  induction l with
  | nil => intro i v0 v1 v2 v3 v4 _; simp [pcs]
  | cons y l ih =>
    intro i v0 v1 v2 v3 v4 h
    rcases i with _ | i
    · rw [List.set_cons_zero, pcs_cons, pcs_cons, h]
      simp [pc]
    · rw [List.set_cons_succ, pcs_cons, pcs_cons, ← ih i v0 v1 v2 v3 v4 h]
      have e : ∀ r (v : Value) (m : List Value), (pc y ++ m).set ((i + 1) * 5 + r) v = pc y ++ m.set (i * 5 + r) v := fun r v m => by
        rw [List.set_append_right _ _ (by rw [pc_length]; omega), pc_length, show (i + 1) * 5 + r - 5 = i * 5 + r by omega]
      have e0 := e 0
      simp only [Nat.add_zero] at e0
      rw [e0, e, e, e, e]
/-- Five cells of a row. -/
def fiveAt (V : World) (g o : Nat) (u0 u1 u2 u3 u4 : Value) : World := ((((V.setCell ⟨g, o, none⟩ u0).setCell ⟨g, o + 1, none⟩ u1).setCell ⟨g, o + 2, none⟩ u2).setCell ⟨g, o + 3, none⟩ u3).setCell ⟨g, o + 4, none⟩ u4
theorem fiveAt_grown (V : World) (g o : Nat) (u0 u1 u2 u3 u4 : Value) : V.grownBy (fiveAt V g o u0 u1 u2 u3 u4) (some g) := grown_trans_one (grown_trans_one (grown_trans_one (grown_trans_one (gset V g o u0) (gset _ g _ u1)) (gset _ g _ u2)) (gset _ g _ u3)) (gset _ g _ u4)
theorem own_cell {V : World} {e : TypeId} {sz g m cp : Nat} {xs : List Value} (h : V.ownsRow 0 e sz (.slice (some ⟨g, 0, none⟩) m cp) m xs) (j : Nat) (hj : j < m * sz) : ∃ v, V.cell? ⟨g, j, none⟩ = some v := by
  have hl := h.1
  exact ⟨_, (h.cellAt j hj).trans (List.getElem?_eq_getElem (by omega))⟩
/-- A packet is another one, in its place. -/
theorem RN.reset {F' : Nat → Prop} {w' : World} {g : Nat} (h : RN F w mb (some ⟨g, 0, none⟩) c n l B q k cs s t u) (hb : Below w.heap.size w w') (i : Nat) (x : PE) (hF : ∀ j, F j → F' j) (hF' : ∀ j, F' j → j < w'.heap.size) (hx : PkOK F' w' x) (v0 v1 v2 v3 v4 : Value) (hv : pc x = [v0, v1, v2, v3, v4]) :
    RN F' (fiveAt w' g (i * 5) v0 v1 v2 v3 v4) mb (some ⟨g, 0, none⟩) c n (l.set i x) B q k cs s t u ∧ Chg F w (fiveAt w' g (i * 5) v0 v1 v2 v3 v4) := by
  have hg := fiveAt_grown w' g (i * 5) v0 v1 v2 v3 v4
  obtain ⟨h1, ⟨h2, h3, h4⟩, ⟨h5, h6, h7⟩, h8, h9, h10, h11⟩ := h.below hb
  have kp : ∀ {t' : TypeId} {sz j base : Nat} {v' : Value} {xs : List Value}, w'.ownsRow base t' sz v' j xs → t' ≠ 36 → (fiveAt w' g (i * 5) v0 v1 v2 v3 v4).ownsRow base t' sz v' j xs := fun ho ht =>
    own_keep ho fun j hj => hg.block j (ho.lt j hj).2 fun e => own_ne2 ho h3 ht hj (by rw [e]; rfl)
  refine ⟨⟨h1.kept hg fun e => own_ne h3 h1 (by decide) (by injection e with e; rw [e]; rfl), ⟨by rw [List.length_set]; exact h2, ?_, fun y hy => ?_⟩, ⟨h5, kp h6 (by decide), h7⟩, hF mb h8, fun j hj => hF j (h9 j hj), fun j hj => hF j (h10 j hj), fun j hj => Nat.lt_of_lt_of_le (hF' j hj) hg.size⟩, (Chg.of_below hb).trans (Chg.of_grown hg fun j hj => by injection hj with hj; subst hj; exact h.2.2.2.2.1 _ rfl) fun _ => .inl⟩
  · rw [← pcs_set x l i v0 v1 v2 v3 v4 hv]
    exact (((((h3.stored _ _).1.stored _ _).1.stored _ _).1.stored _ _).1.stored _ _).1
  · rcases List.mem_or_eq_of_mem_set hy with hy | rfl
    · exact ⟨kp (h4 y hy).1 (by decide), fun j hj => hF j ((h4 y hy).2.1 j hj), (h4 y hy).2.2⟩
    · exact ⟨kp hx.1 (by decide), hx.2⟩
theorem doc_flip_out (h : RN F w mb A c n l B q k cs s t u) (i at_ x : Int) (hi : ¬ (0 ≤ i ∧ i < n)) :
    Calls Try.prog 28 #[.pointer (some ⟨mb, 0, none⟩), .int .i64 i, .int .i64 at_, .int .u8 x] w (fun e w' => e = .returned (.bool false) ∧ Below w.heap.size w w') := by
  have H1 := Lib.hid (doc_look_out h i hi)
  clear h hi
  go_enter Try.func28, Try.ntmps28
  go_wp2_with fail
  refine H1.out.mono ?_
  rintro e w1 ⟨rfl, b1⟩
  have HB : Hid (Below w.heap.size w (w1.alloc (.cells #[.int .i64 0, .int .i64 0, .int .i64 0, .int .i64 0, .slice none 0 0] 36))) := Lib.hid (b1.alloc b1.size _)
  clear b1
  go_wp2_with fail
  go_ret
  exact ⟨rfl, HB.out⟩
set_option maxRecDepth 100000 in
set_option maxHeartbeats 1000000 in
theorem doc_flip_no (h : RN F w mb A c n l B q k cs s t u) (i : Nat) {x : PE} (hx : l[i]? = some x) (at_ y : Int) (kz : Nat) (hkz : x.1.2.2.length = kz) (ha : ¬ (0 ≤ at_ ∧ at_ < kz)) :
    Calls Try.prog 28 #[.pointer (some ⟨mb, 0, none⟩), .int .i64 i, .int .i64 at_, .int .u8 y] w (fun e w' => e = .returned (.bool false) ∧ Below w.heap.size w w') := by
  obtain ⟨⟨⟨a1, a2⟩, ⟨b1, b2⟩, zs⟩, Ax, cx⟩ := x
  have H1 := doc_look_in h i a1 a2 b1 b2 zs Ax cx hx
  simp only at hkz
  rw [hkz] at H1
  have H1 := Lib.hid H1
  clear h hx hkz
  by_cases h0 : at_ < 0
  · have d1 : decide (at_ < 0) = true := decide_eq_true h0
    clear ha
    go_enter Try.func28, Try.ntmps28
    go_wp2_with fail
    refine H1.out.mono ?_
    rintro e w1 ⟨rfl, bb1⟩
    obtain ⟨pb, hpb⟩ : ∃ b, w1.heap.size = b := ⟨_, rfl⟩
    obtain ⟨U, hU⟩ : ∃ V, w1.alloc (.cells #[.int .i64 a1, .int .i64 a2, .int .i64 b1, .int .i64 b2, .slice Ax kz cx] 36) = V := ⟨_, rfl⟩
    have hbU : Below w1.heap.size w1 U := by rw [← hU]; exact (Below.refl _ w1).alloc (Nat.le_refl _) _
    have hP : Bn pb 36 [.int .i64 a1, .int .i64 a2, .int .i64 b1, .int .i64 b2, .slice Ax kz cx] U := by rw [← hU, ← hpb]; exact heap_alloc_new w1 _
    have HB : Hid (Below w.heap.size w U) := Lib.hid (bb1.trans (hbU.mono bb1.size))
    have x0 := (hP.cell 0).trans rfl
    have x1 := (hP.cell 1).trans rfl
    have x2 := (hP.cell 2).trans rfl
    have x3 := (hP.cell 3).trans rfl
    have x4 := (hP.cell 4).trans rfl
    clear bb1 hbU hP
    go_wp2_with fail
    go_ret
    exact ⟨rfl, HB.out⟩
  · have d1 : decide (at_ < 0) = false := decide_eq_false h0
    have d2 : decide ((kz : Int) ≤ at_) = true := decide_eq_true (by omega)
    clear ha
    go_enter Try.func28, Try.ntmps28
    go_wp2_with fail
    refine H1.out.mono ?_
    rintro e w1 ⟨rfl, bb1⟩
    obtain ⟨pb, hpb⟩ : ∃ b, w1.heap.size = b := ⟨_, rfl⟩
    obtain ⟨U, hU⟩ : ∃ V, w1.alloc (.cells #[.int .i64 a1, .int .i64 a2, .int .i64 b1, .int .i64 b2, .slice Ax kz cx] 36) = V := ⟨_, rfl⟩
    have hbU : Below w1.heap.size w1 U := by rw [← hU]; exact (Below.refl _ w1).alloc (Nat.le_refl _) _
    have hP : Bn pb 36 [.int .i64 a1, .int .i64 a2, .int .i64 b1, .int .i64 b2, .slice Ax kz cx] U := by rw [← hU, ← hpb]; exact heap_alloc_new w1 _
    have HB : Hid (Below w.heap.size w U) := Lib.hid (bb1.trans (hbU.mono bb1.size))
    have x0 := (hP.cell 0).trans rfl
    have x1 := (hP.cell 1).trans rfl
    have x2 := (hP.cell 2).trans rfl
    have x3 := (hP.cell 3).trans rfl
    have x4 := (hP.cell 4).trans rfl
    clear bb1 hbU hP
    go_wp2_with fail
    go_ret
    exact ⟨rfl, HB.out⟩
set_option maxRecDepth 100000 in
set_option maxHeartbeats 2000000 in
theorem doc_flip_yes (h : RN F w mb A c n l B q k cs s t u) (i : Nat) {x : PE} (hx : l[i]? = some x) (j kz : Nat) (hkz : x.1.2.2.length = kz) (hj : j < kz) (y : Int) (hy : 0 ≤ y ∧ y ≤ 255) :
    Calls Try.prog 28 #[.pointer (some ⟨mb, 0, none⟩), .int .i64 i, .int .i64 j, .int .u8 y] w (fun e w' => e = .returned (.bool true) ∧ ∃ F' Ay cy, Hid (RN F' w' mb A c n (l.set i (flipP x.1 j (bits .xor .u8 (x.1.2.2.getD j 0) y), Ay, cy)) B q k cs s t u ∧ Stp F w F' w')) := by
  obtain ⟨⟨⟨a1, a2⟩, ⟨b1, b2⟩, zs⟩, Ax, cx⟩ := x
  have H1 := doc_look_in h i a1 a2 b1 b2 zs Ax cx hx
  simp only at hkz ⊢
  rw [hkz] at H1
  have H1 := Lib.hid H1
  have hpk := h.2.1.2.2 _ (List.mem_of_getElem? hx)
  obtain ⟨g, hA, hgF, _⟩ := h.pkt_at hx
  have hin : i < n := by have := (List.getElem?_eq_some_iff.1 hx).1; have := h.2.1.1; omega
  subst hA
  obtain ⟨z, hz⟩ : ∃ z, zs.getD j 0 = z := ⟨_, rfl⟩
  have hz8 : 0 ≤ z ∧ z ≤ 255 := by
    have hjl : j < zs.length := by omega
    refine hpk.2.2.2.2 z ?_
    rw [← hz, List.getD_eq_getElem?_getD, List.getElem?_eq_getElem hjl]
    exact List.getElem_mem _
  have hzat : (nums .u8 zs)[j]? = some (.int .u8 z) := by
    have hjl : j < zs.length := by omega
    unfold nums
    rw [List.getElem?_map, List.getElem?_eq_getElem hjl, ← hz, List.getD_eq_getElem?_getD, List.getElem?_eq_getElem hjl]
    rfl
  rw [hz]
  have HX := Lib.hid (And.intro h (And.intro hpk (And.intro hkz (And.intro hgF (And.intro hz8 (And.intro hzat hz))))))
  have y1 : (0 : Int) ≤ (i : Int) := by omega
  have y2 : (i : Int) < (n : Int) := by omega
  have y3 : (0 : Int) ≤ (j : Int) := by omega
  have y4 : (j : Int) < (kz : Int) := by omega
  have d1 : decide ((j : Int) < 0) = false := decide_eq_false (by omega)
  have d2 : decide ((kz : Int) ≤ (j : Int)) = false := decide_eq_false (by omega)
  clear h hx hpk hgF hz8 hzat hz hkz
  go_enter Try.func28, Try.ntmps28
  go_wp2_with fail
  refine H1.out.mono ?_
  rintro e w1 ⟨rfl, bb1⟩
  obtain ⟨pb, hpb⟩ : ∃ b, w1.heap.size = b := ⟨_, rfl⟩
  obtain ⟨U, hU⟩ : ∃ V, w1.alloc (.cells #[.int .i64 a1, .int .i64 a2, .int .i64 b1, .int .i64 b2, .slice Ax kz cx] 36) = V := ⟨_, rfl⟩
  have hbU : Below w1.heap.size w1 U := by rw [← hU]; exact (Below.refl _ w1).alloc (Nat.le_refl _) _
  have hP : Bn pb 36 [.int .i64 a1, .int .i64 a2, .int .i64 b1, .int .i64 b2, .slice Ax kz cx] U := by rw [← hU, ← hpb]; exact heap_alloc_new w1 _
  have x0 := (hP.cell 0).trans rfl
  have x1 := (hP.cell 1).trans rfl
  have x2 := (hP.cell 2).trans rfl
  have x3 := (hP.cell 3).trans rfl
  have x4 := (hP.cell 4).trans rfl
  have bwU : Below w.heap.size w U := bb1.trans (hbU.mono bb1.size)
  have hns : Ns .u8 U U.heap.size Ax zs := by
    have h1 := own_keep HX.out.2.1.1 fun g hg => bwU.block g (HX.out.2.1.1.lt g hg).2
    exact own_ns (n := zs.length) (c := cx) h1
  have H3 := Lib.hid (doc_own U a1 a2 b1 b2 zs kz HX.out.2.2.1 Ax cx hns (by have := HX.out.2.1.2.2.2.1; have := HX.out.2.2.1; simp only at *; omega))
  have HU := Lib.hid (And.intro bwU (And.intro hP (by have e := bb1.size; rw [hpb] at e; exact e : w.heap.size ≤ pb)))
  clear bb1 hbU hP bwU hns
  go_wp2_with fail
  refine H3.out.mono ?_
  rintro e w2 ⟨A2, c2, rfl, o2, bb2⟩
  obtain ⟨g2, cap2, hv2, _, hg2⟩ := o2.out.form (by omega)
  injection hv2 with hA2 _ hc2
  subst hA2 hc2
  have hP2 := HU.out.2.1.same (bb2.block pb HU.out.2.1.lt)
  have hne2 : g2 ≠ pb := by have := (o2.out.lt g2 rfl).1; have := HU.out.2.1.lt; omega
  have p0 := (hP2.cell 0).trans rfl
  have p1 := (hP2.cell 1).trans rfl
  have p2 := (hP2.cell 2).trans rfl
  have p3 := (hP2.cell 3).trans rfl
  have p4 := (hP2.cell 4).trans rfl
  have f0 := hP2.frozen 0
  have f1 := hP2.frozen 1
  have f2 := hP2.frozen 2
  have f3 := hP2.frozen 3
  have f4 := hP2.frozen 4
  have BY := five_bn hP2 (.int .i64 a1) (.int .i64 a2) (.int .i64 b1) (.int .i64 b2) (.slice (some ⟨g2, 0, none⟩) kz c2)
  have gY := five_grown w2 pb (.int .i64 a1) (.int .i64 a2) (.int .i64 b1) (.int .i64 b2) (.slice (some ⟨g2, 0, none⟩) kz c2)
  obtain ⟨Y, hY⟩ : ∃ V, five w2 pb (.int .i64 a1) (.int .i64 a2) (.int .i64 b1) (.int .i64 b2) (.slice (some ⟨g2, 0, none⟩) kz c2) = V := ⟨_, rfl⟩
  rw [hY] at BY gY
  unfold five at hY
  have k0 := (BY.cell 0).trans rfl
  have k1 := (BY.cell 1).trans rfl
  have k2 := (BY.cell 2).trans rfl
  have k3 := (BY.cell 3).trans rfl
  have k4 := (BY.cell 4).trans rfl
  have oY := own_keep o2.out fun j hj => gY.block j (o2.out.lt j hj).2 fun e => by
    have e1 : g2 = j := by injection hj
    injection e with e
    omega
  have q1 := oY.cellAt j (by omega)
  rw [HX.out.2.2.2.2.2.1] at q1
  have q2 := oY.frozenAt j
  have oZ := (oY.stored j (.int .u8 (bits .xor .u8 z y))).1
  have gZ := gset Y g2 j (.int .u8 (bits .xor .u8 z y))
  have BZ := BY.kept gZ (fun e => hne2 (by injection e with e; exact e.symm))
  obtain ⟨Z, hZ⟩ : ∃ V, Y.setCell ⟨g2, j, none⟩ (.int .u8 (bits .xor .u8 z y)) = V := ⟨_, rfl⟩
  rw [hZ] at oZ gZ BZ
  have bwZ : Below w.heap.size w Z := by
    have e1 := HU.out.1
    have e2 := HU.out.2.2
    have e3 := (o2.out.lt g2 rfl).1
    have e4 := bb2.size
    exact ((e1.trans (bb2.mono e1.size)).grown gY (by have := e1.size; omega) fun g hg => by injection hg with hg; omega).grown gZ (by have := e1.size; have := gY.size; omega) fun g hg => by injection hg with hg; have := e1.size; omega
  have hRZ := HX.out.1.below bwZ
  have z0 := (BZ.cell 0).trans rfl
  have z1 := (BZ.cell 1).trans rfl
  have z2 := (BZ.cell 2).trans rfl
  have z3 := (BZ.cell 3).trans rfl
  have z4 := (BZ.cell 4).trans rfl
  obtain ⟨m0, _, _, _, _⟩ := hRZ.head
  have t0 := hRZ.2.1.2.1.frozenAt (i * 5)
  have t1 := hRZ.2.1.2.1.frozenAt (i * 5 + 1)
  have t2 := hRZ.2.1.2.1.frozenAt (i * 5 + 2)
  have t3 := hRZ.2.1.2.1.frozenAt (i * 5 + 3)
  have t4 := hRZ.2.1.2.1.frozenAt (i * 5 + 4)
  obtain ⟨v0, hv0⟩ := own_cell hRZ.2.1.2.1 (i * 5) (by omega)
  obtain ⟨v1, hv1⟩ := own_cell hRZ.2.1.2.1 (i * 5 + 1) (by omega)
  obtain ⟨v2, hv2⟩ := own_cell hRZ.2.1.2.1 (i * 5 + 2) (by omega)
  obtain ⟨v3, hv3⟩ := own_cell hRZ.2.1.2.1 (i * 5 + 3) (by omega)
  obtain ⟨v4, hv4⟩ := own_cell hRZ.2.1.2.1 (i * 5 + 4) (by omega)
  have hres := HX.out.1.reset (F' := fun j => F j ∨ (w.heap.size ≤ j ∧ j < Z.heap.size)) bwZ i (flipP ((a1, a2), (b1, b2), zs) j (bits .xor .u8 z y), some ⟨g2, 0, none⟩, c2) (fun _ => .inl) (fun j hj => hj.elim (fun hj => Nat.lt_of_lt_of_le (HX.out.1.lt j hj) bwZ.size) fun hj => hj.2) (by
    have e := HX.out.2.2.1
    subst e
    have e1 := HU.out.1.size
    refine ⟨?_, fun g hg => .inr ?_, HX.out.2.1.2.2.1, ?_, ?_⟩
    · have o := own_base0 oZ
      rw [nums_set] at o
      unfold dV flipP
      simp only [List.length_set]
      exact o
    · have hg' : g2 = g := by injection hg
      subst hg'
      have e2 := oZ.lt g2 rfl
      omega
    · unfold flipP
      simp only [List.length_set]
      exact HX.out.2.1.2.2.2.1
    · intro v hv
      unfold flipP at hv
      rcases List.mem_or_eq_of_mem_set hv with hv | rfl
      · exact HX.out.2.1.2.2.2.2 v hv
      · exact xor_in HX.out.2.2.2.2.1 hy) (.int .i64 a1) (.int .i64 a2) (.int .i64 b1) (.int .i64 b2) (.slice (some ⟨g2, 0, none⟩) kz c2) (by unfold pc flipP dV; simp only [List.length_set, HX.out.2.2.1])
  obtain ⟨W, hW⟩ : ∃ V, fiveAt Z g (i * 5) (.int .i64 a1) (.int .i64 a2) (.int .i64 b1) (.int .i64 b2) (.slice (some ⟨g2, 0, none⟩) kz c2) = V := ⟨_, rfl⟩
  rw [hW] at hres
  unfold fiveAt at hW
  have HE := Lib.hid (And.intro hres bwZ)
  clear hres bwZ hRZ BZ gZ oZ oY BY gY hP2 o2 bb2 hne2 hg2
  go_wp2_with fail
  go_region
  go_wp2_with fail
  go_region
  go_wp2_with fail
  go_ret
  have hC := HE.out.1.2
  exact ⟨rfl, _, _, _, Lib.hid ⟨HE.out.1.1, ⟨hC.os, hC.tape, hC.output, hC.size, hC.block⟩, fun j hj => hj.imp id fun e => e.1⟩⟩
end
end Net
end Go.Proofs.Ytinbaiblbbfnnaa
