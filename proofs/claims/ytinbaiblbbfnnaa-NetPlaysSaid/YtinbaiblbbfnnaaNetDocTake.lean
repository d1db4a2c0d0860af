/-
  The document's Take (layer 8).
-/
import Derived.Test.YtinbaiblbbfnnaaNetDocLose
import Derived.Test.YtinbaiblbbfnnaaNetDocParted
namespace Go.Proofs.Ytinbaiblbbfnnaa
namespace Net
open Go.RowKit Blk
attribute [local go_sem ↓] Go.wp_at_zero Go.wp_at_succ
section
variable {F : Nat → Prop} {w : World} {mb : Nat} {A : Option Addr} {c n : Nat} {l : List PE} {B : Option Addr} {q k : Nat} {cs : List Ct} {s t u : Int}
/-- What the document's Take answers of a packet. -/
def DocTake (F : Nat → Prop) (w : World) (mb n : Nat) (l : List PE) (B : Option Addr) (q k : Nat) (cs : List Ct) (s t u : Int) (j : Nat) (a1 a2 b1 b2 : Int) (zs : List Int) (Ax : Option Addr) (cx kz : Nat) (D : Bool) (e : Ending) (w' : World) : Prop :=
  ∃ F' A' c' n', Hid (n' + 1 = n ∧ Stp F w F' w') ∧
      ((D = true ∧ e = .returned (.tuple #[.agg #[.int .i64 0, .int .i64 0, .int .i64 0, .int .i64 0, .slice none 0 0], .bool false]) ∧ Hid (RN F' w' mb A' c' n' (l.eraseIdx j) B q k cs s t (IntKind.i64.wrap (u + 1)))) ∨
       (D = false ∧ e = .returned (.tuple #[.agg #[.int .i64 a1, .int .i64 a2, .int .i64 b1, .int .i64 b2, .slice Ax kz cx], .bool true]) ∧ Hid (RN F' w' mb A' c' n' (l.eraseIdx j) B q k cs s (IntKind.i64.wrap (t + 1)) u ∧ Ns .u8 w' w'.heap.size Ax zs)))
set_option maxRecDepth 100000 in
set_option maxHeartbeats 1000000 in
theorem doc_take_out (h : RN F w mb A c n l B q k cs s t u) (i : Int) (hi : ¬ (0 ≤ i ∧ i < n)) :
    Calls Try.prog 25 #[.pointer (some ⟨mb, 0, none⟩), .int .i64 i] w (fun e w' => e = .returned (.tuple #[.agg #[.int .i64 0, .int .i64 0, .int .i64 0, .int .i64 0, .slice none 0 0], .bool false]) ∧ Below w.heap.size w w') := by
  obtain ⟨rb, hrb⟩ : ∃ b, w.heap.size = b := ⟨_, rfl⟩
  obtain ⟨U0, hU0⟩ : ∃ V, w.alloc (.cells #[.int .i64 0, .int .i64 0, .int .i64 0, .int .i64 0, .slice none 0 0] 36) = V := ⟨_, rfl⟩
  have hb0 : Below w.heap.size w U0 := by rw [← hU0]; exact (Below.refl _ w).alloc (Nat.le_refl _) _
  have hR0 : Bn rb 36 [.int .i64 0, .int .i64 0, .int .i64 0, .int .i64 0, .slice none 0 0] U0 := by rw [← hU0, ← hrb]; exact heap_alloc_new w _
  obtain ⟨a1, ha1⟩ : ∃ z : Int, z = 0 := ⟨0, rfl⟩
  obtain ⟨a2, ha2⟩ : ∃ z : Int, z = 0 := ⟨0, rfl⟩
  obtain ⟨b1, hb1⟩ : ∃ z : Int, z = 0 := ⟨0, rfl⟩
  obtain ⟨b2, hb2⟩ : ∃ z : Int, z = 0 := ⟨0, rfl⟩
  obtain ⟨Ax, hAx⟩ : ∃ z : Option Addr, z = none := ⟨none, rfl⟩
  obtain ⟨kz, hkz⟩ : ∃ z : Nat, z = 0 := ⟨0, rfl⟩
  obtain ⟨cx, hcx⟩ : ∃ z : Nat, z = 0 := ⟨0, rfl⟩
  have hz : Value.agg #[.int .i64 a1, .int .i64 a2, .int .i64 b1, .int .i64 b2, .slice Ax kz cx] = .agg #[.int .i64 0, .int .i64 0, .int .i64 0, .int .i64 0, .slice none 0 0] := by rw [ha1, ha2, hb1, hb2, hAx, hkz, hcx]
  clear ha1 ha2 hb1 hb2 hAx hkz hcx
  have H1 : Hid (Calls Try.prog 30 #[.pointer (some ⟨mb, 0, none⟩), .int .i64 i] U0 (fun e w' => e = .returned (.tuple #[.agg #[.int .i64 a1, .int .i64 a2, .int .i64 b1, .int .i64 b2, .slice Ax kz cx], .bool false]) ∧ Below U0.heap.size U0 w')) := Lib.hid (by rw [hz]; exact doc_look_out (h.below hb0) i hi)
  have HX := Lib.hid (And.intro hz (And.intro hb0 (And.intro hR0 hrb)))
  clear h hi hz hb0 hR0
  go_enter Try.func25, Try.ntmps25
  go_wp2_with fail
  refine H1.out.mono ?_
  rintro e w1 ⟨rfl, bb1⟩
  obtain ⟨pb, hpb⟩ : ∃ b, w1.heap.size = b := ⟨_, rfl⟩
  obtain ⟨U, hU⟩ : ∃ V, w1.alloc (.cells #[.int .i64 a1, .int .i64 a2, .int .i64 b1, .int .i64 b2, .slice Ax kz cx] 36) = V := ⟨_, rfl⟩
  have hbU : Below w1.heap.size w1 U := by rw [← hU]; exact (Below.refl _ w1).alloc (Nat.le_refl _) _
  have hP : Bn pb 36 [.int .i64 a1, .int .i64 a2, .int .i64 b1, .int .i64 b2, .slice Ax kz cx] U := by rw [← hU, ← hpb]; exact heap_alloc_new w1 _
  have hRU := (HX.out.2.2.1.same (bb1.block rb HX.out.2.2.1.lt)).same (hbU.block rb (Nat.lt_of_lt_of_le HX.out.2.2.1.lt bb1.size))
  have x0 := (hP.cell 0).trans rfl
  have x1 := (hP.cell 1).trans rfl
  have x2 := (hP.cell 2).trans rfl
  have x3 := (hP.cell 3).trans rfl
  have x4 := (hP.cell 4).trans rfl
  have r0 := (hRU.cell 0).trans rfl
  have r1 := (hRU.cell 1).trans rfl
  have r2 := (hRU.cell 2).trans rfl
  have r3 := (hRU.cell 3).trans rfl
  have r4 := (hRU.cell 4).trans rfl
  have f0 := hRU.frozen 0
  have f1 := hRU.frozen 1
  have f2 := hRU.frozen 2
  have f3 := hRU.frozen 3
  have f4 := hRU.frozen 4
  have BY := five_bn hRU (.int .i64 a1) (.int .i64 a2) (.int .i64 b1) (.int .i64 b2) (.slice Ax kz cx)
  have gY := five_grown U rb (.int .i64 a1) (.int .i64 a2) (.int .i64 b1) (.int .i64 b2) (.slice Ax kz cx)
  obtain ⟨Y, hY⟩ : ∃ V, five U rb (.int .i64 a1) (.int .i64 a2) (.int .i64 b1) (.int .i64 b2) (.slice Ax kz cx) = V := ⟨_, rfl⟩
  rw [hY] at BY gY
  unfold five at hY
  have k0 := (BY.cell 0).trans rfl
  have k1 := (BY.cell 1).trans rfl
  have k2 := (BY.cell 2).trans rfl
  have k3 := (BY.cell 3).trans rfl
  have k4 := (BY.cell 4).trans rfl
  have HB : Hid (Below w.heap.size w Y) := Lib.hid (by
    have e1 := HX.out.2.1
    have e2 := HX.out.2.2.2
    exact (e1.trans ((bb1.trans (hbU.mono bb1.size)).mono e1.size)).grown gY (by have := bb1.size; have := hbU.size; have := e1.size; omega) fun g hg => by injection hg with hg; omega)
  clear bb1 hbU hP hRU BY gY
  go_wp2_with fail
  refine bodyPost_ret (v := .tuple #[.agg #[.int .i64 a1, .int .i64 a2, .int .i64 b1, .int .i64 b2, .slice Ax kz cx], .bool false]) ?_ rfl ⟨by rw [HX.out.1], HB.out⟩
  rw [results_cell_tmp rfl]
  go_simp
set_option maxRecDepth 100000 in
set_option maxHeartbeats 2000000 in
theorem doc_take_in (h : RN F w mb A c n l B q k cs s t u) (hn4 : n ≤ 4096) (hbig : k ≤ 140737488355328) (j : Nat) {a1 a2 b1 b2 : Int} {zs : List Int} {Ax : Option Addr} {cx : Nat} (hx : l[j]? = some (((a1, a2), (b1, b2), zs), Ax, cx)) (kz : Nat) (hkz : zs.length = kz) :
    Calls Try.prog 25 #[.pointer (some ⟨mb, 0, none⟩), .int .i64 j] w (DocTake F w mb n l B q k cs s t u j a1 a2 b1 b2 zs Ax cx kz (cutC cs (a1, a2) (b1, b2))) := by
  obtain ⟨D, hD⟩ : ∃ D, cutC cs (a1, a2) (b1, b2) = D := ⟨_, rfl⟩
  rw [hD]
  obtain ⟨rb, hrb⟩ : ∃ b, w.heap.size = b := ⟨_, rfl⟩
  obtain ⟨U0, hU0⟩ : ∃ V, w.alloc (.cells #[.int .i64 0, .int .i64 0, .int .i64 0, .int .i64 0, .slice none 0 0] 36) = V := ⟨_, rfl⟩
  have hb0 : Below w.heap.size w U0 := by rw [← hU0]; exact (Below.refl _ w).alloc (Nat.le_refl _) _
  have hR0 : Bn rb 36 [.int .i64 0, .int .i64 0, .int .i64 0, .int .i64 0, .slice none 0 0] U0 := by rw [← hU0, ← hrb]; exact heap_alloc_new w _
  have hj : j < n := by have := (List.getElem?_eq_some_iff.1 hx).1; have := h.2.1.1; omega
  have H1 := doc_look_in (h.below hb0) j a1 a2 b1 b2 zs Ax cx hx
  rw [hkz] at H1
  have H1 := Lib.hid H1
  have HX := Lib.hid (And.intro h (And.intro hb0 (And.intro hR0 (And.intro hrb (And.intro hkz (And.intro (List.mem_of_getElem? hx) (And.intro hD hbig)))))))
  clear h hx hb0 hR0 hkz hD
  go_enter Try.func25, Try.ntmps25
  go_wp2_with fail
  refine H1.out.mono ?_
  rintro e w1 ⟨rfl, bb1⟩
  obtain ⟨pb, hpb⟩ : ∃ b, w1.heap.size = b := ⟨_, rfl⟩
  obtain ⟨U, hU⟩ : ∃ V, w1.alloc (.cells #[.int .i64 a1, .int .i64 a2, .int .i64 b1, .int .i64 b2, .slice Ax kz cx] 36) = V := ⟨_, rfl⟩
  have hbU : Below w1.heap.size w1 U := by rw [← hU]; exact (Below.refl _ w1).alloc (Nat.le_refl _) _
  have hP : Bn pb 36 [.int .i64 a1, .int .i64 a2, .int .i64 b1, .int .i64 b2, .slice Ax kz cx] U := by rw [← hU, ← hpb]; exact heap_alloc_new w1 _
  have hRU := (HX.out.2.2.1.same (bb1.block rb HX.out.2.2.1.lt)).same (hbU.block rb (Nat.lt_of_lt_of_le HX.out.2.2.1.lt bb1.size))
  have bwU : Below w.heap.size w U := HX.out.2.1.trans ((bb1.trans (hbU.mono bb1.size)).mono HX.out.2.1.size)
  have hRn := HX.out.1.below bwU
  have H2 := Lib.hid (doc_gone hRn hn4 j hj)
  have hrp : rb < pb := by rw [← hpb]; exact Nat.lt_of_lt_of_le HX.out.2.2.1.lt bb1.size
  have HU := Lib.hid (And.intro bwU (And.intro hP (And.intro hRU (And.intro hrp hRn))))
  clear bb1 hbU hP hRU bwU hRn hrp
  go_wp2_with fail
  refine H2.out.mono ?_
  rintro e w3 ⟨rfl, F3, A3, c3, n3, h3⟩
  have hnF : ∀ j, F j → j < w.heap.size := HX.out.1.lt
  have hrw : w.heap.size = rb := HX.out.2.2.2.1
  have hP3 := HU.out.2.1.same (h3.out.2.2.1.1.block pb HU.out.2.1.lt fun hf => by have := hnF _ hf; have := HU.out.2.2.2.1; omega)
  have hR3 := HU.out.2.2.1.same (h3.out.2.2.1.1.block rb HU.out.2.2.1.lt fun hf => by have := hnF _ hf; omega)
  have hF3r : ∀ j, F3 j → j ≠ rb ∧ j ≠ pb := fun j hj => by
    rcases h3.out.2.2.1.2 j hj with hj | hj
    · have := hnF _ hj; have := HU.out.2.2.2.1; omega
    · have := HU.out.2.1.lt; have := HU.out.2.2.1.lt; omega
  have H4 := doc_parted h3.out.2.1 HX.out.2.2.2.2.2.2.2 a1 a2 b1 b2
  rw [HX.out.2.2.2.2.2.2.1] at H4
  have H4 := Lib.hid H4
  have x0 := (hP3.cell 0).trans rfl
  have x1 := (hP3.cell 1).trans rfl
  have x2 := (hP3.cell 2).trans rfl
  have x3 := (hP3.cell 3).trans rfl
  have x4 := (hP3.cell 4).trans rfl
  have H3 := Lib.hid (And.intro hP3 (And.intro hR3 (And.intro hF3r (And.intro hnF hrw))))
  clear hP3 hR3 hF3r hnF hrw
  go_wp2_with fail
  refine H4.out.mono ?_
  rintro e w4 ⟨rfl, bb4⟩
  have hN4 := h3.out.2.1.below bb4
  have hR4 := H3.out.2.1.same (bb4.block rb H3.out.2.1.lt)
  have hP4 := H3.out.1.same (bb4.block pb H3.out.1.lt)
  have hpk := h3.out.2.2.2 _ HX.out.2.2.2.2.2.1
  have hns4 := own_keep hpk.1 fun g hg => bb4.block g (hpk.1.lt g hg).2
  have hmr := (H3.out.2.2.1 mb hN4.mbF).1
  have hmp := (H3.out.2.2.1 mb hN4.mbF).2
  obtain ⟨_, _, _, y3, y4⟩ := hN4.head
  have g3 := hN4.frozen 3
  have g4 := hN4.frozen 4
  cases D with
  | true =>
    have hC := hN4.count (r := 4) (v := .int .i64 (IntKind.i64.wrap (u + 1))) rfl
    have gC := gset w4 mb 4 (.int .i64 (IntKind.i64.wrap (u + 1)))
    have hR5 := hR4.kept gC (fun e => hmr (by injection e with e; exact e.symm))
    have hP5 := hP4.kept gC (fun e => hmp (by injection e with e; exact e.symm))
    have hns5 := own_keep hns4 fun g hg => gC.block g (hns4.lt g hg).2 fun e => own_ne hns4 hN4.1 (by decide) (by rw [hg, e])
    obtain ⟨W5, hW5⟩ : ∃ W, w4.setCell ⟨mb, 4, none⟩ (.int .i64 (IntKind.i64.wrap (u + 1))) = W := ⟨_, rfl⟩
    rw [hW5] at hC gC hR5 hP5 hns5
    rw [Go.IntWalk.i64_left] at hW5
    have x0 := (hP5.cell 0).trans rfl
    have x1 := (hP5.cell 1).trans rfl
    have x2 := (hP5.cell 2).trans rfl
    have x3 := (hP5.cell 3).trans rfl
    have x4 := (hP5.cell 4).trans rfl
    have r0 := (hR5.cell 0).trans rfl
    have r1 := (hR5.cell 1).trans rfl
    have r2 := (hR5.cell 2).trans rfl
    have r3 := (hR5.cell 3).trans rfl
    have r4 := (hR5.cell 4).trans rfl
    have f0 := hR5.frozen 0
    have f1 := hR5.frozen 1
    have f2 := hR5.frozen 2
    have f3 := hR5.frozen 3
    have f4 := hR5.frozen 4
    have BY := five_bn hR5 (.int .i64 0) (.int .i64 0) (.int .i64 0) (.int .i64 0) (.slice none 0 0)
    have gY := five_grown W5 rb (.int .i64 0) (.int .i64 0) (.int .i64 0) (.int .i64 0) (.slice none 0 0)
    obtain ⟨Y, hY⟩ : ∃ V, five W5 rb (.int .i64 0) (.int .i64 0) (.int .i64 0) (.int .i64 0) (.slice none 0 0) = V := ⟨_, rfl⟩
    rw [hY] at BY gY
    unfold five at hY
    have k0 := (BY.cell 0).trans rfl
    have k1 := (BY.cell 1).trans rfl
    have k2 := (BY.cell 2).trans rfl
    have k3 := (BY.cell 3).trans rfl
    have k4 := (BY.cell 4).trans rfl
    have hns6 := own_keep hns5 fun g hg => gY.block g (hns5.lt g hg).2 fun e => own_ne hns5 hR5 (by decide) (by rw [hg, e])
    have cY : Chg (fun j => j = rb) W5 Y := Chg.of_grown gY fun g hg => by injection hg with hg; exact hg.symm
    have HE : Hid (RN F3 Y mb A3 c3 n3 (l.eraseIdx j) B q k cs s t (IntKind.i64.wrap (u + 1)) ∧ Stp F w F3 Y ∧ Ns .u8 Y Y.heap.size Ax zs) := Lib.hid (by
      refine ⟨hC.1.chg cY fun j hj e => (H3.out.2.2.1 j hj).1 e, ?_, own_ns (n := zs.length) (c := cx) hns6⟩
      have h1 := ((Stp.of_below HU.out.1).trans h3.out.2.2.1).trans ((Stp.of_below bb4).trans hC.2)
      exact ⟨h1.1.trans cY fun j hj => .inr (by have := H3.out.2.2.2.2; omega), h1.2⟩)
    clear hC gC hR5 hP5 hns5 hns6 cY BY gY hN4 hR4 hP4 hpk hns4 hmr hmp bb4
    go_wp2_with fail
    refine bodyPost_ret (v := .tuple #[.agg #[.int .i64 0, .int .i64 0, .int .i64 0, .int .i64 0, .slice none 0 0], .bool false]) ?_ rfl ⟨F3, A3, c3, n3, Lib.hid ⟨h3.out.1, HE.out.2.1⟩, .inl ⟨rfl, rfl, Lib.hid HE.out.1⟩⟩
    rw [results_cell_tmp rfl]
    go_simp
  | false =>
    have hC := hN4.count (r := 3) (v := .int .i64 (IntKind.i64.wrap (t + 1))) rfl
    have gC := gset w4 mb 3 (.int .i64 (IntKind.i64.wrap (t + 1)))
    have hR5 := hR4.kept gC (fun e => hmr (by injection e with e; exact e.symm))
    have hP5 := hP4.kept gC (fun e => hmp (by injection e with e; exact e.symm))
    have hns5 := own_keep hns4 fun g hg => gC.block g (hns4.lt g hg).2 fun e => own_ne hns4 hN4.1 (by decide) (by rw [hg, e])
    obtain ⟨W5, hW5⟩ : ∃ W, w4.setCell ⟨mb, 3, none⟩ (.int .i64 (IntKind.i64.wrap (t + 1))) = W := ⟨_, rfl⟩
    rw [hW5] at hC gC hR5 hP5 hns5
    rw [Go.IntWalk.i64_left] at hW5
    have x0 := (hP5.cell 0).trans rfl
    have x1 := (hP5.cell 1).trans rfl
    have x2 := (hP5.cell 2).trans rfl
    have x3 := (hP5.cell 3).trans rfl
    have x4 := (hP5.cell 4).trans rfl
    have r0 := (hR5.cell 0).trans rfl
    have r1 := (hR5.cell 1).trans rfl
    have r2 := (hR5.cell 2).trans rfl
    have r3 := (hR5.cell 3).trans rfl
    have r4 := (hR5.cell 4).trans rfl
    have f0 := hR5.frozen 0
    have f1 := hR5.frozen 1
    have f2 := hR5.frozen 2
    have f3 := hR5.frozen 3
    have f4 := hR5.frozen 4
    have BY := five_bn hR5 (.int .i64 a1) (.int .i64 a2) (.int .i64 b1) (.int .i64 b2) (.slice Ax kz cx)
    have gY := five_grown W5 rb (.int .i64 a1) (.int .i64 a2) (.int .i64 b1) (.int .i64 b2) (.slice Ax kz cx)
    obtain ⟨Y, hY⟩ : ∃ V, five W5 rb (.int .i64 a1) (.int .i64 a2) (.int .i64 b1) (.int .i64 b2) (.slice Ax kz cx) = V := ⟨_, rfl⟩
    rw [hY] at BY gY
    unfold five at hY
    have k0 := (BY.cell 0).trans rfl
    have k1 := (BY.cell 1).trans rfl
    have k2 := (BY.cell 2).trans rfl
    have k3 := (BY.cell 3).trans rfl
    have k4 := (BY.cell 4).trans rfl
    have hns6 := own_keep hns5 fun g hg => gY.block g (hns5.lt g hg).2 fun e => own_ne hns5 hR5 (by decide) (by rw [hg, e])
    have cY : Chg (fun j => j = rb) W5 Y := Chg.of_grown gY fun g hg => by injection hg with hg; exact hg.symm
    have HE : Hid (RN F3 Y mb A3 c3 n3 (l.eraseIdx j) B q k cs s (IntKind.i64.wrap (t + 1)) u ∧ Stp F w F3 Y ∧ Ns .u8 Y Y.heap.size Ax zs) := Lib.hid (by
      refine ⟨hC.1.chg cY fun j hj e => (H3.out.2.2.1 j hj).1 e, ?_, own_ns (n := zs.length) (c := cx) hns6⟩
      have h1 := ((Stp.of_below HU.out.1).trans h3.out.2.2.1).trans ((Stp.of_below bb4).trans hC.2)
      exact ⟨h1.1.trans cY fun j hj => .inr (by have := H3.out.2.2.2.2; omega), h1.2⟩)
    clear hC gC hR5 hP5 hns5 hns6 cY BY gY hN4 hR4 hP4 hpk hns4 hmr hmp bb4
    go_wp2_with fail
    refine bodyPost_ret (v := .tuple #[.agg #[.int .i64 a1, .int .i64 a2, .int .i64 b1, .int .i64 b2, .slice Ax kz cx], .bool true]) ?_ rfl ⟨F3, A3, c3, n3, Lib.hid ⟨h3.out.1, HE.out.2.1⟩, .inr ⟨rfl, rfl, Lib.hid ⟨HE.out.1, HE.out.2.2⟩⟩⟩
    rw [results_cell_tmp rfl]
    go_simp
end
end Net
end Go.Proofs.Ytinbaiblbbfnnaa
