/-
  InboxPlays (P18.1, P18.2): whatever comes, whatever vectors are told, in whatever order: every answer, and what waits, are the document's. For every input. Written by gen18/plays.py.
-/
import Derived.Test.YtiempgabamheiaaInboxOps
import Derived.Test.YtiempgabamheiaaGBase
namespace Go.Proofs.Ytiempgabamheiaa
namespace InboxPlays
open Go.ChangeShapes Go.WideShapes Go.ChangeAt Go.RowKit Inbox Vers Span Blk
attribute [local go_sem ↓] Go.wp_at_zero Go.wp_at_succ
theorem start {w V : World} {pb : Nat} {room : Int} {F : Nat → Prop} (h : IN 81 35 F V pb (max room 0) []) (hb : Below w.heap.size w V) (hF : ∀ k, F k → w.heap.size ≤ k) : St F (fun k => k = V.heap.size) (fun _ => False) w (V.alloc (.cells #[.int .i64 room, .slice none 0 0] 29)) pb V.heap.size room [] [] :=
  have ha : Below V.heap.size V (V.alloc (.cells #[.int .i64 room, .slice none 0 0] 29)) := (Below.refl _ V).alloc (Nat.le_refl _) _
  ⟨h.below ha, ⟨none, 0, 0, [], rfl, ⟨heap_alloc_new V _, World.ownsRow_nil _ _ _ _⟩, ⟨rfl, by simp⟩, rfl, (fun g hg => by cases hg), fun k hk => by subst hk; simp⟩, hb.trans (ha.mono hb.size), hF, fun k hk => by subst hk; exact hb.size, fun j hj hk => by subst hk; have := h.lt _ hj; omega, fun j hj => hj.elim⟩
theorem wr1 (_W : World) (x : Fr) (y : Fr) : x = y → decide (x = y) = true := fun h => decide_eq_true h

set_option maxRecDepth 100000 in
set_option maxHeartbeats 8000000 in
theorem walk (w : World) (room : Int) (_hroom : -9223372036854775808 ≤ room ∧ room ≤ 9223372036854775807) (A : Option Addr) (c : Nat) (l : List Oo) (hq : Ops w A l) (hb112 : l.length * 112 ≤ 140737488351232) (_hlc : l.length ≤ c) :
    Calls Try.prog 3 #[.int .i64 room, .slice A l.length c] w fun e w' => e = .returned (.bool true) ∧ Below w.heap.size w w' := by
  obtain ⟨n, hn⟩ : ∃ n, l.length = n := ⟨_, rfl⟩
  rw [hn] at hb112 ⊢
  have HZ := Lib.hid (And.intro hq hn)
  have HAW := Lib.hid (awake_any w)
  clear hq hn _hlc
  go_enter Try.func3, Try.ntmps3
  go_wp2_with fail
  refine HAW.out.mono ?_
  rintro e w1 ⟨rfl, b1⟩
  have HB1 := Lib.hid b1
  have HNW := Lib.hid (new_any room w1)
  clear b1 HAW
  go_wp2_with fail
  refine HNW.out.mono ?_
  rintro e w2 ⟨F0, pb, rfl, h2⟩
  have HST := Lib.hid (start h2.out.1 (HB1.out.trans (h2.out.2.2.mono HB1.out.size)) fun k hk => Nat.le_trans HB1.out.size (h2.out.2.1 k hk))
  obtain ⟨rb, hrb⟩ : ∃ rb, w2.heap.size = rb := ⟨_, rfl⟩
  rw [hrb] at HST
  have HRB := Lib.hid hrb
  clear h2 hrb
  go_wp2_with fail
  rw [HRB.out]
  go_loopw [7, 8, 9, 10, 11, 12] (fun q _ _ _ _ _ wr => ∃ (k : Nat) (F G : Nat → Prop) (P : List Fr), q = .int .i64 k ∧ k ≤ n ∧ P.length ≤ k ∧ Hid (St F G (fun _ => False) w wr pb rb room P P ∧ ∀ y ∈ P, okF y)) (fun q _ _ _ _ _ _ => n - (intOf q).toNat)
  case atStart => exact ⟨0, F0, _, [], rfl, by omega, by simp, Lib.hid ⟨HST.out, by simp⟩⟩
  case round =>
    clear HST HNW HB1
    obtain ⟨k, F, G, P, rfl, hk, hPk, hst⟩ := hrel
    by_cases hlt : k < n
    · have hkl : k < l.length := by have := HZ.out.2; omega
      obtain ⟨x, hx⟩ : ∃ x, l.getD k oo0 = x := ⟨_, rfl⟩
      have hmem : x ∈ l := by
        rw [← hx, List.getD_eq_getElem?_getD, List.getElem?_eq_getElem hkl]
        exact List.getElem_mem hkl
      obtain ⟨b, off, rfl, hbB, hat⟩ := HZ.out.1.2 (by omega)
      have hat := hat k hkl
      rw [hx] at hat
      obtain ⟨⟨hv, hr, hsz, hmc⟩, hvv, hvl⟩ := HZ.out.1.1 x hmem
      obtain ⟨kd, ⟨⟨⟨f1, f2⟩, ⟨k1, v1⟩, rr⟩, ⟨a1, c1⟩, ⟨a2, c2⟩⟩, ⟨vv, ⟨a3, c3⟩⟩⟩ := x
      obtain ⟨m1, hm1⟩ : ∃ r, v1.length = r := ⟨_, rfl⟩
      obtain ⟨r1, hr1⟩ : ∃ r, rr.length = r := ⟨_, rfl⟩
      obtain ⟨nv, hnv⟩ : ∃ r, vv.length = r := ⟨_, rfl⟩
      simp only at hv hr hmc hvv hvl
      have hcell : ∀ r u, (oc (kd, (((f1, f2), (k1, v1), rr), (a1, c1), (a2, c2)), (vv, (a3, c3))))[r]? = some u → wr.cell? ⟨b, off + k * 7 + r, none⟩ = some u := fun r u hu => (hst.out.1.old.cell (p := ⟨b, off + k * 7 + r, none⟩) hbB).trans (hat r u hu)
      have s0 : wr.cell? ⟨b, off + k * 7, none⟩ = some (.int .i64 kd) := hcell 0 _ rfl
      have s1 : wr.cell? ⟨b, off + k * 7 + 1, none⟩ = some (.int .i64 f1) := hcell 1 _ rfl
      have s2 : wr.cell? ⟨b, off + k * 7 + 2, none⟩ = some (.int .i64 f2) := hcell 2 _ rfl
      have s3 : wr.cell? ⟨b, off + k * 7 + 3, none⟩ = some (.string k1) := hcell 3 _ rfl
      have s4 : wr.cell? ⟨b, off + k * 7 + 4, none⟩ = some (.slice a1 m1 c1) := by rw [← hm1]; exact hcell 4 _ rfl
      have s5 : wr.cell? ⟨b, off + k * 7 + 5, none⟩ = some (.slice a2 r1 c2) := by rw [← hr1]; exact hcell 5 _ rfl
      have s6 : wr.cell? ⟨b, off + k * 7 + 6, none⟩ = some (.slice a3 nv c3) := by rw [← hnv]; exact hcell 6 _ rfl
      have z1 : (0 : Int) ≤ (k : Int) := by omega
      have z2 : (k : Int) < (n : Int) := by omega
      obtain ⟨W1, hW1⟩ : ∃ W, wr.alloc (.cells #[.int .i64 kd, .int .i64 f1, .int .i64 f2, .string k1, .slice a1 m1 c1, .slice a2 r1 c2, .slice a3 nv c3] 38) = W := ⟨_, rfl⟩
      have b1 : Below wr.heap.size wr W1 := by rw [← hW1]; exact (Below.refl _ wr).alloc (Nat.le_refl _) _
      have w1s : W1.heap.size = wr.heap.size + 1 := by rw [← hW1]; simp
      have B1 : Bn wr.heap.size 38 [.int .i64 kd, .int .i64 f1, .int .i64 f2, .string k1, .slice a1 m1 c1, .slice a2 r1 c2, .slice a3 nv c3] W1 := by rw [← hW1]; exact heap_alloc_new wr _
      have HU := Lib.hid (And.intro ((hst.out.1.hold b1).less (Y := fun j => j = wr.heap.size) fun j hj => .inr (by omega)) (And.intro B1 (And.intro hst.out.2 w1s)))
      have HX := Lib.hid (And.intro hv (And.intro hr (And.intro hsz (And.intro hmc (And.intro hvv (And.intro hm1 (And.intro hr1 hnv)))))))
      have hold1 := hst.out.1.old.trans (b1.mono hst.out.1.old.size)
      have hnvb : nv ≤ 140737488355328 := by omega
      have HO := Lib.hid hold1
      have HW1 := Lib.hid hW1
      have y0 := (B1.cell 0).trans rfl
      have y1 := (B1.cell 1).trans rfl
      have y2 := (B1.cell 2).trans rfl
      have y3 := (B1.cell 3).trans rfl
      have y4 := (B1.cell 4).trans rfl
      have y5 := (B1.cell 5).trans rfl
      have y6 := (B1.cell 6).trans rfl
      clear hkl hmem hat hcell hx hW1 b1 B1 hv hr hsz hmc hvv hvl hm1 hr1 hnv hold1 w1s
      go_upto_block 2 with fail
      rw [HW1.out]
      by_cases h1 : kd = 1
      · as_aux_lemma =>
          obtain ⟨⟨a, P2⟩, hF⟩ : ∃ q, takeF room P vv ((f1, f2), (k1, v1), rr) = q := ⟨_, rfl⟩
          have hbd : Below W1.heap.size W1 W1.drew := (Below.refl _ _).drew
          have hod := HO.out.trans (hbd.mono HO.out.size)
          have HP := Lib.hid ((HU.out.1.below hbd).take HU.out.2.2.1 (by omega) f1 f2 k1 a1 c1 m1 v1 HX.out.2.2.2.2.2.1 a2 c2 r1 rr HX.out.2.2.2.2.2.2.1 HX.out.2.2.1 ((HX.out.1.below hod).more hod.size) ((HX.out.2.1.below hod).more hod.size) a3 c3 nv vv HX.out.2.2.2.2.2.2.2 hnvb ((HX.out.2.2.2.2.1.below hod).more hod.size) hF)
          have HF := Lib.hid hF
          have HSC : Hid (∀ V, Bn wr.heap.size 38 [.int .i64 kd, .int .i64 f1, .int .i64 f2, .string k1, .slice a1 m1 c1, .slice a2 r1 c2, .slice a3 nv c3] V → V.cell? ⟨wr.heap.size, 0, none⟩ = some (.int .i64 kd) ∧ V.cell? ⟨wr.heap.size, 1, none⟩ = some (.int .i64 f1) ∧ V.cell? ⟨wr.heap.size, 2, none⟩ = some (.int .i64 f2) ∧ V.cell? ⟨wr.heap.size, 3, none⟩ = some (.string k1) ∧ V.cell? ⟨wr.heap.size, 4, none⟩ = some (.slice a1 m1 c1) ∧ V.cell? ⟨wr.heap.size, 5, none⟩ = some (.slice a2 r1 c2) ∧ V.cell? ⟨wr.heap.size, 6, none⟩ = some (.slice a3 nv c3)) := Lib.hid fun V h => ⟨(h.cell 0).trans rfl, (h.cell 1).trans rfl, (h.cell 2).trans rfl, (h.cell 3).trans rfl, (h.cell 4).trans rfl, (h.cell 5).trans rfl, (h.cell 6).trans rfl⟩
          clear hF hbd hod
          subst h1
          go_wp2_with fail
          refine wp_region_held_drew (S := (fun V => V.cell? ⟨wr.heap.size, 0, none⟩ = some (.int .i64 1) ∧ V.cell? ⟨wr.heap.size, 1, none⟩ = some (.int .i64 f1) ∧ V.cell? ⟨wr.heap.size, 2, none⟩ = some (.int .i64 f2) ∧ V.cell? ⟨wr.heap.size, 3, none⟩ = some (.string k1) ∧ V.cell? ⟨wr.heap.size, 4, none⟩ = some (.slice a1 m1 c1) ∧ V.cell? ⟨wr.heap.size, 5, none⟩ = some (.slice a2 r1 c2) ∧ V.cell? ⟨wr.heap.size, 6, none⟩ = some (.slice a3 nv c3))) (by kernel_rfl) (HSC.out _ (show Bn wr.heap.size 38 [.int .i64 1, .int .i64 f1, .int .i64 f2, .string k1, .slice a1 m1 c1, .slice a2 r1 c2, .slice a3 nv c3] W1.drew from HU.out.2.1.same rfl)) (fun hHeld => ?_)
          refine wpAnyH_take (i := 0) (oi := { dst := some 34, op := Op.move (Operand.tmp 5), type := 24, pos := "law.go:66", after := #[], guard := none }) (v := ?vk_1) rfl (by kernel_rfl) (by kernel_rfl) (by kernel_rfl) (fun _ _ _ h => h) (Or.inl ⟨by rfl, ?hyk_1⟩) (by assumption) ?restk_1
          case hyk_1 =>
            intro w hSw
            (try dsimp only at hSw)
            go_simp
            (try with_reducible rfl)
          (try simp only [Act.put, List.setIfInBounds_toArray, List.set_cons_zero, List.set_cons_succ])
          refine wpAnyH_take (i := 1) (oi := { dst := some 35, op := Op.fieldAddr 38 (Operand.tmp 8) 1, type := 0, pos := "law.go:66", after := #[], guard := none }) (v := ?vk_2) rfl (by kernel_rfl) (by kernel_rfl) (by kernel_rfl) (fun _ _ _ h => h) (Or.inl ⟨by rfl, ?hyk_2⟩) (by assumption) ?restk_2
          case hyk_2 =>
            intro w hSw
            (try dsimp only at hSw)
            go_simp
            (try with_reducible rfl)
          (try simp only [Act.put, List.setIfInBounds_toArray, List.set_cons_zero, List.set_cons_succ])
          refine wpAnyH_take (i := 2) (oi := { dst := some 36, op := Op.load 35 (Operand.tmp 35), type := 35, pos := "law.go:66", after := #[{ on := 1, ground := Ground.data }], guard := none }) (v := ?vk_3) rfl (by kernel_rfl) (by kernel_rfl) (by kernel_rfl) (fun _ _ _ h => h) (Or.inl ⟨by rfl, ?hyk_3⟩) (by assumption) ?restk_3
          case hyk_3 =>
            intro w hSw
            (try dsimp only at hSw)
            go_simp
            (try with_reducible rfl)
          (try simp only [Act.put, List.setIfInBounds_toArray, List.set_cons_zero, List.set_cons_succ])
          refine wpAnyH_take (i := 3) (oi := { dst := some 37, op := Op.fieldAddr 38 (Operand.tmp 8) 2, type := 0, pos := "law.go:66", after := #[], guard := none }) (v := ?vk_4) rfl (by kernel_rfl) (by kernel_rfl) (by kernel_rfl) (fun _ _ _ h => h) (Or.inl ⟨by rfl, ?hyk_4⟩) (by assumption) ?restk_4
          case hyk_4 =>
            intro w hSw
            (try dsimp only at hSw)
            go_simp
            (try with_reducible rfl)
          (try simp only [Act.put, List.setIfInBounds_toArray, List.set_cons_zero, List.set_cons_succ])
          refine wpAnyH_take (i := 4) (oi := { dst := some 38, op := Op.load 36 (Operand.tmp 37), type := 36, pos := "law.go:66", after := #[{ on := 3, ground := Ground.data }], guard := none }) (v := ?vk_5) rfl (by kernel_rfl) (by kernel_rfl) (by kernel_rfl) (fun _ _ _ h => h) (Or.inl ⟨by rfl, ?hyk_5⟩) (by assumption) ?restk_5
          case hyk_5 =>
            intro w hSw
            (try dsimp only at hSw)
            go_simp
            (try with_reducible rfl)
          (try simp only [Act.put, List.setIfInBounds_toArray, List.set_cons_zero, List.set_cons_succ])
          refine wpAnyH_take (i := 6) (oi := { dst := some 40, op := Op.move (Operand.tmp 6), type := 26, pos := "law.go:66", after := #[], guard := none }) (v := ?vk_6) rfl (by kernel_rfl) (by kernel_rfl) (by kernel_rfl) (fun _ _ _ h => h) (Or.inl ⟨by rfl, ?hyk_6⟩) (by assumption) ?restk_6
          case hyk_6 =>
            intro w hSw
            (try dsimp only at hSw)
            go_simp
            (try with_reducible rfl)
          (try simp only [Act.put, List.setIfInBounds_toArray, List.set_cons_zero, List.set_cons_succ])
          refine wpAnyH_take (i := 7) (oi := { dst := some 41, op := Op.fieldAddr 38 (Operand.tmp 8) 1, type := 0, pos := "law.go:66", after := #[], guard := none }) (v := ?vk_7) rfl (by kernel_rfl) (by kernel_rfl) (by kernel_rfl) (fun _ _ _ h => h) (Or.inl ⟨by rfl, ?hyk_7⟩) (by assumption) ?restk_7
          case hyk_7 =>
            intro w hSw
            (try dsimp only at hSw)
            go_simp
            (try with_reducible rfl)
          (try simp only [Act.put, List.setIfInBounds_toArray, List.set_cons_zero, List.set_cons_succ])
          refine wpAnyH_take (i := 8) (oi := { dst := some 42, op := Op.fieldAddr 35 (Operand.tmp 41) 0, type := 0, pos := "law.go:66", after := #[{ on := 7, ground := Ground.data }], guard := none }) (v := ?vk_8) rfl (by kernel_rfl) (by kernel_rfl) (by kernel_rfl) (fun _ _ _ h => h) (Or.inl ⟨by rfl, ?hyk_8⟩) (by assumption) ?restk_8
          case hyk_8 =>
            intro w hSw
            (try dsimp only at hSw)
            go_simp
            (try with_reducible rfl)
          (try simp only [Act.put, List.setIfInBounds_toArray, List.set_cons_zero, List.set_cons_succ])
          refine wpAnyH_take (i := 9) (oi := { dst := some 43, op := Op.load 3 (Operand.tmp 42), type := 3, pos := "law.go:66", after := #[{ on := 8, ground := Ground.data }], guard := none }) (v := ?vk_9) rfl (by kernel_rfl) (by kernel_rfl) (by kernel_rfl) (fun _ _ _ h => h) (Or.inl ⟨by rfl, ?hyk_9⟩) (by assumption) ?restk_9
          case hyk_9 =>
            intro w hSw
            (try dsimp only at hSw)
            go_simp
            (try with_reducible rfl)
          (try simp only [Act.put, List.setIfInBounds_toArray, List.set_cons_zero, List.set_cons_succ])
          refine wpAnyH_take (i := 10) (oi := { dst := some 44, op := Op.fieldAddr 38 (Operand.tmp 8) 1, type := 0, pos := "law.go:66", after := #[], guard := none }) (v := ?vk_10) rfl (by kernel_rfl) (by kernel_rfl) (by kernel_rfl) (fun _ _ _ h => h) (Or.inl ⟨by rfl, ?hyk_10⟩) (by assumption) ?restk_10
          case hyk_10 =>
            intro w hSw
            (try dsimp only at hSw)
            go_simp
            (try with_reducible rfl)
          (try simp only [Act.put, List.setIfInBounds_toArray, List.set_cons_zero, List.set_cons_succ])
          refine wpAnyH_take (i := 11) (oi := { dst := some 45, op := Op.fieldAddr 35 (Operand.tmp 44) 1, type := 0, pos := "law.go:66", after := #[{ on := 10, ground := Ground.data }], guard := none }) (v := ?vk_11) rfl (by kernel_rfl) (by kernel_rfl) (by kernel_rfl) (fun _ _ _ h => h) (Or.inl ⟨by rfl, ?hyk_11⟩) (by assumption) ?restk_11
          case hyk_11 =>
            intro w hSw
            (try dsimp only at hSw)
            go_simp
            (try with_reducible rfl)
          (try simp only [Act.put, List.setIfInBounds_toArray, List.set_cons_zero, List.set_cons_succ])
          refine wpAnyH_take (i := 12) (oi := { dst := some 46, op := Op.load 2 (Operand.tmp 45), type := 2, pos := "law.go:66", after := #[{ on := 11, ground := Ground.data }], guard := none }) (v := ?vk_12) rfl (by kernel_rfl) (by kernel_rfl) (by kernel_rfl) (fun _ _ _ h => h) (Or.inl ⟨by rfl, ?hyk_12⟩) (by assumption) ?restk_12
          case hyk_12 =>
            intro w hSw
            (try dsimp only at hSw)
            go_simp
            (try with_reducible rfl)
          (try simp only [Act.put, List.setIfInBounds_toArray, List.set_cons_zero, List.set_cons_succ])
          refine wpAnyH_take (i := 13) (oi := { dst := some 47, op := Op.fieldAddr 38 (Operand.tmp 8) 1, type := 0, pos := "law.go:66", after := #[], guard := none }) (v := ?vk_13) rfl (by kernel_rfl) (by kernel_rfl) (by kernel_rfl) (fun _ _ _ h => h) (Or.inl ⟨by rfl, ?hyk_13⟩) (by assumption) ?restk_13
          case hyk_13 =>
            intro w hSw
            (try dsimp only at hSw)
            go_simp
            (try with_reducible rfl)
          (try simp only [Act.put, List.setIfInBounds_toArray, List.set_cons_zero, List.set_cons_succ])
          refine wpAnyH_take (i := 14) (oi := { dst := some 48, op := Op.fieldAddr 35 (Operand.tmp 47) 2, type := 0, pos := "law.go:66", after := #[{ on := 13, ground := Ground.data }], guard := none }) (v := ?vk_14) rfl (by kernel_rfl) (by kernel_rfl) (by kernel_rfl) (fun _ _ _ h => h) (Or.inl ⟨by rfl, ?hyk_14⟩) (by assumption) ?restk_14
          case hyk_14 =>
            intro w hSw
            (try dsimp only at hSw)
            go_simp
            (try with_reducible rfl)
          (try simp only [Act.put, List.setIfInBounds_toArray, List.set_cons_zero, List.set_cons_succ])
          refine wpAnyH_take (i := 15) (oi := { dst := some 49, op := Op.load 32 (Operand.tmp 48), type := 32, pos := "law.go:66", after := #[{ on := 14, ground := Ground.data }], guard := none }) (v := ?vk_15) rfl (by kernel_rfl) (by kernel_rfl) (by kernel_rfl) (fun _ _ _ h => h) (Or.inl ⟨by rfl, ?hyk_15⟩) (by assumption) ?restk_15
          case hyk_15 =>
            intro w hSw
            (try dsimp only at hSw)
            go_simp
            (try with_reducible rfl)
          (try simp only [Act.put, List.setIfInBounds_toArray, List.set_cons_zero, List.set_cons_succ])
          refine wpAnyH_take (i := 16) (oi := { dst := some 50, op := Op.fieldAddr 38 (Operand.tmp 8) 1, type := 0, pos := "law.go:66", after := #[], guard := none }) (v := ?vk_16) rfl (by kernel_rfl) (by kernel_rfl) (by kernel_rfl) (fun _ _ _ h => h) (Or.inl ⟨by rfl, ?hyk_16⟩) (by assumption) ?restk_16
          case hyk_16 =>
            intro w hSw
            (try dsimp only at hSw)
            go_simp
            (try with_reducible rfl)
          (try simp only [Act.put, List.setIfInBounds_toArray, List.set_cons_zero, List.set_cons_succ])
          refine wpAnyH_take (i := 17) (oi := { dst := some 51, op := Op.fieldAddr 35 (Operand.tmp 50) 3, type := 0, pos := "law.go:66", after := #[{ on := 16, ground := Ground.data }], guard := none }) (v := ?vk_17) rfl (by kernel_rfl) (by kernel_rfl) (by kernel_rfl) (fun _ _ _ h => h) (Or.inl ⟨by rfl, ?hyk_17⟩) (by assumption) ?restk_17
          case hyk_17 =>
            intro w hSw
            (try dsimp only at hSw)
            go_simp
            (try with_reducible rfl)
          (try simp only [Act.put, List.setIfInBounds_toArray, List.set_cons_zero, List.set_cons_succ])
          refine wpAnyH_take (i := 18) (oi := { dst := some 52, op := Op.load 33 (Operand.tmp 51), type := 33, pos := "law.go:66", after := #[{ on := 17, ground := Ground.data }], guard := none }) (v := ?vk_18) rfl (by kernel_rfl) (by kernel_rfl) (by kernel_rfl) (fun _ _ _ h => h) (Or.inl ⟨by rfl, ?hyk_18⟩) (by assumption) ?restk_18
          case hyk_18 =>
            intro w hSw
            (try dsimp only at hSw)
            go_simp
            (try with_reducible rfl)
          (try simp only [Act.put, List.setIfInBounds_toArray, List.set_cons_zero, List.set_cons_succ])
          refine wpAnyH_take (i := 19) (oi := { dst := some 53, op := Op.build 41 #[(0, Operand.tmp 43), (1, Operand.tmp 46), (2, Operand.tmp 49), (3, Operand.tmp 52)], type := 41, pos := "law.go:66", after := #[{ on := 9, ground := Ground.data }, { on := 12, ground := Ground.data }, { on := 15, ground := Ground.data }, { on := 18, ground := Ground.data }], guard := none }) (v := ?vk_19) rfl (by kernel_rfl) (by kernel_rfl) (by kernel_rfl) (fun _ _ _ h => h) (Or.inl ⟨by rfl, ?hyk_19⟩) (by assumption) ?restk_19
          case hyk_19 =>
            intro w hSw
            (try dsimp only at hSw)
            go_simp
            (try with_reducible rfl)
          (try simp only [Act.put, List.setIfInBounds_toArray, List.set_cons_zero, List.set_cons_succ])
          refine wpAnyH_take (i := 20) (oi := { dst := some 54, op := Op.fieldAddr 38 (Operand.tmp 8) 2, type := 0, pos := "law.go:66", after := #[], guard := none }) (v := ?vk_20) rfl (by kernel_rfl) (by kernel_rfl) (by kernel_rfl) (fun _ _ _ h => h) (Or.inl ⟨by rfl, ?hyk_20⟩) (by assumption) ?restk_20
          case hyk_20 =>
            intro w hSw
            (try dsimp only at hSw)
            go_simp
            (try with_reducible rfl)
          (try simp only [Act.put, List.setIfInBounds_toArray, List.set_cons_zero, List.set_cons_succ])
          refine wpAnyH_take (i := 21) (oi := { dst := some 55, op := Op.load 36 (Operand.tmp 54), type := 36, pos := "law.go:66", after := #[{ on := 20, ground := Ground.data }], guard := none }) (v := ?vk_21) rfl (by kernel_rfl) (by kernel_rfl) (by kernel_rfl) (fun _ _ _ h => h) (Or.inl ⟨by rfl, ?hyk_21⟩) (by assumption) ?restk_21
          case hyk_21 =>
            intro w hSw
            (try dsimp only at hSw)
            go_simp
            (try with_reducible rfl)
          (try simp only [Act.put, List.setIfInBounds_toArray, List.set_cons_zero, List.set_cons_succ])
          refine wpAnyH_ready (rs := [5]) (by kernel_rfl) (by simp) ?_
          refine AllReadyH.cons (o := { dst := some 39, op := Op.call { callee := Callee.value (Operand.func 11), args := #[Operand.tmp 34, Operand.tmp 36, Operand.tmp 38], argTypes := #[24, 35, 36] }, type := 3, pos := "law.go:66", after := #[{ on := 0, ground := Ground.data }, { on := 2, ground := Ground.data }, { on := 4, ground := Ground.data }], guard := none }) rfl (fun K hK => ?_) AllReadyH.nil
          go_simp
          (go_at_call 11; refine HP.out.mono ?_; rintro e3 w3 ⟨F3, rfl, h3⟩; have b3 := h3.out.2.bn rfl (show Bn wr.heap.size 38 [.int .i64 1, .int .i64 f1, .int .i64 f2, .string k1, .slice a1 m1 c1, .slice a2 r1 c2, .slice a3 nv c3] W1.drew from HU.out.2.1.same rfl); have ho3 := h3.out.1.old; have HR := Lib.hid (h3.out.1.rtake HU.out.2.2.1 (by omega) f1 f2 k1 a1 c1 m1 v1 HX.out.2.2.2.2.2.1 a2 c2 r1 rr HX.out.2.2.2.2.2.2.1 HX.out.2.2.1 ((HX.out.1.below ho3).more ho3.size) ((HX.out.2.1.below ho3).more ho3.size) a3 c3 nv vv HX.out.2.2.2.2.2.2.2 hnvb ((HX.out.2.2.2.2.1.below ho3).more ho3.size) HF.out); clear ho3)
          go_wp2_with fail
          refine hK.out _ _ (HSC.out _ b3) (fun hHeld => ?_)
          clear hK K
          (try simp only [Act.put, List.setIfInBounds_toArray, List.set_cons_zero, List.set_cons_succ])
          refine wpAnyH_ready (rs := [22]) (by kernel_rfl) (by simp) ?_
          refine AllReadyH.cons (o := { dst := some 56, op := Op.call { callee := Callee.value (Operand.func 12), args := #[Operand.tmp 40, Operand.tmp 53, Operand.tmp 55], argTypes := #[26, 41, 36] }, type := 3, pos := "law.go:66", after := #[{ on := 6, ground := Ground.data }, { on := 19, ground := Ground.data }, { on := 21, ground := Ground.data }, { on := 5, ground := Ground.chain }], guard := none }) rfl (fun K hK => ?_) AllReadyH.nil
          go_simp
          (go_at_call 12; refine HR.out.mono ?_; rintro e4 w4 ⟨G4, rfl, h4⟩; have b4 := h4.out.2.bn rfl b3)
          go_wp2_with fail
          refine hK.out _ _ (HSC.out _ b4) (fun hHeld => ?_)
          clear hK K
          (try simp only [Act.put, List.setIfInBounds_toArray, List.set_cons_zero, List.set_cons_succ])
          refine wpAnyH_take (i := 23) (oi := { dst := some 57, op := Op.binOp BinOp.neq 3 (Operand.tmp 39) (Operand.tmp 56) 3, type := 4, pos := "law.go:66", after := #[{ on := 5, ground := Ground.data }, { on := 22, ground := Ground.data }], guard := none }) (v := ?vk_22) rfl (by kernel_rfl) (by kernel_rfl) (by kernel_rfl) (fun _ _ _ h => h) (Or.inl ⟨by rfl, ?hyk_22⟩) (by assumption) ?restk_22
          case hyk_22 =>
            intro w hSw
            (try dsimp only at hSw)
            go_simp
            (try with_reducible rfl)
          (try simp only [Act.put, List.setIfInBounds_toArray, List.set_cons_zero, List.set_cons_succ])
          refine wpAnyH_done (by kernel_rfl) ?_ _
          have HS4 := Lib.hid (And.intro h4.out.1 b4)
          clear b3 b4 h3 h4 hHeld HR HP HSC
          have HOK := Lib.hid (And.intro (take_ok HU.out.2.2.1 HF.out) (show P2.length ≤ k + 1 ∧ k + 1 ≤ 1759218604390 by have := Inbox.take_len HF.out; omega))
          have HS := Lib.hid HS4.out.1
          obtain ⟨kq, hkq⟩ : ∃ k, (P2).length = k := ⟨_, rfl⟩
          have hokq := HOK.out
          obtain ⟨AL, cL, yL, fL⟩ := HS.out.list kq hkq
          have hbd : Below (w4).heap.size (w4) (w4).drew := (Below.refl _ _).drew
          have HWT := Lib.hid ((HS.out.below hbd).waits hokq.1 (by have := hokq.2; omega) kq hkq)
          have HL : Hid (∀ V, Below (w4).heap.size (w4) V → Below (w4).heap.size (w4) V ∧ V.cell? ⟨rb, 1, none⟩ = some (.slice AL kq cL)) := Lib.hid fun V hV => ⟨hV, (hV.cell (p := ⟨rb, 1, none⟩) (World.block_lt_of_cell? _ _ yL)).trans yL⟩
          have HFL := Lib.hid (And.intro fL (And.intro hkq hbd))
          clear hokq fL hkq hbd
          go_wp2_with fail
          refine wp_region_held_drew (S := (fun V => Below (w4).heap.size (w4) V ∧ V.cell? ⟨rb, 1, none⟩ = some (.slice AL kq cL))) (by kernel_rfl) (HL.out _ HFL.out.2.2) (fun hHeld => ?_)
          refine wpAnyH_take (i := 0) (oi := { dst := some 95, op := Op.move (Operand.tmp 5), type := 24, pos := "law.go:80", after := #[], guard := none }) (v := ?vt1_1) rfl (by kernel_rfl) (by kernel_rfl) (by kernel_rfl) (fun _ _ _ h => h) (Or.inl ⟨by rfl, ?hyt1_1⟩) (by assumption) ?restt1_1
          case hyt1_1 =>
            intro w hSw
            (try dsimp only at hSw)
            go_simp
            (try with_reducible rfl)
          (try simp only [Act.put, List.setIfInBounds_toArray, List.set_cons_zero, List.set_cons_succ])
          refine wpAnyH_take (i := 2) (oi := { dst := some 97, op := Op.move (Operand.tmp 6), type := 26, pos := "law.go:80", after := #[], guard := none }) (v := ?vt1_2) rfl (by kernel_rfl) (by kernel_rfl) (by kernel_rfl) (fun _ _ _ h => h) (Or.inl ⟨by rfl, ?hyt1_2⟩) (by assumption) ?restt1_2
          case hyt1_2 =>
            intro w hSw
            (try dsimp only at hSw)
            go_simp
            (try with_reducible rfl)
          (try simp only [Act.put, List.setIfInBounds_toArray, List.set_cons_zero, List.set_cons_succ])
          refine wpAnyH_take (i := 3) (oi := { dst := some 98, op := Op.nilCheck (Operand.tmp 97), type := 0, pos := "law.go:80", after := #[{ on := 2, ground := Ground.data }], guard := none }) (v := ?vt1_3) rfl (by kernel_rfl) (by kernel_rfl) (by kernel_rfl) (fun _ _ _ h => h) (Or.inl ⟨by rfl, ?hyt1_3⟩) (by assumption) ?restt1_3
          case hyt1_3 =>
            intro w hSw
            (try dsimp only at hSw)
            go_simp
            (try with_reducible rfl)
          (try simp only [Act.put, List.setIfInBounds_toArray, List.set_cons_zero, List.set_cons_succ])
          refine wpAnyH_take (i := 4) (oi := { dst := some 99, op := Op.fieldAddr 29 (Operand.tmp 98) 1, type := 0, pos := "law.go:80", after := #[{ on := 3, ground := Ground.data }], guard := none }) (v := ?vt1_4) rfl (by kernel_rfl) (by kernel_rfl) (by kernel_rfl) (fun _ _ _ h => h) (Or.inl ⟨by rfl, ?hyt1_4⟩) (by assumption) ?restt1_4
          case hyt1_4 =>
            intro w hSw
            (try dsimp only at hSw)
            go_simp
            (try with_reducible rfl)
          (try simp only [Act.put, List.setIfInBounds_toArray, List.set_cons_zero, List.set_cons_succ])
          refine wpAnyH_take (i := 5) (oi := { dst := some 100, op := Op.load 27 (Operand.tmp 99), type := 27, pos := "law.go:80", after := #[{ on := 4, ground := Ground.data }], guard := none }) (v := ?vt1_5) rfl (by kernel_rfl) (by kernel_rfl) (by kernel_rfl) (fun _ _ _ h => h) (Or.inl ⟨by rfl, ?hyt1_5⟩) (by assumption) ?restt1_5
          case hyt1_5 =>
            intro w hSw
            (try dsimp only at hSw)
            go_simp
            (try with_reducible rfl)
          (try simp only [Act.put, List.setIfInBounds_toArray, List.set_cons_zero, List.set_cons_succ])
          refine wpAnyH_ready (rs := [1]) (by kernel_rfl) (by simp) ?_
          refine AllReadyH.cons (o := { dst := some 96, op := Op.call { callee := Callee.value (Operand.func 19), args := #[Operand.tmp 95], argTypes := #[24] }, type := 48, pos := "law.go:80", after := #[{ on := 0, ground := Ground.data }], guard := none }) rfl (fun K hK => ?_) AllReadyH.nil
          go_simp
          (go_at_call 19; refine HWT.out.mono ?_; rintro e6 w6 ⟨A6, c6, rfl, h6⟩; have hb6 : Below (w4).heap.size (w4) w6 := HFL.out.2.2.trans h6.out.2; have HLL := Lib.hid (lists_far A6 AL c6 cL kq kq _ _ HFL.out.2.1 HFL.out.2.1 (by have := HOK.out.2; have := HFL.out.2.1; omega) w6 h6.out.1 ((HFL.out.1.below hb6).more hb6.size)))
          go_wp2_with fail
          refine hK.out _ _ (HL.out _ hb6) (fun hHeld => ?_)
          clear hK K
          (try simp only [Act.put, List.setIfInBounds_toArray, List.set_cons_zero, List.set_cons_succ])
          refine wpAnyH_ready (rs := [6]) (by kernel_rfl) (by simp) ?_
          refine AllReadyH.cons (o := { dst := some 101, op := Op.call { callee := Callee.value (Operand.func 16), args := #[Operand.tmp 96, Operand.tmp 100], argTypes := #[48, 27] }, type := 4, pos := "law.go:80", after := #[{ on := 1, ground := Ground.data }, { on := 5, ground := Ground.data }, { on := 1, ground := Ground.chain }], guard := none }) rfl (fun K hK => ?_) AllReadyH.nil
          go_simp
          (go_at_call 16; refine HLL.out.mono ?_; rintro e7 w7 ⟨rfl, b7⟩; have hb7 : Below (w4).heap.size (w4) w7 := hb6.trans (b7.mono hb6.size))
          go_wp2_with fail
          refine hK.out _ _ (HL.out _ hb7) (fun hHeld => ?_)
          clear hK K
          (try simp only [Act.put, List.setIfInBounds_toArray, List.set_cons_zero, List.set_cons_succ])
          refine wpAnyH_take (i := 7) (oi := { dst := some 102, op := Op.unOp UnOp.not 4 (Operand.tmp 101), type := 4, pos := "law.go:80", after := #[{ on := 6, ground := Ground.data }], guard := none }) (v := ?vt1_6) rfl (by kernel_rfl) (by kernel_rfl) (by kernel_rfl) (fun _ _ _ h => h) (Or.inl ⟨by rfl, ?hyt1_6⟩) (by assumption) ?restt1_6
          case hyt1_6 =>
            intro w hSw
            (try dsimp only at hSw)
            go_simp
            (try with_reducible rfl)
          (try simp only [Act.put, List.setIfInBounds_toArray, List.set_cons_zero, List.set_cons_succ])
          refine wpAnyH_done (by kernel_rfl) ?_ _
          have HN := Lib.hid (And.intro (HS.out.below hb7) HOK.out)
          have hdt : decide ((P2 : List Fr) = P2) = true := decide_eq_true rfl
          try rw [hdt]
          clear hb7 b7 h6 hb6 HLL HWT HL HFL HS
          go_wp2_with fail
          go_roundw
          case rel => exact ⟨k + 1, F3, G4, P2, rfl, by omega, by have := HN.out.2.2; omega, Lib.hid ⟨HN.out.1.less fun j hj => hj.elim, HN.out.2.1⟩⟩
          case measure => simp only [intOf]; omega
      by_cases h2 : kd = 2
      · rcases ready_is (fun x => decide (mayF vv x)) P with ⟨hF, _⟩ | ⟨i, x, _, _, _, hF⟩
        · as_aux_lemma =>
          have hov := (HX.out.2.2.2.2.1.below HO.out).more HO.out.size
          have HP := Lib.hid (HU.out.1.ready0 HU.out.2.2.1 (by omega) a3 c3 nv vv HX.out.2.2.2.2.2.2.2 hnvb hov hF)
          have HF := Lib.hid hF
          have g1 : (kd == 1) = false := by simp [h1]
          clear hF hov h1
          subst h2
          go_wp2_with fail
          refine HP.out.mono ?_
          rintro e3 w3 ⟨F3, rfl, h3⟩
          have hst3 := h3.out.1
          have hkp3 := h3.out.2
          have b3 := hkp3.bn rfl HU.out.2.1
          obtain ⟨W3, hW3⟩ : ∃ W, w3.alloc (.cells #[.int .i64 0, .int .i64 0, .string ⟨#[]⟩, .slice none 0 0, .slice none 0 0] 35) = W := ⟨_, rfl⟩
          have bW3 : Below w3.heap.size w3 W3 := by rw [← hW3]; exact (Below.refl _ w3).alloc (Nat.le_refl _) _
          have w3s : W3.heap.size = w3.heap.size + 1 := by rw [← hW3]; simp
          have BW3 : Bn w3.heap.size 35 [.int .i64 0, .int .i64 0, .string ⟨#[]⟩, .slice none 0 0, .slice none 0 0] W3 := by rw [← hW3]; exact heap_alloc_new w3 _
          have b3' := b3.same (bW3.block _ b3.lt)
          have y6 := (b3'.cell 6).trans rfl
          have hs3 := (hst3.hold bW3).less (Y := fun j => j = wr.heap.size ∨ j = w3.heap.size) fun j hj => by
            rcases hj with hj | hj
            · exact .inl hj
            · exact .inr (by omega)
          have ho3 := hs3.old
          have HR := Lib.hid (hs3.rready0 HU.out.2.2.1 (by omega) a3 c3 nv vv HX.out.2.2.2.2.2.2.2 hnvb ((HX.out.2.2.2.2.1.below ho3).more ho3.size) HF.out)
          have HB3 := Lib.hid (And.intro b3' (And.intro BW3 hs3.apart))
          have HW3 := Lib.hid hW3
          clear b3 bW3 w3s BW3 b3' hs3 ho3 hst3 hkp3 h3 HP hW3
          go_upto_region 15 with fail
          rw [HW3.out]
          go_wp2_with fail
          refine HR.out.mono ?_
          rintro e4 w4 ⟨G4, rfl, h4⟩
          have hst4 := h4.out.1
          have hkp4 := h4.out.2
          have c4 := hkp4.bn (.inr rfl) HB3.out.2.1
          obtain ⟨W4, hW4⟩ : ∃ W, w4.alloc (.cells #[.int .i64 0, .int .i64 0, .string ⟨#[]⟩, .slice none 0 0, .slice none 0 0] 41) = W := ⟨_, rfl⟩
          have bW4 : Below w4.heap.size w4 W4 := by rw [← hW4]; exact (Below.refl _ w4).alloc (Nat.le_refl _) _
          have BW4 : Bn w4.heap.size 41 [.int .i64 0, .int .i64 0, .string ⟨#[]⟩, .slice none 0 0, .slice none 0 0] W4 := by rw [← hW4]; exact heap_alloc_new w4 _
          have c4' := c4.same (bW4.block _ c4.lt)
          have p0 := (c4'.cell 0).trans rfl
          have p1 := (c4'.cell 1).trans rfl
          have p2 := (c4'.cell 2).trans rfl
          have p3 := (c4'.cell 3).trans rfl
          have p4 := (c4'.cell 4).trans rfl
          have q0 := (BW4.cell 0).trans rfl
          have q1 := (BW4.cell 1).trans rfl
          have q2 := (BW4.cell 2).trans rfl
          have q3 := (BW4.cell 3).trans rfl
          have q4 := (BW4.cell 4).trans rfl
          have HSM := Lib.hid (same_far 0 0 ⟨#[]⟩ none 0 0 [] none 0 0 [] rfl (Nat.le_refl _) rfl ⟨Nat.zero_le _, Nat.zero_le _, Nat.zero_le _⟩ 0 0 ⟨#[]⟩ none 0 0 [] none 0 0 [] rfl (Nat.le_refl _) rfl ⟨Nat.zero_le _, Nat.zero_le _, Nat.zero_le _⟩ W4 (Vs.nil _) (Ns.nil _) (Vs.nil _) (Ns.nil _))
          have HS5 := Lib.hid (hst4.below bW4)
          have HW4 := Lib.hid hW4
          clear hst4 hkp4 c4 c4' BW4 bW4 h4 HR hW4
          go_upto_region 16 with fail
          rw [HW4.out]
          go_wp2_with fail
          refine HSM.out.mono ?_
          rintro e5 w5 ⟨rfl, b5⟩
          have hdt : decide (((((0 : Int), (0 : Int)), ((⟨#[]⟩ : ByteArray), ([] : List Vr)), ([] : List Int)) : Fr) = ((0, 0), (⟨#[]⟩, []), [])) = true := decide_eq_true rfl
          try rw [hdt]
          have HS := Lib.hid (HS5.out.below b5)
          have HOK := Lib.hid (And.intro (HU.out.2.2.1) (show (P).length ≤ k + 1 ∧ k + 1 ≤ 1759218604390 by omega))
          clear b5 p0 p1 p2 p3 p4 q0 q1 q2 q3 q4 HSM
          obtain ⟨kq, hkq⟩ : ∃ k, (P).length = k := ⟨_, rfl⟩
          have hokq := HOK.out
          obtain ⟨AL, cL, yL, fL⟩ := HS.out.list kq hkq
          have hbd : Below (w5).heap.size (w5) (w5).drew := (Below.refl _ _).drew
          have HWT := Lib.hid ((HS.out.below hbd).waits hokq.1 (by have := hokq.2; omega) kq hkq)
          have HL : Hid (∀ V, Below (w5).heap.size (w5) V → Below (w5).heap.size (w5) V ∧ V.cell? ⟨rb, 1, none⟩ = some (.slice AL kq cL)) := Lib.hid fun V hV => ⟨hV, (hV.cell (p := ⟨rb, 1, none⟩) (World.block_lt_of_cell? _ _ yL)).trans yL⟩
          have HFL := Lib.hid (And.intro fL (And.intro hkq hbd))
          clear hokq fL hkq hbd
          go_wp2_with fail
          refine wp_region_held_drew (S := (fun V => Below (w5).heap.size (w5) V ∧ V.cell? ⟨rb, 1, none⟩ = some (.slice AL kq cL))) (by kernel_rfl) (HL.out _ HFL.out.2.2) (fun hHeld => ?_)
          refine wpAnyH_take (i := 0) (oi := { dst := some 95, op := Op.move (Operand.tmp 5), type := 24, pos := "law.go:80", after := #[], guard := none }) (v := ?vt3_1) rfl (by kernel_rfl) (by kernel_rfl) (by kernel_rfl) (fun _ _ _ h => h) (Or.inl ⟨by rfl, ?hyt3_1⟩) (by assumption) ?restt3_1
          case hyt3_1 =>
            intro w hSw
            (try dsimp only at hSw)
            go_simp
            (try with_reducible rfl)
          (try simp only [Act.put, List.setIfInBounds_toArray, List.set_cons_zero, List.set_cons_succ])
          refine wpAnyH_take (i := 2) (oi := { dst := some 97, op := Op.move (Operand.tmp 6), type := 26, pos := "law.go:80", after := #[], guard := none }) (v := ?vt3_2) rfl (by kernel_rfl) (by kernel_rfl) (by kernel_rfl) (fun _ _ _ h => h) (Or.inl ⟨by rfl, ?hyt3_2⟩) (by assumption) ?restt3_2
          case hyt3_2 =>
            intro w hSw
            (try dsimp only at hSw)
            go_simp
            (try with_reducible rfl)
          (try simp only [Act.put, List.setIfInBounds_toArray, List.set_cons_zero, List.set_cons_succ])
          refine wpAnyH_take (i := 3) (oi := { dst := some 98, op := Op.nilCheck (Operand.tmp 97), type := 0, pos := "law.go:80", after := #[{ on := 2, ground := Ground.data }], guard := none }) (v := ?vt3_3) rfl (by kernel_rfl) (by kernel_rfl) (by kernel_rfl) (fun _ _ _ h => h) (Or.inl ⟨by rfl, ?hyt3_3⟩) (by assumption) ?restt3_3
          case hyt3_3 =>
            intro w hSw
            (try dsimp only at hSw)
            go_simp
            (try with_reducible rfl)
          (try simp only [Act.put, List.setIfInBounds_toArray, List.set_cons_zero, List.set_cons_succ])
          refine wpAnyH_take (i := 4) (oi := { dst := some 99, op := Op.fieldAddr 29 (Operand.tmp 98) 1, type := 0, pos := "law.go:80", after := #[{ on := 3, ground := Ground.data }], guard := none }) (v := ?vt3_4) rfl (by kernel_rfl) (by kernel_rfl) (by kernel_rfl) (fun _ _ _ h => h) (Or.inl ⟨by rfl, ?hyt3_4⟩) (by assumption) ?restt3_4
          case hyt3_4 =>
            intro w hSw
            (try dsimp only at hSw)
            go_simp
            (try with_reducible rfl)
          (try simp only [Act.put, List.setIfInBounds_toArray, List.set_cons_zero, List.set_cons_succ])
          refine wpAnyH_take (i := 5) (oi := { dst := some 100, op := Op.load 27 (Operand.tmp 99), type := 27, pos := "law.go:80", after := #[{ on := 4, ground := Ground.data }], guard := none }) (v := ?vt3_5) rfl (by kernel_rfl) (by kernel_rfl) (by kernel_rfl) (fun _ _ _ h => h) (Or.inl ⟨by rfl, ?hyt3_5⟩) (by assumption) ?restt3_5
          case hyt3_5 =>
            intro w hSw
            (try dsimp only at hSw)
            go_simp
            (try with_reducible rfl)
          (try simp only [Act.put, List.setIfInBounds_toArray, List.set_cons_zero, List.set_cons_succ])
          refine wpAnyH_ready (rs := [1]) (by kernel_rfl) (by simp) ?_
          refine AllReadyH.cons (o := { dst := some 96, op := Op.call { callee := Callee.value (Operand.func 19), args := #[Operand.tmp 95], argTypes := #[24] }, type := 48, pos := "law.go:80", after := #[{ on := 0, ground := Ground.data }], guard := none }) rfl (fun K hK => ?_) AllReadyH.nil
          go_simp
          (go_at_call 19; refine HWT.out.mono ?_; rintro e6 w6 ⟨A6, c6, rfl, h6⟩; have hb6 : Below (w5).heap.size (w5) w6 := HFL.out.2.2.trans h6.out.2; have HLL := Lib.hid (lists_far A6 AL c6 cL kq kq _ _ HFL.out.2.1 HFL.out.2.1 (by have := HOK.out.2; have := HFL.out.2.1; omega) w6 h6.out.1 ((HFL.out.1.below hb6).more hb6.size)))
          go_wp2_with fail
          refine hK.out _ _ (HL.out _ hb6) (fun hHeld => ?_)
          clear hK K
          (try simp only [Act.put, List.setIfInBounds_toArray, List.set_cons_zero, List.set_cons_succ])
          refine wpAnyH_ready (rs := [6]) (by kernel_rfl) (by simp) ?_
          refine AllReadyH.cons (o := { dst := some 101, op := Op.call { callee := Callee.value (Operand.func 16), args := #[Operand.tmp 96, Operand.tmp 100], argTypes := #[48, 27] }, type := 4, pos := "law.go:80", after := #[{ on := 1, ground := Ground.data }, { on := 5, ground := Ground.data }, { on := 1, ground := Ground.chain }], guard := none }) rfl (fun K hK => ?_) AllReadyH.nil
          go_simp
          (go_at_call 16; refine HLL.out.mono ?_; rintro e7 w7 ⟨rfl, b7⟩; have hb7 : Below (w5).heap.size (w5) w7 := hb6.trans (b7.mono hb6.size))
          go_wp2_with fail
          refine hK.out _ _ (HL.out _ hb7) (fun hHeld => ?_)
          clear hK K
          (try simp only [Act.put, List.setIfInBounds_toArray, List.set_cons_zero, List.set_cons_succ])
          refine wpAnyH_take (i := 7) (oi := { dst := some 102, op := Op.unOp UnOp.not 4 (Operand.tmp 101), type := 4, pos := "law.go:80", after := #[{ on := 6, ground := Ground.data }], guard := none }) (v := ?vt3_6) rfl (by kernel_rfl) (by kernel_rfl) (by kernel_rfl) (fun _ _ _ h => h) (Or.inl ⟨by rfl, ?hyt3_6⟩) (by assumption) ?restt3_6
          case hyt3_6 =>
            intro w hSw
            (try dsimp only at hSw)
            go_simp
            (try with_reducible rfl)
          (try simp only [Act.put, List.setIfInBounds_toArray, List.set_cons_zero, List.set_cons_succ])
          refine wpAnyH_done (by kernel_rfl) ?_ _
          have HN := Lib.hid (And.intro (HS.out.below hb7) HOK.out)
          have hdt : decide ((P : List Fr) = P) = true := decide_eq_true rfl
          try rw [hdt]
          clear hb7 b7 h6 hb6 HLL HWT HL HFL HS
          go_wp2_with fail
          go_roundw
          case rel => exact ⟨k + 1, F3, G4, P, rfl, by omega, by have := HN.out.2.2; omega, Lib.hid ⟨HN.out.1.less fun j hj => hj.elim, HN.out.2.1⟩⟩
          case measure => simp only [intOf]; omega
        · as_aux_lemma =>
          have hov := (HX.out.2.2.2.2.1.below HO.out).more HO.out.size
          have HP := Lib.hid (HU.out.1.ready HU.out.2.2.1 (by omega) a3 c3 nv vv HX.out.2.2.2.2.2.2.2 hnvb hov hF)
          have HF := Lib.hid hF
          have g1 : (kd == 1) = false := by simp [h1]
          clear hF hov h1
          subst h2
          go_wp2_with fail
          refine HP.out.mono ?_
          rintro e3 w3 ⟨F3, ax, cx, ay, cy, kx, rfl, h3⟩
          have hst3 := h3.out.1.1
          have hkp3 := h3.out.1.2
          obtain ⟨⟨x1, x2⟩, ⟨xk, xv⟩, xr⟩ := x
          simp only
          have b3 := hkp3.bn rfl HU.out.2.1
          obtain ⟨W3, hW3⟩ : ∃ W, w3.alloc (.cells #[.int .i64 x1, .int .i64 x2, .string xk, .slice ax 1 cx, .slice ay kx cy] 35) = W := ⟨_, rfl⟩
          have bW3 : Below w3.heap.size w3 W3 := by rw [← hW3]; exact (Below.refl _ w3).alloc (Nat.le_refl _) _
          have w3s : W3.heap.size = w3.heap.size + 1 := by rw [← hW3]; simp
          have BW3 : Bn w3.heap.size 35 [.int .i64 x1, .int .i64 x2, .string xk, .slice ax 1 cx, .slice ay kx cy] W3 := by rw [← hW3]; exact heap_alloc_new w3 _
          have b3' := b3.same (bW3.block _ b3.lt)
          have y6 := (b3'.cell 6).trans rfl
          have hs3 := (hst3.hold bW3).less (Y := fun j => j = wr.heap.size ∨ j = w3.heap.size) fun j hj => by
            rcases hj with hj | hj
            · exact .inl hj
            · exact .inr (by omega)
          have ho3 := hs3.old
          have HR := Lib.hid (hs3.rready HU.out.2.2.1 (by omega) a3 c3 nv vv HX.out.2.2.2.2.2.2.2 hnvb ((HX.out.2.2.2.2.1.below ho3).more ho3.size) HF.out)
          have HB3 := Lib.hid (And.intro b3' (And.intro BW3 hs3.apart))
          have HW3 := Lib.hid hW3
          have HG3 := Lib.hid (h3.out.2.chg (G := fun _ => False) (Chg.of_below bW3) fun _ _ h => h)
          have HAP := Lib.hid (HU.out.1.apart)
          clear b3 bW3 w3s BW3 b3' hs3 ho3 hst3 hkp3 h3 HP hW3
          go_upto_region 15 with fail
          rw [HW3.out]
          go_wp2_with fail
          refine HR.out.mono ?_
          rintro e4 w4 ⟨G4, bx, dx, by1, dy, ky, rfl, h4⟩
          have hst4 := h4.out.1.1
          have hkp4 := h4.out.1.2
          simp only
          have c4 := hkp4.bn (.inr rfl) HB3.out.2.1
          obtain ⟨W4, hW4⟩ : ∃ W, w4.alloc (.cells #[.int .i64 x1, .int .i64 x2, .string xk, .slice bx 1 dx, .slice by1 ky dy] 41) = W := ⟨_, rfl⟩
          have bW4 : Below w4.heap.size w4 W4 := by rw [← hW4]; exact (Below.refl _ w4).alloc (Nat.le_refl _) _
          have BW4 : Bn w4.heap.size 41 [.int .i64 x1, .int .i64 x2, .string xk, .slice bx 1 dx, .slice by1 ky dy] W4 := by rw [← hW4]; exact heap_alloc_new w4 _
          have c4' := c4.same (bW4.block _ c4.lt)
          have p0 := (c4'.cell 0).trans rfl
          have p1 := (c4'.cell 1).trans rfl
          have p2 := (c4'.cell 2).trans rfl
          have p3 := (c4'.cell 3).trans rfl
          have p4 := (c4'.cell 4).trans rfl
          have q0 := (BW4.cell 0).trans rfl
          have q1 := (BW4.cell 1).trans rfl
          have q2 := (BW4.cell 2).trans rfl
          have q3 := (BW4.cell 3).trans rfl
          have q4 := (BW4.cell 4).trans rfl
          obtain ⟨gx1, gx2, L3, B3, gx3, gx4, _⟩ := (HG3.out.chg h4.out.2.2 HAP.out).chg (G := fun _ => False) (Chg.of_below bW4) fun _ _ h => h
          obtain ⟨gy1, gy2, L4, B4, gy3, gy4, _⟩ := h4.out.2.1.chg (G := fun _ => False) (Chg.of_below bW4) fun _ _ h => h
          have hx0 : (((x1, x2), (xk, xv), xr) : Fr) ∈ P := by have := (dropF_mem 1 (fun x => decide (mayF vv x)) P).1; rw [HF.out] at this; exact this _ (by simp)
          have hx1 : xv.length = 1 := (HU.out.2.2.1 _ hx0).2
          clear hx0
          have gx5 := gx3.2.2.2
          have gy5 := gy3.2.2.2
          simp only at gx1 gy1 gx5 gy5
          have HSM := Lib.hid (same_far x1 x2 xk ax cx 1 xv ay cy kx xr hx1 (by omega) gx1 gx2 x1 x2 xk bx dx 1 xv by1 dy ky xr hx1 (by omega) gy1 gy2 W4 ((gx3.1.less (Nat.zero_le _)).more gx4) (gx3.2.1.more gx4) ((gy3.1.less (Nat.zero_le _)).more gy4) (gy3.2.1.more gy4))
          clear gx1 gx2 gx3 gx4 gy1 gy2 gy3 gy4 hx1 gx5 gy5
          have HS5 := Lib.hid (hst4.below bW4)
          have HW4 := Lib.hid hW4
          clear hst4 hkp4 c4 c4' BW4 bW4 h4 HR hW4
          go_upto_region 16 with fail
          rw [HW4.out]
          go_wp2_with fail
          refine HSM.out.mono ?_
          rintro e5 w5 ⟨rfl, b5⟩
          have hdt : decide ((((x1, x2), (xk, xv), xr) : Fr) = ((x1, x2), (xk, xv), xr)) = true := decide_eq_true rfl
          try rw [hdt]
          have HS := Lib.hid (HS5.out.below b5)
          have HOK := Lib.hid (And.intro ((fun y hy => HU.out.2.2.1 y (List.mem_of_mem_eraseIdx hy) : ∀ y ∈ P.eraseIdx i, okF y)) (show ((P.eraseIdx i)).length ≤ k + 1 ∧ k + 1 ≤ 1759218604390 by have := List.length_eraseIdx_le P i; omega))
          clear b5 p0 p1 p2 p3 p4 q0 q1 q2 q3 q4 HSM
          obtain ⟨kq, hkq⟩ : ∃ k, ((P.eraseIdx i)).length = k := ⟨_, rfl⟩
          have hokq := HOK.out
          obtain ⟨AL, cL, yL, fL⟩ := HS.out.list kq hkq
          have hbd : Below (w5).heap.size (w5) (w5).drew := (Below.refl _ _).drew
          have HWT := Lib.hid ((HS.out.below hbd).waits hokq.1 (by have := hokq.2; omega) kq hkq)
          have HL : Hid (∀ V, Below (w5).heap.size (w5) V → Below (w5).heap.size (w5) V ∧ V.cell? ⟨rb, 1, none⟩ = some (.slice AL kq cL)) := Lib.hid fun V hV => ⟨hV, (hV.cell (p := ⟨rb, 1, none⟩) (World.block_lt_of_cell? _ _ yL)).trans yL⟩
          have HFL := Lib.hid (And.intro fL (And.intro hkq hbd))
          clear hokq fL hkq hbd
          go_wp2_with fail
          refine wp_region_held_drew (S := (fun V => Below (w5).heap.size (w5) V ∧ V.cell? ⟨rb, 1, none⟩ = some (.slice AL kq cL))) (by kernel_rfl) (HL.out _ HFL.out.2.2) (fun hHeld => ?_)
          refine wpAnyH_take (i := 0) (oi := { dst := some 95, op := Op.move (Operand.tmp 5), type := 24, pos := "law.go:80", after := #[], guard := none }) (v := ?vt4_1) rfl (by kernel_rfl) (by kernel_rfl) (by kernel_rfl) (fun _ _ _ h => h) (Or.inl ⟨by rfl, ?hyt4_1⟩) (by assumption) ?restt4_1
          case hyt4_1 =>
            intro w hSw
            (try dsimp only at hSw)
            go_simp
            (try with_reducible rfl)
          (try simp only [Act.put, List.setIfInBounds_toArray, List.set_cons_zero, List.set_cons_succ])
          refine wpAnyH_take (i := 2) (oi := { dst := some 97, op := Op.move (Operand.tmp 6), type := 26, pos := "law.go:80", after := #[], guard := none }) (v := ?vt4_2) rfl (by kernel_rfl) (by kernel_rfl) (by kernel_rfl) (fun _ _ _ h => h) (Or.inl ⟨by rfl, ?hyt4_2⟩) (by assumption) ?restt4_2
          case hyt4_2 =>
            intro w hSw
            (try dsimp only at hSw)
            go_simp
            (try with_reducible rfl)
          (try simp only [Act.put, List.setIfInBounds_toArray, List.set_cons_zero, List.set_cons_succ])
          refine wpAnyH_take (i := 3) (oi := { dst := some 98, op := Op.nilCheck (Operand.tmp 97), type := 0, pos := "law.go:80", after := #[{ on := 2, ground := Ground.data }], guard := none }) (v := ?vt4_3) rfl (by kernel_rfl) (by kernel_rfl) (by kernel_rfl) (fun _ _ _ h => h) (Or.inl ⟨by rfl, ?hyt4_3⟩) (by assumption) ?restt4_3
          case hyt4_3 =>
            intro w hSw
            (try dsimp only at hSw)
            go_simp
            (try with_reducible rfl)
          (try simp only [Act.put, List.setIfInBounds_toArray, List.set_cons_zero, List.set_cons_succ])
          refine wpAnyH_take (i := 4) (oi := { dst := some 99, op := Op.fieldAddr 29 (Operand.tmp 98) 1, type := 0, pos := "law.go:80", after := #[{ on := 3, ground := Ground.data }], guard := none }) (v := ?vt4_4) rfl (by kernel_rfl) (by kernel_rfl) (by kernel_rfl) (fun _ _ _ h => h) (Or.inl ⟨by rfl, ?hyt4_4⟩) (by assumption) ?restt4_4
          case hyt4_4 =>
            intro w hSw
            (try dsimp only at hSw)
            go_simp
            (try with_reducible rfl)
          (try simp only [Act.put, List.setIfInBounds_toArray, List.set_cons_zero, List.set_cons_succ])
          refine wpAnyH_take (i := 5) (oi := { dst := some 100, op := Op.load 27 (Operand.tmp 99), type := 27, pos := "law.go:80", after := #[{ on := 4, ground := Ground.data }], guard := none }) (v := ?vt4_5) rfl (by kernel_rfl) (by kernel_rfl) (by kernel_rfl) (fun _ _ _ h => h) (Or.inl ⟨by rfl, ?hyt4_5⟩) (by assumption) ?restt4_5
          case hyt4_5 =>
            intro w hSw
            (try dsimp only at hSw)
            go_simp
            (try with_reducible rfl)
          (try simp only [Act.put, List.setIfInBounds_toArray, List.set_cons_zero, List.set_cons_succ])
          refine wpAnyH_ready (rs := [1]) (by kernel_rfl) (by simp) ?_
          refine AllReadyH.cons (o := { dst := some 96, op := Op.call { callee := Callee.value (Operand.func 19), args := #[Operand.tmp 95], argTypes := #[24] }, type := 48, pos := "law.go:80", after := #[{ on := 0, ground := Ground.data }], guard := none }) rfl (fun K hK => ?_) AllReadyH.nil
          go_simp
          (go_at_call 19; refine HWT.out.mono ?_; rintro e6 w6 ⟨A6, c6, rfl, h6⟩; have hb6 : Below (w5).heap.size (w5) w6 := HFL.out.2.2.trans h6.out.2; have HLL := Lib.hid (lists_far A6 AL c6 cL kq kq _ _ HFL.out.2.1 HFL.out.2.1 (by have := HOK.out.2; have := HFL.out.2.1; omega) w6 h6.out.1 ((HFL.out.1.below hb6).more hb6.size)))
          go_wp2_with fail
          refine hK.out _ _ (HL.out _ hb6) (fun hHeld => ?_)
          clear hK K
          (try simp only [Act.put, List.setIfInBounds_toArray, List.set_cons_zero, List.set_cons_succ])
          refine wpAnyH_ready (rs := [6]) (by kernel_rfl) (by simp) ?_
          refine AllReadyH.cons (o := { dst := some 101, op := Op.call { callee := Callee.value (Operand.func 16), args := #[Operand.tmp 96, Operand.tmp 100], argTypes := #[48, 27] }, type := 4, pos := "law.go:80", after := #[{ on := 1, ground := Ground.data }, { on := 5, ground := Ground.data }, { on := 1, ground := Ground.chain }], guard := none }) rfl (fun K hK => ?_) AllReadyH.nil
          go_simp
          (go_at_call 16; refine HLL.out.mono ?_; rintro e7 w7 ⟨rfl, b7⟩; have hb7 : Below (w5).heap.size (w5) w7 := hb6.trans (b7.mono hb6.size))
          go_wp2_with fail
          refine hK.out _ _ (HL.out _ hb7) (fun hHeld => ?_)
          clear hK K
          (try simp only [Act.put, List.setIfInBounds_toArray, List.set_cons_zero, List.set_cons_succ])
          refine wpAnyH_take (i := 7) (oi := { dst := some 102, op := Op.unOp UnOp.not 4 (Operand.tmp 101), type := 4, pos := "law.go:80", after := #[{ on := 6, ground := Ground.data }], guard := none }) (v := ?vt4_6) rfl (by kernel_rfl) (by kernel_rfl) (by kernel_rfl) (fun _ _ _ h => h) (Or.inl ⟨by rfl, ?hyt4_6⟩) (by assumption) ?restt4_6
          case hyt4_6 =>
            intro w hSw
            (try dsimp only at hSw)
            go_simp
            (try with_reducible rfl)
          (try simp only [Act.put, List.setIfInBounds_toArray, List.set_cons_zero, List.set_cons_succ])
          refine wpAnyH_done (by kernel_rfl) ?_ _
          have HN := Lib.hid (And.intro (HS.out.below hb7) HOK.out)
          have hdt : decide (((P.eraseIdx i) : List Fr) = (P.eraseIdx i)) = true := decide_eq_true rfl
          try rw [hdt]
          clear hb7 b7 h6 hb6 HLL HWT HL HFL HS
          go_wp2_with fail
          go_roundw
          case rel => exact ⟨k + 1, F3, G4, (P.eraseIdx i), rfl, by omega, by have := HN.out.2.2; omega, Lib.hid ⟨HN.out.1.less fun j hj => hj.elim, HN.out.2.1⟩⟩
          case measure => simp only [intOf]; omega
      by_cases h3 : kd = 3
      · as_aux_lemma =>
          obtain ⟨kg, hkg⟩ : ∃ q, (P.filter fun x => decide (covF vv x)).length = q := ⟨_, rfl⟩
          have hbd : Below W1.heap.size W1 W1.drew := (Below.refl _ _).drew
          have hod := HO.out.trans (hbd.mono HO.out.size)
          have HP := Lib.hid ((HU.out.1.below hbd).clean HU.out.2.2.1 (by omega) a3 c3 nv vv HX.out.2.2.2.2.2.2.2 hnvb ((HX.out.2.2.2.2.1.below hod).more hod.size) kg hkg)
          have HF := Lib.hid hkg
          have hkgb : kg ≤ 1759218604390 := by have := List.length_filter_le (fun x => decide (covF vv x)) P; omega
          have HSC : Hid (∀ V, Bn wr.heap.size 38 [.int .i64 3, .int .i64 f1, .int .i64 f2, .string k1, .slice a1 m1 c1, .slice a2 r1 c2, .slice a3 nv c3] V → V.cell? ⟨wr.heap.size, 6, none⟩ = some (.slice a3 nv c3)) := Lib.hid fun V h => (h.cell 6).trans rfl
          have g1 : (kd == 1) = false := by simp [h1]
          have g2 : (kd == 2) = false := by simp [h2]
          clear hkg hbd hod h1 h2
          subst h3
          go_wp2_with fail
          refine wp_region_held_drew (S := (fun V => V.cell? ⟨wr.heap.size, 6, none⟩ = some (.slice a3 nv c3))) (by kernel_rfl) (HSC.out _ (show Bn wr.heap.size 38 [.int .i64 3, .int .i64 f1, .int .i64 f2, .string k1, .slice a1 m1 c1, .slice a2 r1 c2, .slice a3 nv c3] W1.drew from HU.out.2.1.same rfl)) (fun hHeld => ?_)
          refine wpAnyH_take (i := 0) (oi := { dst := some 85, op := Op.move (Operand.tmp 5), type := 24, pos := "law.go:76", after := #[], guard := none }) (v := ?vc_1) rfl (by kernel_rfl) (by kernel_rfl) (by kernel_rfl) (fun _ _ _ h => h) (Or.inl ⟨by rfl, ?hyc_1⟩) (by assumption) ?restc_1
          case hyc_1 =>
            intro w hSw
            (try dsimp only at hSw)
            go_simp
            (try with_reducible rfl)
          (try simp only [Act.put, List.setIfInBounds_toArray, List.set_cons_zero, List.set_cons_succ])
          refine wpAnyH_take (i := 1) (oi := { dst := some 86, op := Op.fieldAddr 38 (Operand.tmp 8) 2, type := 0, pos := "law.go:76", after := #[], guard := none }) (v := ?vc_2) rfl (by kernel_rfl) (by kernel_rfl) (by kernel_rfl) (fun _ _ _ h => h) (Or.inl ⟨by rfl, ?hyc_2⟩) (by assumption) ?restc_2
          case hyc_2 =>
            intro w hSw
            (try dsimp only at hSw)
            go_simp
            (try with_reducible rfl)
          (try simp only [Act.put, List.setIfInBounds_toArray, List.set_cons_zero, List.set_cons_succ])
          refine wpAnyH_take (i := 2) (oi := { dst := some 87, op := Op.load 36 (Operand.tmp 86), type := 36, pos := "law.go:76", after := #[{ on := 1, ground := Ground.data }], guard := none }) (v := ?vc_3) rfl (by kernel_rfl) (by kernel_rfl) (by kernel_rfl) (fun _ _ _ h => h) (Or.inl ⟨by rfl, ?hyc_3⟩) (by assumption) ?restc_3
          case hyc_3 =>
            intro w hSw
            (try dsimp only at hSw)
            go_simp
            (try with_reducible rfl)
          (try simp only [Act.put, List.setIfInBounds_toArray, List.set_cons_zero, List.set_cons_succ])
          refine wpAnyH_take (i := 4) (oi := { dst := some 89, op := Op.move (Operand.tmp 6), type := 26, pos := "law.go:76", after := #[], guard := none }) (v := ?vc_4) rfl (by kernel_rfl) (by kernel_rfl) (by kernel_rfl) (fun _ _ _ h => h) (Or.inl ⟨by rfl, ?hyc_4⟩) (by assumption) ?restc_4
          case hyc_4 =>
            intro w hSw
            (try dsimp only at hSw)
            go_simp
            (try with_reducible rfl)
          (try simp only [Act.put, List.setIfInBounds_toArray, List.set_cons_zero, List.set_cons_succ])
          refine wpAnyH_take (i := 5) (oi := { dst := some 90, op := Op.fieldAddr 38 (Operand.tmp 8) 2, type := 0, pos := "law.go:76", after := #[], guard := none }) (v := ?vc_5) rfl (by kernel_rfl) (by kernel_rfl) (by kernel_rfl) (fun _ _ _ h => h) (Or.inl ⟨by rfl, ?hyc_5⟩) (by assumption) ?restc_5
          case hyc_5 =>
            intro w hSw
            (try dsimp only at hSw)
            go_simp
            (try with_reducible rfl)
          (try simp only [Act.put, List.setIfInBounds_toArray, List.set_cons_zero, List.set_cons_succ])
          refine wpAnyH_take (i := 6) (oi := { dst := some 91, op := Op.load 36 (Operand.tmp 90), type := 36, pos := "law.go:76", after := #[{ on := 5, ground := Ground.data }], guard := none }) (v := ?vc_6) rfl (by kernel_rfl) (by kernel_rfl) (by kernel_rfl) (fun _ _ _ h => h) (Or.inl ⟨by rfl, ?hyc_6⟩) (by assumption) ?restc_6
          case hyc_6 =>
            intro w hSw
            (try dsimp only at hSw)
            go_simp
            (try with_reducible rfl)
          (try simp only [Act.put, List.setIfInBounds_toArray, List.set_cons_zero, List.set_cons_succ])
          refine wpAnyH_ready (rs := [3]) (by kernel_rfl) (by simp) ?_
          refine AllReadyH.cons (o := { dst := some 88, op := Op.call { callee := Callee.value (Operand.func 17), args := #[Operand.tmp 85, Operand.tmp 87], argTypes := #[24, 36] }, type := 48, pos := "law.go:76", after := #[{ on := 0, ground := Ground.data }, { on := 2, ground := Ground.data }], guard := none }) rfl (fun K hK => ?_) AllReadyH.nil
          go_simp
          (go_at_call 17; refine HP.out.mono ?_; rintro e3 w3 ⟨F3, A3, c3g, rfl, h3⟩; have b3 := h3.out.1.2.bn rfl (show Bn wr.heap.size 38 [.int .i64 3, .int .i64 f1, .int .i64 f2, .string k1, .slice a1 m1 c1, .slice a2 r1 c2, .slice a3 nv c3] W1.drew from HU.out.2.1.same rfl); have ho3 := h3.out.1.1.old; have HR := Lib.hid (h3.out.1.1.rclean HU.out.2.2.1 (by omega) a3 c3 nv vv HX.out.2.2.2.2.2.2.2 hnvb ((HX.out.2.2.2.2.1.below ho3).more ho3.size) kg HF.out); clear ho3)
          go_wp2_with fail
          refine hK.out _ _ (HSC.out _ b3) (fun hHeld => ?_)
          clear hK K
          (try simp only [Act.put, List.setIfInBounds_toArray, List.set_cons_zero, List.set_cons_succ])
          refine wpAnyH_ready (rs := [7]) (by kernel_rfl) (by simp) ?_
          refine AllReadyH.cons (o := { dst := some 92, op := Op.call { callee := Callee.value (Operand.func 18), args := #[Operand.tmp 89, Operand.tmp 91], argTypes := #[26, 36] }, type := 27, pos := "law.go:76", after := #[{ on := 4, ground := Ground.data }, { on := 6, ground := Ground.data }, { on := 3, ground := Ground.chain }], guard := none }) rfl (fun K hK => ?_) AllReadyH.nil
          go_simp
          (go_at_call 18; refine HR.out.mono ?_; rintro e4 w4 ⟨G4, A4, c4g, rfl, h4⟩; have b4 := h4.out.1.2.bn rfl b3; have HLC := Lib.hid (lists_far A3 A4 c3g c4g kg kg _ _ HF.out HF.out hkgb w4 (h3.out.2.chg h4.out.2.2 h3.out.1.1.apart).fs h4.out.2.1.fs))
          go_wp2_with fail
          refine hK.out _ _ (HSC.out _ b4) (fun hHeld => ?_)
          clear hK K
          (try simp only [Act.put, List.setIfInBounds_toArray, List.set_cons_zero, List.set_cons_succ])
          refine wpAnyH_ready (rs := [8]) (by kernel_rfl) (by simp) ?_
          refine AllReadyH.cons (o := { dst := some 93, op := Op.call { callee := Callee.value (Operand.func 16), args := #[Operand.tmp 88, Operand.tmp 92], argTypes := #[48, 27] }, type := 4, pos := "law.go:76", after := #[{ on := 3, ground := Ground.data }, { on := 7, ground := Ground.data }, { on := 7, ground := Ground.chain }], guard := none }) rfl (fun K hK => ?_) AllReadyH.nil
          go_simp
          (go_at_call 16; refine HLC.out.mono ?_; rintro e5 w5 ⟨rfl, b5⟩; have b6 := b4.same (b5.block _ b4.lt))
          go_wp2_with fail
          refine hK.out _ _ (HSC.out _ b6) (fun hHeld => ?_)
          clear hK K
          (try simp only [Act.put, List.setIfInBounds_toArray, List.set_cons_zero, List.set_cons_succ])
          refine wpAnyH_take (i := 9) (oi := { dst := some 94, op := Op.unOp UnOp.not 4 (Operand.tmp 93), type := 4, pos := "law.go:76", after := #[{ on := 8, ground := Ground.data }], guard := none }) (v := ?vc_7) rfl (by kernel_rfl) (by kernel_rfl) (by kernel_rfl) (fun _ _ _ h => h) (Or.inl ⟨by rfl, ?hyc_7⟩) (by assumption) ?restc_7
          case hyc_7 =>
            intro w hSw
            (try dsimp only at hSw)
            go_simp
            (try with_reducible rfl)
          (try simp only [Act.put, List.setIfInBounds_toArray, List.set_cons_zero, List.set_cons_succ])
          refine wpAnyH_done (by kernel_rfl) ?_ _
          have hdt : decide ((P.filter fun x => decide (covF vv x)) = (P.filter fun x => decide (covF vv x))) = true := decide_eq_true rfl
          try rw [hdt]
          have HS := Lib.hid (h4.out.1.1.below b5)
          clear b3 b4 b5 h3 h4 hHeld HR HP HSC HLC
          have HOK := Lib.hid (And.intro (fun y hy => HU.out.2.2.1 y (List.mem_filter.1 hy).1 : ∀ y ∈ (P.filter fun x => !decide (covF vv x)), okF y) (show (P.filter fun x => !decide (covF vv x)).length ≤ k + 1 ∧ k + 1 ≤ 1759218604390 by have := List.length_filter_le (fun x => !decide (covF vv x)) P; omega))
          obtain ⟨kq, hkq⟩ : ∃ k, ((P.filter fun x => !decide (covF vv x))).length = k := ⟨_, rfl⟩
          have hokq := HOK.out
          obtain ⟨AL, cL, yL, fL⟩ := HS.out.list kq hkq
          have hbd : Below (w5).heap.size (w5) (w5).drew := (Below.refl _ _).drew
          have HWT := Lib.hid ((HS.out.below hbd).waits hokq.1 (by have := hokq.2; omega) kq hkq)
          have HL : Hid (∀ V, Below (w5).heap.size (w5) V → Below (w5).heap.size (w5) V ∧ V.cell? ⟨rb, 1, none⟩ = some (.slice AL kq cL)) := Lib.hid fun V hV => ⟨hV, (hV.cell (p := ⟨rb, 1, none⟩) (World.block_lt_of_cell? _ _ yL)).trans yL⟩
          have HFL := Lib.hid (And.intro fL (And.intro hkq hbd))
          clear hokq fL hkq hbd
          go_wp2_with fail
          refine wp_region_held_drew (S := (fun V => Below (w5).heap.size (w5) V ∧ V.cell? ⟨rb, 1, none⟩ = some (.slice AL kq cL))) (by kernel_rfl) (HL.out _ HFL.out.2.2) (fun hHeld => ?_)
          refine wpAnyH_take (i := 0) (oi := { dst := some 95, op := Op.move (Operand.tmp 5), type := 24, pos := "law.go:80", after := #[], guard := none }) (v := ?vt2_1) rfl (by kernel_rfl) (by kernel_rfl) (by kernel_rfl) (fun _ _ _ h => h) (Or.inl ⟨by rfl, ?hyt2_1⟩) (by assumption) ?restt2_1
          case hyt2_1 =>
            intro w hSw
            (try dsimp only at hSw)
            go_simp
            (try with_reducible rfl)
          (try simp only [Act.put, List.setIfInBounds_toArray, List.set_cons_zero, List.set_cons_succ])
          refine wpAnyH_take (i := 2) (oi := { dst := some 97, op := Op.move (Operand.tmp 6), type := 26, pos := "law.go:80", after := #[], guard := none }) (v := ?vt2_2) rfl (by kernel_rfl) (by kernel_rfl) (by kernel_rfl) (fun _ _ _ h => h) (Or.inl ⟨by rfl, ?hyt2_2⟩) (by assumption) ?restt2_2
          case hyt2_2 =>
            intro w hSw
            (try dsimp only at hSw)
            go_simp
            (try with_reducible rfl)
          (try simp only [Act.put, List.setIfInBounds_toArray, List.set_cons_zero, List.set_cons_succ])
          refine wpAnyH_take (i := 3) (oi := { dst := some 98, op := Op.nilCheck (Operand.tmp 97), type := 0, pos := "law.go:80", after := #[{ on := 2, ground := Ground.data }], guard := none }) (v := ?vt2_3) rfl (by kernel_rfl) (by kernel_rfl) (by kernel_rfl) (fun _ _ _ h => h) (Or.inl ⟨by rfl, ?hyt2_3⟩) (by assumption) ?restt2_3
          case hyt2_3 =>
            intro w hSw
            (try dsimp only at hSw)
            go_simp
            (try with_reducible rfl)
          (try simp only [Act.put, List.setIfInBounds_toArray, List.set_cons_zero, List.set_cons_succ])
          refine wpAnyH_take (i := 4) (oi := { dst := some 99, op := Op.fieldAddr 29 (Operand.tmp 98) 1, type := 0, pos := "law.go:80", after := #[{ on := 3, ground := Ground.data }], guard := none }) (v := ?vt2_4) rfl (by kernel_rfl) (by kernel_rfl) (by kernel_rfl) (fun _ _ _ h => h) (Or.inl ⟨by rfl, ?hyt2_4⟩) (by assumption) ?restt2_4
          case hyt2_4 =>
            intro w hSw
            (try dsimp only at hSw)
            go_simp
            (try with_reducible rfl)
          (try simp only [Act.put, List.setIfInBounds_toArray, List.set_cons_zero, List.set_cons_succ])
          refine wpAnyH_take (i := 5) (oi := { dst := some 100, op := Op.load 27 (Operand.tmp 99), type := 27, pos := "law.go:80", after := #[{ on := 4, ground := Ground.data }], guard := none }) (v := ?vt2_5) rfl (by kernel_rfl) (by kernel_rfl) (by kernel_rfl) (fun _ _ _ h => h) (Or.inl ⟨by rfl, ?hyt2_5⟩) (by assumption) ?restt2_5
          case hyt2_5 =>
            intro w hSw
            (try dsimp only at hSw)
            go_simp
            (try with_reducible rfl)
          (try simp only [Act.put, List.setIfInBounds_toArray, List.set_cons_zero, List.set_cons_succ])
          refine wpAnyH_ready (rs := [1]) (by kernel_rfl) (by simp) ?_
          refine AllReadyH.cons (o := { dst := some 96, op := Op.call { callee := Callee.value (Operand.func 19), args := #[Operand.tmp 95], argTypes := #[24] }, type := 48, pos := "law.go:80", after := #[{ on := 0, ground := Ground.data }], guard := none }) rfl (fun K hK => ?_) AllReadyH.nil
          go_simp
          (go_at_call 19; refine HWT.out.mono ?_; rintro e6 w6 ⟨A6, c6, rfl, h6⟩; have hb6 : Below (w5).heap.size (w5) w6 := HFL.out.2.2.trans h6.out.2; have HLL := Lib.hid (lists_far A6 AL c6 cL kq kq _ _ HFL.out.2.1 HFL.out.2.1 (by have := HOK.out.2; have := HFL.out.2.1; omega) w6 h6.out.1 ((HFL.out.1.below hb6).more hb6.size)))
          go_wp2_with fail
          refine hK.out _ _ (HL.out _ hb6) (fun hHeld => ?_)
          clear hK K
          (try simp only [Act.put, List.setIfInBounds_toArray, List.set_cons_zero, List.set_cons_succ])
          refine wpAnyH_ready (rs := [6]) (by kernel_rfl) (by simp) ?_
          refine AllReadyH.cons (o := { dst := some 101, op := Op.call { callee := Callee.value (Operand.func 16), args := #[Operand.tmp 96, Operand.tmp 100], argTypes := #[48, 27] }, type := 4, pos := "law.go:80", after := #[{ on := 1, ground := Ground.data }, { on := 5, ground := Ground.data }, { on := 1, ground := Ground.chain }], guard := none }) rfl (fun K hK => ?_) AllReadyH.nil
          go_simp
          (go_at_call 16; refine HLL.out.mono ?_; rintro e7 w7 ⟨rfl, b7⟩; have hb7 : Below (w5).heap.size (w5) w7 := hb6.trans (b7.mono hb6.size))
          go_wp2_with fail
          refine hK.out _ _ (HL.out _ hb7) (fun hHeld => ?_)
          clear hK K
          (try simp only [Act.put, List.setIfInBounds_toArray, List.set_cons_zero, List.set_cons_succ])
          refine wpAnyH_take (i := 7) (oi := { dst := some 102, op := Op.unOp UnOp.not 4 (Operand.tmp 101), type := 4, pos := "law.go:80", after := #[{ on := 6, ground := Ground.data }], guard := none }) (v := ?vt2_6) rfl (by kernel_rfl) (by kernel_rfl) (by kernel_rfl) (fun _ _ _ h => h) (Or.inl ⟨by rfl, ?hyt2_6⟩) (by assumption) ?restt2_6
          case hyt2_6 =>
            intro w hSw
            (try dsimp only at hSw)
            go_simp
            (try with_reducible rfl)
          (try simp only [Act.put, List.setIfInBounds_toArray, List.set_cons_zero, List.set_cons_succ])
          refine wpAnyH_done (by kernel_rfl) ?_ _
          have HN := Lib.hid (And.intro (HS.out.below hb7) HOK.out)
          have hdt : decide (((P.filter fun x => !decide (covF vv x)) : List Fr) = (P.filter fun x => !decide (covF vv x))) = true := decide_eq_true rfl
          try rw [hdt]
          clear hb7 b7 h6 hb6 HLL HWT HL HFL HS
          go_wp2_with fail
          go_roundw
          case rel => exact ⟨k + 1, F3, G4, (P.filter fun x => !decide (covF vv x)), rfl, by omega, by have := HN.out.2.2; omega, Lib.hid ⟨HN.out.1.less fun j hj => hj.elim, HN.out.2.1⟩⟩
          case measure => simp only [intOf]; omega
      · as_aux_lemma =>
          have g1 : (kd == 1) = false := by simp [h1]
          have g2 : (kd == 2) = false := by simp [h2]
          have g3 : (kd == 3) = false := by simp [h3]
          have HS := Lib.hid HU.out.1
          have HOK := Lib.hid (And.intro HU.out.2.2.1 (show P.length ≤ k + 1 ∧ k + 1 ≤ 1759218604390 by omega))
          clear h1 h2 h3
          obtain ⟨kq, hkq⟩ : ∃ k, (P).length = k := ⟨_, rfl⟩
          have hokq := HOK.out
          obtain ⟨AL, cL, yL, fL⟩ := HS.out.list kq hkq
          have hbd : Below (W1).heap.size (W1) (W1).drew := (Below.refl _ _).drew
          have HWT := Lib.hid ((HS.out.below hbd).waits hokq.1 (by have := hokq.2; omega) kq hkq)
          have HL : Hid (∀ V, Below (W1).heap.size (W1) V → Below (W1).heap.size (W1) V ∧ V.cell? ⟨rb, 1, none⟩ = some (.slice AL kq cL)) := Lib.hid fun V hV => ⟨hV, (hV.cell (p := ⟨rb, 1, none⟩) (World.block_lt_of_cell? _ _ yL)).trans yL⟩
          have HFL := Lib.hid (And.intro fL (And.intro hkq hbd))
          clear hokq fL hkq hbd
          go_wp2_with fail
          refine wp_region_held_drew (S := (fun V => Below (W1).heap.size (W1) V ∧ V.cell? ⟨rb, 1, none⟩ = some (.slice AL kq cL))) (by kernel_rfl) (HL.out _ HFL.out.2.2) (fun hHeld => ?_)
          refine wpAnyH_take (i := 0) (oi := { dst := some 95, op := Op.move (Operand.tmp 5), type := 24, pos := "law.go:80", after := #[], guard := none }) (v := ?vt5_1) rfl (by kernel_rfl) (by kernel_rfl) (by kernel_rfl) (fun _ _ _ h => h) (Or.inl ⟨by rfl, ?hyt5_1⟩) (by assumption) ?restt5_1
          case hyt5_1 =>
            intro w hSw
            (try dsimp only at hSw)
            go_simp
            (try with_reducible rfl)
          (try simp only [Act.put, List.setIfInBounds_toArray, List.set_cons_zero, List.set_cons_succ])
          refine wpAnyH_take (i := 2) (oi := { dst := some 97, op := Op.move (Operand.tmp 6), type := 26, pos := "law.go:80", after := #[], guard := none }) (v := ?vt5_2) rfl (by kernel_rfl) (by kernel_rfl) (by kernel_rfl) (fun _ _ _ h => h) (Or.inl ⟨by rfl, ?hyt5_2⟩) (by assumption) ?restt5_2
          case hyt5_2 =>
            intro w hSw
            (try dsimp only at hSw)
            go_simp
            (try with_reducible rfl)
          (try simp only [Act.put, List.setIfInBounds_toArray, List.set_cons_zero, List.set_cons_succ])
          refine wpAnyH_take (i := 3) (oi := { dst := some 98, op := Op.nilCheck (Operand.tmp 97), type := 0, pos := "law.go:80", after := #[{ on := 2, ground := Ground.data }], guard := none }) (v := ?vt5_3) rfl (by kernel_rfl) (by kernel_rfl) (by kernel_rfl) (fun _ _ _ h => h) (Or.inl ⟨by rfl, ?hyt5_3⟩) (by assumption) ?restt5_3
          case hyt5_3 =>
            intro w hSw
            (try dsimp only at hSw)
            go_simp
            (try with_reducible rfl)
          (try simp only [Act.put, List.setIfInBounds_toArray, List.set_cons_zero, List.set_cons_succ])
          refine wpAnyH_take (i := 4) (oi := { dst := some 99, op := Op.fieldAddr 29 (Operand.tmp 98) 1, type := 0, pos := "law.go:80", after := #[{ on := 3, ground := Ground.data }], guard := none }) (v := ?vt5_4) rfl (by kernel_rfl) (by kernel_rfl) (by kernel_rfl) (fun _ _ _ h => h) (Or.inl ⟨by rfl, ?hyt5_4⟩) (by assumption) ?restt5_4
          case hyt5_4 =>
            intro w hSw
            (try dsimp only at hSw)
            go_simp
            (try with_reducible rfl)
          (try simp only [Act.put, List.setIfInBounds_toArray, List.set_cons_zero, List.set_cons_succ])
          refine wpAnyH_take (i := 5) (oi := { dst := some 100, op := Op.load 27 (Operand.tmp 99), type := 27, pos := "law.go:80", after := #[{ on := 4, ground := Ground.data }], guard := none }) (v := ?vt5_5) rfl (by kernel_rfl) (by kernel_rfl) (by kernel_rfl) (fun _ _ _ h => h) (Or.inl ⟨by rfl, ?hyt5_5⟩) (by assumption) ?restt5_5
          case hyt5_5 =>
            intro w hSw
            (try dsimp only at hSw)
            go_simp
            (try with_reducible rfl)
          (try simp only [Act.put, List.setIfInBounds_toArray, List.set_cons_zero, List.set_cons_succ])
          refine wpAnyH_ready (rs := [1]) (by kernel_rfl) (by simp) ?_
          refine AllReadyH.cons (o := { dst := some 96, op := Op.call { callee := Callee.value (Operand.func 19), args := #[Operand.tmp 95], argTypes := #[24] }, type := 48, pos := "law.go:80", after := #[{ on := 0, ground := Ground.data }], guard := none }) rfl (fun K hK => ?_) AllReadyH.nil
          go_simp
          (go_at_call 19; refine HWT.out.mono ?_; rintro e6 w6 ⟨A6, c6, rfl, h6⟩; have hb6 : Below (W1).heap.size (W1) w6 := HFL.out.2.2.trans h6.out.2; have HLL := Lib.hid (lists_far A6 AL c6 cL kq kq _ _ HFL.out.2.1 HFL.out.2.1 (by have := HOK.out.2; have := HFL.out.2.1; omega) w6 h6.out.1 ((HFL.out.1.below hb6).more hb6.size)))
          go_wp2_with fail
          refine hK.out _ _ (HL.out _ hb6) (fun hHeld => ?_)
          clear hK K
          (try simp only [Act.put, List.setIfInBounds_toArray, List.set_cons_zero, List.set_cons_succ])
          refine wpAnyH_ready (rs := [6]) (by kernel_rfl) (by simp) ?_
          refine AllReadyH.cons (o := { dst := some 101, op := Op.call { callee := Callee.value (Operand.func 16), args := #[Operand.tmp 96, Operand.tmp 100], argTypes := #[48, 27] }, type := 4, pos := "law.go:80", after := #[{ on := 1, ground := Ground.data }, { on := 5, ground := Ground.data }, { on := 1, ground := Ground.chain }], guard := none }) rfl (fun K hK => ?_) AllReadyH.nil
          go_simp
          (go_at_call 16; refine HLL.out.mono ?_; rintro e7 w7 ⟨rfl, b7⟩; have hb7 : Below (W1).heap.size (W1) w7 := hb6.trans (b7.mono hb6.size))
          go_wp2_with fail
          refine hK.out _ _ (HL.out _ hb7) (fun hHeld => ?_)
          clear hK K
          (try simp only [Act.put, List.setIfInBounds_toArray, List.set_cons_zero, List.set_cons_succ])
          refine wpAnyH_take (i := 7) (oi := { dst := some 102, op := Op.unOp UnOp.not 4 (Operand.tmp 101), type := 4, pos := "law.go:80", after := #[{ on := 6, ground := Ground.data }], guard := none }) (v := ?vt5_6) rfl (by kernel_rfl) (by kernel_rfl) (by kernel_rfl) (fun _ _ _ h => h) (Or.inl ⟨by rfl, ?hyt5_6⟩) (by assumption) ?restt5_6
          case hyt5_6 =>
            intro w hSw
            (try dsimp only at hSw)
            go_simp
            (try with_reducible rfl)
          (try simp only [Act.put, List.setIfInBounds_toArray, List.set_cons_zero, List.set_cons_succ])
          refine wpAnyH_done (by kernel_rfl) ?_ _
          have HN := Lib.hid (And.intro (HS.out.below hb7) HOK.out)
          have hdt : decide ((P : List Fr) = P) = true := decide_eq_true rfl
          try rw [hdt]
          clear hb7 b7 h6 hb6 HLL HWT HL HFL HS
          go_wp2_with fail
          go_roundw
          case rel => exact ⟨k + 1, F, G, P, rfl, by omega, by have := HN.out.2.2; omega, Lib.hid ⟨HN.out.1.less fun j hj => hj.elim, HN.out.2.1⟩⟩
          case measure => simp only [intOf]; omega
    · obtain rfl : k = n := by omega
      have HE := Lib.hid hst.out.1.old
      clear hst
      go_wp2_with fail
      go_ret
      exact ⟨rfl, HE.out⟩
-- ROW BEGIN
set_option maxRecDepth 100000 in
/-- What the walk gives, shut again. -/
theorem contract (H : Type) (enc : TypeId × Value → H) (W : World) (base : Nat) (args : Array Value) (ds gs : List (DataW H)) (before : List MemPlace)
    (hval : ∀ (j : Nat) t v, Try.f3.params[j]? = some t → args[j]? = some v → Value.okWide Try.prog W .any base t v)
    (hW : DataW.Whole enc Try.prog Try.f3.params.toList Rows.inboxPlaysSpec.vars false W args.toList ds gs before)
    (hsz : (DataW.weightsEach Try.prog (Try.f3.params.toList ++ Rows.inboxPlaysSpec.plain.varTypes Try.prog) (ds ++ gs)).all (· ≤ reachBytes) = true) :
    Calls Try.prog 3 args W fun e W' => ∃ v, e = .returned v ∧ Rows.inboxPlaysSpec.post enc Try.prog Try.f3 false true false false W args v W' := by
  have hW' := hW
  obtain ⟨p, q, hA0, hV, hbef, _, _⟩ := hW
  have hA : DataW.TrodAll enc Try.prog W 0 (fun _ => true) true Try.f3.params.toList args.toList ds p := hA0
  have hA1 := hA
  rw [Try.params3] at hA hval hsz
  obtain ⟨v0, vs0, d0, ds0, p0, q0, hargs, rfl, rfl, h0, r0⟩ := trodAll_cons hA
  obtain ⟨v1, vs1, d1, ds1, p1, q1, rfl, rfl, rfl, h1, r1⟩ := trodAll_cons r0
  obtain ⟨rfl, rfl, rfl⟩ := trodAll_nil r1
  obtain rfl : args = #[v0, v1] := by cases args; simp_all
  obtain ⟨rfl, rfl⟩ := trodVars_none hV
  clear hA hargs
  obtain ⟨a0, rfl, rfl, _, w0⟩ := open_int Try.underlying3 (hval 0 3 v0 rfl rfl) h0
  obtain ⟨A1, c1, a1, rfl, n1, l1, b1⟩ := Inbox.arg_ops (hval 1 22 v1 rfl rfl) h1 (Wgt.wt_arg hsz (j := 1) rfl rfl)
  refine (walk W a0 (wf_int w0) A1 c1 a1 n1 b1 l1).mono fun e W' ⟨he, hb⟩ => ?_
  subst he
  exact ⟨_, rfl, law_post Facts.laid (by rfl) Try.underlying4 (by rw [Try.params3]; decide +kernel) hW' hA1 rfl hbef rfl rfl rfl hb⟩

set_option maxRecDepth 100000 in
theorem lifted (os : Os) (started : os.Started) (H : Type) (enc : TypeId × Value → H) :
    ReturnsInHanded {} Try.checked os 3 .any (Rows.inboxPlaysSpec.pre6 enc Try.prog Try.f3 Rows.inboxPlaysRow.domain false) (Rows.inboxPlaysSpec.post enc Try.prog Try.f3 false true false false) := by
  refine returnsInHanded_of_change_sized (C := Try.checked) Facts.own started (by kernel_rfl) Try.func3
    (ChangeSpec.witness6 (enc := enc) (C := Try.checked) false ⟨#[], #[.int .i64 0, .slice none 0 0], []⟩ 8 (by kernel_rfl) (by kernel_rfl) (by kernel_rfl) (by kernel_rfl)) ?_
  intro W base args ds gs before hval hW _ hsz _
  exact contract H enc W base args ds gs before hval hW hsz

theorem holds : Rows.InboxPlaysSaid :=
  OpenClaim.holds_of_wide 3 Try.f3 rfl rfl rfl rfl rfl rfl rfl ⟨rfl, rfl, rfl, rfl, rfl⟩ rfl rfl rfl rfl rfl (by kernel_rfl) Try.func3 (by kernel_rfl)
    (of_decide_eq_true (by kernel_rfl)) (by unfold Func.isWrapper; first | (rw [if_pos (by decide +kernel)]; kernel_rfl) | (rw [if_neg (by decide +kernel)]; exact ⟨rfl, rfl⟩))
    (fun os started H enc _ => lifted os started H enc)
-- ROW END
end InboxPlays
end Go.Proofs.Ytiempgabamheiaa
