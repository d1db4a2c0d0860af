/-
 Several texts of this family in one: MendStepP, MendAnswer, MendSame, MendAwakePlain.
-/
import Derived.Test.YtekhaejhmlebbaaGreatRHMendC
import Derived.Test.YtekhaejhmlebbaaGreatRIntsOwn
import Derived.Test.YtekhaejhmlebbaaGreatRHMendB
import Derived.Test.YtekhaejhmlebbaaGreatRGCode
import Derived.Deep.RegionHeld3
import Derived.Deep.DrawnRows
/-
 The closure of mend.Answer: one step (layer 14).
-/
namespace Go.Proofs.YtekhaejhmlebbaaGreat
namespace Mend
open Go.RowKit Vers Num Ring Disk Blk Tree
open Go.Proofs.YtekhaejhmlebbaaGreat.Code hiding Bn
attribute [local go_sem ↓] Go.wp_at_zero Go.wp_at_succ
section
variable {F : Nat → Prop} {w V : World} {tb : Nat} {all : List Rc}
set_option maxRecDepth 100000 in
theorem kids_nil (_h : On F w V tb all) (A : Option Addr) (c n : Nat) (p : List Int) (_hn : p.length = n) (h2 : 2 ≤ n) :
  Calls Tryz.prog 39 #[hd tb, .slice A n c] V (fun e w' => e = .returned (.slice none 0 0) ∧ w' = V) := by
 have e1 : decide ((2 : Int) ≤ (n : Int)) = true := decide_eq_true (by omega)
 clear h2
 unfold hd
 go_enter Tryz.func39, Tryz.ntmps39
 go_wp2_with fail
 go_ret
 exact ⟨rfl, rfl⟩
end
theorem sta_low {k : IntKind} {G : Nat → Prop} {Z : World} {L : Nat} {A : Option Addr} {zs : List Int} (h : Ns k Z Z.heap.size A zs) (hl : ∀ a, 0 < zs.length → A = some a → L ≤ a.block) (hG : ∀ g, L ≤ g → ¬ G g) : Sta G Z (fun W => Ns k W W.heap.size A zs) := fun w' hs hk hp => by
 obtain ⟨b, off, e, hb, hc⟩ := h hp
 have h1 := hk b hb (hG b (hl _ hp e))
 exact ⟨b, off, e, by omega, fun j hj => (World.cell?_of_block (a := ⟨b, _, none⟩) h1).trans (hc j hj)⟩
theorem sta_got {G : Nat → Prop} {Z : World} {base : Nat} {A : Option Addr} {ps : List Pr} (h : Got base Z A ps) (hG : ∀ g, base ≤ g → ¬ G g) : Sta G Z (fun W => Rs W 0 W.heap.size A (ps.map Prod.fst)) := fun _ hs hk => (h.keep hs fun k h1 h2 => hk k h2 (hG k h1)).rs.less (Nat.zero_le _)
def Caps (w W : World) (F : Nat → Prop) (pb xb tb : Nat) (Ap : Option Addr) (np cp : Nat) (p : List Int) (all : List Rc) : Prop :=
 Bn pb 23 [.slice Ap np cp] W ∧ Bn xb 70 [hd tb] W ∧ On F w W tb all ∧ Ns .i64 W W.heap.size Ap p
def StepT (w : World) (F : Nat → Prop) (all : List Rc) (tb : Nat) (s : Stp3) (W : World) (e : Ending) (w' : World) : Prop :=
 ∃ y : St, e = .returned (.agg #[slV y.1, slV y.2.1, slV y.2.2]) ∧ Hid (Chg (fun k => k = tb) W w' ∧ On F w w' tb all ∧ ∀ G : Nat → Prop, (∀ g, W.heap.size ≤ g → ¬ G g) → Sta G w' (fun U => StIs U y s))
theorem cap_y {V1 w6 Y : World} {A6 : Option Addr} {m6 c6 sb xb : Nat} {t : TypeId} {x : Value} (hb : Below V1.heap.size V1 w6) (hY : w6.alloc (.cells #[.slice A6 m6 c6, .slice none 0 0, .slice none 0 0] 47) = Y) (hs : w6.heap.size = sb) (hX : Bn xb t [x] V1) : Y.cell? ⟨sb, 0, none⟩ = some (.slice A6 m6 c6) ∧ Y.cell? ⟨xb, 0, none⟩ = some x ∧ Bn xb t [x] Y := by
 have BY : Bn sb 47 [.slice A6 m6 c6, .slice none 0 0, .slice none 0 0] Y := by rw [← hY, ← hs]; exact World.alloc_heap_new _ _
 have bY : Below w6.heap.size w6 Y := by rw [← hY]; exact (Below.refl _ w6).alloc (Nat.le_refl _) _
 have BX := (hX.same (hb.block xb hX.lt)).same (bY.block xb (Nat.lt_of_lt_of_le hX.lt hb.size))
 have x0 := BY.cell 0
 have x1 := BX.cell 0
 simp only [List.getElem?_cons_zero] at x0 x1
 exact ⟨x0, x1, BX⟩
set_option maxRecDepth 100000 in
set_option maxHeartbeats 4000000 in
theorem step_any (F : Nat → Prop) (w W : World) (pb xb tb : Nat) (Ap : Option Addr) (np cp : Nat) (p : List Int) (all : List Rc) (d : Int) (hN : all.length ≤ 3518437208882) (hnp : p.length = np) (h1 : np ≤ 1) (hok : okP (p ++ [d])) (h : Caps w W F pb xb tb Ap np cp p all) :
  Calls Tryz.prog 41 #[.int .i64 d, .pointer (some ⟨pb, 0, none⟩), .pointer (some ⟨xb, 0, none⟩)] W (StepT w F all tb (stepF all p d) W) := by
 obtain ⟨j0, hj0, hy0, hy1, hy2⟩ := info_parts info_int
 obtain ⟨hp0, hx0, hon, hns⟩ := h
 obtain ⟨rb, hrb⟩ : ∃ rb, W.heap.size = rb := ⟨_, rfl⟩
 obtain ⟨V1, hV1⟩ : ∃ V1, W.alloc (.cells #[.slice none 0 0, .slice none 0 0, .slice none 0 0] 47) = V1 := ⟨_, rfl⟩
 have b1 : Below W.heap.size W V1 := by rw [← hV1]; exact (Below.refl _ W).alloc (Nat.le_refl _) _
 have BR : Bn rb 47 [.slice none 0 0, .slice none 0 0, .slice none 0 0] V1 := by rw [← hV1, ← hrb]; exact World.alloc_heap_new _ _
 have P1 := hp0.same (b1.block pb hp0.lt)
 have X1 := hx0.same (b1.block xb hx0.lt)
 have c1 := P1.cell 0
 simp only [List.getElem?_cons_zero] at c1
 unfold hd at X1
 have HC := Lib.hid (Ints.clone_row Ap cp np p hnp V1 ((hns.below b1).more b1.size) (by omega))
 have HA := Lib.hid (And.intro hp0 (And.intro hx0 (And.intro hon (And.intro b1 (And.intro BR (And.intro hN (And.intro hok (And.intro hnp hrb))))))))
 clear hp0 hx0 hon hns b1 BR hN hok hnp
 go_enter Tryz.func41, Tryz.ntmps41
 go_wp2_with fail
 refine HC.out.mono ?_
 rintro e2 w2 ⟨A2, c2, rfl, h2, b2⟩
 have o2 := h2.out
 have s2 := b2.size
 have H2 := Lib.hid b2
 clear b2 h2 HC
 go_wp2_with (at_builtin; refine wpList_append_one _ rfl (.tmp 7) (.tmp 9) 23 rfl V1.heap.size 3 j0 _ 8 Tryz.underlying23 hj0 hy0 hy1 hy2 rfl _ np (nums .i64 p) rfl o2 (.int .i64 d) 1 rfl rfl (by omega) (by omega) s2 ?_; intro v6 w6 o6 g6 at6; obtain ⟨A6, c6, rfl⟩ := own_form o6; have hYY := cap_y (H2.out.grown g6 s2 (fun j hj => (o2.lt j hj).1)) (A6 := A6) (m6 := np + 1) (c6 := c6) rfl rfl X1; have y1 := hYY.2.1; clear hYY)
 obtain ⟨Y, hY⟩ : ∃ Y, w6.alloc (.cells #[.slice A6 (np + 1) c6, .slice none 0 0, .slice none 0 0] 47) = Y := ⟨_, rfl⟩
 obtain ⟨sb, hsb⟩ : ∃ sb, w6.heap.size = sb := ⟨_, rfl⟩
 rw [hY, hsb]
 have e6 : (p ++ [d]).length = np + 1 := by simp [HA.out.2.2.2.2.2.2.2.1]
 rw [show nums .i64 p ++ [.int .i64 d] = nums .i64 (p ++ [d]) by simp [nums]] at o6
 have b6 := H2.out.grown g6 s2 (fun j hj => (o2.lt j hj).1)
 have bY : Below w6.heap.size w6 Y := by rw [← hY]; exact (Below.refl _ w6).alloc (Nat.le_refl _) _
 have BY : Bn sb 47 [.slice A6 (np + 1) c6, .slice none 0 0, .slice none 0 0] Y := by rw [← hY, ← hsb]; exact World.alloc_heap_new _ _
 have oY := own_below o6 bY (Nat.le_refl _)
 have hpY : Ns .i64 Y Y.heap.size A6 (p ++ [d]) := own_ns (c := c6) (n := np + 1) (by rw [e6]; exact oY)
 have b1Y : Below V1.heap.size V1 Y := b6.trans (bY.mono b6.size)
 have bWY : Below W.heap.size W Y := HA.out.2.2.2.1.trans (b1Y.mono HA.out.2.2.2.1.size)
 have s1 : W.heap.size + 1 = V1.heap.size := by rw [← hV1]; simp
 have HY := Lib.hid (And.intro oY (And.intro b1Y (And.intro BY (And.intro bWY (And.intro e6 (And.intro hsb (And.intro b6.size (And.intro bY.size s1))))))))
 have hon := HA.out.2.2.1.below bWY
 have XY : Bn xb 70 [hd tb] Y := HA.out.2.1.same (bWY.block xb HA.out.2.1.lt)
 have RY : Bn rb 47 [.slice none 0 0, .slice none 0 0, .slice none 0 0] Y := HA.out.2.2.2.2.1.same (b1Y.block rb HA.out.2.2.2.2.1.lt)
 have htl : tb < W.heap.size := HA.out.2.2.1.lt HA.out.2.2.1.own
 have hrl : rb = W.heap.size := HA.out.2.2.2.2.2.2.2.2.symm
 have hrs : rb ≠ sb := by have := HY.out.2.2.2.2.2.2.2.2; have := HY.out.2.2.2.2.2.2.1; have := HY.out.2.2.2.2.2.1; omega
 have HN := Lib.hid (And.intro XY (And.intro RY (And.intro htl (And.intro hrl hrs))))
 have HNS := Lib.hid hpY
 have HON := Lib.hid hon
 clear oY hpY b1Y bWY b6 o6 bY BY g6 at6 o2 s2 H2 y1 e6 c1 P1 X1 hV1 XY RY htl hrl hrs hon
 by_cases h0 : np = 0
 ·have HK := Lib.hid (HON.out.kids HA.out.2.2.2.2.2.1 A6 c6 (np + 1) (p ++ [d]) HY.out.2.2.2.2.1 (by omega) HNS.out)
  have H0 := Lib.hid h0
  clear h0
  unfold hd at HK
  refine HK.out.mono ?_
  rintro e7 w7 ⟨A7, m7, c7, rfl, h7⟩
  have h16 : m7 = 16 := by
   rw [← h7.out.1]
   unfold kidsF
   rw [if_pos ⟨HA.out.2.2.2.2.2.2.1, by rw [HY.out.2.2.2.2.1, H0.out]; decide⟩]
   simp
  have hsm : ∃ a, A7 = some a := by
   obtain ⟨b, off, e, _⟩ := h7.out.2.2.1 (by rw [h7.out.1]; omega)
   exact ⟨_, e⟩
  obtain ⟨a7, rfl⟩ := hsm
  have hc7 := h7.out.2.2.2.2.2
  have hnt : ∀ k, k ≠ tb → k < Y.heap.size → w7.heap[k]? = Y.heap[k]? := fun k h1 h2 => hc7.block k h2 h1
  have hWY := HY.out.2.2.2.1.size
  have B7 := HY.out.2.2.1.same (hnt sb (by have := HN.out.2.2.1; have := HY.out.2.2.2.2.2.1; have := HY.out.2.2.2.2.2.2.1; have := HY.out.2.2.2.2.2.2.2.2; omega) HY.out.2.2.1.lt)
  have R7 := HN.out.2.1.same (hnt rb (by have := HN.out.2.2.1; have := HN.out.2.2.2.1; omega) HN.out.2.1.lt)
  have g7 := B7.frozen 1
  have l7 := B7.cell 1
  simp only [List.getElem?_cons_zero, List.getElem?_cons_succ] at l7
  obtain ⟨Z, hZ⟩ : ∃ Z, w7.setCell ⟨sb, 1, none⟩ (.slice (some a7) m7 c7) = Z := ⟨_, rfl⟩
  have BZ : Bn sb 47 [.slice A6 (np + 1) c6, .slice (some a7) m7 c7, .slice none 0 0] Z := by rw [← hZ]; exact B7.set 1 _
  have gZ : w7.grownBy Z (some sb) := by rw [← hZ]; exact Blk.gset _ _ _ _
  have z0 := BZ.cell 0
  have z1 := BZ.cell 1
  have z2 := BZ.cell 2
  simp only [List.getElem?_cons_zero, List.getElem?_cons_succ] at z0 z1 z2
  have hne := Lib.run_eql_slice_nil (P := Tryz.prog) Z 24 67 (some a7) m7 c7 0 0 Tryz.underlying24
  rw [show (some a7).isNone = false from rfl] at hne
  have BRZ := R7.kept gZ (by intro e; injection e with e; exact HN.out.2.2.2.2 e)
  have f0 := BRZ.frozen 0
  have f1 := BRZ.frozen 1
  have f2 := BRZ.frozen 2
  have r0' := BRZ.cell 0
  have r1' := BRZ.cell 1
  have r2' := BRZ.cell 2
  simp only [List.getElem?_cons_zero, List.getElem?_cons_succ] at r0' r1' r2'
  have BR2 := ((BRZ.set 0 (.slice A6 (np + 1) c6)).set 1 (.slice (some a7) m7 c7)).set 2 (.slice none 0 0)
  have gR2 := Blk.grown_trans_one (Blk.grown_trans_one (Blk.gset Z rb 0 (.slice A6 (np + 1) c6)) (Blk.gset _ rb 1 (.slice (some a7) m7 c7))) (Blk.gset _ rb 2 (.slice none 0 0))
  obtain ⟨Z2, hZ2⟩ : ∃ Z2, ((Z.setCell ⟨rb, 0, none⟩ (.slice A6 (np + 1) c6)).setCell ⟨rb, 1, none⟩ (.slice (some a7) m7 c7)).setCell ⟨rb, 2, none⟩ (.slice none 0 0) = Z2 := ⟨_, rfl⟩
  rw [hZ2] at BR2 gR2
  have v0 := BR2.cell 0
  have v1 := BR2.cell 1
  have v2 := BR2.cell 2
  simp [List.set] at v0 v1 v2
  have HZ := Lib.hid (And.intro h7.out (And.intro gZ (And.intro gR2 h16)))
  clear h7 gZ gR2 hc7 hnt hWY B7 R7 BZ BRZ BR2 HK h16
  go_wp2_with fail
  refine bodyPost_ret (v := .agg #[.slice A6 (np + 1) c6, .slice (some a7) m7 c7, .slice none 0 0]) ?_ rfl ?_
  ·rw [Blk.results_cell1 rfl]
   go_simp
  ·have hYs := HY.out.2.1.size
   have hV1 := HY.out.2.2.2.2.2.2.2.2
   have hsb := HY.out.2.2.2.2.2.1
   have hsw := HY.out.2.2.2.2.2.2.1
   have hsY := HY.out.2.2.2.2.2.2.2.1
   have hrl := HN.out.2.2.2.1
   have htl := HN.out.2.2.1
   obtain ⟨h7, gZ, gR2, h16⟩ := HZ.out
   have hc7 := h7.2.2.2.2.2
   have hbl := HY.out.2.2.1.lt
   have k7 : ∀ k, k < w7.heap.size → k ≠ sb → k ≠ rb → Z2.heap[k]? = w7.heap[k]? := fun k h1 h2 h3 => (gR2.block k (Nat.lt_of_lt_of_le h1 gZ.size) (by intro e; injection e with e; exact h3 e)).trans (gZ.block k h1 (by intro e; injection e with e; exact h2 e))
   have oZ : Z2.ownsRow V1.heap.size 3 1 (.slice A6 (np + 1) c6) (np + 1) (nums .i64 (p ++ [d])) := by
    refine Blk.own_keep HY.out.1 fun g hg => ?_
    have h1 := HY.out.1.lt g hg
    have hne : g ≠ sb := fun e => Blk.own_ne HY.out.1 HY.out.2.2.1 (by decide) (by rw [hg, e])
    exact (k7 g (Nat.lt_of_lt_of_le h1.2 hc7.size) hne (by omega)).trans (hc7.block g h1.2 (by omega))
   refine ⟨((A6, np + 1, c6), (some a7, m7, c7), (none, 0, 0)), rfl, Lib.hid ⟨?_, ?_, fun G hG => ?_⟩⟩
   ·refine (((Chg.of_below (F := fun k => k = tb) HY.out.2.2.2.1).trans hc7 (fun k e => .inl e)).trans (Chg.of_grown gZ (F := fun k => k = sb) fun g e => by injection e with e; exact e.symm) fun k e => .inr (by omega)).trans (Chg.of_grown gR2 (F := fun k => k = rb) fun g e => by injection e with e; exact e.symm) fun k e => .inr (by omega)
   ·have hwW := HA.out.2.2.1.old.size
    refine (h7.2.2.2.2.1.chg (G := fun k => k = sb) (Chg.of_grown gZ fun g e => by injection e with e; exact e.symm) (fun k hk e => ?_) fun k e => by omega).chg (G := fun k => k = rb) (Chg.of_grown gR2 fun g e => by injection e with e; exact e.symm) (fun k hk e => ?_) fun k e => by omega
    ·have := HA.out.2.2.1.lt hk
     omega
    ·have := HA.out.2.2.1.lt hk
     omega
   ·have hx1 := sta_ns oZ HY.out.2.2.2.2.1 (G := G) (fun g hg => hG g (by omega))
    have hx2 := sta_low (G := fun k => k < Y.heap.size) (L := Y.heap.size) h7.2.2.1 (fun a ha e => h7.2.2.2.1 a (by rw [← h7.1]; exact ha) e) (fun g hg => by omega)
    have hl2 : (p ++ [d]).length = 1 := by rw [HY.out.2.2.2.2.1, H0.out]
    have hz2 := gR2.size
    have hz1 := gZ.size
    exact fun w' hs hk => ⟨⟨HY.out.2.2.2.2.1, by show np + 1 ≤ 4; omega, hx1 w' hs hk⟩, ⟨h7.1, by show m7 ≤ 16; omega, hx2 w' (by omega) fun k h1 h2 => (hk k (by omega) (hG k (by omega))).trans (k7 k h1 (by omega) (by omega))⟩, by show (if (p ++ [d]).length = 1 then ([] : List Rc) else _).length = 0; rw [if_pos hl2]; rfl, Nat.zero_le _, by show Rs w' 0 w'.heap.size none (if (p ++ [d]).length = 1 then ([] : List Rc) else _); rw [if_pos hl2]; exact rs_nil⟩
 ·have hn1 : np = 1 := by omega
  have H1 := Lib.hid hn1
  have HK := Lib.hid (kids_nil HON.out A6 c6 (np + 1) (p ++ [d]) HY.out.2.2.2.2.1 (by omega))
  clear h0 hn1
  unfold hd at HK
  refine HK.out.mono ?_
  rintro e7 w7 ⟨rfl, hw7⟩
  rw [hw7]
  clear hw7 w7
  have g7 := HY.out.2.2.1.frozen 1
  have l7 := HY.out.2.2.1.cell 1
  simp only [List.getElem?_cons_zero, List.getElem?_cons_succ] at l7
  obtain ⟨Z, hZ⟩ : ∃ Z, Y.setCell ⟨sb, 1, none⟩ (.slice none 0 0) = Z := ⟨_, rfl⟩
  have BZ : Bn sb 47 [.slice A6 (np + 1) c6, .slice none 0 0, .slice none 0 0] Z := by rw [← hZ]; exact HY.out.2.2.1.set 1 _
  have gZ : Y.grownBy Z (some sb) := by rw [← hZ]; exact Blk.gset _ _ _ _
  have hsz : Z.heap.size = Y.heap.size := by rw [← hZ]; simp [World.setCell]
  have z0 := BZ.cell 0
  have z1 := BZ.cell 1
  have z2 := BZ.cell 2
  simp only [List.getElem?_cons_zero, List.getElem?_cons_succ] at z0 z1 z2
  have hne := Lib.run_eql_slice_nil (P := Tryz.prog) Z 24 67 none 0 0 0 0 Tryz.underlying24
  rw [show (none : Option Addr).isNone = true from rfl] at hne
  have hxs : xb ≠ sb := fun e => by have := Bn.type (e ▸ HN.out.1) HY.out.2.2.1; revert this; decide
  have XZ := HN.out.1.kept gZ (by intro e; injection e with e; exact hxs e)
  have x0 := XZ.cell 0
  simp only [List.getElem?_cons_zero] at x0
  unfold hd at x0
  have hsF : ∀ k, F k → ¬ k = sb := fun k hk e => by
   have := HA.out.2.2.1.lt hk
   have := HY.out.2.2.2.2.2.1; have := HY.out.2.2.2.2.2.2.1; have := HY.out.2.2.2.2.2.2.2.2
   omega
  have hwW := HA.out.2.2.1.old.size
  have onZ : On F w Z tb all := HON.out.chg (G := fun k => k = sb) (Chg.of_grown gZ fun g e => by injection e with e; exact e.symm) hsF fun k e => by
   have := HY.out.2.2.2.2.2.1; have := HY.out.2.2.2.2.2.2.1; have := HY.out.2.2.2.2.2.2.2.2
   omega
  have hnZ : Ns .i64 Z Z.heap.size A6 (p ++ [d]) := by
   have oZ1 : Z.ownsRow V1.heap.size 3 1 (.slice A6 (np + 1) c6) (np + 1) (nums .i64 (p ++ [d])) := Blk.own_keep HY.out.1 fun g hg => gZ.block g (HY.out.1.lt g hg).2 (by
    intro e; injection e with e
    exact Blk.own_ne HY.out.1 HY.out.2.2.1 (by decide) (by rw [hg, e]))
   exact own_ns (c := c6) (n := np + 1) (by rw [HY.out.2.2.2.2.1]; exact oZ1)
  have HRC := Lib.hid (onZ.recs HA.out.2.2.2.2.2.1 A6 c6 (np + 1) (p ++ [d]) HY.out.2.2.2.2.1 (by omega) hnZ)
  unfold hd at HRC
  have RZ := HN.out.2.1.kept gZ (by intro e; injection e with e; exact HN.out.2.2.2.2 e)
  have HZ := Lib.hid (And.intro gZ (And.intro BZ (And.intro RZ hsz)))
  clear gZ BZ hsz XZ hsF hwW onZ hnZ RZ hxs
  go_wp2_with fail
  refine HRC.out.mono ?_
  rintro e8 w8 ⟨A8, m8, c8, ps8, rfl, h8⟩
  clear hZ
  have b8 := h8.out.2.2.2.2.2
  have B8 := HZ.out.2.1.same (b8.block sb HZ.out.2.1.lt)
  have R8 := HZ.out.2.2.1.same (b8.block rb HZ.out.2.2.1.lt)
  have g8 := B8.frozen 2
  have l8 := B8.cell 2
  simp only [List.getElem?_cons_zero, List.getElem?_cons_succ] at l8
  obtain ⟨Z3, hZ3⟩ : ∃ Z3, w8.setCell ⟨sb, 2, none⟩ (.slice A8 m8 c8) = Z3 := ⟨_, rfl⟩
  have BZ3 : Bn sb 47 [.slice A6 (np + 1) c6, .slice none 0 0, .slice A8 m8 c8] Z3 := by rw [← hZ3]; exact B8.set 2 _
  have gZ3 : w8.grownBy Z3 (some sb) := by rw [← hZ3]; exact Blk.gset _ _ _ _
  have q0 := BZ3.cell 0
  have q1 := BZ3.cell 1
  have q2 := BZ3.cell 2
  simp only [List.getElem?_cons_zero, List.getElem?_cons_succ] at q0 q1 q2
  have BRZ := R8.kept gZ3 (by intro e; injection e with e; exact HN.out.2.2.2.2 e)
  have f0 := BRZ.frozen 0
  have f1 := BRZ.frozen 1
  have f2 := BRZ.frozen 2
  have r0' := BRZ.cell 0
  have r1' := BRZ.cell 1
  have r2' := BRZ.cell 2
  simp only [List.getElem?_cons_zero, List.getElem?_cons_succ] at r0' r1' r2'
  have BR2 := ((BRZ.set 0 (.slice A6 (np + 1) c6)).set 1 (.slice none 0 0)).set 2 (.slice A8 m8 c8)
  have gR2 := Blk.grown_trans_one (Blk.grown_trans_one (Blk.gset Z3 rb 0 (.slice A6 (np + 1) c6)) (Blk.gset _ rb 1 (.slice none 0 0))) (Blk.gset _ rb 2 (.slice A8 m8 c8))
  obtain ⟨Z2, hZ2⟩ : ∃ Z2, ((Z3.setCell ⟨rb, 0, none⟩ (.slice A6 (np + 1) c6)).setCell ⟨rb, 1, none⟩ (.slice none 0 0)).setCell ⟨rb, 2, none⟩ (.slice A8 m8 c8) = Z2 := ⟨_, rfl⟩
  rw [hZ2] at BR2 gR2
  have v0 := BR2.cell 0
  have v1 := BR2.cell 1
  have v2 := BR2.cell 2
  simp [List.set] at v0 v1 v2
  have HZ3 := Lib.hid (And.intro h8.out (And.intro gZ3 gR2))
  clear h8 gZ3 gR2 b8 B8 R8 BZ3 BRZ BR2 HRC z0 z1 z2 x0 hne g7 l7
  go_wp2_with fail
  refine bodyPost_ret (v := .agg #[.slice A6 (np + 1) c6, .slice none 0 0, .slice A8 m8 c8]) ?_ rfl ?_
  ·rw [Blk.results_cell1 rfl]
   go_simp
  ·have hYs := HY.out.2.1.size
   have hV1 := HY.out.2.2.2.2.2.2.2.2
   have hsb := HY.out.2.2.2.2.2.1
   have hsw := HY.out.2.2.2.2.2.2.1
   have hsY := HY.out.2.2.2.2.2.2.2.1
   have hrl := HN.out.2.2.2.1
   have hsz := HZ.out.2.2.2
   have gZ := HZ.out.1
   obtain ⟨h8, gZ3, gR2⟩ := HZ3.out
   have b8 := h8.2.2.2.2.2
   have hbl := HY.out.2.2.1.lt
   have s8 := b8.size
   have k8 : ∀ k, k < w8.heap.size → k ≠ sb → k ≠ rb → Z2.heap[k]? = w8.heap[k]? := fun k h1 h2 h3 => (gR2.block k (Nat.lt_of_lt_of_le h1 gZ3.size) (by intro e; injection e with e; exact h3 e)).trans (gZ3.block k h1 (by intro e; injection e with e; exact h2 e))
   have oZ : Z2.ownsRow V1.heap.size 3 1 (.slice A6 (np + 1) c6) (np + 1) (nums .i64 (p ++ [d])) := by
    refine Blk.own_keep HY.out.1 fun g hg => ?_
    have h1 := HY.out.1.lt g hg
    have hne : g ≠ sb := fun e => Blk.own_ne HY.out.1 HY.out.2.2.1 (by decide) (by rw [hg, e])
    exact ((k8 g (by omega) hne (by omega)).trans (b8.block g (by omega))).trans (gZ.block g h1.2 (by intro e; injection e with e; exact hne e))
   refine ⟨((A6, np + 1, c6), (none, 0, 0), (A8, m8, c8)), rfl, Lib.hid ⟨?_, ?_, fun G hG => ?_⟩⟩
   ·refine ((((Chg.of_below (F := fun k => k = tb) HY.out.2.2.2.1).trans (Chg.of_grown gZ (F := fun k => k = sb) fun g e => by injection e with e; exact e.symm) fun k e => .inr (by omega)).trans (Chg.of_below (F := fun _ => False) b8) fun k e => e.elim).trans (Chg.of_grown gZ3 (F := fun k => k = sb) fun g e => by injection e with e; exact e.symm) fun k e => .inr (by omega)).trans (Chg.of_grown gR2 (F := fun k => k = rb) fun g e => by injection e with e; exact e.symm) fun k e => .inr (by omega)
   ·have hwW := HA.out.2.2.1.old.size
    refine (h8.2.2.2.2.1.chg (G := fun k => k = sb) (Chg.of_grown gZ3 fun g e => by injection e with e; exact e.symm) (fun k hk e => ?_) fun k e => by omega).chg (G := fun k => k = rb) (Chg.of_grown gR2 fun g e => by injection e with e; exact e.symm) (fun k hk e => ?_) fun k e => by omega
    ·have := HA.out.2.2.1.lt hk
     omega
    ·have := HA.out.2.2.1.lt hk
     omega
   ·have hx1 := sta_ns oZ HY.out.2.2.2.2.1 (G := G) (fun g hg => hG g (by omega))
    have hx2 := sta_got (G := fun k => k < Z.heap.size) h8.2.2.2.1 (fun g hg => by omega)
    have hl2 : ¬ (p ++ [d]).length = 1 := by rw [HY.out.2.2.2.2.1]; have := H1.out; omega
    have hk0 : kidsF all (p ++ [d]) = [] := by unfold kidsF; rw [if_neg (by rw [HY.out.2.2.2.2.1]; have := H1.out; omega)]
    have hr9 := recsF_len all (p ++ [d])
    rw [← h8.2.1] at hr9
    have hN9 := HA.out.2.2.2.2.2.1
    have hz2 := gR2.size
    have hz1 := gZ3.size
    rw [h8.1] at hx2
    exact fun w' hs hk => ⟨⟨HY.out.2.2.2.2.1, by show np + 1 ≤ 4; omega, hx1 w' hs hk⟩, ⟨by show (kidsF all (p ++ [d])).length = 0; rw [hk0]; rfl, Nat.zero_le _, by show Ns .u64 w' w'.heap.size none (kidsF all (p ++ [d])); rw [hk0]; exact ns_nil⟩, by show (if (p ++ [d]).length = 1 then ([] : List Rc) else _).length = m8; rw [if_neg hl2]; exact h8.2.1.symm, by show m8 ≤ 3518437208882; omega, by show Rs w' 0 w'.heap.size A8 (if (p ++ [d]).length = 1 then ([] : List Rc) else _); rw [if_neg hl2]; exact hx2 w' (by omega) fun k h1 h2 => (hk k (by omega) (hG k (by omega))).trans (k8 k h1 (by omega) (by omega))⟩
end Mend
end Go.Proofs.YtekhaejhmlebbaaGreat

/-
 mend.Answer (layer 14).
-/
namespace Go.Proofs.YtekhaejhmlebbaaGreat
namespace Mend
open Go.RowKit Vers Num Ring Disk Blk Tree
open Go.Proofs.YtekhaejhmlebbaaGreat.Code hiding Bn
attribute [local go_sem ↓] Go.wp_at_zero Go.wp_at_succ
section
variable {F : Nat → Prop} {w V : World} {tb : Nat} {all : List Rc}
set_option maxRecDepth 100000 in
theorem kids_no (h : On F w V tb all) (A : Option Addr) (c n : Nat) (p : List Int) (hn : p.length = n) (hbig : n ≤ 140737488355328) (hr : Ns .i64 V V.heap.size A p) (hp : ¬ (okP p ∧ n ≤ 1)) :
  Calls Tryz.prog 39 #[hd tb, .slice A n c] V (fun e w' => e = .returned (.slice none 0 0) ∧ w' = V) := by
 by_cases h2 : 2 ≤ n
 ·exact kids_nil h A c n p hn h2
 ·have e1 : decide ((2 : Int) ≤ (n : Int)) = false := decide_eq_false (by omega)
  have H1 := Lib.hid (isPath_any A c n p hn hbig V hr)
  rw [decide_eq_false (fun q => hp ⟨q, by omega⟩)] at H1
  clear hp h2 hn hr h
  unfold hd
  go_enter Tryz.func39, Tryz.ntmps39
  go_wp2_with fail
  refine H1.out.mono ?_
  rintro e w1 ⟨rfl, rfl⟩
  go_wp2_with fail
  go_ret
  exact ⟨rfl, rfl⟩
end
def AnsUp (V U : World) (F : Nat → Prop) (pb xb tb : Nat) (Ap : Option Addr) (np cp : Nat) (p : List Int) (all : List Rc) (dl : List Int) (m : Nat) (v q : Value) (wr : World) : Prop :=
 ∃ (i : Nat) (A1 : Option Addr) (c1 : Nat), q = .int .i64 i ∧ i ≤ m ∧ v = .slice A1 i c1 ∧ Hid (StepsR (fun k => k = tb) 47 U.heap.size ((dl.take i).map (stepF all p)) (.slice A1 i c1) wr ∧ Caps V wr F pb xb tb Ap np cp p all ∧ Chg (fun k => k = tb) U wr)
set_option maxRecDepth 100000 in
set_option maxHeartbeats 4000000 in
theorem answer_any (A Ap Ah : Option Addr) (c cp ch n np nh : Nat) (l : List Rc) (p hs : List Int) (hn : l.length = n) (hnp : p.length = np) (hnh : hs.length = nh) (hbig : n ≤ 3518437208780) (hbp : np ≤ 140737488355328) (V : World) (hr : Rs V 0 V.heap.size A l) (hp : Ns .i64 V V.heap.size Ap p) (hh : Ns .u64 V V.heap.size Ah hs) :
  Calls Tryz.prog 16 #[.slice A n c, .slice Ap np cp, .slice Ah nh ch] V (AnsT 47 (answerF l p hs) V) := by
 obtain ⟨i3, hi3, hs0, hs1, hs2⟩ := info_parts info_step
 obtain ⟨pb, hpb⟩ : ∃ pb, V.heap.size = pb := ⟨_, rfl⟩
 obtain ⟨V1, hV1⟩ : ∃ V1, V.alloc (.cells #[.slice Ap np cp] 23) = V1 := ⟨_, rfl⟩
 have b1 : Below V.heap.size V V1 := by rw [← hV1]; exact (Below.refl _ V).alloc (Nat.le_refl _) _
 have P1 : Bn pb 23 [.slice Ap np cp] V1 := by rw [← hV1, ← hpb]; exact World.alloc_heap_new _ _
 have HP := Lib.hid (And.intro hn (And.intro hnp (And.intro hnh (And.intro hp (And.intro hh (And.intro b1 (And.intro P1 hpb)))))))
 by_cases hok : okL l
 ·have H1 := Lib.hid (on_new b1 A c n l hn (by omega) ((hr.below b1).more b1.size) hok)
  clear hn hnp hnh hr hp hh b1 P1
  go_enter Tryz.func16, Tryz.ntmps16
  go_wp2_with fail
  refine H1.out.mono ?_
  rintro e2 w2 ⟨tb, rfl, h2⟩
  obtain ⟨F, hon, hF, b2⟩ := h2.out
  obtain ⟨xb, hxb⟩ : ∃ xb, w2.heap.size = xb := ⟨_, rfl⟩
  obtain ⟨X, hX⟩ : ∃ X, w2.alloc (.cells #[hd tb] 70) = X := ⟨_, rfl⟩
  have bX : Below w2.heap.size w2 X := by rw [← hX]; exact (Below.refl _ w2).alloc (Nat.le_refl _) _
  have BX : Bn xb 70 [hd tb] X := by rw [← hX, ← hxb]; exact World.alloc_heap_new _ _
  have P2 := HP.out.2.2.2.2.2.2.1.same (b2.block pb HP.out.2.2.2.2.2.2.1.lt)
  have PX := P2.same (bX.block pb P2.lt)
  have onX := hon.below bX
  have p2 := P2.cell 0
  have h2l : tb < xb := by rw [← hxb]; exact hon.lt hon.own
  have x0 := BX.cell 0
  have p0 := PX.cell 0
  simp only [List.getElem?_cons_zero] at x0 p0 p2
  have nX : Ns .i64 X X.heap.size Ap p := (HP.out.2.2.2.1.below onX.old).more onX.old.size
  have HX := Lib.hid (And.intro onX (And.intro BX (And.intro PX (And.intro nX (And.intro hok (And.intro hF (And.intro b2.size bX.size)))))))
  have htl : tb < X.heap.size := onX.lt onX.own
  obtain ⟨all, hall⟩ : ∃ X, heldF l = X := ⟨_, rfl⟩
  clear hon hF b2 h2 bX BX P2 PX onX nX H1
  unfold hd at x0 hX
  by_cases hpk : okP p ∧ np ≤ 1
  ·have hK0 := HX.out.1.kids (by have := held_len l; have := HP.out.1; have e : layF l = heldF l := rfl; rw [e]; omega) Ap cp np p HP.out.2.1 hbp HX.out.2.2.2.1
   have HPK := Lib.hid hpk
   have HL := Lib.hid hall
   rw [show layF l = all from hall] at HX hK0
   have HK := Lib.hid hK0
   clear hpk hK0 hall
   unfold hd at HK ⊢
   go_wp2_with fail
   refine HK.out.mono ?_
   rintro e3 w3 ⟨A3, m3, c3, rfl, h3⟩
   have h16 : (kidsF all p).length = 16 := by
    unfold kidsF
    rw [if_pos ⟨HPK.out.1, by rw [HP.out.2.1]; have := HPK.out.2; omega⟩]
    simp
   have hsm : ∃ a, A3 = some a := by
    obtain ⟨b, off, e, _⟩ := h3.out.2.2.1 (by omega)
    exact ⟨_, e⟩
   obtain ⟨a3, rfl⟩ := hsm
   have hne := Lib.run_eql_slice_nil (P := Tryz.prog) w3 24 67 (some a3) m3 c3 0 0 Tryz.underlying24
   rw [show (some a3).isNone = false from rfl] at hne
   have hc3 := h3.out.2.2.2.2.2
   have on3 := h3.out.2.2.2.2.1
   have hXV := HX.out.1.old.size
   have htV : V.heap.size ≤ tb := by
    obtain ⟨_, _, hF⟩ := HX.out.1
    exact hF tb HX.out.1.own
   have hpbs := HP.out.2.2.2.2.2.2.2
   have htX : tb < X.heap.size := HX.out.1.lt HX.out.1.own
   have hpt : pb ≠ tb := by
    have := HX.out.2.2.2.2.2.1 tb HX.out.1.own
    have := HP.out.2.2.2.2.2.2.1.lt
    omega
   have hxt : xb ≠ tb := by
    have hl := (h2l : tb < xb)
    omega
   have P3 := HX.out.2.2.1.same (hc3.block pb HX.out.2.2.1.lt hpt)
   have X3 := HX.out.2.1.same (hc3.block xb HX.out.2.1.lt hxt)
   have n3 : Ns .i64 w3 w3.heap.size Ap p := (HP.out.2.2.2.1.below on3.old).more on3.old.size
   have HD := Lib.hid (differ_any (some a3) Ah c3 ch m3 nh (kidsF all p) hs h3.out.1 HP.out.2.2.1 w3 h3.out.2.2.1 ((HP.out.2.2.2.2.1.below on3.old).more on3.old.size))
   have H3 := Lib.hid (And.intro P3 (And.intro X3 (And.intro n3 (And.intro on3 (And.intro hc3 (And.intro hpt (And.intro hxt htV)))))))
   clear h3 hc3 on3 hXV htV hpt hxt P3 X3 n3 HK hpbs x0 p0 p2 hX
   go_wp2_with fail
   refine HD.out.mono ?_
   rintro e4 U ⟨A4, m4, c4, rfl, h4, b4⟩
   clear hne HD
   obtain ⟨dl, hdl⟩ : ∃ X, diffF (kidsF all p) hs = X := ⟨_, rfl⟩
   rw [hdl] at h4
   have hm16 : m4 ≤ 16 := by
    have h := dk_len (kidsF all p) hs 16
    rw [dk_full, hdl, h4.out.1] at h
    exact h
   have hdr : ∀ d ∈ dl, 0 ≤ d ∧ d < 16 := fun d hd => by rw [← hdl] at hd; exact diff_range hd
   have hans : answerF l p hs = dl.map (stepF all p) := by
    unfold answerF
    rw [if_pos ⟨HX.out.2.2.2.2.1, HPK.out.1, by rw [HP.out.2.1]; exact HPK.out.2⟩, HL.out, hdl]
   have hdlr := own_ns (c := c4) (n := m4) (zs := dl) (by rw [h4.out.1]; exact h4.out.2.2)
   have hs4 := b4.size
   have htU : tb < U.heap.size := by have := H3.out.2.2.2.1.lt H3.out.2.2.2.1.own; omega
   have hVU : Below V.heap.size V U := H3.out.2.2.2.1.old.trans (b4.mono H3.out.2.2.2.1.old.size)
   have HCap : Hid (Caps V U F pb xb tb Ap np cp p all) := Lib.hid ⟨H3.out.1.same (b4.block pb H3.out.1.lt), H3.out.2.1.same (b4.block xb H3.out.2.1.lt), H3.out.2.2.2.1.below b4, (H3.out.2.2.1.below b4).more hs4⟩
   have hbt : ∀ db doff, A4 = some ⟨db, doff, none⟩ → 0 < m4 → w3.heap.size ≤ db := fun db doff e h0 => by
    have := (h4.out.2.2.lt db (by rw [e]; rfl)).1
    exact this
   have HU := Lib.hid (And.intro h4.out.1 (And.intro hdlr (And.intro hdr (And.intro hans (And.intro htU (And.intro hVU (And.intro hbt (H3.out.2.2.2.1.lt H3.out.2.2.2.1.own))))))))
   have HU5 : Hid (w3.heap.size ≤ U.heap.size ∧ pb < U.heap.size ∧ xb < U.heap.size) := Lib.hid ⟨hs4, by have := H3.out.1.lt; omega, by have := H3.out.2.1.lt; omega⟩
   have hN9 : all.length ≤ 3518437208882 := by rw [← HL.out]; have := held_len l; have := HP.out.1; omega
   clear h4 b4 hdl hdr hans hdlr hs4 htU hVU hbt
   go_wp2_with fail
   go_loopw [11, 31] (fun v q wr => AnsUp V U F pb xb tb Ap np cp p all dl m4 v q wr) (fun _ q _ => m4 - (intOf q).toNat)
   case atStart => exact ⟨0, none, 0, rfl, by omega, rfl, Lib.hid ⟨steps_nil _ _ _ _, HCap.out, Chg.refl _ _⟩⟩
   case round =>
    clear HCap
    obtain ⟨i, A1, c1, rfl, hi, rfl, hst⟩ := hrel
    by_cases hlt : i < m4
    ·have d2 : (0 : Int) ≤ (i : Int) := by omega
     have d3 : (i : Int) < (m4 : Int) := by omega
     obtain ⟨db, doff, rfl, hdl2, hcc⟩ := HU.out.2.1 (by rw [HU.out.1]; omega)
     have hdt : db ≠ tb := by have := HU.out.2.2.2.2.2.2.1 db doff rfl (by omega); have := HU.out.2.2.2.2.2.2.2; omega
     have k0 := (World.cell?_of_block (a := ⟨db, doff + i, none⟩) (hst.out.2.2.block db hdl2 hdt)).trans (hcc i (by rw [HU.out.1]; exact hlt))
     obtain ⟨dv, hdv⟩ : ∃ d, dl.getD i 0 = d := ⟨_, rfl⟩
     rw [hdv] at k0
     have h1 : i < dl.length := by rw [HU.out.1]; exact hlt
     have hdm : dl[i] = dv := by
      rw [← hdv, List.getD_eq_getElem?_getD, List.getElem?_eq_getElem h1]; rfl
     have h2 := HU.out.2.2.1 dv (by rw [← hdm]; exact List.getElem_mem _)
     have ok2 : okP (p ++ [dv]) := by
      have h3 := HPK.out.1
      refine ⟨fun d hd => ?_, by rw [List.length_append, HP.out.2.1]; have := HPK.out.2; simp; omega⟩
      rcases List.mem_append.1 hd with hd | hd
      ·exact h3.1 d hd
      ·rw [List.mem_singleton.1 hd]; exact h2
     have HK := Lib.hid (step_any F V wr pb xb tb Ap np cp p all dv hN9 HP.out.2.1 HPK.out.2 ok2 hst.out.2.1)
     have hstep : (dl.take (i + 1)).map (stepF all p) = (dl.take i).map (stepF all p) ++ [stepF all p dv] := by
      rw [List.take_succ_eq_append_getElem h1, List.map_append, hdm]
      rfl
     have hli : ((dl.take i).map (stepF all p)).length = i := by
      rw [List.length_map, List.length_take]
      omega
     have HSS := Lib.hid (And.intro hstep hli)
     clear hcc hdl2 hdt h1 hdm h2 ok2 hstep hli hdv
     go_wp2_with fail
     refine HK.out.mono ?_
     rintro e5 w5 ⟨y, rfl, h5⟩
     have hUs := hst.out.2.2.size
     have htb := HU.out.2.2.2.2.1
     have hrow := hst.out.1.chg h5.out.1 (fun g hg e => by
      obtain ⟨_, _, ho, _⟩ := hst.out.1
      have := (ho.lt g hg).1
      omega)
     have hy : Sta (fun k => k = tb ∨ (Value.slice A1 i c1).ownBlock = some k) w5 (fun W => StIs W y (stepF all p dv)) := h5.out.2.2 _ fun g hg e => by
      rcases e with e | e
      ·omega
      ·obtain ⟨_, _, ho, _⟩ := hst.out.1
       have := (ho.lt g e).2
       omega
     obtain ⟨sts, t1, t2, t3⟩ := hrow
     rw [HSS.out.2] at t1 t2
     have hcp : Caps V w5 F pb xb tb Ap np cp p all := by
      obtain ⟨q1, q2, q3, q4⟩ := hst.out.2.1
      have ho5 : On F V w5 tb all := h5.out.2.1
      exact ⟨q1.same (h5.out.1.block pb q1.lt H3.out.2.2.2.2.2.1), q2.same (h5.out.1.block xb q2.lt H3.out.2.2.2.2.2.2.1), ho5, (HP.out.2.2.2.1.below ho5.old).more ho5.old.size⟩
     have hs5 := h5.out.1.size
     have hUb : U.heap.size ≤ w5.heap.size := Nat.le_trans hUs hs5
     have HT := Lib.hid (And.intro t1 (And.intro t3 (And.intro hy (And.intro hcp (hst.out.2.2.trans h5.out.1 fun k e => .inl e)))))
     clear hst h5 HK hy t1 t3 hcp
     obtain ⟨⟨a1, a2, a3'⟩, ⟨a4, a5, a6⟩, a7, a8, a9⟩ := y
     simp only [slV]
     go_wp2_with (at_builtin; refine wpList_append_st rfl (.tmp 35) (.tmp 39) 32 rfl U.heap.size 47 i3 _ 72 Tryz.underlying32 hi3 hs0 hs1 hs2 rfl _ i sts rfl t2 ((a1, a2, a3'), (a4, a5, a6), (a7, a8, a9)) 1 rfl (by omega) (by omega) hUb ?_; intro v9 w9 o9 g9 at9; obtain ⟨A9, c9, rfl⟩ := own_form o9)
     have hg9 : Chg (fun k => k = tb) U w9 := HT.out.2.2.2.2.trans (Chg.of_grown (F := fun k => U.heap.size ≤ k) g9 fun g e => (t2.lt g e).1) fun k e => .inr e
     have hb9 : Below U.heap.size w5 w9 := (Below.refl U.heap.size w5).grown g9 hUb (fun j hj => (t2.lt j hj).1)
     have HF : Hid (AnsUp V U F pb xb tb Ap np cp p all dl m4 (.slice A9 (i + 1) c9) (.int .i64 ((i : Int) + 1)) w9) := Lib.hid ⟨i + 1, A9, c9, by go_num, by omega, rfl, Lib.hid ⟨by
      rw [HSS.out.1]
      exact steps_more HSS.out.2 HT.out.1 HT.out.2.1 HT.out.2.2.1 (fun k e => by have := HU.out.2.2.2.2.1; omega) o9 g9 at9, ?_, hg9⟩⟩
     ·clear o9 g9 at9 t2 HT hg9 hb9
      go_roundw
      case rel => exact HF.out
      case measure => simp only [intOf]; omega
     ·obtain ⟨q1, q2, q3, q4⟩ := HT.out.2.2.2.1
      have htF : ∀ k, F k → k < U.heap.size := fun k hk => by have := H3.out.2.2.2.1.lt hk; have := HU.out.2.2.2.2.2.1.size; have := HU5.out; omega
      have hVU := HU.out.2.2.2.2.2.1.size
      have ho9 : On F V w9 tb all := q3.chg (G := fun k => U.heap.size ≤ k) (Chg.of_grown g9 fun g e => (t2.lt g e).1) (fun k hk e => by have := htF k hk; omega) fun k e => by omega
      exact ⟨q1.same (hb9.block pb (by have := HU5.out.2.1; omega)), q2.same (hb9.block xb (by have := HU5.out.2.2; omega)), ho9, (HP.out.2.2.2.1.below ho9.old).more ho9.old.size⟩
    ·have him : i = m4 := by omega
     subst him
     have hfull : dl.take i = dl := List.take_of_length_le (by have := HU.out.1; omega)
     have HE : Hid (AnsT 47 (answerF l p hs) V (.returned (.slice A1 i c1)) wr) := Lib.hid (by
      obtain ⟨h1, h2, h3⟩ := hst.out
      rw [hfull] at h1
      rw [HU.out.2.2.2.1]
      have hlen : (dl.map (stepF all p)).length = i := by rw [List.length_map, HU.out.1]
      have hVU := HU.out.2.2.2.2.2.1
      refine ⟨A1, i, c1, rfl, Lib.hid ⟨hlen, ?_, (h1.low hVU.size).less fun k e => e.elim⟩, hVU.trans (h3.below (fun k e => by rw [e]; exact H3.out.2.2.2.2.2.2.2) hVU.size)⟩
      obtain ⟨_, _, ho, _⟩ := h1
      rw [hlen] at ho
      exact (own_low ho).1)
     clear hst hfull
     go_wp2_with fail
     go_ret
     exact HE.out
  ·have HK := Lib.hid (kids_no HX.out.1 Ap cp np p HP.out.2.1 hbp HX.out.2.2.2.1 hpk)
   have hne := Lib.run_eql_slice_nil (P := Tryz.prog) X 24 67 none 0 0 0 0 Tryz.underlying24
   rw [show (none : Option Addr).isNone = true from rfl] at hne
   have HE := Lib.hid (no_answer (fun h => hpk ⟨h.2.1, by rw [← HP.out.2.1]; exact h.2.2⟩) 47 HX.out.1.old (l := l) (p := p) (hs := hs))
   clear hpk htl hall
   unfold hd at HK ⊢
   go_wp2_with fail
   refine HK.out.mono ?_
   rintro e3 w3 ⟨rfl, hw3⟩
   rw [hw3]
   clear hw3 w3
   go_wp2_with fail
   go_ret
   exact HE.out
 ·have H1 := Lib.hid (no_new A c n l hn (by omega) ((hr.below b1).more b1.size) hok)
  have HE : Hid (∀ w2, Below V1.heap.size V1 w2 → AnsT 47 (answerF l p hs) V (.returned (.slice none 0 0)) w2) := Lib.hid fun w2 b2 => no_answer (fun h => hok h.1) _ (HP.out.2.2.2.2.2.1.trans (b2.mono HP.out.2.2.2.2.2.1.size))
  clear hn hnp hnh hr hp hh b1 P1 hok
  go_enter Tryz.func16, Tryz.ntmps16
  go_wp2_with fail
  refine H1.out.mono ?_
  rintro e2 w2 ⟨rfl, b2⟩
  have HF : Hid (∀ o, AnsT 47 (answerF l p hs) V (.returned (.slice none 0 0)) (w2.alloc o)) := Lib.hid fun o => HE.out _ (b2.alloc b2.size o)
  clear b2 H1
  go_wp2_with fail
  go_ret
  exact HF.out _
end Mend
end Go.Proofs.YtekhaejhmlebbaaGreat

/-
 firthlaw14.steps: two lists of the same steps are the same.
-/
namespace Go.Proofs.YtekhaejhmlebbaaGreat
namespace Mend
open Go.RowKit Vers Num Ring Disk Blk Tree
open Go.Proofs.YtekhaejhmlebbaaGreat.Code hiding Bn
attribute [local go_sem ↓] Go.wp_at_zero Go.wp_at_succ
theorem StepsR.at {X : Nat → Prop} {t : TypeId} {base : Nat} {L : List Stp3} {A : Option Addr} {m c : Nat} {w : World} (h : StepsR X t base L (.slice A m c) w) (hL : L.length = m) {j : Nat} (hj : j < m) {s : Stp3} (hs : L[j]? = some s) :
  ∃ g, ∃ x : St, A = some ⟨g, 0, none⟩ ∧ base ≤ g ∧ g < w.heap.size ∧ w.cell? ⟨g, j * 3, none⟩ = some (slV x.1) ∧ w.cell? ⟨g, j * 3 + 1, none⟩ = some (slV x.2.1) ∧ w.cell? ⟨g, j * 3 + 2, none⟩ = some (slV x.2.2) ∧ StIs w x s := by
 obtain ⟨sts, h1, h2, h3⟩ := h
 have hj2 : j < sts.length := by omega
 have hx : sts[j]? = some sts[j] := List.getElem?_eq_getElem hj2
 have hst := (h3 j s _ hs hx).now
 rcases h2.2 with ⟨_, h0⟩ | ⟨g, cap, cur, hv, hbg, hg, rest⟩
 ·omega
 ·injection hv with e1 e2 e3
  subst e1
  rw [hL] at h2
  have hat := stcs_at sts j _ hx
  have hc := fun r (hr : r < 3) => (World.ownsRow.cellAt h2 (j * 3 + r) (by omega)).trans (hat r hr)
  refine ⟨g, sts[j], rfl, hbg, (Array.getElem?_eq_some_iff.1 hg).1, ?_, ?_, ?_, hst⟩
  ·exact hc 0 (by omega)
  ·exact hc 1 (by omega)
  ·exact hc 2 (by omega)
end Mend
end Go.Proofs.YtekhaejhmlebbaaGreat

/-
 What awake's answers are (layer 14).
-/
namespace Go.Proofs.YtekhaejhmlebbaaGreat
namespace Mend
open Go.RowKit Vers Num Ring Disk Blk Tree
open Go.Proofs.YtekhaejhmlebbaaGreat.Code hiding Bn
def kN : Nm := ⟨#[107]⟩
def kV : Vr := ⟨1, 1, [], false, ⟨#[118]⟩⟩
def kR : Rc := (kN, [kV])
def zs16 : List Int := [0, 0, 0, 0, 0, 0, 0, 0, 0, 0, 0, 0, 0, 0, 0, 0]
theorem aw_ok : okR kR := by decide
theorem aw_okL : okL [kR] := fun r hr => by rw [List.mem_singleton.1 hr]; exact aw_ok
theorem aw_held : heldF [kR] = [kR] := by decide
set_option maxRecDepth 100000 in
theorem aw_d0 : diffF (kidsF [kR] []) zs16 = [dig0 kN] := by decide +kernel
set_option maxRecDepth 100000 in
theorem aw_d1 : diffF (kidsF [kR] [dig0 kN]) zs16 = [dig1 kN] := by decide +kernel
theorem aw_p0 : okP [dig0 kN] := by have := dig0_range kN; exact ok_one.2 this
set_option maxRecDepth 100000 in
theorem aw_r : recsF [kR] [dig0 kN, dig1 kN] = [kR] := by decide +kernel
theorem aw_a0 : answerF [kR] [] zs16 = [stepF [kR] [] (dig0 kN)] := by
 unfold answerF
 rw [if_pos ⟨aw_okL, ok_zero, by simp⟩, aw_held, aw_d0]
 rfl
theorem aw_a1 : answerF [kR] [dig0 kN] zs16 = [stepF [kR] [dig0 kN] (dig1 kN)] := by
 unfold answerF
 rw [if_pos ⟨aw_okL, aw_p0, by simp⟩, aw_held, aw_d1]
 rfl
theorem step_two {all : List Rc} {x d : Int} : (stepF all [x] d).2.2 = recsF all [x, d] := by
 have h : ¬ ([x] ++ [d]).length = 1 := by simp
 show (if ([x] ++ [d]).length = 1 then ([] : List Rc) else recsF all ([x] ++ [d])) = recsF all ([x] ++ [d])
 rw [if_neg h]
theorem aw_s1 : (stepF [kR] [dig0 kN] (dig1 kN)).2.2 = [kR] := step_two.trans aw_r
theorem okL_nil : okL [] := fun _r hr => nomatch hr
theorem aw_t : takeR [] [kR] = ([kR], 0) := by
 unfold takeR
 rw [if_pos ⟨okL_nil, aw_okL⟩]
 have h : nowF (heldF []) [kR] = [kR] := by decide
 unfold takeF
 rw [h]
 decide
theorem aw_g0 : giveR [kR] [dig0 kN, dig1 kN] [] = [kR] := by
 unfold giveR
 rw [if_pos ⟨aw_okL, okL_nil⟩]
 unfold giveF
 rw [aw_held, aw_r]
 decide
theorem aw_g1 : giveR [kR] [dig0 kN, dig1 kN] [kR] = [] := by
 unfold giveR
 rw [if_pos ⟨aw_okL, aw_okL⟩]
 unfold giveF
 rw [aw_held, aw_r]
 decide
end Mend
end Go.Proofs.YtekhaejhmlebbaaGreat
