/-
 firthlaw14.awake.
-/
import Derived.Test.YtekhaejhmlebbaaGreatRHMendD
import Derived.Test.YtekhaejhmlebbaaGreatRHMendC
import Derived.Test.YtekhaejhmlebbaaGreatRHMendA
import Derived.Deep.OwnRows
namespace Go.Proofs.YtekhaejhmlebbaaGreat
namespace Mend
open Go.RowKit Vers Num Ring Disk Blk Tree
open Go.Proofs.YtekhaejhmlebbaaGreat.Code hiding Bn
attribute [local go_sem ↓] Go.wp_at_zero Go.wp_at_succ
def KT (w : World) (e : Ending) (w' : World) : Prop := ∃ vb, e = .returned (.agg #[.string ⟨#[107]⟩, .slice (some ⟨vb, 0, none⟩) 1 1]) ∧ Hid (Vs w' 0 w'.heap.size (some ⟨vb, 0, none⟩) [kV] ∧ Below w.heap.size w w')
theorem vs_kk (w : World) : Vs (w.alloc (.cells #[.int .i64 1, .int .i64 1, .slice none 0 0, .bool false, .string ⟨#[118]⟩] 59)) 0 (w.heap.size + 1) (some ⟨w.heap.size, 0, none⟩) [kV] := fun _ => by
 have h1 := World.alloc_heap_new w (.cells #[.int .i64 1, .int .i64 1, .slice none 0 0, .bool false, .string ⟨#[118]⟩] 59)
 refine ⟨w.heap.size, 0, rfl, Nat.zero_le _, by omega, fun j hj => ?_⟩
 have hj0 : j = 0 := by simp at hj; omega
 subst hj0
 refine ⟨none, 0, ?_, ?_, ?_, ?_, ?_, fun h => by simp [kV, v0] at h, by simp [kV], by simp [kV], by simp [kV, ByteArray.size], fun h => by simp [kV] at h⟩
 all_goals (unfold World.cell?; rw [h1]; rfl)
set_option maxRecDepth 100000 in
theorem k_any (w : World) : Calls Tryz.prog 31 #[] w (KT w) := by
 obtain ⟨rb, hrb⟩ : ∃ rb, w.heap.size = rb := ⟨_, rfl⟩
 obtain ⟨V, hV⟩ : ∃ V, w.alloc (.cells #[.string ⟨#[]⟩, .slice none 0 0] 53) = V := ⟨_, rfl⟩
 have bV : Below w.heap.size w V := by rw [← hV]; exact (Below.refl _ w).alloc (Nat.le_refl _) _
 have BV : Bn rb 53 [.string ⟨#[]⟩, .slice none 0 0] V := by rw [← hV, ← hrb]; exact World.alloc_heap_new _ _
 obtain ⟨vb, hvb⟩ : ∃ vb, V.heap.size = vb := ⟨_, rfl⟩
 obtain ⟨U, hU⟩ : ∃ U, V.alloc (.cells #[.int .i64 1, .int .i64 1, .slice none 0 0, .bool false, .string ⟨#[118]⟩] 59) = U := ⟨_, rfl⟩
 have bU : Below V.heap.size V U := by rw [← hU]; exact (Below.refl _ V).alloc (Nat.le_refl _) _
 have BU := BV.same (bU.block rb BV.lt)
 have hv : Vs U 0 (vb + 1) (some ⟨vb, 0, none⟩) [kV] := by rw [← hU, ← hvb]; exact vs_kk V
 have hUs : U.heap.size = vb + 1 := by rw [← hU, ← hvb]; simp
 have f0 := BU.frozen 0
 have f1 := BU.frozen 1
 have c0 := BU.cell 0
 have c1 := BU.cell 1
 simp only [List.getElem?_cons_zero, List.getElem?_cons_succ] at c0 c1
 have BX := (BU.set 0 (.string ⟨#[107]⟩)).set 1 (.slice (some ⟨vb, 0, none⟩) 1 1)
 have gX := Blk.grown_trans_one (Blk.gset U rb 0 (.string ⟨#[107]⟩)) (Blk.gset _ rb 1 (.slice (some ⟨vb, 0, none⟩) 1 1))
 obtain ⟨X, hX⟩ : ∃ X, (U.setCell ⟨rb, 0, none⟩ (.string ⟨#[107]⟩)).setCell ⟨rb, 1, none⟩ (.slice (some ⟨vb, 0, none⟩) 1 1) = X := ⟨_, rfl⟩
 rw [hX] at BX gX
 have v0' := BX.cell 0
 have v1' := BX.cell 1
 simp [List.set] at v0' v1'
 have hlt := BV.lt
 have HF : Hid (Vs X 0 X.heap.size (some ⟨vb, 0, none⟩) [kV] ∧ Below w.heap.size w X) := Lib.hid ⟨by
  have h : Vs U vb (vb + 1) (some ⟨vb, 0, none⟩) [kV] := fun hp => by
   obtain ⟨b, off, e, hL, hb, hc⟩ := hv hp
   injection e with e
   injection e with e1 e2
   subst e1
   refine ⟨_, off, by rw [e2], Nat.le_refl _, hb, fun j hj => ?_⟩
   obtain ⟨A', c', h0, h1, h2, h3, h4, h5⟩ := hc j hj
   have hj0 : j = 0 := by simp at hj; omega
   subst hj0
   exact ⟨A', c', h0, h1, h2, h3, h4, h5.1, h5.2.1, h5.2.2.1, h5.2.2.2.1, fun hp => by simp [kV] at hp⟩
  exact ((h.keep fun p h1 h2 => World.cell?_of_block (gX.block p.block (by omega) (by intro e; injection e with e; omega))).more (by have := gX.size; omega)).less (Nat.zero_le _), (bV.trans (bU.mono bV.size)).grown gX (by have := bV.size; have := bU.size; omega) (fun j hj => by injection hj with hj; omega)⟩
 clear BU hv BX gX bV bU BV hUs hlt
 go_enter Tryz.func31, Tryz.ntmps31
 go_wp2_with fail
 refine bodyPost_ret (v := .agg #[.string ⟨#[107]⟩, .slice (some ⟨vb, 0, none⟩) 1 1]) ?_ rfl ⟨vb, rfl, HF⟩
 rw [Blk.results_cell1 rfl]
 go_simp
theorem rs_one (w : World) {key : Nm} {A : Option Addr} {n c : Nat} {lv : List Vr} (hn : lv.length = n) (hc : n ≤ c) (hn2 : n ≤ 140737488355328) (hk : key.size ≤ 140737488355328) (hv : Vs w 0 w.heap.size A lv) : Rs (w.alloc (.cells #[.string key, .slice A n c] 53)) 0 (w.alloc (.cells #[.string key, .slice A n c] 53)).heap.size (some ⟨w.heap.size, 0, none⟩) [(key, lv)] := fun _ => by
 have h1 := World.alloc_heap_new w (.cells #[.string key, .slice A n c] 53)
 refine ⟨w.heap.size, 0, rfl, Nat.zero_le _, by simp, fun j hj => ?_⟩
 have hj0 : j = 0 := by simp at hj; omega
 subst hj0
 refine ⟨A, c, ?_, ?_, ?_, ?_, ?_, ?_⟩
 ·unfold World.cell?; rw [h1]; rfl
 ·unfold World.cell?; rw [h1]; subst hn; rfl
 ·exact (hv.alloc (Nat.le_refl _) _).more (by simp)
 ·subst hn; exact hc
 ·subst hn; exact hn2
 ·exact hk
theorem made16 (z : Value) (n : Nat) : madeCells #[z] n = (List.replicate n z).toArray := by
 apply Array.ext
 ·simp [size_madeCells]
 ·intro i h1 h2
  simp [madeCells, Nat.mod_one]
theorem make16 (W : World) : (Instr.makeSlice 24 (.int .i64 16) (.int .i64 16)).run Tryz.prog W = .ok (.slice (some ⟨W.heap.size, 0, none⟩) 16 16) (W.alloc (.cells (List.replicate 16 (.int .u64 0)).toArray 67)) := by
 rw [← made16]
 exact run_make_row' 24 67 (.int .u64 0) 8 Tryz.underlying24 (by kernel_rfl) rfl .i64 .i64 16 (by omega) (by omega) W
theorem ns_16 (w : World) (o : Obj) (ho : o = .cells (List.replicate 16 (.int .u64 0)).toArray 67) : Ns .u64 (w.alloc o) (w.alloc o).heap.size (some ⟨w.heap.size, 0, none⟩) zs16 := fun _ => by
 subst ho
 have h1 := World.alloc_heap_new w (.cells (List.replicate 16 (.int .u64 0)).toArray 67)
 refine ⟨w.heap.size, 0, rfl, by simp, fun j hj => ?_⟩
 have hj2 : j < 16 := hj
 unfold World.cell?
 rw [h1]
 show (List.replicate 16 (Value.int IntKind.u64 0)).toArray[0 + j]? = _
 have h3 : ∀ i : Fin 16, zs16.getD i 0 = 0 := by decide
 have h4 : zs16.getD j 0 = 0 := h3 ⟨j, hj2⟩
 rw [h4, List.getElem?_toArray, Nat.zero_add, List.getElem?_replicate, if_pos hj2]
def Seen4 (U : World) (ga pa oa pg gb : Nat) (v1 v2 : Value) (x0 : Int) (W : World) : Prop :=
 W.cell? ⟨ga, 0, none⟩ = some v1 ∧ W.cell? ⟨pa, oa, none⟩ = some (.int .i64 x0) ∧ W.cell? ⟨pg, 0, none⟩ = some (.int .i64 x0) ∧ W.cell? ⟨gb, 2, none⟩ = some v2 ∧ Below U.heap.size U W ∧ ga < U.heap.size ∧ pa < U.heap.size ∧ pg < U.heap.size ∧ gb < U.heap.size
theorem seen4_keep {U W W' : World} {ga pa oa pg gb : Nat} {v1 v2 : Value} {x0 : Int} (hb : Below W.heap.size W W') (h : Seen4 U ga pa oa pg gb v1 v2 x0 W) : Seen4 U ga pa oa pg gb v1 v2 x0 W' := by
 obtain ⟨h1, h2, h3, h4, h5, h6, h7, h8, h9⟩ := h
 have hs := h5.size
 have c : ∀ (q o : Nat), q < U.heap.size → W'.cell? ⟨q, o, none⟩ = W.cell? ⟨q, o, none⟩ := fun q o hq => hb.cell (p := ⟨q, o, none⟩) (by show q < _; omega)
 exact ⟨(c _ _ h6).trans h1, (c _ _ h7).trans h2, (c _ _ h8).trans h3, (c _ _ h9).trans h4, h5.trans (hb.mono hs), h6, h7, h8, h9⟩
set_option maxRecDepth 100000 in
set_option maxHeartbeats 4000000 in
theorem awake_any (w : World) : Calls Tryz.prog 10 #[] w (fun e w' => e = .returned (.bool true) ∧ Below w.heap.size w w') := by
 have H0 := Lib.hid (k_any w)
 obtain ⟨o16, ho16⟩ : ∃ o, Obj.cells (List.replicate 16 (.int .u64 0)).toArray 67 = o := ⟨_, rfl⟩
 have hmk := make16
 rw [ho16] at hmk
 have HM := Lib.hid (And.intro ho16.symm hmk)
 clear ho16 hmk
 go_enter Tryz.func10, Tryz.ntmps10
 go_wp2_with fail
 refine H0.out.mono ?_
 rintro e1 w1 ⟨vb, rfl, h1⟩
 obtain ⟨ob, hob⟩ : ∃ ob, w1.heap.size = ob := ⟨_, rfl⟩
 obtain ⟨U, hU⟩ : ∃ U, w1.alloc (.cells #[.string ⟨#[107]⟩, .slice (some ⟨vb, 0, none⟩) 1 1] 53) = U := ⟨_, rfl⟩
 have bU : Below w1.heap.size w1 U := by rw [← hU]; exact (Below.refl _ w1).alloc (Nat.le_refl _) _
 have hrU : Rs U 0 U.heap.size (some ⟨ob, 0, none⟩) [kR] := by rw [← hU, ← hob]; exact rs_one w1 rfl (Nat.le_refl _) (by omega) (by decide) h1.out.1
 have HU := Lib.hid (And.intro hrU (h1.out.2.trans (bU.mono h1.out.2.size)))
 have HP := Lib.hid (ref_place_any kN U (by decide))
 obtain ⟨x0, hx0⟩ : ∃ x, dig0 kN = x := ⟨_, rfl⟩
 obtain ⟨x1, hx1⟩ : ∃ x, dig1 kN = x := ⟨_, rfl⟩
 have HD := Lib.hid (And.intro hx0 hx1)
 unfold Placed at HP
 rw [hx0, hx1] at HP
 unfold kN at HP
 clear h1 H0 hrU bU hx0 hx1
 go_wp2_with fail
 refine HP.out.mono ?_
 rintro e2 w2 ⟨pg, rfl, h2, b2⟩
 have HP2 := Lib.hid (And.intro h2.out.1 (And.intro b2 h2.out.2))
 clear HP h2 b2
 have hmk := HM.out.2
 obtain ⟨z1, hz1⟩ : ∃ z, w2.heap.size = z := ⟨_, rfl⟩
 obtain ⟨U3, hU3⟩ : ∃ U, w2.alloc o16 = U := ⟨_, rfl⟩
 have b3 : Below w2.heap.size w2 U3 := by rw [← hU3]; exact (Below.refl _ w2).alloc (Nat.le_refl _) _
 have n3 : Ns .u64 U3 U3.heap.size (some ⟨z1, 0, none⟩) zs16 := by rw [← hU3, ← hz1]; exact ns_16 w2 o16 HM.out.1
 have bU3 : Below U.heap.size U U3 := HP2.out.2.1.trans (b3.mono HP2.out.2.1.size)
 have hA := answer_any (some ⟨ob, 0, none⟩) none (some ⟨z1, 0, none⟩) 1 0 16 1 0 16 [kR] [] zs16 rfl rfl rfl (by omega) (by omega) U3 ((HU.out.1.below bU3).more bU3.size) ns_nil n3
 rw [aw_a0, HD.out.1] at hA
 have HA := Lib.hid hA
 have H3 := Lib.hid (And.intro b3 bU3)
 clear hA b3 n3 bU3
 go_wp2_with fail
 refine HA.out.mono ?_
 rintro e3 w3 ⟨Aa, ma, ca, rfl, h3, b4⟩
 obtain rfl : 1 = ma := h3.out.1
 clear hU3 hmk HA
 go_wp2_with fail
 have H3B := Lib.hid (And.intro (H3.out.2.trans (b4.mono H3.out.2.size)) (And.intro (HP2.out.2.1.trans ((H3.out.1.mono HP2.out.2.1.size).trans (b4.mono (Nat.le_trans HP2.out.2.1.size H3.out.1.size)))) (And.intro ((H3.out.1.trans (b4.mono H3.out.1.size))) h3.out.2.2)))
 have hA : Calls Tryz.prog 16 #[.slice (some ⟨ob, 0, none⟩) 1 1, .slice (some ⟨pg, 0, none⟩) 1 2, .slice (some ⟨w3.heap.size, 0, none⟩) 16 16] ((w3.alloc o16).drew) (fun e w' => ∃ A c, e = .returned (.slice A 1 c) ∧ Hid (StepsR (fun _ => False) 47 (w3.alloc o16).heap.size [stepF [kR] [x0] x1] (.slice A 1 c) w' ∧ Below w3.heap.size w3 w')) := by
  have b5 : Below w3.heap.size w3 ((w3.alloc o16).drew) := ((Below.refl _ w3).alloc (Nat.le_refl _) _).drew
  have n5 : Ns .u64 ((w3.alloc o16).drew) ((w3.alloc o16).drew).heap.size (some ⟨w3.heap.size, 0, none⟩) zs16 := by exact (ns_16 w3 o16 HM.out.1).drew
  have hp5 : Ns .i64 ((w3.alloc o16).drew) ((w3.alloc o16).drew).heap.size (some ⟨pg, 0, none⟩) [x0] := ((HP2.out.1.take 1).below ((H3B.out.2.2.1).trans (b5.mono H3B.out.2.2.1.size))).more (Nat.le_trans H3B.out.2.2.1.size b5.size)
  have h := answer_any (some ⟨ob, 0, none⟩) (some ⟨pg, 0, none⟩) (some ⟨w3.heap.size, 0, none⟩) 1 2 16 1 1 16 [kR] [x0] zs16 rfl rfl rfl (by omega) (by omega) ((w3.alloc o16).drew) ((HU.out.1.below (H3B.out.1.trans (b5.mono H3B.out.1.size))).more (Nat.le_trans H3B.out.1.size b5.size)) hp5 n5
  have e := aw_a1
  rw [HD.out.1, HD.out.2] at e
  rw [e] at h
  refine h.mono ?_
  rintro e w' ⟨A, m, c, rfl, h1, h2⟩
  obtain rfl : 1 = m := h1.out.1
  exact ⟨A, c, rfl, Lib.hid ⟨h1.out.2.2, b5.trans (h2.mono b5.size)⟩⟩
 have HA := Lib.hid hA
 have hcf : ∀ (a : Array Value) (w : World), (callFunc 16 a).run Tryz.prog w = .ok (.enter 16 a) w := fun a w => by simp [go_sem]
 clear hA h3 b4
 have hmk := HM.out.2
 go_region_law (first
  | (refine Blk.step_call (by rfl) 16 _ _ (by rfl) (hcf _ _) #[.slice (some ⟨ob, 0, none⟩) 1 1, .slice (some ⟨pg, 0, none⟩) 1 2, .slice (some ⟨w3.heap.size, 0, none⟩) 16 16] (by simp [Act.eval]) HA.out (fun e w' h => by obtain ⟨_, _, rfl, _⟩ := h; exact ⟨_, rfl⟩) ?_; rintro v5 w5 ⟨A5, c5, hv5, h5⟩; injection hv5 with hv5; subst hv5))
 have H5 := Lib.hid (And.intro h5.out.1 (And.intro h5.out.2 (H3B.out.1.trans (h5.out.2.mono H3B.out.1.size))))
 have HT := take_any none (some ⟨ob, 0, none⟩) 0 1 0 1 [] [kR] rfl rfl (by omega) (by omega) w5 rs_nil ((HU.out.1.below H5.out.2.2).more H5.out.2.2.size)
 rw [aw_t] at HT
 have HT := Lib.hid HT
 clear h5 HA hmk hcf
 go_wp2_with fail
 refine HT.out.mono ?_
 rintro e6 w6 ⟨A6, m6, c6, ps6, rfl, h6, b6⟩
 obtain rfl : 1 = m6 := h6.out.2.1
 have H6 := Lib.hid (And.intro h6.out (And.intro b6 (H5.out.2.2.trans (b6.mono H5.out.2.2.size))))
 clear h6 b6 HT
 go_wp2_with fail
 have HW6 : Hid (∃ ga pa oa gb ca' Ar cr, Aa = some ⟨ga, 0, none⟩ ∧ A5 = some ⟨gb, 0, none⟩ ∧ Seen4 w6 ga pa oa pg gb (.slice (some ⟨pa, oa, none⟩) 1 ca') (.slice Ar 1 cr) x0 w6 ∧ Rs w6 0 w6.heap.size Ar [kR]) := Lib.hid (by
  have b36 : Below w3.heap.size w3 w6 := H5.out.2.1.trans (H6.out.2.1.mono H5.out.2.1.size)
  obtain ⟨ga, x, e1, _, hga, q1, _, _, hi1⟩ := (H3B.out.2.2.2.below b36).at (j := 0) rfl (by omega) (s := stepF [kR] [] x0) rfl
  obtain ⟨gb, y, e2, _, hgb, _, _, r3, hi2⟩ := (H5.out.1.below H6.out.2.1).at (j := 0) rfl (by omega) (s := stepF [kR] [x0] x1) rfl
  obtain ⟨pa, oa, e3, hpa, hpc⟩ := hi1.1.2.2 (by show 0 < ([] ++ [x0]).length; simp)
  have c0 := hpc 0 (by show 0 < ([] ++ [x0]).length; simp)
  have b26 : Below w2.heap.size w2 w6 := H3B.out.2.2.1.trans (b36.mono H3B.out.2.2.1.size)
  obtain ⟨pg', og', e4, hpg, hgc⟩ := (HP2.out.1.below b26) (by simp)
  injection e4 with e4
  injection e4 with e4 e5
  subst e4 e5
  have g0 := hgc 0 (by simp)
  obtain ⟨⟨y1, y2, y3⟩, y4, y7, y8, y9⟩ := y
  obtain ⟨⟨z1', z2, z3⟩, z4, z7⟩ := x
  have hl1 : z2 = 1 := hi1.1.1.symm.trans (by show ([] ++ [x0]).length = 1; rfl)
  have hs2 : (stepF [kR] [x0] x1).2.2 = [kR] := by
   have h := aw_s1
   rw [HD.out.1, HD.out.2] at h
   exact h
  have hl2 : y8 = 1 := hi2.2.2.1.symm.trans (by rw [hs2]; rfl)
  have hr2 := hi2.2.2.2.2
  rw [hs2] at hr2
  subst hl1 hl2
  simp only [slV] at q1 r3
  simp only at e3
  subst e3
  have hs26 := b26.size
  exact ⟨ga, pa, oa, gb, z3, y7, y9, e1, e2, ⟨q1, c0, g0, r3, Below.refl _ _, hga, hpa, by omega, hgb⟩, hr2⟩)
 obtain ⟨ga, pa, oa, gb, ca', Ar, cr, rfl, rfl, hS4, hRk⟩ := HW6.out
 have hrd : ∀ W, Seen4 w6 ga pa oa pg gb (.slice (some ⟨pa, oa, none⟩) 1 ca') (.slice Ar 1 cr) x0 W → Below w6.heap.size w6 W := fun W h => h.2.2.2.2.1
 have hown : ∀ W, Below w6.heap.size w6 W → Rs W 0 W.heap.size (some ⟨ob, 0, none⟩) [kR] := fun W h => (HU.out.1.below (H6.out.2.2.trans (h.mono H6.out.2.2.size))).more (Nat.le_trans H6.out.2.2.size h.size)
 have hpp : ∀ W, Below w6.heap.size w6 W → Ns .i64 W W.heap.size (some ⟨pg, 0, none⟩) [x0, x1] := fun W h => by
  have b26 : Below w2.heap.size w2 w6 := H3B.out.2.2.1.trans ((H5.out.2.1.trans (H6.out.2.1.mono H5.out.2.1.size)).mono H3B.out.2.2.1.size)
  exact (HP2.out.1.below (b26.trans (h.mono b26.size))).more (Nat.le_trans b26.size h.size)
 have hc1 : ∀ W, Seen4 w6 ga pa oa pg gb (.slice (some ⟨pa, oa, none⟩) 1 ca') (.slice Ar 1 cr) x0 W → Calls Tryz.prog 20 #[.slice Ar 1 cr, .slice (some ⟨ob, 0, none⟩) 1 1] W (fun e w' => e = .returned (.bool true) ∧ Below W.heap.size W w') := fun W h => by
  have hb := hrd W h
  have h9 := Code.srecs_any Ar (some ⟨ob, 0, none⟩) cr 1 1 1 [kR] [kR] rfl rfl W ((hRk.below hb).more hb.size) (hown W hb) (by omega) (by omega)
  rwa [decide_eq_true rfl] at h9
 have hc2 : ∀ W, Seen4 w6 ga pa oa pg gb (.slice (some ⟨pa, oa, none⟩) 1 ca') (.slice Ar 1 cr) x0 W → Calls Tryz.prog 20 #[.slice A6 1 c6, .slice (some ⟨ob, 0, none⟩) 1 1] W (fun e w' => e = .returned (.bool true) ∧ Below W.heap.size W w') := fun W h => by
  have hb := hrd W h
  have h6r : Rs w6 0 w6.heap.size A6 [kR] := by
   have h := H6.out.1.2.2.2.rs.less (Nat.zero_le _)
   rwa [H6.out.1.1] at h
  have h9 := Code.srecs_any A6 (some ⟨ob, 0, none⟩) c6 1 1 1 [kR] [kR] rfl rfl W ((h6r.below hb).more hb.size) (hown W hb) (by omega) (by omega)
  rwa [decide_eq_true rfl] at h9
 have hc3 : ∀ W, Seen4 w6 ga pa oa pg gb (.slice (some ⟨pa, oa, none⟩) 1 ca') (.slice Ar 1 cr) x0 W → Calls Tryz.prog 21 #[.slice (some ⟨ob, 0, none⟩) 1 1, .slice (some ⟨pg, 0, none⟩) 2 2, .slice none 0 0] W (fun e w' => (∃ A c, e = .returned (.slice A 1 c)) ∧ Below W.heap.size W w') := fun W h => by
  have hb := hrd W h
  have h9 := give_any (some ⟨ob, 0, none⟩) none (some ⟨pg, 0, none⟩) 1 0 2 1 0 2 [kR] [] [x0, x1] rfl rfl rfl (by omega) (by omega) (by omega) W (hown W hb) rs_nil (hpp W hb)
  have e := aw_g0
  rw [HD.out.1, HD.out.2] at e
  rw [e] at h9
  refine h9.mono ?_
  rintro e w' ⟨A, m, c, rfl, h1, h2⟩
  obtain rfl : 1 = m := h1.out.1
  exact ⟨⟨A, c, rfl⟩, h2⟩
 have hc4 : ∀ W, Seen4 w6 ga pa oa pg gb (.slice (some ⟨pa, oa, none⟩) 1 ca') (.slice Ar 1 cr) x0 W → Calls Tryz.prog 21 #[.slice (some ⟨ob, 0, none⟩) 1 1, .slice (some ⟨pg, 0, none⟩) 2 2, .slice (some ⟨ob, 0, none⟩) 1 1] W (fun e w' => (∃ A c, e = .returned (.slice A 0 c)) ∧ Below W.heap.size W w') := fun W h => by
  have hb := hrd W h
  have h9 := give_any (some ⟨ob, 0, none⟩) (some ⟨ob, 0, none⟩) (some ⟨pg, 0, none⟩) 1 1 2 1 1 2 [kR] [kR] [x0, x1] rfl rfl rfl (by omega) (by omega) (by omega) W (hown W hb) (hown W hb) (hpp W hb)
  have e := aw_g1
  rw [HD.out.1, HD.out.2] at e
  rw [e] at h9
  refine h9.mono ?_
  rintro e w' ⟨A, m, c, rfl, h1, h2⟩
  obtain rfl : 0 = m := h1.out.1
  exact ⟨⟨A, c, rfl⟩, h2⟩
 have hc5 : ∀ W, Seen4 w6 ga pa oa pg gb (.slice (some ⟨pa, oa, none⟩) 1 ca') (.slice Ar 1 cr) x0 W → Calls Tryz.prog 14 #[.slice (some ⟨ob, 0, none⟩) 1 1] W (fun e w' => (∃ A c, e = .returned (.slice A 16 c)) ∧ Below W.heap.size W w') := fun W h => by
  have hb := hrd W h
  refine (open_any (some ⟨ob, 0, none⟩) 1 1 [kR] rfl (by omega) W (hown W hb)).mono ?_
  rintro e w' ⟨A, m, c, rfl, h1, h2⟩
  have h3 : (openF [kR]).length = 16 := by
   unfold openF
   rw [if_pos aw_okL]
   unfold kidsF
   rw [if_pos ⟨ok_zero, by simp⟩]
   simp
  obtain rfl : 16 = m := h3.symm.trans h1.out.1
  exact ⟨⟨A, c, rfl⟩, h2⟩
 have HC := Lib.hid (And.intro hc1 (And.intro hc2 (And.intro hc3 (And.intro hc4 hc5))))
 have HS : Hid (Seen4 w6 ga pa oa pg gb (.slice (some ⟨pa, oa, none⟩) 1 ca') (.slice Ar 1 cr) x0 w6.drew) := Lib.hid ⟨hS4.1, hS4.2.1, hS4.2.2.1, hS4.2.2.2.1, hS4.2.2.2.2.1.drew, hS4.2.2.2.2.2⟩
 clear hS4 hRk hrd hown hpp hc1 hc2 hc3 hc4 hc5 HW6
 dsimp only [List.append]
 go_region_held3 (fun W => W.cell? ⟨ga, 0, none⟩ = some (.slice (some ⟨pa, oa, none⟩) 1 ca') ∧ W.cell? ⟨pa, oa, none⟩ = some (.int .i64 x0) ∧ W.cell? ⟨pg, 0, none⟩ = some (.int .i64 x0) ∧ W.cell? ⟨gb, 2, none⟩ = some (.slice Ar 1 cr) ∧ Below w6.heap.size w6 W ∧ ga < w6.heap.size ∧ pa < w6.heap.size ∧ pg < w6.heap.size ∧ gb < w6.heap.size)
  (first
   | exact HS.out
   | exact seen4_keep (by assumption) (by assumption))
  (first
   | (go_at_call 20; (fail_if_success have _t := K1); refine (HC.out.1 _ (by assumption)).mono ?_; rintro e7 w7 ⟨rfl, bb1⟩; have K1 := Lib.hid bb1)
   | (go_at_call 20; refine (HC.out.2.1 _ (by assumption)).mono ?_; rintro e8 w8 ⟨rfl, bb2⟩)
   | (go_at_call 21; (fail_if_success have _t := K2); refine (HC.out.2.2.1 _ (by assumption)).mono ?_; rintro e9 w9 ⟨⟨A9, c9, rfl⟩, bb3⟩; have K2 := Lib.hid bb3)
   | (go_at_call 21; refine (HC.out.2.2.2.1 _ (by assumption)).mono ?_; rintro e10 w10 ⟨⟨A10, c10, rfl⟩, bb4⟩)
   | (go_at_call 14; refine (HC.out.2.2.2.2 _ (by assumption)).mono ?_; rintro e11 w11 ⟨⟨A11, c11, rfl⟩, bb5⟩))
 all_goals
  have hb11 : Below w6.heap.size w6 w11 := ((Below.refl _ w6).drew).trans (bb1.trans ((bb2.mono bb1.size).trans ((bb3.mono (Nat.le_trans bb1.size bb2.size)).trans ((bb4.mono (Nat.le_trans bb1.size (Nat.le_trans bb2.size bb3.size))).trans (bb5.mono (Nat.le_trans bb1.size (Nat.le_trans bb2.size (Nat.le_trans bb3.size bb4.size))))))))
  have HF : Hid (Below w.heap.size w w11) := Lib.hid ((HU.out.2.trans (H6.out.2.2.mono HU.out.2.size)).trans (hb11.mono (Nat.le_trans HU.out.2.size H6.out.2.2.size)))
  clear hb11 bb1 bb2 bb3 bb4 bb5 K1 K2 HC HS
  go_wp2_with fail
  go_ret
  exact ⟨rfl, HF.out⟩
end Mend
end Go.Proofs.YtekhaejhmlebbaaGreat
