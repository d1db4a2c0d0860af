/-
  Several texts of this family in one: TreeKids.
-/
import Derived.Test.YtkfdplfgaddkmaaGreatK17
import Derived.Test.YtkfdplfgaddkmaaGreatK16
import Derived.OwnWalk
/-
 The hashes of the places one digit longer, where the hash of each can be told.
-/
namespace Go.Proofs.YtkfdplfgaddkmaaGreat
namespace Tree
open Go.RowKit Vers Num Ring Disk Blk
open Go.Proofs.YtkfdplfgaddkmaaGreat.Code hiding Bn
attribute [local go_sem ↓] Go.wp_at_zero Go.wp_at_succ

theorem info_u64 : (Tryz.prog.info? 78).map (fun i => (i.zero, i.size, i.bytes)) = some (some (.int .u64 0), 1, 8) := by kernel_rfl
def Told (F : Nat → Prop) (tb : Nat) (mv : Nat → Option Nat) (f : Fp) (all : List Rc) (Bz : List Int → Prop) (x : Int) (w : World) (e : Ending) (w' : World) : Prop :=
 e = .returned (.int .u64 x) ∧ Hid (TR F w' tb mv f all Bz ∧ Chg (fun k => k = tb) w w')
def HashC (k : Nat) : Prop := ∀ (F : Nat → Prop) (w : World) (tb : Nat) (mv : Nat → Option Nat) (f : Fp) (all : List Rc) (Bz : List Int → Prop), TR F w tb mv f all Bz → all.length ≤ 3518437208882 →
 ∀ (A : Option Addr) (c n : Nat) (p : List Int), p.length = n → okP p → p.length + k = 2 → Ns .i64 w w.heap.size A p → (∀ q, okP q → p <+: q → ¬ Bz q) → Calls Tryz.prog 74 #[hd tb, .slice A n c] w (Told F tb mv f all Bz (hF k all p) w)
def KidsP (F : Nat → Prop) (tb : Nat) (mv : Nat → Option Nat) (f : Fp) (all : List Rc) (Bz : List Int → Prop) (zs : List Int) (w : World) (e : Ending) (w' : World) : Prop :=
 ∃ g, e = .returned (.slice (some ⟨g, 0, none⟩) 16 16) ∧ Hid (w.heap.size ≤ g ∧ Bn g 78 (nums .u64 zs) w' ∧ TR F w' tb mv f all Bz ∧ Chg (fun k => k = tb) w w')
def kr (h : Nat → Int) (k : Nat) : List Int := (List.range 16).map fun d => if d < k then h d else 0
theorem kr_set (h : Nat → Int) {k : Nat} (hk : k < 16) : (nums .u64 (kr h k)).set k (.int .u64 (h k)) = nums .u64 (kr h (k + 1)) := by
 refine List.ext_getElem? fun i => ?_
 unfold nums kr
 by_cases e : i = k
 ·subst e
  rw [List.getElem?_set_self (by simpa using hk)]
  simp [hk]
 ·rw [List.getElem?_set_ne (fun q => e q.symm)]
  by_cases hi : i < 16
  ·simp only [List.map_map, List.getElem?_map, List.getElem?_range hi, Option.map_some, Function.comp_apply]
   by_cases h1 : i < k
   ·rw [if_pos h1, if_pos (by omega)]
   ·rw [if_neg h1, if_neg (by omega)]
  ·rw [List.getElem?_eq_none (by simp; omega), List.getElem?_eq_none (by simp; omega)]
theorem kr_full (h : Nat → Int) : kr h 16 = (List.range 16).map h := by
 unfold kr
 refine List.map_congr_left fun d hd => ?_
 rw [if_pos (List.mem_range.1 hd)]
theorem own_full {w : World} {base : Nat} {e : TypeId} {g n : Nat} {xs : List Value} (h : w.ownsRow base e 1 (.slice (some ⟨g, 0, none⟩) n n) n xs) : Bn g e xs w := by
 rcases h.2 with ⟨hv, h0⟩ | ⟨g', cap, cur, hv, hbg, hg, hn, hcm, hcs, htake⟩
 ·cases hv
 ·injection hv with h1 h2 h3
  injection h1 with h1
  injection h1 with h1
  subst h1 h3
  have e1 : cur.toList.take (n * 1) = cur.toList := List.take_of_length_le (by rw [Array.length_toList]; omega)
  rw [e1] at htake
  show w.heap[g]? = _
  rw [hg, ← htake]
theorem bn_ns {w : World} {g : Nat} {e : TypeId} {k : IntKind} {zs : List Int} (h : Bn g e (nums k zs) w) : Ns k w w.heap.size (some ⟨g, 0, none⟩) zs := fun _ => ⟨g, 0, rfl, h.lt, fun j hj => by
 rw [Nat.zero_add, h.cell j]
 simp [nums, List.getD_eq_getElem?_getD, hj]⟩
theorem spot_onto {s : Nat} (h : s < 273) : ∃ p, okP p ∧ spotN p = s := by
 by_cases h0 : s = 0
 ·exact ⟨[], ok_zero, h0.symm⟩
 by_cases h1 : s < 17
 ·exact ⟨[(s : Int) - 1], ok_one.2 (by omega), by simp only [spotN]; omega⟩
 ·exact ⟨[((s : Int) - 17) / 16, ((s : Int) - 17) % 16], ok_two.2 (by omega), by simp only [spotN]; omega⟩
theorem Cells.noint {L : List Value} {mv : Nat → Option Nat} {all : List Rc} {Bz : List Int → Prop} (h : Cells L mv all Bz) {j : Nat} {x : Int} (e : L[j]? = some (.int .i64 x)) : False := by
 obtain ⟨h1, h2, h3⟩ := h
 have hj : j < 1348 := by
  rcases Nat.lt_or_ge j L.length with q | q
  ·omega
  ·rw [List.getElem?_eq_none q] at e; cases e
 by_cases hs : j < 256
 ·rw [h2 j hs] at e; injection e with e; cases e
 ·obtain ⟨p, hp, hsp⟩ := spot_onto (s := (j - 256) / 4) (by omega)
  obtain ⟨d, k, y, s0, s1, s2, s3, _, _⟩ := h3 p hp
  rw [hsp] at s0 s1 s2 s3
  have hm : j = 256 + 4 * ((j - 256) / 4) ∨ j = 256 + 4 * ((j - 256) / 4) + 1 ∨ j = 256 + 4 * ((j - 256) / 4) + 2 ∨ j = 256 + 4 * ((j - 256) / 4) + 3 := by omega
  rcases hm with q | q | q | q <;> rw [q] at e
  ·rw [s0] at e; injection e with e; injection e with e; cases e
  ·rw [s1] at e; injection e with e; injection e with e; cases e
  ·rw [s2] at e; injection e with e; injection e with e; cases e
  ·rw [s3] at e; injection e with e; injection e with e; cases e
section
variable {F : Nat → Prop} {w : World} {tb : Nat} {mv : Nat → Option Nat} {f : Fp} {all : List Rc} {Bz : List Int → Prop}
theorem TR.ns {w' : World} (h : TR F w tb mv f all Bz) (hc : Chg (fun k => k = tb) w w') {A : Option Addr} {p : List Int} (hr : Ns .i64 w w.heap.size A p) : Ns .i64 w' w'.heap.size A p := fun hp => by
 obtain ⟨b, off, e, hb, hx⟩ := hr hp
 have hne : b ≠ tb := fun q => by
  subst q
  obtain ⟨⟨L, h1, h2⟩, _⟩ := h
  have h3 := hx 0 hp
  rw [h1.cell] at h3
  exact h2.noint h3
 exact ⟨b, off, e, Nat.lt_of_lt_of_le hb hc.size, fun j hj => (World.cell?_of_block (hc.block b hb hne)).trans (hx j hj)⟩
theorem vs_kept {w' : World} (hs : w.heap.size ≤ w'.heap.size) (hk : ∀ b off x, b < w.heap.size → w.cell? ⟨b, off, none⟩ = some (.int .i64 x) → w'.heap[b]? = w.heap[b]?) {A : Option Addr} {l : List Vr} (h : Vs w 0 w.heap.size A l) : Vs w' 0 w'.heap.size A l := fun hp => by
 obtain ⟨b, off, e, h1, h2, hc⟩ := h hp
 have hb : w'.heap[b]? = w.heap[b]? := by
  obtain ⟨A', c', h3⟩ := hc 0 hp
  exact hk b _ _ h2 h3.1
 refine ⟨b, off, e, h1, Nat.lt_of_lt_of_le h2 hs, fun j hj => ?_⟩
 obtain ⟨A', c', v0, v1, v2, v3, v4, hpa, q⟩ := hc j hj
 refine ⟨A', c', (World.cell?_of_block hb).trans v0, (World.cell?_of_block hb).trans v1, (World.cell?_of_block hb).trans v2, (World.cell?_of_block hb).trans v3, (World.cell?_of_block hb).trans v4, fun hp2 => ?_, q⟩
 obtain ⟨b2, off2, e2, h4, hc2⟩ := hpa hp2
 have hb2 : w'.heap[b2]? = w.heap[b2]? := hk b2 _ _ h4 (hc2 0 hp2).1
 exact ⟨b2, off2, e2, Nat.lt_of_lt_of_le h4 hs, fun j hj => ⟨(World.cell?_of_block hb2).trans (hc2 j hj).1, (World.cell?_of_block hb2).trans (hc2 j hj).2.1, (World.cell?_of_block hb2).trans (hc2 j hj).2.2⟩⟩
theorem TR.vs {w' : World} (h : TR F w tb mv f all Bz) (hc : Chg (fun k => k = tb) w w') {A : Option Addr} {l : List Vr} (hv : Vs w 0 w.heap.size A l) : Vs w' 0 w'.heap.size A l :=
 vs_kept hc.size (fun b off x hb hx => hc.block b hb fun q => by
  have q : b = tb := q
  subst q
  obtain ⟨⟨L, h1, h2⟩, _⟩ := h
  rw [h1.cell] at hx
  exact h2.noint hx) hv
set_option maxRecDepth 100000 in
set_option maxHeartbeats 2000000 in
theorem kids_some {k : Nat} (HK : HashC k) (h : TR F w tb mv f all Bz) (hN : all.length ≤ 3518437208882) (A : Option Addr) (c n : Nat) (p : List Int) (hn : p.length = n) (hp : okP p) (hk : p.length + (k + 1) = 2) (hr : Ns .i64 w w.heap.size A p) (hb : ∀ q, okP q → p <+: q → q ≠ p → ¬ Bz q) :
  Calls Tryz.prog 50 #[hd tb, .slice A n c] w (KidsP F tb mv f all Bz ((List.range 16).map fun (d : Nat) => hF k all (p ++ [(d : Int)])) w) := by
 obtain ⟨i0, hi, hz0, hz1, hz2⟩ := info_parts info_u64
 have hn2 : n ≤ 1 := by omega
 have hp2 : p.length < 2 := by omega
 have H0 := Lib.hid (isPath_any A c n p hn (by omega) w hr)
 rw [decide_eq_true hp] at H0
 have e1 : decide ((2 : Int) ≤ (n : Int)) = false := decide_eq_false (by omega)
 have HL : Hid (∀ (W : World) (d : Nat), Ns .i64 W W.heap.size A p → Calls Tryz.prog 75 #[.slice A n c, .int .i64 (d : Int)] W (OwnI (p ++ [(d : Int)]) (n + 1) W)) := Lib.hid fun W d hW => longer_any A c n p hn (by omega) d W hW
 have HH : Hid (∀ (W : World) (d : Nat) (A1 : Option Addr) (c1 : Nat), d < 16 → TR F W tb mv f all Bz → Ns .i64 W W.heap.size A1 (p ++ [(d : Int)]) → Calls Tryz.prog 74 #[hd tb, .slice A1 (n + 1) c1] W (Told F tb mv f all Bz (hF k all (p ++ [(d : Int)])) W)) := Lib.hid fun W d A1 c1 hd hT hW =>
  HK F W tb mv f all Bz hT hN A1 c1 (n + 1) (p ++ [(d : Int)]) (by simp [hn]) (ok_longer hp hp2 hd) (by simp; omega) hW fun q hq hpq => hb q hq ((List.prefix_append p _).trans hpq) fun e => by
   rw [e] at hpq
   have h9 := hpq.length_le
   simp only [List.length_append, List.length_cons, List.length_nil] at h9
   omega
 obtain ⟨h', hh'⟩ : ∃ h' : Nat → Int, (fun (d : Nat) => hF k all (p ++ [(d : Int)])) = h' := ⟨_, rfl⟩
 have HV : Hid (∀ d : Nat, hF k all (p ++ [(d : Int)]) = h' d) := Lib.hid fun d => congrFun hh' d
 rw [hh']
 have HP := Lib.hid (And.intro hn hr)
 have HT := Lib.hid h
 clear hh' hn hr hb HK hp h
 unfold hd
 go_enter Tryz.func50, Tryz.ntmps50
 go_wp2_with fail
 refine H0.out.mono ?_
 rintro e w1 ⟨rfl, rfl⟩
 go_wp2_with (at_make; refine wpList_make_full _ rfl _ _ 33 rfl w.heap.size 78 i0 _ 1 Tryz.underlying33 hi hz0 hz1 _ _ _ _ 16 rfl rfl rfl rfl (by rw [hz2]; omega) (by unfold maxLen; omega) (Nat.le_refl _) ?_; intro w1 o1 g1)
 have hlt := HT.out.lt _ HT.out.own
 have hb1 : Below w.heap.size w w1 := (Below.refl _ _).grown g1 (Nat.le_refl _) (fun j hj => by cases hj)
 obtain ⟨g, hg⟩ : ∃ g, w.heap.size = g := ⟨_, rfl⟩
 have hne : g ≠ tb := by omega
 have HI : Hid (Bn g 78 (nums .u64 (kr h' 0)) w1 ∧ TR F w1 tb mv f all Bz ∧ Chg (fun k => k = tb) w w1) := Lib.hid ⟨by
  rw [← hg]
  have := own_full o1
  rwa [show (madeCells (Value.int IntKind.u64 0).cells (16 * 1)).toList = nums .u64 (kr h' 0) by
   rw [show (Value.int .u64 0).cells = #[Value.int .u64 0] from rfl, Nat.mul_one, toList_madeCells_one]
   rfl] at this, HT.out.below hb1, Chg.of_below hb1⟩
 rw [hg]
 have HG := Lib.hid hg
 clear hg o1 g1 hb1
 go_loopw [18] (fun q wr => ∃ d : Nat, q = .int .i64 d ∧ d ≤ 16 ∧ Hid (Bn g 78 (nums .u64 (kr h' d)) wr ∧ TR F wr tb mv f all Bz ∧ Chg (fun k => k = tb) w wr)) (fun q _ => 16 - (intOf q).toNat)
 case atStart => exact ⟨0, rfl, by omega, HI.out⟩
 case round =>
  clear HI
  obtain ⟨d, rfl, hd16, hst⟩ := hrel
  by_cases hlt16 : d < 16
  ·have d1 : (0 : Int) ≤ (d : Int) := by omega
   have d2 : (d : Int) < 16 := by omega
   have hns := HT.out.ns hst.out.2.2 HP.out.2
   have hK := Lib.hid (HL.out wr d hns)
   clear hns
   go_wp2_with fail
   refine hK.out.mono ?_
   rintro e w2 ⟨A1, c1, rfl, o1, b2⟩
   have hT2 := hst.out.2.1.below b2
   have hn1 : (p ++ [(d : Int)]).length = n + 1 := by simp [HP.out.1]
   have hns2 : Ns .i64 w2 w2.heap.size A1 (p ++ [(d : Int)]) := by
    have h := o1.out
    rw [← hn1] at h
    exact own_ns h
   have hH := Lib.hid (HH.out w2 d A1 c1 hlt16 hT2 hns2)
   have HB2 := Lib.hid (And.intro b2 hst.out)
   clear hns2 hn1 hT2 o1 b2 hst hK
   go_wp2_with fail
   refine hH.out.mono ?_
   rintro e w3 ⟨rfl, h3⟩
   rw [HV.out d]
   have hB3 : Bn g 78 (nums .u64 (kr h' d)) w3 := by
    have h1 := HB2.out.2.1
    have h2 := h1.same (HB2.out.1.block g h1.lt)
    exact h2.same (h3.out.2.block g h2.lt hne)
   have c0 : w3.cell? ⟨g, d, none⟩ = some (.int .u64 0) := by
    rw [hB3.cell d]
    simp [nums, kr, hlt16]
   have z0 := hB3.frozen d
   have HF : Hid (Bn g 78 (nums .u64 (kr h' (d + 1))) (w3.setCell ⟨g, d, none⟩ (.int .u64 (h' d))) ∧ TR F (w3.setCell ⟨g, d, none⟩ (.int .u64 (h' d))) tb mv f all Bz ∧ Chg (fun k => k = tb) w (w3.setCell ⟨g, d, none⟩ (.int .u64 (h' d)))) := Lib.hid ⟨by
     rw [← kr_set h' hlt16]
     exact hB3.set d _, h3.out.1.nokept (gset _ _ _ _) (fun j hj hF => by
     injection hj with hj
     have := HT.out.lt _ hF
     have := HG.out
     omega), ((HB2.out.2.2.2.trans (Chg.of_below (F := fun k => k = tb) HB2.out.1) (fun j hj => .inl hj)).trans h3.out.2 (fun j hj => .inl hj)).trans (Chg.of_grown (F := fun j => j = g) (gset _ _ _ _) (fun j hj => by injection hj with hj; exact hj.symm)) (fun j hj => .inr (by rw [hj, HG.out]; exact Nat.le_refl _))⟩
   clear hB3 hH HB2 h3
   go_wp2_with fail
   go_roundw
   case rel => exact ⟨d + 1, by go_num, by omega, HF⟩
   case measure => simp only [intOf]; omega
  ·have hd' : d = 16 := by omega
   subst hd'
   rw [kr_full] at hst
   go_wp2_with fail
   go_ret
   exact ⟨g, rfl, Lib.hid ⟨by rw [HG.out]; exact Nat.le_refl _, hst.out⟩⟩
end
end Tree
end Go.Proofs.YtkfdplfgaddkmaaGreat
