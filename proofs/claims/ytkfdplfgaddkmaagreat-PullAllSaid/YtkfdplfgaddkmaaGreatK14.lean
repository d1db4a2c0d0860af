/-
  Several texts of this family in one: TreeSpot, TreeHash, TreeTurn, TreeSet, MendUnder, VersMore, VersLawRow.
-/
import Derived.Test.YtkfdplfgaddkmaaGreatK11
import Derived.Test.YtkfdplfgaddkmaaGreatK13
import Derived.Test.YtkfdplfgaddkmaaGreatK3
import Derived.Deep.RegionHeld3
import Derived.Deep.DrawnRows
import Derived.Test.YtkfdplfgaddkmaaGreatK12
import Derived.Test.YtkfdplfgaddkmaaGreatK10
import Derived.WalkSpells
import Derived.Deep.DeepCutAuto
import Derived.Deep.CutBlock
import Derived.Test.YtkfdplfgaddkmaaGreatK9
import Derived.Test.YtkfdplfgaddkmaaGreatK7
import Derived.Deep.DeepAppendWide
/-
 A spot is locked, gets its hash, is done.
-/
namespace Go.Proofs.YtkfdplfgaddkmaaGreat
namespace Tree
open Go.RowKit Vers Num Ring Disk Blk
open Go.Proofs.YtkfdplfgaddkmaaGreat.Code hiding Bn
def offN (p : List Int) : Nat := 256 + 4 * spotN p
section
variable {F : Nat → Prop} {w : World} {tb : Nat} {mv : Nat → Option Nat} {f : Fp} {all : List Rc} {Bz : List Int → Prop} {p : List Int}
theorem off_lt (hp : okP p) : offN p + 4 ≤ 1348 := by
 have := spot_lt hp
 unfold offN
 omega
theorem TR.spots (h : TR F w tb mv f all Bz) (hp : okP p) : ∃ d k x : Int, w.cell? ⟨tb, offN p, none⟩ = some (.int .u32 d) ∧ w.cell? ⟨tb, offN p + 1, none⟩ = some (.int .i32 k) ∧ w.cell? ⟨tb, offN p + 3, none⟩ = some (.int .u64 x) ∧ (∀ j, w.frozen? ⟨tb, j, none⟩ = false) ∧
  (Bz p → d = 0 ∧ k = 1) ∧ (¬ Bz p → k = 0 ∧ (d = 0 ∨ (d = 1 ∧ x = hashF all p))) := by
 obtain ⟨L, h1, h2, d, k, x, s0, s1, s2, s3, s4, s5⟩ := h.spot hp
 exact ⟨d, k, x, (h1.cell _).trans s0, (h1.cell _).trans s1, (h1.cell _).trans s3, fun j => h1.frozen j, s4, s5⟩
theorem TR.lock (h : TR F w tb mv f all Bz) (hp : okP p) (_hb : ¬ Bz p) (h0 : w.cell? ⟨tb, offN p, none⟩ = some (.int .u32 0)) : TR F (w.setCell ⟨tb, offN p + 1, none⟩ (.int .i32 1)) tb mv f all (fun q => Bz q ∨ q = p) := by
 obtain ⟨L, h1, h2, d, k, x, s0, s1, s2, s3, s4, s5⟩ := h.spot hp
 have hl := off_lt hp
 have hL := h2.1
 have e0 : L[256 + 4 * spotN p]? = some (.int .u32 0) := by rw [← h1.cell]; exact h0
 rw [s0] at e0
 have ed : d = 0 := by injection e0 with e0; injection e0
 unfold offN at hl ⊢
 refine h.turn (gset _ _ _ _) (h1.set _ _) (h2.set hp (by simp) (fun j hj => List.getElem?_set_ne (by omega)) ⟨d, 1, x, (List.getElem?_set_ne (by omega)).trans s0, List.getElem?_set_self (by omega), (List.getElem?_set_ne (by omega)).trans s2, (List.getElem?_set_ne (by omega)).trans s3, fun _ => ⟨ed, rfl⟩, fun hn => absurd (.inr rfl) hn⟩ fun q hq => ?_)
 constructor
 ·rintro (h | h)
  ·exact h
  ·exact absurd h hq
 ·exact .inl
theorem TR.hashed (h : TR F w tb mv f all Bz) (hp : okP p) (hb : Bz p) (y : Int) : TR F (w.setCell ⟨tb, offN p + 3, none⟩ (.int .u64 y)) tb mv f all Bz := by
 obtain ⟨L, h1, h2, d, k, x, s0, s1, s2, s3, s4, s5⟩ := h.spot hp
 have hl := off_lt hp
 have hL := h2.1
 unfold offN at hl ⊢
 exact h.turn (gset _ _ _ _) (h1.set _ _) (h2.set hp (by simp) (fun j hj => List.getElem?_set_ne (by omega)) ⟨d, k, y, (List.getElem?_set_ne (by omega)).trans s0, (List.getElem?_set_ne (by omega)).trans s1, (List.getElem?_set_ne (by omega)).trans s2, List.getElem?_set_self (by omega), s4, fun hn => absurd hb hn⟩ fun q _ => Iff.rfl)
theorem TR.done {Bz' : List Int → Prop} (h : TR F w tb mv f all Bz') (hp : okP p) (hB : ∀ q, q ≠ p → (Bz q ↔ Bz' q)) (hb : ¬ Bz p) (h3 : w.cell? ⟨tb, offN p + 3, none⟩ = some (.int .u64 (hashF all p))) : TR F ((w.drew.setCell ⟨tb, offN p, none⟩ (.int .u32 1)).setCell ⟨tb, offN p + 1, none⟩ (.int .i32 0)) tb mv f all Bz := by
 obtain ⟨L, h1, h2, d, k, x, s0, s1, s2, s3, s4, s5⟩ := h.spot hp
 have hl := off_lt hp
 have hL := h2.1
 have e0 : L[256 + 4 * spotN p + 3]? = some (.int .u64 (hashF all p)) := by rw [← h1.cell]; exact h3
 rw [s3] at e0
 have ex : x = hashF all p := by injection e0 with e0; injection e0
 unfold offN at hl ⊢
 have g1 : w.grownBy w.drew (some tb) := ⟨rfl, rfl, rfl, Nat.le_refl _, fun _ _ _ => rfl⟩
 have hd : Bn tb 139 L w.drew := h1.same rfl
 refine TR.turn h (w' := (w.drew.setCell ⟨tb, 256 + 4 * spotN p, none⟩ (.int .u32 1)).setCell ⟨tb, 256 + 4 * spotN p + 1, none⟩ (.int .i32 0)) (grown_trans_one (grown_trans_one g1 (gset w.drew tb (256 + 4 * spotN p) (.int .u32 1))) (gset _ tb _ _)) ((hd.set (256 + 4 * spotN p) (.int .u32 1)).set (256 + 4 * spotN p + 1) (.int .i32 0)) (h2.set hp (by simp) (fun j hj => ?_) ⟨1, 0, x, ?_, ?_, ?_, ?_, fun hn => absurd hn hb, fun _ => ⟨rfl, .inr ⟨rfl, ex⟩⟩⟩ fun q hq => hB q hq)
 ·rw [List.getElem?_set_ne (by omega), List.getElem?_set_ne (by omega)]
 ·rw [List.getElem?_set_ne (by omega), List.getElem?_set_self (by omega)]
 ·rw [List.getElem?_set_self (by simp; omega)]
 ·rw [List.getElem?_set_ne (by omega), List.getElem?_set_ne (by omega)]; exact s2
 ·rw [List.getElem?_set_ne (by omega), List.getElem?_set_ne (by omega)]; exact s3
end
end Tree
end Go.Proofs.YtkfdplfgaddkmaaGreat

/-
 The hash of a place: made when it is first asked for.
-/
namespace Go.Proofs.YtkfdplfgaddkmaaGreat
namespace Tree
open Go.RowKit Vers Num Ring Disk Blk
open Go.Proofs.YtkfdplfgaddkmaaGreat.Code hiding Bn
attribute [local go_sem ↓] Go.wp_at_zero Go.wp_at_succ

section
variable {F : Nat → Prop} {w : World} {tb : Nat} {mv : Nat → Option Nat} {f : Fp} {all : List Rc} {Bz : List Int → Prop} {p : List Int}
set_option maxRecDepth 100000 in
set_option maxHeartbeats 2000000 in
theorem make_any {k : Nat} (HW : WorkC k) (h : TR F w tb mv f all Bz) (hN : all.length ≤ 3518437208882) (A : Option Addr) (c n m : Nat) (hn : p.length = n) (hp : okP p) (hk : p.length + k = 2) (hr : Ns .i64 w w.heap.size A p) (hb : ∀ q, okP q → p <+: q → q ≠ p → ¬ Bz q) (hbp : Bz p) (hm : ¬ m = tb ∧ ¬ m + 1 = tb ∧ ¬ m + 2 = tb)
  (B0 : Bn m 80 [hd tb] w) (B1 : Bn (m + 1) 24 [.slice A n c] w) (B2 : Bn (m + 2) 156 [.pointer (some ⟨tb, offN p, none⟩)] w) :
  Calls Tryz.prog 94 #[.pointer (some ⟨m, 0, none⟩), .pointer (some ⟨m + 1, 0, none⟩), .pointer (some ⟨m + 2, 0, none⟩)] w
   (Once.Held tb (offN p) (fun w' => TR F w' tb mv f all Bz ∧ w'.cell? ⟨tb, offN p + 3, none⟩ = some (.int .u64 (hF k all p)) ∧ Chg (fun j => j = tb) w w')) := by
 have H1 := Lib.hid (fun (W : World) (hT : TR F W tb mv f all Bz) (hW : Ns .i64 W W.heap.size A p) => HW F W tb mv f all Bz hT hN A c n p hn hp hk hW hb)
 obtain ⟨x, hx⟩ : ∃ x, hF k all p = x := ⟨_, rfl⟩
 rw [hx] at H1 ⊢
 have HT := Lib.hid (And.intro h (And.intro hr (And.intro hp hbp)))
 obtain ⟨off, hoff⟩ : ∃ off, offN p = off := ⟨_, rfl⟩
 have HO := Lib.hid hoff
 rw [hoff] at B2 ⊢
 have a0 := B0.cell 0
 have a1 := B1.cell 0
 have a2 := B2.cell 0
 simp only [List.getElem?_cons_zero] at a0 a1 a2
 have l0 := B0.lt
 have l1 := B1.lt
 have l2 := B2.lt
 clear hx h hr hp hbp hb hk hn HW hoff B0 B1 B2
 unfold hd at H1 a0
 go_enter Tryz.func94, Tryz.ntmps94
 go_wp2_with fail
 have n0 : ∀ j, (⟨tb, j, none⟩ : Addr) ≠ ⟨m, 0, none⟩ := fun j q => hm.1 (by injection q with q; exact q.symm)
 have n1 : ∀ j, (⟨tb, j, none⟩ : Addr) ≠ ⟨m + 1, 0, none⟩ := fun j q => hm.2.1 (by injection q with q; exact q.symm)
 have n2 : ∀ j, (⟨tb, j, none⟩ : Addr) ≠ ⟨m + 2, 0, none⟩ := fun j q => hm.2.2 (by injection q with q; exact q.symm)
 have HNN := Lib.hid (And.intro n0 (And.intro n1 n2))
 have HK : Hid (Calls Tryz.prog 95 #[.pointer (some ⟨tb, 0, none⟩), .slice A n c] w.drew fun e w2 => e = .returned (.int .u64 x) ∧ w2.cell? ⟨m, 0, none⟩ = some (.pointer (some ⟨tb, 0, none⟩)) ∧ w2.cell? ⟨m + 1, 0, none⟩ = some (.slice A n c) ∧ w2.cell? ⟨m + 2, 0, none⟩ = some (.pointer (some ⟨tb, off, none⟩)) ∧ (∃ y, w2.cell? ⟨tb, off + 3, none⟩ = some (.int .u64 y)) ∧ w2.frozen? ⟨tb, off + 3, none⟩ = false ∧ Hid (TR F w2 tb mv f all Bz ∧ Chg (fun j => j = tb) w w2)) := Lib.hid (by
  refine (H1.out w.drew (HT.out.1.keep (Nat.le_refl _) fun _ _ => rfl) HT.out.2.1.drew).mono ?_
  rintro e w2 ⟨he, h2⟩
  have hch : Chg (fun j => j = tb) w w2 := (show Chg (fun j => j = tb) w w.drew from ⟨rfl, rfl, rfl, Nat.le_refl _, fun _ _ _ => rfl⟩).trans h2.out.2 (fun j hj => .inl hj)
  obtain ⟨d, k', y, s0, s1, s3, sf, _⟩ := h2.out.1.spots HT.out.2.2.1
  rw [HO.out] at s3
  exact ⟨he, (World.cell?_of_block (hch.block _ l0 hm.1)).trans a0, (World.cell?_of_block (hch.block _ l1 hm.2.1)).trans a1, (World.cell?_of_block (hch.block _ l2 hm.2.2)).trans a2, ⟨y, s3⟩, sf _, Lib.hid ⟨h2.out.1, hch⟩⟩)
 clear n0 n1 n2 H1
 go_region_held3 (fun V => V.cell? ⟨m, 0, none⟩ = some (.pointer (some ⟨tb, 0, none⟩)) ∧ V.cell? ⟨m + 1, 0, none⟩ = some (.slice A n c) ∧ V.cell? ⟨m + 2, 0, none⟩ = some (.pointer (some ⟨tb, off, none⟩)))
  (first | exact ⟨a0, a1, a2⟩ | (refine ⟨?_, ?_, ?_⟩ <;> assumption) | exact ⟨(World.cell?_setCell_other _ _ _ _ (HNN.out.1 _)).trans (by assumption), (World.cell?_setCell_other _ _ _ _ (HNN.out.2.1 _)).trans (by assumption), (World.cell?_setCell_other _ _ _ _ (HNN.out.2.2 _)).trans (by assumption)⟩)
  (first
   | (go_at_call 95; refine HK.out.mono ?_; rintro e w2 ⟨rfl, q0, q1, q2, ⟨y, q3⟩, q4, h2⟩))
 have hT := h2.out.1.hashed HT.out.2.2.1 HT.out.2.2.2 x
 rw [HO.out] at hT
 obtain ⟨d, k', y', s0, s1, s3, sf, sb, _⟩ := hT.spots HT.out.2.2.1
 obtain ⟨e0, e1⟩ := sb HT.out.2.2.2
 rw [HO.out, e0] at s0
 rw [HO.out, e1] at s1
 have s3' : (w2.setCell ⟨tb, off + 3, none⟩ (.int .u64 x)).cell? ⟨tb, off + 3, none⟩ = some (.int .u64 x) := World.cell?_setCell_same _ _ _ q3
 exact bodyPost_end (v := .tuple #[]) (results_none rfl _ _ _) rfl ⟨rfl, ⟨hT, s3', h2.out.2.trans (Chg.of_grown (F := fun j => j = tb) (gset _ _ _ _) (fun j hj => by injection hj with hj; exact hj.symm)) (fun j hj => .inl hj)⟩, s0, s1, sf _, sf _⟩

def Laid3 (F : Nat → Prop) (w : World) (tb : Nat) (mv : Nat → Option Nat) (f : Fp) (all : List Rc) (Bz : List Int → Prop) (m : Nat) (A : Option Addr) (n c : Nat) (p : List Int) (off : Nat) (X : World) : Prop :=
 Bn m 80 [.pointer (some ⟨tb, 0, none⟩)] X ∧ Bn (m + 1) 24 [.slice A n c] X ∧ Bn (m + 2) 156 [.pointer (some ⟨tb, off, none⟩)] X ∧ Below w.heap.size w X ∧ TR F X tb mv f all Bz ∧ Ns .i64 X X.heap.size A p
set_option maxRecDepth 100000 in
set_option maxHeartbeats 2000000 in
theorem hash_work {k : Nat} (HW : WorkC k) : HashC k := by
 intro F w tb mv f all Bz h hN A c n p hn hp hk hr hb
 have hbp : ¬ Bz p := hb p hp (List.prefix_refl p)
 have hlt := h.lt _ h.own
 obtain ⟨m, hm⟩ : ∃ m, w.heap.size = m := ⟨_, rfl⟩
 obtain ⟨U, hU⟩ : ∃ U, (w.alloc (.cells #[hd tb] 80)).alloc (.cells #[.slice A n c] 24) = U := ⟨_, rfl⟩
 have hbU : Below w.heap.size w U := by rw [← hU]; exact ((Below.refl _ _).alloc (Nat.le_refl _) _).alloc (by simp) _
 have sU : U.heap.size = m + 2 := by rw [← hU, ← hm]; simp
 have B0 : Bn m 80 [hd tb] U := by
  rw [← hU, ← hm]
  exact (show Bn w.heap.size 80 [hd tb] (w.alloc (.cells #[hd tb] 80)) from World.alloc_heap_new _ _).same (Below.heap_alloc _ _ _ (by simp))
 have B1 : Bn (m + 1) 24 [.slice A n c] U := by
  have h := World.alloc_heap_new (w.alloc (.cells #[hd tb] 80)) (.cells #[.slice A n c] 24)
  rw [hU] at h
  rw [← hm]
  show U.heap[w.heap.size + 1]? = _
  simpa using h
 have hTU := h.below hbU
 have hrU := h.ns (Chg.of_below hbU) hr
 have hI := Lib.hid (isPath_any A c n p hn (by omega) U hrU)
 rw [decide_eq_true hp] at hI
 have hsl := spot_lt hp
 obtain ⟨s, hs⟩ : ∃ s, spotN p = s := ⟨_, rfl⟩
 have hS : Hid (∀ V : World, (V.cell? ⟨m, 0, none⟩ = some (.pointer (some ⟨tb, 0, none⟩)) ∧ V.cell? ⟨m + 1, 0, none⟩ = some (.slice A n c) ∧ Below U.heap.size U V) → Calls Tryz.prog 92 #[.slice A n c] V (fun e w' => e = .returned (.int .i64 (s : Nat)) ∧ ∃ q, w' = V.drewN q)) := Lib.hid fun V hV => by
  have h9 := spot_any A c n p hn hp V ((hrU.below hV.2.2).more hV.2.2.size)
  rw [hs] at h9
  exact h9
 have HSP := Lib.hid hs
 have HOF : Hid (offN p = 256 + s * 4) := Lib.hid (by unfold offN; rw [hs]; omega)
 rw [hs] at hsl
 have s0' : (0 : Int) ≤ (s : Int) := by omega
 have s1' : (s : Int) < 273 := by omega
 have bUd : Below U.heap.size U U.drew := (Below.refl _ _).drew
 have bUq : ∀ q, Below U.heap.size U (U.drewN q) := fun q => ⟨rfl, rfl, rfl, Nat.le_refl _, fun _ _ => rfl⟩
 have bUa : ∀ (o : Obj) (q : Nat), Below U.heap.size U ((U.alloc o).drewN q) := fun o q => ((Below.refl _ _).alloc (Nat.le_refl _) o).trans ⟨rfl, rfl, rfl, Nat.le_refl _, fun _ _ => rfl⟩
 have bUs : ∀ (q : Nat) (v : Value), U.cell? ⟨m, 0, none⟩ = some (.pointer (some ⟨tb, 0, none⟩)) ∧ U.cell? ⟨m + 1, 0, none⟩ = some (.slice A n c) → ((((U.alloc (.cells #[.pointer none] 156)).drewN q).setCell ⟨m + 2, 0, none⟩ v).cell? ⟨m, 0, none⟩ = some (.pointer (some ⟨tb, 0, none⟩)) ∧ (((U.alloc (.cells #[.pointer none] 156)).drewN q).setCell ⟨m + 2, 0, none⟩ v).cell? ⟨m + 1, 0, none⟩ = some (.slice A n c) ∧ Below U.heap.size U (((U.alloc (.cells #[.pointer none] 156)).drewN q).setCell ⟨m + 2, 0, none⟩ v)) := fun q v hh => by
  have b1 : Below U.heap.size U (((U.alloc (.cells #[.pointer none] 156)).drewN q).setCell ⟨m + 2, 0, none⟩ v) := (bUa (.cells #[.pointer none] 156) q).grown (gset _ _ _ _) (bUa _ q).size (fun j hj => by injection hj with hj; omega)
  exact ⟨(b1.cell (p := ⟨m, 0, none⟩) (show m < _ by omega)).trans hh.1, (b1.cell (p := ⟨m + 1, 0, none⟩) (show m + 1 < _ by omega)).trans hh.2, b1⟩
 have HBB := Lib.hid (And.intro bUd (And.intro bUq (And.intro bUa bUs)))
 have a0 := B0.cell 0
 have a1 := B1.cell 0
 simp only [List.getElem?_cons_zero] at a0 a1
 have HU := Lib.hid (And.intro hbU (And.intro sU (And.intro B0 (And.intro B1 (And.intro hTU (And.intro hrU hm))))))
 have HT := Lib.hid (And.intro h (And.intro hr (And.intro hp (And.intro hn (And.intro hk (And.intro hb hbp))))))
 have HE : Hid (hashF all p = hF k all p) := Lib.hid (by unfold hashF; rw [if_pos hp, show 2 - p.length = k by omega])
 have HM := Lib.hid hm
 clear hbU B0 B1 hTU hrU h hr hp hn hk hb hbp hs bUd bUq bUa bUs
 unfold hd at a0 hU ⊢
 go_enter Tryz.func74, Tryz.ntmps74
 go_wp2_with fail
 refine hI.out.mono ?_
 rintro e w1 ⟨rfl, rfl⟩
 go_wp2_with fail
 have lm0 : m < U.heap.size := by omega
 have lm1 : m + 1 < U.heap.size := by omega
 have HXF : Hid ((∀ q, Hid (Laid3 F w tb mv f all Bz m A n c p (256 + s * 4) (((U.alloc (.cells #[.pointer none] 156)).drewN q).setCell ⟨m + 2, 0, none⟩ (.pointer (some ⟨tb, 256 + s * 4, none⟩))))) ∧ ∀ q, Hid (Laid3 F w tb mv f all Bz m A n c p (256 + s * 4) ((U.drewN q).alloc (.cells #[.pointer (some ⟨tb, 256 + s * 4, none⟩)] 156)))) := Lib.hid (by
  constructor
  ·intro q
   have b1 := (HBB.out.2.2.2 q (.pointer (some ⟨tb, 256 + s * 4, none⟩)) ⟨a0, a1⟩).2.2
   have h2 : Bn (m + 2) 156 [.pointer none] ((U.alloc (.cells #[.pointer none] 156)).drewN q) := by
    have h := World.alloc_heap_new U (.cells #[.pointer none] 156)
    rw [sU] at h
    exact h
   have b0 : Below w.heap.size w (((U.alloc (.cells #[.pointer none] 156)).drewN q).setCell ⟨m + 2, 0, none⟩ (.pointer (some ⟨tb, 256 + s * 4, none⟩))) := HU.out.1.trans (b1.mono HU.out.1.size)
   exact Lib.hid ⟨HU.out.2.2.1.same (b1.block _ lm0), HU.out.2.2.2.1.same (b1.block _ lm1), h2.set 0 _, b0, HT.out.1.below b0, (HT.out.2.1.below b0).more b0.size⟩
  ·intro q
   have b1 : Below U.heap.size U ((U.drewN q).alloc (.cells #[.pointer (some ⟨tb, 256 + s * 4, none⟩)] 156)) := (HBB.out.2.1 q).alloc (Nat.le_refl _) _
   have h2 : Bn (m + 2) 156 [.pointer (some ⟨tb, 256 + s * 4, none⟩)] ((U.drewN q).alloc (.cells #[.pointer (some ⟨tb, 256 + s * 4, none⟩)] 156)) := by
    have h := World.alloc_heap_new (U.drewN q) (.cells #[.pointer (some ⟨tb, 256 + s * 4, none⟩)] 156)
    rw [show (U.drewN q).heap.size = m + 2 from sU] at h
    exact h
   have b0 : Below w.heap.size w ((U.drewN q).alloc (.cells #[.pointer (some ⟨tb, 256 + s * 4, none⟩)] 156)) := HU.out.1.trans (b1.mono HU.out.1.size)
   exact Lib.hid ⟨HU.out.2.2.1.same (b1.block _ lm0), HU.out.2.2.2.1.same (b1.block _ lm1), h2, b0, HT.out.1.below b0, (HT.out.2.1.below b0).more b0.size⟩)
 have HNE : Hid (¬ m = tb ∧ ¬ m + 1 = tb ∧ ¬ m + 2 = tb) := Lib.hid ⟨by omega, by omega, by omega⟩
 clear hU hm
 go_region_held3 (fun V => V.cell? ⟨m, 0, none⟩ = some (.pointer (some ⟨tb, 0, none⟩)) ∧ V.cell? ⟨m + 1, 0, none⟩ = some (.slice A n c) ∧ Below U.heap.size U V)
  (first | exact ⟨a0, a1, HBB.out.1⟩ | exact ⟨a0, a1, HBB.out.2.1 _⟩ | exact ⟨(World.cell?_alloc_lt _ _ ⟨m, 0, none⟩ lm0).trans a0, (World.cell?_alloc_lt _ _ ⟨m + 1, 0, none⟩ lm1).trans a1, HBB.out.2.2.1 _ _⟩ | exact ⟨(World.cell?_alloc_lt _ _ ⟨m, 0, none⟩ lm0).trans a0, (World.cell?_alloc_lt _ _ ⟨m + 1, 0, none⟩ lm1).trans a1, HBB.out.2.2.1 _ 1⟩ | exact HBB.out.2.2.2 _ _ ⟨a0, a1⟩ | trace_state)
  (first
   | (go_at_call 92; refine (hS.out _ (by assumption)).mono ?_; rintro e w2 ⟨rfl, q, rfl⟩))
 all_goals
  first
   | (have hXX := HXF.out.1 (1 + q)
      obtain ⟨X, hX⟩ : ∃ X, (((U.alloc (.cells #[.pointer none] 156)).drewN (1 + q)).setCell ⟨m + 2, 0, none⟩ (.pointer (some ⟨tb, 256 + s * 4, none⟩))) = X := ⟨_, rfl⟩
      rw [hX] at hXX ⊢
      clear hX)
   | (have hXX := HXF.out.2 (1 + q)
      obtain ⟨X, hX⟩ : ∃ X, ((U.drewN (1 + q)).alloc (.cells #[.pointer (some ⟨tb, 256 + s * 4, none⟩)] 156)) = X := ⟨_, rfl⟩
      rw [hX] at hXX ⊢
      clear hX)
  obtain ⟨x0, x1, x2, bX, hTX, hrX⟩ := hXX.out
  have c0 := x0.cell 0
  have c1 := x1.cell 0
  have c2 := x2.cell 0
  simp only [List.getElem?_cons_zero] at c0 c1 c2
  obtain ⟨d, k', x, s0, s1, s3, sf, _, sb⟩ := hTX.spots HT.out.2.2.1
  obtain ⟨e1, e2⟩ := sb HT.out.2.2.2.2.2.2
  rw [HOF.out] at s0 s1 s3
  rw [e1] at s1
  have hmf : ∀ (fn : Fn) (first cap : Array Value) (w : World), (Instr.makeFunc fn first cap).run Tryz.prog w = .ok (.func fn first cap) w := fun _ _ _ _ => rfl
  obtain ⟨off, hoff⟩ : ∃ off, 256 + s * 4 = off := ⟨_, rfl⟩
  rw [hoff] at s0 s1 s3 c2 x2 ⊢
  have HOFF := Lib.hid hoff
  clear hoff hXX
  have HX2 := Lib.hid (And.intro x0 (And.intro x1 (And.intro x2 (And.intro bX (And.intro hTX hrX)))))
  rcases e2 with e2 | ⟨e2, e3⟩
  ·rw [e2] at s0
   have hsf := sf (off + 1)
   have hlock := hTX.lock HT.out.2.2.1 HT.out.2.2.2.2.2.2 (by rw [HOF.out, HOFF.out]; exact s0)
   rw [HOF.out, HOFF.out] at hlock
   obtain ⟨W1, hW1⟩ : ∃ W1, X.setCell ⟨tb, off + 1, none⟩ (.int .i32 1) = W1 := ⟨_, rfl⟩
   have hg1 : X.grownBy W1 (some tb) := by rw [← hW1]; exact gset _ _ _ _
   rw [hW1] at hlock
   have hmk := make_any HW hlock hN A c n m HT.out.2.2.2.1 HT.out.2.2.1 HT.out.2.2.2.2.1 (hTX.ns (Chg.of_grown hg1 (fun j hj => by injection hj with hj; exact hj.symm)) hrX) (fun q hq hpq hne hq2 => by
     rcases hq2 with h9 | h9
     ·exact HT.out.2.2.2.2.2.1 q hq hpq h9
     ·exact hne h9) (.inr rfl) HNE.out (x0.kept hg1 (by intro h9; injection h9 with h9; exact HNE.out.1 h9)) (x1.kept hg1 (by intro h9; injection h9 with h9; exact HNE.out.2.1 h9)) (by rw [HOF.out, HOFF.out]; exact x2.kept hg1 (by intro h9; injection h9 with h9; exact HNE.out.2.2 h9))
   rw [HOF.out, HOFF.out, ← hW1] at hmk
   have hD := Lib.hid (Once.do_first tb off 94 #[.pointer (some ⟨m, 0, none⟩), .pointer (some ⟨m + 1, 0, none⟩), .pointer (some ⟨m + 2, 0, none⟩)] _ X s0 s1 hsf (enters_of Tryz.func94 (by kernel_rfl) rfl _) hmk)
   have HG1 := Lib.hid (And.intro hg1 hW1)
   clear hmk hlock hg1 hW1 x0 x1 x2 bX hTX hrX s0 s1 s3 hsf sf sb e1 e2
   go_wp2_with fail
   refine hD.out.mono ?_
   rintro e w4 ⟨rfl, w2, ⟨hT2, hc2, hch2⟩, _, _, hw4⟩
   have hT4 := hT2.done (Bz := Bz) HT.out.2.2.1 (fun q hq => ⟨.inl, fun h9 => h9.resolve_right hq⟩) HT.out.2.2.2.2.2.2 (by rw [HOF.out, HOFF.out, HE.out]; exact hc2)
   rw [HOF.out, HOFF.out, ← hw4] at hT4
   have h4 : w4.cell? ⟨tb, off + 3, none⟩ = some (.int .u64 (hF k all p)) := by
    rw [hw4]
    refine (World.cell?_setCell_other _ ⟨tb, off + 1, none⟩ ⟨tb, off + 3, none⟩ _ (by simp)).trans ((World.cell?_setCell_other _ ⟨tb, off, none⟩ ⟨tb, off + 3, none⟩ _ (by simp)).trans ?_)
    rw [World.cell?_drew]
    exact hc2
   have hg4 : w2.grownBy w4 (some tb) := by rw [hw4]; exact grown_trans_one (grown_trans_one (show w2.grownBy w2.drew (some tb) from ⟨rfl, rfl, rfl, Nat.le_refl _, fun _ _ _ => rfl⟩) (gset w2.drew tb off (.int .u32 1))) (gset _ tb _ _)
   have ch1 : Chg (fun j => j = tb) X w2 := (Chg.of_grown (F := fun j => j = tb) HG1.out.1 (fun j hj => by injection hj with hj; exact hj.symm)).trans (HG1.out.2 ▸ hch2) (fun j hj => .inl hj)
   have ch4 : Chg (fun j => j = tb) X w4 := ch1.trans (Chg.of_grown (F := fun j => j = tb) hg4 (fun j hj => by injection hj with hj; exact hj.symm)) (fun j hj => .inl hj)
   have hB4 := HX2.out.2.2.1.same (ch4.block _ HX2.out.2.2.1.lt HNE.out.2.2)
   have c2' := hB4.cell 0
   simp only [List.getElem?_cons_zero] at c2'
   have HF : Hid (TR F w4 tb mv f all Bz ∧ Chg (fun j => j = tb) w w4) := Lib.hid ⟨hT4, (Chg.of_below HX2.out.2.2.2.1).trans ch4 (fun j hj => .inl hj)⟩
   clear hT4 hT2 hc2 hch2 hw4 hg4 ch1 ch4 hB4 c0 c1 c2 hD
   go_wp2_with fail
   go_ret
   exact ⟨rfl, HF⟩
  ·rw [e2] at s0
   rw [e3, HE.out] at s3
   have HF : Hid (TR F X tb mv f all Bz ∧ Chg (fun j => j = tb) w X) := Lib.hid ⟨hTX, Chg.of_below bX⟩
   have hD := Lib.hid (fun fv => Once.do_done ⟨tb, off, none⟩ 1 (by decide) fv X s0)
   clear x0 x1 x2 bX hTX hrX s0 s1 sf sb e1 e2 e3
   go_wp2_with fail
   refine (hD.out _).mono ?_
   rintro e w4 ⟨rfl, hw4⟩
   obtain rfl := hw4.symm
   go_wp2_with fail
   go_ret
   exact ⟨rfl, HF⟩

theorem hash_all : ∀ k, HashC k
 | 0 => hash_work work_zero
 | k + 1 => hash_work (work_succ (hash_all k))
end
end Tree
end Go.Proofs.YtkfdplfgaddkmaaGreat

/-
 What becomes of a tree when a map is made, a key gets versions, a key goes: all but the spots; then the spots, one by one.
-/
namespace Go.Proofs.YtkfdplfgaddkmaaGreat
namespace Tree
open Go.RowKit Vers Num Ring Disk Blk
open Go.Proofs.YtkfdplfgaddkmaaGreat.Code hiding Bn

structure TI (F : Nat → Prop) (w : World) (tb : Nat) (mv : Nat → Option Nat) (f : Fp) (all : List Rc) : Prop where
 leaf : ∀ i, i < 256 → Leaf F w f all i (mv i)
 inj : ∀ i j k, i < 256 → j < 256 → mv i = some k → mv j = some k → i = j
 ne : ∀ i k, i < 256 → mv i = some k → k ≠ tb
 rows : ∀ r ∈ all, Row F (Mu tb mv) w f r
 ok : okAll all
 own : F tb
 lt : ∀ k, F k → k < w.heap.size
section
variable {F F' : Nat → Prop} {w w' : World} {tb : Nat} {mv : Nat → Option Nat} {f : Fp} {all : List Rc} {Bz : List Int → Prop} {r : Rc} {p : List Int}
theorem TR.ti (h : TR F w tb mv f all Bz) : TI F w tb mv f all := ⟨h.leaf, h.inj, fun _ _ hi hm => h.ne hi hm, h.rows, h.ok, h.own, h.lt⟩
theorem TI.tr (h : TI F w tb mv f all) {L : List Value} (h1 : Bn tb 139 L w) (h2 : Cells L mv all Bz) : TR F w tb mv f all Bz := ⟨⟨L, h1, h2⟩, h.leaf, h.inj, h.rows, h.ok, h.own, h.lt⟩
theorem TI.turn (h : TI F w tb mv f all) (hg : w.grownBy w' (some tb)) : TI F w' tb mv f all := by
 obtain ⟨h3, h4, hne, h5, h6, h7, h8⟩ := h
 exact ⟨fun i hi => ⟨(h3 i hi).1, fun mb hm => ⟨((h3 i hi).2 mb hm).1, ((h3 i hi).2 mb hm).2.same (hg.block _ (h8 _ ((h3 i hi).2 mb hm).1) (fun e => hne i mb hi hm (by injection e)))⟩⟩, h4, hne, fun r hr => (h5 r hr).keep hg.size fun k hk hM => hg.block k (h8 k hk) (fun e => hM (.inl (by injection e))), h6, h7, fun k hk1 => Nat.lt_of_lt_of_le (h8 k hk1) hg.size⟩
theorem TI.below (h : TI F w tb mv f all) (hb : Below w.heap.size w w') : TI F w' tb mv f all := h.turn ⟨hb.os, hb.tape, hb.output, hb.size, fun k hk _ => hb.block k hk⟩
def mkM (mv : Nat → Option Nat) (i mb : Nat) : Nat → Option Nat := fun j => if j = i then some mb else mv j
theorem TI.mkmap (h : TI F w tb mv f all) {i : Nat} (hi : i < 256) (hm : mv i = none) (hw : Below w.heap.size w w') (hn : w'.heap[w.heap.size]? = some (.map #[] 0)) : TI (fun k => F k ∨ k = w.heap.size) w' tb (mkM mv i w.heap.size) f all := by
 have h' := h.below hw
 have hlt : w.heap.size < w'.heap.size := (Array.getElem?_eq_some_iff.1 hn).1
 have hMI : MI w' w.heap.size [] := (mi_made w).same (by
  rw [hn]
  have := World.alloc_heap_new w (.map #[] 0)
  rw [this])
 refine ⟨fun j hj => ?_, fun j k b hj hk e1 e2 => ?_, fun j k hj e => ?_, fun r hr => ?_, h'.ok, .inl h'.own, fun k hk => ?_⟩
 ·unfold mkM
  by_cases e : j = i
  ·subst e
   rw [if_pos rfl]
   refine ⟨(fun e => by cases e), fun mb hmb => ?_⟩
   injection hmb with hmb
   subst hmb
   rw [(h.leaf j hj).1 hm]
   exact ⟨.inr rfl, hMI⟩
  ·rw [if_neg e]
   exact ⟨(h'.leaf j hj).1, fun mb hmb => ⟨.inl ((h'.leaf j hj).2 mb hmb).1, ((h'.leaf j hj).2 mb hmb).2⟩⟩
 ·unfold mkM at e1 e2
  by_cases q1 : j = i
  ·by_cases q2 : k = i
   ·rw [q1, q2]
   ·rw [if_pos q1] at e1
    rw [if_neg q2] at e2
    injection e1 with e1
    subst e1
    have := h.lt _ ((h.leaf k hk).2 _ e2).1
    omega
  ·rw [if_neg q1] at e1
   by_cases q2 : k = i
   ·rw [if_pos q2] at e2
    injection e2 with e2
    subst e2
    have := h.lt _ ((h.leaf j hj).2 _ e1).1
    omega
   ·rw [if_neg q2] at e2
    exact h.inj j k b hj hk e1 e2
 ·unfold mkM at e
  by_cases q : j = i
  ·rw [if_pos q] at e
   injection e with e
   have := h.lt _ h.own
   omega
  ·rw [if_neg q] at e
   exact h.ne j k hj e
 ·obtain ⟨L, B, h1, h2, h3, h4⟩ := h'.rows r hr
  obtain ⟨L0, B0, g1, g2, g3, g4⟩ := h.rows r hr
  refine ⟨L0, B0, g1.keep fun a ha hb => World.cell?_of_block (hw.block _ (by omega)), g2, Nat.le_trans g3 hw.size, fun k a b => ⟨.inl (g4 k a b).1, fun hM => ?_⟩⟩
  rcases hM with hM | ⟨j, hj, hM⟩
  ·exact (g4 k a b).2 (.inl hM)
  ·unfold mkM at hM
   by_cases q : j = i
   ·rw [if_pos q] at hM
    injection hM with hM
    omega
   ·rw [if_neg q] at hM
    exact (g4 k a b).2 (.inr ⟨j, hj, hM⟩)
 ·rcases hk with hk | rfl
  ·exact h'.lt k hk
  ·exact hlt
theorem cells_mk {L : List Value} (h : Cells L mv all Bz) {i mb : Nat} (hi : i < 256) : Cells (L.set i (.map (some mb))) (mkM mv i mb) all Bz := by
 obtain ⟨h1, h2, h3⟩ := h
 refine ⟨by simpa using h1, fun j hj => ?_, fun q hq => ?_⟩
 ·unfold mkM
  by_cases e : j = i
  ·subst e
   rw [if_pos rfl, List.getElem?_set_self (by omega)]
  ·rw [if_neg e, List.getElem?_set_ne (fun q => e q.symm)]
   exact h2 j hj
 ·obtain ⟨d, k, x, s0, s1, s2, s3, s4⟩ := h3 q hq
  exact ⟨d, k, x, (List.getElem?_set_ne (by omega)).trans s0, (List.getElem?_set_ne (by omega)).trans s1, (List.getElem?_set_ne (by omega)).trans s2, (List.getElem?_set_ne (by omega)).trans s3, s4⟩
theorem wout_map (f : Fp) (l : List Rc) (s : Nm) : wout (l.map (vOf f)) s = (wout l s).map (vOf f) := by
 unfold wout
 rw [List.filter_map]
 rfl
theorem ins_map {f f' : Fp} {s : Nm} {lv : List Vr} {b : Value} (hb : vOf f' (s, lv) = (s, b)) : ∀ (l : List Rc), (∀ x ∈ l, vOf f' x = vOf f x) → ins (l.map (vOf f)) s b = (ins l s lv).map (vOf f')
 | [], _ => by
  simp only [ins, List.map_nil, List.map_cons, hb]
 | x :: l, h => by
  have ih := ins_map hb l fun y hy => h y (by simp [hy])
  have hx := h x (by simp)
  have hl : l.map (vOf f) = l.map (vOf f') := List.map_congr_left fun y hy => (h y (by simp [hy])).symm
  simp only [List.map_cons, ins]
  rw [show (vOf f x).1 = x.1 from rfl]
  by_cases e : nlt s x.1 = true
  ·rw [if_pos e, if_pos e]
   simp only [List.map_cons, hb, hx, hl]
  ·rw [if_neg e, if_neg e]
   simp only [List.map_cons, hx, ih]
def putP (f : Fp) (key : Nm) (A : Option Addr) (c : Nat) : Fp := fun k => if k = key then (A, c) else f k
theorem TI.put (h : TI F w tb mv f all) {mb : Nat} {key : Nm} {lv : List Vr} (hne : lv ≠ []) (hok : okR (key, lv)) (hm : mv (leafN key) = some mb) {A : Option Addr} {c L B : Nat} (hv : Vs w L B A lv) (hc : lv.length ≤ c) (hB : B ≤ w.heap.size) (hL : ∀ k, L ≤ k → k < B → ¬ F k)
  (hM : MI w' mb (wit ((leafR all (leafN key)).map (vOf f)) key (.slice A lv.length c))) (hg : w.grownBy w' (some mb)) : TI (fun k => F k ∨ (L ≤ k ∧ k < B)) w' tb mv (putP f key A c) (withR all (key, lv)) := by
 have hlf := leaf_lt key
 have hmF := ((h.leaf _ hlf).2 mb hm).1
 have hold : ∀ x : Rc, x.1 ≠ key → vOf (putP f key A c) x = vOf f x := fun x hx => by unfold vOf putP; rw [if_neg hx]
 have hnew : vOf (putP f key A c) (key, lv) = (key, .slice A lv.length c) := by unfold vOf putP; rw [if_pos rfl]
 refine ⟨fun j hj => ?_, h.inj, h.ne, fun r hr => ?_, ⟨with_srt h.ok.1 _, fun r hr => ?_⟩, .inl h.own, fun k hk => ?_⟩
 ·by_cases e : j = leafN key
  ·subst e
   refine ⟨(fun e => by rw [hm] at e; cases e), fun b hb => ?_⟩
   rw [hm] at hb
   injection hb with hb
   subst hb
   refine ⟨.inl hmF, ?_⟩
   rw [show leafN key = leafN (key, lv).1 from rfl, leaf_with_eq h.ok.1]
   unfold withR
   rw [if_neg hne]
   rw [wit, wout_map] at hM
   rw [show (key, lv).1 = key from rfl, show (key, lv).2 = lv from rfl, wit]
   have hx := ins_map (f := f) hnew (wout (leafR all (leafN key)) key) fun x hx => hold x (mem_wout.1 hx).2
   rw [hx] at hM
   exact hM
  ·have hl := h.leaf j hj
   have hlr := leaf_with_ne h.ok.1 (key, lv) e
   refine ⟨(fun q => by rw [hlr]; exact hl.1 q), fun b hb => ⟨.inl (hl.2 b hb).1, ?_⟩⟩
   rw [hlr]
   have hmm : (leafR all j).map (vOf (putP f key A c)) = (leafR all j).map (vOf f) := List.map_congr_left fun x hx => hold x fun q => e (by rw [← (leaf_mem.1 hx).2, q])
   rw [hmm]
   refine (hl.2 b hb).2.same (hg.block _ (h.lt _ (hl.2 b hb).1) fun q => ?_)
   injection q with q
   subst q
   exact e (h.inj j (leafN key) b hj hlf hb hm)
 ·rcases with_mem.1 hr with ⟨rfl, _⟩ | ⟨h1, h2⟩
  ·refine ⟨L, B, ?_, ?_, Nat.le_trans hB hg.size, fun k a b => ⟨.inr ⟨a, b⟩, fun hMu => hL k a b ?_⟩⟩
   ·unfold putP
    rw [if_pos rfl]
    exact hv.keep fun a ha hb => World.cell?_of_block (hg.block _ (by omega) fun q => by
     injection q with q
     exact hL a.block ha hb (q ▸ hmF))
   ·unfold putP
    rw [if_pos rfl]
    exact hc
   ·rcases hMu with rfl | ⟨j, hj, hMu⟩
    ·exact h.own
    ·exact ((h.leaf j hj).2 k hMu).1
  ·obtain ⟨L0, B0, g1, g2, g3, g4⟩ := h.rows r h1
   refine ⟨L0, B0, ?_, ?_, Nat.le_trans g3 hg.size, fun k a b => ⟨.inl (g4 k a b).1, (g4 k a b).2⟩⟩
   ·unfold putP
    rw [if_neg h2]
    exact g1.keep fun a ha hb => World.cell?_of_block (hg.block _ (by omega) fun q => by
     injection q with q
     exact (g4 a.block ha hb).2 (.inr ⟨leafN key, hlf, q ▸ hm⟩))
   ·unfold putP
    rw [if_neg h2]
    exact g2
 ·rcases with_mem.1 hr with ⟨rfl, h1⟩ | ⟨h1, h2⟩
  ·exact ⟨hok, h1⟩
  ·exact h.ok.2 r h1
 ·rcases hk with hk | ⟨_, hk⟩
  ·exact Nat.lt_of_lt_of_le (h.lt k hk) hg.size
  ·exact Nat.lt_of_lt_of_le hk (Nat.le_trans hB hg.size)
theorem TI.drop (h : TI F w tb mv f all) {mb : Nat} {key : Nm} (hm : mv (leafN key) = some mb)
  (hM : MI w' mb (wout ((leafR all (leafN key)).map (vOf f)) key)) (hg : w.grownBy w' (some mb)) : TI F w' tb mv f (withR all (key, [])) := by
 have hlf := leaf_lt key
 refine ⟨fun j hj => ?_, h.inj, h.ne, fun r hr => ?_, ⟨with_srt h.ok.1 _, fun r hr => ?_⟩, h.own, fun k hk => Nat.lt_of_lt_of_le (h.lt k hk) hg.size⟩
 ·by_cases e : j = leafN key
  ·subst e
   refine ⟨(fun e => by rw [hm] at e; cases e), fun b hb => ?_⟩
   rw [hm] at hb
   injection hb with hb
   subst hb
   refine ⟨((h.leaf _ hlf).2 mb hm).1, ?_⟩
   rw [show leafN key = leafN (key, ([] : List Vr)).1 from rfl, leaf_with_eq h.ok.1]
   unfold withR
   rw [if_pos rfl]
   rw [wout_map] at hM
   exact hM
  ·have hl := h.leaf j hj
   have hlr := leaf_with_ne h.ok.1 (key, ([] : List Vr)) e
   refine ⟨(fun q => by rw [hlr]; exact hl.1 q), fun b hb => ⟨(hl.2 b hb).1, ?_⟩⟩
   rw [hlr]
   refine (hl.2 b hb).2.same (hg.block _ (h.lt _ (hl.2 b hb).1) fun q => ?_)
   injection q with q
   subst q
   exact e (h.inj j (leafN key) b hj hlf hb hm)
 ·rcases with_mem.1 hr with ⟨_, h1⟩ | ⟨h1, h2⟩
  ·exact absurd rfl h1
  ·refine (h.rows r h1).keep hg.size fun k hk hn => hg.block k (h.lt k hk) fun q => ?_
   injection q with q
   exact hn (.inr ⟨leafN key, hlf, q ▸ hm⟩)
 ·rcases with_mem.1 hr with ⟨_, h1⟩ | ⟨h1, h2⟩
  ·exact absurd rfl h1
  ·exact h.ok.2 r h1

/-! ### The spots on a key's path are made anew -/
def pre (key : Nm) (n : Nat) : List Int := [dig0 key, dig1 key].take n
theorem pre_ok (key : Nm) (n : Nat) : okP (pre key n) := by
 refine ⟨fun d hd => ?_, by unfold pre; rw [List.length_take]; exact Nat.min_le_right _ _⟩
 have := List.mem_of_mem_take hd
 have h0 := dig0_range key
 have h1 := dig1_range key
 simp at this
 omega
theorem pre_is {key : Nm} {p : List Int} (hp : okP p) (h : inP p key = true) : p = pre key p.length := by
 rcases ok_cases hp with rfl | ⟨a, rfl, _⟩ | ⟨a, b, rfl, _, _⟩
 ·rfl
 ·simp [inP] at h; simp [pre, h]
 ·simp [inP] at h; simp [pre, h]
def Stale (L : List Value) (mv : Nat → Option Nat) (all : List Rc) (key : Nm) (n : Nat) : Prop :=
 L.length = 1348 ∧ (∀ i, i < 256 → L[i]? = some (.map (mv i))) ∧ ∀ p, okP p → ∃ (d x : Int), L[256 + 4 * spotN p]? = some (.int .u32 d) ∧ L[256 + 4 * spotN p + 1]? = some (.int .i32 0) ∧ L[256 + 4 * spotN p + 2]? = some (.int .u32 0) ∧ L[256 + 4 * spotN p + 3]? = some (.int .u64 x) ∧
  (d = 0 ∨ d = 1) ∧ ((inP p key = false ∨ p.length < n) → d = 0 ∨ x = hashF all p)
theorem beneath_with {r : Rc} (hs : Srt all) (h : inP p r.1 = false) : beneath all p = beneath (withR all r) p := by
 refine srt_mem (beneath_srt hs p) (beneath_srt (with_srt hs r) p) fun x => ?_
 rw [beneath_mem, beneath_mem, with_mem]
 constructor
 ·rintro ⟨h1, h2⟩
  exact ⟨.inr ⟨h1, fun e => by rw [e, h] at h2; cases h2⟩, h2⟩
 ·rintro ⟨⟨rfl, _⟩ | ⟨h1, _⟩, h2⟩
  ·rw [h] at h2; cases h2
  ·exact ⟨h1, h2⟩
theorem stale_start {L : List Value} (h : Cells L mv all fun _ => False) (r : Rc) (hs : Srt all) : Stale L mv (withR all r) r.1 0 := by
 obtain ⟨h1, h2, h3⟩ := h
 refine ⟨h1, h2, fun p hp => ?_⟩
 obtain ⟨d, k, x, s0, s1, s2, s3, _, s5⟩ := h3 p hp
 obtain ⟨e1, e2⟩ := s5 id
 subst e1
 refine ⟨d, x, s0, s1, s2, s3, e2.elim .inl fun q => .inr q.1, fun hq => ?_⟩
 rcases hq with hq | hq
 ·rcases e2 with e2 | ⟨_, e2⟩
  ·exact .inl e2
  ·refine .inr ?_
   rw [e2]
   unfold hashF
   rw [if_pos hp, if_pos hp]
   exact hF_congr _ _ _ _ hp (by have := hp.2; omega) (beneath_with hs hq)
 ·omega
theorem Stale.next {L L' : List Value} {key : Nm} {n : Nat} (h : Stale L mv all key n) (_hn : n < 3) (hl : L'.length = L.length) (hk : ∀ j, j < 256 + 4 * spotN (pre key n) ∨ 256 + 4 * spotN (pre key n) + 4 ≤ j → L'[j]? = L[j]?)
  (s0 : L'[256 + 4 * spotN (pre key n)]? = some (.int .u32 0)) (s1 : L'[256 + 4 * spotN (pre key n) + 1]? = some (.int .i32 0)) (s2 : L'[256 + 4 * spotN (pre key n) + 2]? = some (.int .u32 0)) (s3 : L'[256 + 4 * spotN (pre key n) + 3]? = some (.int .u64 0)) : Stale L' mv all key (n + 1) := by
 obtain ⟨h1, h2, h3⟩ := h
 refine ⟨hl.trans h1, fun i hi => (hk i (by omega)).trans (h2 i hi), fun p hp => ?_⟩
 by_cases e : p = pre key n
 ·subst e
  exact ⟨0, 0, s0, s1, s2, s3, .inl rfl, fun _ => .inl rfl⟩
 ·have hne : spotN p ≠ spotN (pre key n) := fun q => e (spot_inj hp (pre_ok key n) q)
  obtain ⟨d, x, q0, q1, q2, q3, q4, q5⟩ := h3 p hp
  refine ⟨d, x, (hk _ (by omega)).trans q0, (hk _ (by omega)).trans q1, (hk _ (by omega)).trans q2, (hk _ (by omega)).trans q3, q4, fun hq => ?_⟩
  rcases hq with hq | hq
  ·exact q5 (.inl hq)
  ·by_cases hin : inP p key = true
   ·by_cases hln : p.length = n
    ·exact absurd (by rw [← hln]; exact pre_is hp hin) e
    ·exact q5 (.inr (by omega))
   ·exact q5 (.inl (by simpa using hin))
theorem zero_spot {V : World} {L : List Value} {key : Nm} {n o : Nat} (hB : Bn tb 139 L V) (hs : Stale L mv all key n) (hn : n < 3) (ho : o = 256 + 4 * spotN (pre key n)) : ∃ L', Bn tb 139 L' ((((V.setCell ⟨tb, o, none⟩ (.int .u32 0)).setCell ⟨tb, o + 1, none⟩ (.int .i32 0)).setCell ⟨tb, o + 2, none⟩ (.int .u32 0)).setCell ⟨tb, o + 3, none⟩ (.int .u64 0)) ∧ Stale L' mv all key (n + 1) ∧ V.grownBy ((((V.setCell ⟨tb, o, none⟩ (.int .u32 0)).setCell ⟨tb, o + 1, none⟩ (.int .i32 0)).setCell ⟨tb, o + 2, none⟩ (.int .u32 0)).setCell ⟨tb, o + 3, none⟩ (.int .u64 0)) (some tb) := by
 have hl := spot_lt (pre_ok key n)
 have hL := hs.1
 refine ⟨_, (((hB.set o (.int .u32 0)).set (o + 1) (.int .i32 0)).set (o + 2) (.int .u32 0)).set (o + 3) (.int .u64 0), hs.next hn (by simp) (fun j hj => ?_) ?_ ?_ ?_ ?_, grown_trans_one (grown_trans_one (grown_trans_one (gset _ _ _ _) (gset _ _ _ _)) (gset _ _ _ _)) (gset _ _ _ _)⟩
 ·rw [List.getElem?_set_ne (by omega), List.getElem?_set_ne (by omega), List.getElem?_set_ne (by omega), List.getElem?_set_ne (by omega)]
 ·rw [← ho, List.getElem?_set_ne (by omega), List.getElem?_set_ne (by omega), List.getElem?_set_ne (by omega), List.getElem?_set_self (by omega)]
 ·rw [← ho, List.getElem?_set_ne (by omega), List.getElem?_set_ne (by omega), List.getElem?_set_self (by simp; omega)]
 ·rw [← ho, List.getElem?_set_ne (by omega), List.getElem?_set_self (by simp; omega)]
 ·rw [← ho, List.getElem?_set_self (by simp; omega)]
theorem Stale.cells {L : List Value} {key : Nm} (h : Stale L mv all key 3) : Cells L mv all fun _ => False := by
 obtain ⟨h1, h2, h3⟩ := h
 refine ⟨h1, h2, fun p hp => ?_⟩
 obtain ⟨d, x, q0, q1, q2, q3, q4, q5⟩ := h3 p hp
 refine ⟨d, 0, x, q0, q1, q2, q3, fun q => q.elim, fun _ => ⟨rfl, ?_⟩⟩
 rcases q4 with q4 | q4
 ·exact .inl q4
 ·rcases q5 (.inr (by have := hp.2; omega)) with q6 | q6
  ·exact .inl q6
  ·exact .inr ⟨q4, q6⟩
end
end Tree
end Go.Proofs.YtkfdplfgaddkmaaGreat

/-
 A key gets versions.
-/
namespace Go.Proofs.YtkfdplfgaddkmaaGreat
namespace Tree
open Go.RowKit Vers Num Ring Disk Blk
open Go.Proofs.YtkfdplfgaddkmaaGreat.Code hiding Bn
attribute [local go_sem ↓] Go.wp_at_zero Go.wp_at_succ

section
variable {F : Nat → Prop} {w : World} {tb : Nat} {mv : Nat → Option Nat} {f : Fp} {all : List Rc}
theorem set_bad (_h : TR F w tb mv f all fun _ => False) (key : Nm) (A : Option Addr) (c m : Nat) (lv : List Vr) (hm : lv.length = m) (hm2 : m ≤ 140737488355328) (hk2 : key.size ≤ 140737488355328) (hv : Vs w 0 w.heap.size A lv) (hbad : ¬ okR (key, lv)) :
  Calls Tryz.prog 72 #[hd tb, .agg #[.string key, .slice A m c]] w (fun e w' => e = .returned (.int .i64 1) ∧ Below w.heap.size w w') := by
 obtain ⟨U, hU⟩ : ∃ U, w.alloc (.cells #[.string key, .slice A m c] 70) = U := ⟨_, rfl⟩
 have bU : Below w.heap.size w U := by rw [← hU]; exact (Below.refl _ w).alloc (Nat.le_refl _) _
 have BU : Bn w.heap.size 70 [.string key, .slice A m c] U := by rw [← hU]; exact World.alloc_heap_new _ _
 have x0 := BU.cell 0
 have x1 := BU.cell 1
 simp only [List.getElem?_cons_zero, List.getElem?_cons_succ] at x0 x1
 have H1 := Lib.hid (rrecord_any A c m key lv hm hm2 hk2 U ((hv.below bU).more bU.size))
 rw [decide_eq_false hbad] at H1
 have HB := Lib.hid bU
 clear hbad hv hm bU BU
 unfold hd
 go_enter Tryz.func72, Tryz.ntmps72
 go_wp2_with fail
 refine H1.out.mono ?_
 rintro e w1 ⟨rfl, b1⟩
 have HB1 := Lib.hid (HB.out.trans (b1.mono HB.out.size))
 clear b1
 go_wp2_with fail
 go_ret
 exact ⟨rfl, HB1.out⟩

def Put (F : Nat → Prop) (tb : Nat) (all : List Rc) (w : World) (e : Ending) (w' : World) : Prop :=
 ∃ F' mv' f', e = .returned (.int .i64 0) ∧ Hid (TR F' w' tb mv' f' all (fun _ => False) ∧ Stp F w F' w')
set_option maxRecDepth 100000 in
set_option maxHeartbeats 2000000 in
theorem set_ok (h : TR F w tb mv f all fun _ => False) (hN : all.length ≤ 3518437208882) (key : Nm) (A : Option Addr) (c m : Nat) (lv : List Vr) (hm : lv.length = m) (hv : Vs w 0 w.heap.size A lv) (hok : okR (key, lv)) :
  Calls Tryz.prog 72 #[hd tb, .agg #[.string key, .slice A m c]] w (Put F tb (withR all (key, lv)) w) := by
 have h512 : lv.length ≤ 512 := hok.2.2.1
 obtain ⟨rb, hrb⟩ : ∃ rb, w.heap.size = rb := ⟨_, rfl⟩
 obtain ⟨U, hU⟩ : ∃ U, w.alloc (.cells #[.string key, .slice A m c] 70) = U := ⟨_, rfl⟩
 have bU : Below w.heap.size w U := by rw [← hU]; exact (Below.refl _ w).alloc (Nat.le_refl _) _
 have BU : Bn rb 70 [.string key, .slice A m c] U := by rw [← hU, ← hrb]; exact World.alloc_heap_new _ _
 have x0 := BU.cell 0
 have x1 := BU.cell 1
 simp only [List.getElem?_cons_zero, List.getElem?_cons_succ] at x0 x1
 have H1 := Lib.hid (rrecord_any A c m key lv hm (by omega) (by have := hok.2.1; simp only at this; omega) U ((hv.below bU).more bU.size))
 rw [decide_eq_true hok] at H1
 have H2 := Lib.hid (fun W => place_any key W (by have := hok.2.1; simp only at this; omega))
 have HB := Lib.hid (And.intro bU (And.intro BU hrb))
 have HT := Lib.hid (And.intro h (And.intro hN (And.intro hm (And.intro hv hok))))
 obtain ⟨d0, hd0⟩ : ∃ d, dig0 key = d := ⟨_, rfl⟩
 obtain ⟨d1, hd1⟩ : ∃ d, dig1 key = d := ⟨_, rfl⟩
 have r0 := dig0_range key
 have r1 := dig1_range key
 have hlf : ((leafN key : Nat) : Int) = d0 * 16 + d1 := by unfold leafN; rw [hd0, hd1] at *; omega
 rw [hd0] at r0
 rw [hd1] at r1
 have HD := Lib.hid (And.intro hd0 (And.intro hd1 hlf))
 have HW := Lib.hid (And.intro (show IntKind.i64.wrap (d0 * 16) = d0 * 16 from IntWalk.i64_in _ (by omega)) (show IntKind.i64.wrap (d0 * 16 + d1) = d0 * 16 + d1 from IntWalk.i64_in _ (by omega)))
 have hlt := leaf_lt key
 obtain ⟨i, hi⟩ : ∃ i, leafN key = i := ⟨_, rfl⟩
 rw [hi] at hlt hlf
 have HI := Lib.hid hi
 clear hv hm bU BU h hok h512 hd0 hd1 hi hN
 unfold hd
 go_enter Tryz.func72, Tryz.ntmps72
 go_wp2_with fail
 refine H1.out.mono ?_
 rintro e w1 ⟨rfl, b1⟩
 have B1 := HB.out.2.1.same (b1.block _ HB.out.2.1.lt)
 have x0' := B1.cell 0
 simp only [List.getElem?_cons_zero] at x0'
 have HB1 := Lib.hid (And.intro (HB.out.1.trans (b1.mono HB.out.1.size)) B1)
 clear b1 B1 H1 x0 x1 hU hrb
 go_wp2_with fail
 refine (H2.out w1).mono ?_
 rintro e w2 ⟨g, rfl, hpl, b2⟩
 have hns := hpl.out.1
 rw [HD.out.1, HD.out.2.1] at hns
 obtain ⟨b', off', hg', _, hc⟩ := hns (by simp)
 injection hg' with hg'
 injection hg' with hg1 hg2
 subst hg1 hg2
 have c0 := hc 0 (by simp)
 have c1 := hc 1 (by simp)
 simp at c0 c1
 have B2 := HB1.out.2.same (b2.block _ HB1.out.2.lt)
 have HB2 := Lib.hid (And.intro (HB1.out.1.trans (b2.mono HB1.out.1.size)) (And.intro B2 (And.intro hns (Nat.le_trans HB1.out.1.size hpl.out.2))))
 clear hc hns hpl b2 B2 x0'
 obtain ⟨v1, v2⟩ := HW.out
 go_wp2_with fail
 go_quiet (fail)
 clear v1 v2
 rw [← hlf]
 obtain ⟨W, hW⟩ : ∃ W, w2.drewN nq = W := ⟨_, rfl⟩
 have HWW : Hid (Below w.heap.size w W ∧ Bn rb 70 [.string key, .slice A m c] W ∧ Ns .i64 W W.heap.size (some ⟨g, 0, none⟩) [d0, d1] ∧ w.heap.size ≤ g ∧ TR F W tb mv f all (fun _ => False)) := Lib.hid (by
  have b : Below w.heap.size w W := by rw [← hW]; exact HB2.out.1.trans ⟨rfl, rfl, rfl, Nat.le_refl _, fun _ _ => rfl⟩
  exact ⟨b, by rw [← hW]; exact HB2.out.2.1, by rw [← hW]; exact HB2.out.2.2.1, HB2.out.2.2.2, HT.out.1.below b⟩)
 rw [hW]
 clear hW c0 c1 HB2 hlf
 have hcell := HWW.out.2.2.2.2.cell hlt
 obtain ⟨mm, hmm⟩ : ∃ mm, mv i = mm := ⟨_, rfl⟩
 rw [hmm] at hcell
 have heq := run_eql_map_nil (P := Tryz.prog) W 93 9 67 mm Tryz.underlying93
 have HMM := Lib.hid hmm
 clear hmm
 go_upto_if 28 with (fail)
 go_cut [28] (fun _ V => Hid (∃ (F' : Nat → Prop) (mv' : Nat → Option Nat) (L : List Value) (mb : Nat), TI F' V tb mv' f all ∧ Bn tb 139 L V ∧ Cells L mv' all (fun _ => False) ∧ mv' i = some mb ∧ Chg (fun k => k = tb) W V ∧ (∀ k, F k → F' k) ∧ ∀ k, F' k → F k ∨ W.heap.size ≤ k))
 case first =>
  rcases mm with _ | mb
  ·have HF : Hid (∀ V, V = (W.setCell ⟨tb, i, none⟩ (.map (some W.heap.size))).alloc (.map #[] 0) → Hid (∃ (F' : Nat → Prop) (mv' : Nat → Option Nat) (L : List Value) (mb : Nat), TI F' V tb mv' f all ∧ Bn tb 139 L V ∧ Cells L mv' all (fun _ => False) ∧ mv' i = some mb ∧ Chg (fun k => k = tb) W V ∧ (∀ k, F k → F' k) ∧ ∀ k, F' k → F k ∨ W.heap.size ≤ k)) := Lib.hid fun V hV => by
    have hT := HWW.out.2.2.2.2
    obtain ⟨⟨L, hL1, hL2⟩, _⟩ := id hT
    have hg := gset W tb i (.map (some W.heap.size))
    have hB := hL1.set i (.map (some W.heap.size))
    have hsz : (W.setCell ⟨tb, i, none⟩ (.map (some W.heap.size))).heap.size = W.heap.size := by simp [World.setCell]
    obtain ⟨W1, hW1⟩ : ∃ W1, W.setCell ⟨tb, i, none⟩ (.map (some W.heap.size)) = W1 := ⟨_, rfl⟩
    rw [hW1] at hg hB hsz hV
    have hb1 : Below W1.heap.size W1 V := by rw [hV]; exact (Below.refl _ _).alloc (Nat.le_refl _) _
    have hti := (hT.ti.turn hg).mkmap hlt HMM.out hb1 (by rw [hV]; exact World.alloc_heap_new _ _)
    rw [hsz] at hti
    exact Lib.hid ⟨_, _, _, W.heap.size, hti, hB.same (hb1.block tb hB.lt), cells_mk hL2 hlt, by unfold mkM; rw [if_pos rfl], (Chg.of_grown (F := fun k => k = tb) hg (fun j hj => by injection hj with hj; exact hj.symm)).trans (Chg.of_below (F := fun k => k = tb) hb1) (fun j hj => .inl hj), fun k hk => .inl hk, fun k hk => hk.elim .inl fun q => .inr (by rw [q]; exact Nat.le_refl _)⟩
   have hmk := @run_makeMap Tryz.prog
   have hfz := HWW.out.2.2.2.2.spots ok_zero
   obtain ⟨_, _, _, _, _, _, hfr, _⟩ := hfz
   have hfi := hfr i
   clear hfr
   have htl : tb < W.heap.size := HWW.out.2.2.2.2.lt _ HWW.out.2.2.2.2.own
   have hca : (W.alloc (.map #[] 0)).cell? ⟨tb, i, none⟩ = some (.map none) := (World.cell?_alloc_lt W _ ⟨tb, i, none⟩ htl).trans hcell
   have hfa : (W.alloc (.map #[] 0)).frozen? ⟨tb, i, none⟩ = false := (World.frozen?_alloc_past _ _ _ htl).trans hfi
   go_wp2_with fail
   go_meet
   exact HF.out _ rfl
  ·have HF : Hid (∃ (F' : Nat → Prop) (mv' : Nat → Option Nat) (L : List Value) (mb : Nat), TI F' W tb mv' f all ∧ Bn tb 139 L W ∧ Cells L mv' all (fun _ => False) ∧ mv' i = some mb ∧ Chg (fun k => k = tb) W W ∧ (∀ k, F k → F' k) ∧ ∀ k, F' k → F k ∨ W.heap.size ≤ k) := Lib.hid (by
    have hT := HWW.out.2.2.2.2
    obtain ⟨⟨L, hL1, hL2⟩, _⟩ := id hT
    exact ⟨F, mv, L, mb, hT.ti, hL1, hL2, HMM.out, Chg.refl _ _, fun _ h => h, fun _ h => .inl h⟩)
   go_wp2_with fail
   go_meet
   exact HF
 case rest =>
  obtain ⟨F1, mv1, L1, mb, hti, hB1, hC1, hm1, hch1, hF1, hF2⟩ := hcut.out
  have HC := Lib.hid hcut.out
  have hx := HWW.out.2.1.same (hch1.block rb HWW.out.2.1.lt (by intro q; have := HT.out.1.lt _ HT.out.1.own; have := HB.out.2.2; omega))
  have x0 := hx.cell 0
  have x1 := hx.cell 1
  simp only [List.getElem?_cons_zero, List.getElem?_cons_succ] at x0 x1
  have c0 : wc.cell? ⟨tb, i, none⟩ = some (.map (some mb)) := by rw [hB1.cell i, hC1.2.1 i hlt, hm1]
  obtain ⟨Wa, hWa⟩ : ∃ V, V = wc := ⟨_, rfl⟩
  subst hWa
  have hsz1 := hch1.size
  have hvA : Vs Wa 0 Wa.heap.size A lv := HWW.out.2.2.2.2.vs hch1 ((HT.out.2.2.2.1.below HWW.out.1).more HWW.out.1.size)
  have b1 : (0 : Int) ≤ (i : Int) := by omega
  have b2 : (i : Int) < 256 := by omega
  have HD1 := Lib.hid (And.intro hti (And.intro hB1 (And.intro hC1 (And.intro hm1 (And.intro hch1 (And.intro hF1 (And.intro hF2 (And.intro hx hvA))))))))
  clear hcut HC hx hti hB1 hC1 hm1 hch1 hF1 hF2 hvA
  go_upto_if 38 with (fail)
  go_cut [38] (fun _ V => Hid (∃ (F2 : Nat → Prop) (f2 : Fp), TI F2 V tb mv1 f2 (withR all (key, lv)) ∧ Bn tb 139 L1 V ∧ Stp F1 Wa F2 V))
  case first =>
   have htbl := HD1.out.2.1.lt
   have hmbF := ((HD1.out.1.leaf _ hlt).2 mb HD1.out.2.2.2.1).1
   have hmbl := HD1.out.1.lt _ hmbF
   have hmbt := HD1.out.1.ne _ _ hlt HD1.out.2.2.2.1
   have hmbr : mb ≠ rb := fun q => by
    have h9 := ((HD1.out.1.leaf _ hlt).2 mb HD1.out.2.2.2.1).2
    exact h9.ne (g := rb) HD1.out.2.2.2.2.2.2.2.1 q.symm
   have hMI := ((HD1.out.1.leaf _ hlt).2 mb HD1.out.2.2.2.1).2
   have hNN := HT.out.2.1
   have hll : ((leafR all i).map (vOf f)).length < 140737488355328 := by
    have h9 : (leafR all i).length ≤ all.length := List.length_filter_le _ _
    rw [List.length_map]; omega
   have hkz : okN key := by have h9 : key.size ≤ 32 := HT.out.2.2.2.2.2.1; unfold okN maxLen; omega
   have HMB := Lib.hid (And.intro hmbF (And.intro hmbl (And.intro hmbt hmbr)))
   by_cases hm0 : m = 0
   ·have e0 : ((m : Int) == 0) = true := by rw [hm0]; rfl
    obtain ⟨W4, hrun, hM4, hg4⟩ := MI.drop (w := Wa.drew) (hMI.same rfl) key hkz 0
    have z0 : W4.cell? ⟨tb, i, none⟩ = some (.map (some mb)) := (World.cell?_of_block (hg4.block tb htbl (by intro q; injection q with q; exact hmbt q.symm))).trans c0
    have z1 : W4.cell? ⟨rb, 0, none⟩ = some (.string key) := (World.cell?_of_block (hg4.block rb HD1.out.2.2.2.2.2.2.2.1.lt (by intro q; injection q with q; exact hmbr q.symm))).trans x0
    have hlv : lv = [] := List.eq_nil_of_length_eq_zero (by have := HT.out.2.2.1; omega)
    have hgg : Wa.grownBy W4 (some mb) := ⟨hg4.os, hg4.tape, hg4.output, hg4.size, hg4.block⟩
    have HFIN : Hid (∃ (F2 : Nat → Prop) (f2 : Fp), TI F2 W4 tb mv1 f2 (withR all (key, lv)) ∧ Bn tb 139 L1 W4 ∧ Stp F1 Wa F2 W4) := Lib.hid (by
     rw [hlv]
     have hii := HI.out
     refine ⟨F1, f, HD1.out.1.drop (by rw [hii]; exact HD1.out.2.2.2.1) (by rw [hii]; exact hM4) hgg, HD1.out.2.1.kept hgg (by intro q; injection q with q; exact hmbt q.symm), Chg.of_grown hgg (fun j hj => by injection hj with hj; rw [← hj]; exact hmbF), fun k hk => .inl hk⟩)
    clear hM4 hg4 hMI hgg hlv
    have HM0 := Lib.hid hm0
    clear hm0
    go_wp2_with fail
    go_region_held3 (fun V => V.cell? ⟨tb, i, none⟩ = some (.map (some mb)) ∧ V.cell? ⟨rb, 0, none⟩ = some (.string key))
     (first | exact ⟨c0, x0⟩ | exact ⟨z0, z1⟩) (first | fail)
    all_goals
     go_wp2_with fail
     go_meet
     exact HFIN.out
   ·have e0 : ((m : Int) == 0) = false := by simp; omega
    have hlv : lv ≠ [] := fun q => by have := HT.out.2.2.1; rw [q] at this; simp at this; omega
    have HK : Hid (Calls Tryz.prog 63 #[.slice A m c] Wa.drew fun e w3 => ∃ A1 c1 W4, e = .returned (.slice A1 m c1) ∧ w3.cell? ⟨tb, i, none⟩ = some (.map (some mb)) ∧ w3.cell? ⟨rb, 0, none⟩ = some (.string key) ∧ w3.cell? ⟨rb, 1, none⟩ = some (.slice A m c) ∧ (Instr.mapUpdate 93 (.map (some mb)) (.string key) (.slice A1 m c1)).run Tryz.prog w3 = .ok () W4 ∧
      W4.cell? ⟨tb, i, none⟩ = some (.map (some mb)) ∧ W4.cell? ⟨rb, 0, none⟩ = some (.string key) ∧ W4.cell? ⟨rb, 1, none⟩ = some (.slice A m c) ∧ Hid (∃ (F2 : Nat → Prop) (f2 : Fp), TI F2 W4 tb mv1 f2 (withR all (key, lv)) ∧ Bn tb 139 L1 W4 ∧ Stp F1 Wa F2 W4)) := Lib.hid (by
     refine (vers_new key (by have h9 : key.size ≤ 32 := HT.out.2.2.2.2.2.1; omega) A c m lv HT.out.2.2.1 HT.out.2.2.2.2.2.2 Wa.drew HD1.out.2.2.2.2.2.2.2.2).mono ?_
     rintro e w3 ⟨A1, c1, he, hrec, b3⟩
     have b3' : Below Wa.heap.size Wa w3 := (show Below Wa.heap.size Wa Wa.drew from (Below.refl _ _).drew).trans b3
     obtain ⟨W4, hrun, hM4, hg4⟩ := MI.store (w := w3) (hMI.same (b3'.block _ hmbl)) hll key hkz (.slice A1 m c1)
     have hbr := HD1.out.2.2.2.2.2.2.2.1.lt
     have s3 := b3'.size
     have k4 : ∀ b, b < Wa.heap.size → b ≠ mb → W4.heap[b]? = Wa.heap[b]? := fun b hb hn => (hg4.block b (by omega) (by intro q; injection q with q; exact hn q)).trans (b3'.block b hb)
     refine ⟨A1, c1, W4, he, (World.cell?_of_block (b3'.block tb htbl)).trans c0, (World.cell?_of_block (b3'.block rb hbr)).trans x0, (World.cell?_of_block (b3'.block rb hbr)).trans x1, hrun, (World.cell?_of_block (k4 tb htbl (fun q => hmbt q.symm))).trans c0, (World.cell?_of_block (k4 rb hbr (fun q => hmbr q.symm))).trans x0, (World.cell?_of_block (k4 rb hbr (fun q => hmbr q.symm))).trans x1, Lib.hid ?_⟩
     have hii := HI.out
     have hti3 := HD1.out.1.below b3'
     have hvs := hrec.out.vs
     have hml := HT.out.2.2.1
     have hput := hti3.put (key := key) (lv := lv) (A := A1) (c := c1) (L := Wa.heap.size) (B := w3.heap.size) hlv HT.out.2.2.2.2 (by rw [hii]; exact HD1.out.2.2.2.1) hvs hrec.out.1 (Nat.le_refl _) (fun k hk1 hk2 hF => by have := HD1.out.1.lt k hF; omega) (by rw [hii, hml]; exact hM4) hg4
     refine ⟨_, _, hput, (HD1.out.2.1.same (b3'.block tb htbl)).kept hg4 (by intro q; injection q with q; exact hmbt q.symm), (Chg.of_below b3').trans (Chg.of_grown (F := F1) hg4 (fun j hj => by injection hj with hj; rw [← hj]; exact hmbF)) (fun k hk => .inl hk), fun k hk => ?_⟩
     rcases hk with hk | hk
     ·exact .inl hk
     ·exact .inr hk.1)
    clear hMI hlv hll hkz hm0
    go_wp2_with fail
    go_region_held3 (fun V => V.cell? ⟨tb, i, none⟩ = some (.map (some mb)) ∧ V.cell? ⟨rb, 0, none⟩ = some (.string key) ∧ V.cell? ⟨rb, 1, none⟩ = some (.slice A m c))
     (first | exact ⟨c0, x0, x1⟩ | (refine ⟨?_, ?_, ?_⟩ <;> assumption))
     (first
      | (go_at_call 63; refine HK.out.mono ?_; rintro e w3 ⟨A1, c1, W4, rfl, q0, q1, q2, hrun, q3, q4, q5, hfin⟩))
    all_goals
     go_wp2_with fail
     go_meet
     exact hfin
  case rest =>
   obtain ⟨F2, f2, hti2, hB2, hst2⟩ := hcut.out
   have htb0 := HT.out.1.lt _ HT.out.1.own
   have hgtb : g ≠ tb := by have := HWW.out.2.2.2.1; omega
   have hgl : g < W.heap.size := by
    obtain ⟨b', off', e9, h9, _⟩ := HWW.out.2.2.1 (by simp)
    injection e9 with e9
    injection e9 with e9 _
    omega
   have hgF : ¬ F1 g := fun q => by
    rcases HD1.out.2.2.2.2.2.2.1 g q with q | q
    ·have := HT.out.1.lt _ q
     have := HWW.out.2.2.2.1
     omega
    ·omega
   have hns : Ns .i64 wc wc.heap.size (some ⟨g, 0, none⟩) [d0, d1] := fun hp => by
    obtain ⟨b', off', e9, h9, hc9⟩ := HWW.out.2.2.1 hp
    injection e9 with e9
    injection e9 with e9 e10
    subst e9 e10
    have k1 : wc.heap[g]? = W.heap[g]? := (hst2.1.block g (by have := HD1.out.2.2.2.2.1.size; omega) hgF).trans (HD1.out.2.2.2.2.1.block g hgl hgtb)
    exact ⟨g, 0, rfl, by have := hst2.1.size; have := HD1.out.2.2.2.2.1.size; omega, fun j hj => (World.cell?_of_block k1).trans (hc9 j hj)⟩
   have HI0 : Hid (∃ L, TI F2 wc tb mv1 f2 (withR all (key, lv)) ∧ Bn tb 139 L wc ∧ Stale L mv1 (withR all (key, lv)) key 0 ∧ Chg (fun k => k = tb) wc wc) := Lib.hid ⟨L1, hti2, hB2, stale_start HD1.out.2.2.1 (key, lv) HT.out.1.ok.1, Chg.refl _ _⟩
   have HST2 := Lib.hid (And.intro hst2 (And.intro hns (And.intro hgtb hti2.own)))
   have hpl : ∀ n, n ≤ 2 → (pre key n).length = n := fun n hn => by unfold pre; rw [List.length_take]; exact Nat.min_eq_left hn
   have HPL := Lib.hid hpl
   obtain ⟨Wb, hWb⟩ : ∃ V, V = wc := ⟨_, rfl⟩
   subst hWb
   clear hcut hst2 hB2 hti2 hns hpl hgF hgl
   go_wp2_with fail
   go_loopw [58] (fun q wr => ∃ n : Nat, q = .int .i64 n ∧ n ≤ 3 ∧ Hid (∃ L, TI F2 wr tb mv1 f2 (withR all (key, lv)) ∧ Bn tb 139 L wr ∧ Stale L mv1 (withR all (key, lv)) key n ∧ Chg (fun k => k = tb) Wb wr)) (fun q _ => 3 - (intOf q).toNat)
   case atStart => exact ⟨0, rfl, by omega, HI0.out⟩
   case round =>
    clear HI0
    obtain ⟨n, rfl, hn3, hst⟩ := hrel
    obtain ⟨L, hti, hB, hsl, hch⟩ := hst.out
    by_cases hlt3 : n < 3
    ·have n1 : (0 : Int) ≤ (n : Int) := by omega
     have n2 : (n : Int) < 3 := by omega
     have n3 : (n : Int) ≤ 2 := by omega
     have hns : Ns .i64 wr.drew wr.drew.heap.size (some ⟨g, 0, none⟩) (pre key n) := fun hp => by
      obtain ⟨b', off', e9, h9, hc9⟩ := HST2.out.2.1 (by simp)
      injection e9 with e9
      injection e9 with e9 e10
      subst e9 e10
      have k1 : wr.heap[g]? = Wb.heap[g]? := hch.block g h9 HST2.out.2.2.1
      have hl9 := HPL.out n (by omega)
      refine ⟨g, 0, rfl, by have := hch.size; show g < wr.heap.size; omega, fun j hj => ?_⟩
      refine (show wr.cell? ⟨g, 0 + j, none⟩ = _ from (World.cell?_of_block k1).trans (hc9 j (by simp; omega))).trans ?_
      unfold pre
      rw [HD.out.1, HD.out.2.1]
      simp only [List.getD_eq_getElem?_getD]
      rw [List.getElem?_take_of_lt (by omega)]
     have hS := Lib.hid (spot_any (some ⟨g, 0, none⟩) 2 n (pre key n) (HPL.out n (by omega)) (pre_ok key n) wr.drew hns)
     obtain ⟨s, hs⟩ : ∃ s, spotN (pre key n) = s := ⟨_, rfl⟩
     have hsl273 := spot_lt (pre_ok key n)
     rw [hs] at hS hsl273
     have s0 : (0 : Int) ≤ (s : Int) := by omega
     have s1 : (s : Int) < 273 := by omega
     obtain ⟨d, x, q0, q1, q2, q3, _, _⟩ := hsl.2.2 _ (pre_ok key n)
     rw [hs] at q0 q1 q2 q3
     rw [show 4 * s = s * 4 by omega] at q0 q1 q2 q3
     have k0 := (hB.cell _).trans q0
     have k1 := (hB.cell _).trans q1
     have k2 := (hB.cell _).trans q2
     have k3 := (hB.cell _).trans q3
     have z0 := hB.frozen (256 + s * 4)
     have z1 := hB.frozen (256 + s * 4 + 1)
     have z2 := hB.frozen (256 + s * 4 + 2)
     have z3 := hB.frozen (256 + s * 4 + 3)
     have HB := Lib.hid (And.intro hti (And.intro hB (And.intro hsl (And.intro hch hs))))
     clear hti hB hsl hch hs hns q0 q1 q2 q3 hst
     go_wp2_with fail
     go_region_held3 (fun _ => True) (trivial)
      (first
       | (go_at_call 92; refine hS.out.mono ?_; rintro e w3 ⟨rfl, q, rfl⟩))
     have hd : Bn tb 139 L (wr.drewN (1 + q)) := HB.out.2.1.same rfl
     obtain ⟨L', hB', hsl', hg'⟩ := zero_spot hd HB.out.2.2.1 hlt3 (o := 256 + s * 4) (by rw [HB.out.2.2.2.2]; omega)
     obtain ⟨X, hX⟩ : ∃ X, (((((wr.drewN (1 + q)).setCell ⟨tb, 256 + s * 4, none⟩ (.int .u32 0)).setCell ⟨tb, 256 + s * 4 + 1, none⟩ (.int .i32 0)).setCell ⟨tb, 256 + s * 4 + 2, none⟩ (.int .u32 0)).setCell ⟨tb, 256 + s * 4 + 3, none⟩ (.int .u64 0)) = X := ⟨_, rfl⟩
     rw [hX] at hB' hg' ⊢
     have hgg : wr.grownBy X (some tb) := ⟨hg'.os, hg'.tape, hg'.output, hg'.size, hg'.block⟩
     have HF : Hid (∃ L, TI F2 X tb mv1 f2 (withR all (key, lv)) ∧ Bn tb 139 L X ∧ Stale L mv1 (withR all (key, lv)) key (n + 1) ∧ Chg (fun k => k = tb) Wb X) := Lib.hid ⟨L', HB.out.1.turn hgg, hB', hsl', HB.out.2.2.2.1.trans (Chg.of_grown (F := fun k => k = tb) hgg (fun j hj => by injection hj with hj; exact hj.symm)) (fun j hj => .inl hj)⟩
     clear hd hB' hsl' hg' hX hgg k0 k1 k2 k3 z0 z1 z2 z3
     go_wp2_with fail
     go_roundw
     case rel => exact ⟨n + 1, by go_num, by omega, HF⟩
     case measure => simp only [intOf]; omega
    ·have hn : n = 3 := by omega
     subst hn
     have HF : Hid (TR F2 wr tb mv1 f2 (withR all (key, lv)) (fun _ => False) ∧ Stp F w F2 wr) := Lib.hid (by
      refine ⟨hti.tr hB hsl.cells, ?_, fun k hk => ?_⟩
      ·have c1 : Chg F w W := Chg.of_below HWW.out.1
       have c2 : Chg F w Wa := c1.trans HD1.out.2.2.2.2.1 fun k hk => .inl (by have hk : k = tb := hk; rw [hk]; exact HT.out.1.own)
       have c3 : Chg F w Wb := c2.trans HST2.out.1.1 fun k hk => by
        rcases HD1.out.2.2.2.2.2.2.1 k hk with q | q
        ·exact .inl q
        ·exact .inr (Nat.le_trans HWW.out.1.size q)
       exact c3.trans hch fun k hk => .inl (by have hk : k = tb := hk; rw [hk]; exact HT.out.1.own)
      ·rcases HST2.out.1.2 k hk with q | q
       ·rcases HD1.out.2.2.2.2.2.2.1 k q with q | q
        ·exact .inl q
        ·exact .inr (Nat.le_trans HWW.out.1.size q)
       ·exact .inr (by have := HWW.out.1.size; have := HD1.out.2.2.2.2.1.size; omega))
     clear hst hti hB hsl hch
     go_wp2_with fail
     go_ret
     exact ⟨F2, mv1, f2, rfl, HF⟩
end
end Tree
end Go.Proofs.YtkfdplfgaddkmaaGreat

/-
 firthlaw14.under: did a version come behind all that another one came behind, span by span?
-/
namespace Go.Proofs.YtkfdplfgaddkmaaGreat
namespace Mend
open Go.RowKit Vers Span Blk
attribute [local go_sem ↓] Go.wp_at_zero Go.wp_at_succ
def inOne (x y : Sp) : Bool := (x.1 == y.1) && (decide (y.2.1 ≤ x.2.1) && decide (x.2.2 ≤ y.2.2))
def underF (a b : List Sp) : Bool := a.all fun x => b.any (inOne x)
end Mend
end Go.Proofs.YtkfdplfgaddkmaaGreat

/-
 What comes of merging in another order, and twice; on plain lists.
-/
namespace Go.Proofs.YtkfdplfgaddkmaaGreat
namespace Vers
open Span

def plainP (x y : Vr) : Prop := (mem x.past y.s y.n → withinF y.past x.past = true ∧ ¬ mem y.past x.s x.n) ∧ (same x y → x = y)
instance (x y : Vr) : Decidable (plainP x y) := by unfold plainP; infer_instance
def plainF (l : List Vr) : Prop := ∀ x ∈ l, ∀ y ∈ l, plainP x y
instance (l : List Vr) : Decidable (plainF l) := by unfold plainF; infer_instance
section
variable {a b c : List Vr} (hp : plainF (a ++ b ++ c))
include hp
end
end Vers
end Go.Proofs.YtkfdplfgaddkmaaGreat

/-
 Versions gathered in a row of the call's own (the first part of VersLawPlain).
-/
namespace Go.Proofs.YtkfdplfgaddkmaaGreat
namespace Vers
open Go.RowKit Span
attribute [local go_sem ↓] Go.wp_at_zero Go.wp_at_succ

section
variable {P : Program} (w : World)
end

end Vers
end Go.Proofs.YtkfdplfgaddkmaaGreat
