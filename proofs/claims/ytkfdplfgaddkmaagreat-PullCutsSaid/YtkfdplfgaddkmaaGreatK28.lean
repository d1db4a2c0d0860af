/-
  Several texts of this family in one: TreeHash, TreeTell, TreeLaw, MendGiveRef, MendStep, MendDiffer, MendAns, MendTakeRef, MendDoubt, MendAnswerRef, MendLaid, MendFewPlain, MendKeyPlain, MendWritten, MendAwakePlain, MendStepP, MendAnswer, MendSame, MendGive, MendOpen, TreeBuilt, TreeAwake.
-/
import Derived.Test.YtkfdplfgaddkmaaGreatK26
import Derived.Test.YtkfdplfgaddkmaaGreatK17
import Derived.Test.YtkfdplfgaddkmaaGreatK27
import Derived.Deep.RegionHeld3
import Derived.Deep.DrawnRows
import Derived.Test.YtkfdplfgaddkmaaGreatK29
import Derived.Test.YtkfdplfgaddkmaaGreatK21
import Derived.Test.YtkfdplfgaddkmaaGreatK13
import Derived.Test.YtkfdplfgaddkmaaGreatK22
import Derived.Test.YtkfdplfgaddkmaaGreatK32
import Derived.Test.YtkfdplfgaddkmaaGreatK14
/-
 The hash of a place: made when it is first asked for.
-/
namespace Go.Proofs.YtkfdplfgaddkmaaGreat
namespace Tree
open Go.RowKit Vers Num Ring Disk Blk
open Go.Proofs.YtkfdplfgaddkmaaGreat.Code hiding Bn
attribute [local go_sem ↓] Go.wp_at_zero Go.wp_at_succ

section
variable {F : Nat → Prop} {w : World} {tb : Nat} {mv : Nat → Option Nat} {f : Fp} {all : List Rc} {Bz : List Int → Prop} {p : List Int}
set_option maxRecDepth 100000 in
set_option maxHeartbeats 2000000 in
theorem make_any {k : Nat} (HW : WorkC k) (h : TR F w tb mv f all Bz) (hN : all.length ≤ 3518437208882) (A : Option Addr) (c n m : Nat) (hn : p.length = n) (hp : okP p) (hk : p.length + k = 2) (hr : Ns .i64 w w.heap.size A p) (hb : ∀ q, okP q → p <+: q → q ≠ p → ¬ Bz q) (hbp : Bz p) (hm : ¬ m = tb ∧ ¬ m + 1 = tb ∧ ¬ m + 2 = tb)
  (B0 : Bn m 80 [hd tb] w) (B1 : Bn (m + 1) 24 [.slice A n c] w) (B2 : Bn (m + 2) 156 [.pointer (some ⟨tb, offN p, none⟩)] w) :
  Calls Tryz.prog 94 #[.pointer (some ⟨m, 0, none⟩), .pointer (some ⟨m + 1, 0, none⟩), .pointer (some ⟨m + 2, 0, none⟩)] w
   (Once.Held tb (offN p) (fun w' => TR F w' tb mv f all Bz ∧ w'.cell? ⟨tb, offN p + 3, none⟩ = some (.int .u64 (hF k all p)) ∧ Chg (fun j => j = tb) w w')) := by
 have H1 := Lib.hid (fun (W : World) (hT : TR F W tb mv f all Bz) (hW : Ns .i64 W W.heap.size A p) => HW F W tb mv f all Bz hT hN A c n p hn hp hk hW hb)
 obtain ⟨x, hx⟩ : ∃ x, hF k all p = x := ⟨_, rfl⟩
 rw [hx] at H1 ⊢
 have HT := Lib.hid (And.intro h (And.intro hr (And.intro hp hbp)))
 obtain ⟨off, hoff⟩ : ∃ off, offN p = off := ⟨_, rfl⟩
 have HO := Lib.hid hoff
 rw [hoff] at B2 ⊢
 have a0 := B0.cell 0
 have a1 := B1.cell 0
 have a2 := B2.cell 0
 simp only [List.getElem?_cons_zero] at a0 a1 a2
 have l0 := B0.lt
 have l1 := B1.lt
 have l2 := B2.lt
 clear hx h hr hp hbp hb hk hn HW hoff B0 B1 B2
 unfold hd at H1 a0
 go_enter Tryz.func94, Tryz.ntmps94
 go_wp2_with fail
 have n0 : ∀ j, (⟨tb, j, none⟩ : Addr) ≠ ⟨m, 0, none⟩ := fun j q => hm.1 (by injection q with q; exact q.symm)
 have n1 : ∀ j, (⟨tb, j, none⟩ : Addr) ≠ ⟨m + 1, 0, none⟩ := fun j q => hm.2.1 (by injection q with q; exact q.symm)
 have n2 : ∀ j, (⟨tb, j, none⟩ : Addr) ≠ ⟨m + 2, 0, none⟩ := fun j q => hm.2.2 (by injection q with q; exact q.symm)
 have HNN := Lib.hid (And.intro n0 (And.intro n1 n2))
 have HK : Hid (Calls Tryz.prog 95 #[.pointer (some ⟨tb, 0, none⟩), .slice A n c] w.drew fun e w2 => e = .returned (.int .u64 x) ∧ w2.cell? ⟨m, 0, none⟩ = some (.pointer (some ⟨tb, 0, none⟩)) ∧ w2.cell? ⟨m + 1, 0, none⟩ = some (.slice A n c) ∧ w2.cell? ⟨m + 2, 0, none⟩ = some (.pointer (some ⟨tb, off, none⟩)) ∧ (∃ y, w2.cell? ⟨tb, off + 3, none⟩ = some (.int .u64 y)) ∧ w2.frozen? ⟨tb, off + 3, none⟩ = false ∧ Hid (TR F w2 tb mv f all Bz ∧ Chg (fun j => j = tb) w w2)) := Lib.hid (by
  refine (H1.out w.drew (HT.out.1.keep (Nat.le_refl _) fun _ _ => rfl) HT.out.2.1.drew).mono ?_
  rintro e w2 ⟨he, h2⟩
  have hch : Chg (fun j => j = tb) w w2 := (show Chg (fun j => j = tb) w w.drew from ⟨rfl, rfl, rfl, Nat.le_refl _, fun _ _ _ => rfl⟩).trans h2.out.2 (fun j hj => .inl hj)
  obtain ⟨d, k', y, s0, s1, s3, sf, _⟩ := h2.out.1.spots HT.out.2.2.1
  rw [HO.out] at s3
  exact ⟨he, (World.cell?_of_block (hch.block _ l0 hm.1)).trans a0, (World.cell?_of_block (hch.block _ l1 hm.2.1)).trans a1, (World.cell?_of_block (hch.block _ l2 hm.2.2)).trans a2, ⟨y, s3⟩, sf _, Lib.hid ⟨h2.out.1, hch⟩⟩)
 clear n0 n1 n2 H1
 go_region_held3 (fun V => V.cell? ⟨m, 0, none⟩ = some (.pointer (some ⟨tb, 0, none⟩)) ∧ V.cell? ⟨m + 1, 0, none⟩ = some (.slice A n c) ∧ V.cell? ⟨m + 2, 0, none⟩ = some (.pointer (some ⟨tb, off, none⟩)))
  (first | exact ⟨a0, a1, a2⟩ | (refine ⟨?_, ?_, ?_⟩ <;> assumption) | exact ⟨(World.cell?_setCell_other _ _ _ _ (HNN.out.1 _)).trans (by assumption), (World.cell?_setCell_other _ _ _ _ (HNN.out.2.1 _)).trans (by assumption), (World.cell?_setCell_other _ _ _ _ (HNN.out.2.2 _)).trans (by assumption)⟩)
  (first
   | (go_at_call 95; refine HK.out.mono ?_; rintro e w2 ⟨rfl, q0, q1, q2, ⟨y, q3⟩, q4, h2⟩))
 have hT := h2.out.1.hashed HT.out.2.2.1 HT.out.2.2.2 x
 rw [HO.out] at hT
 obtain ⟨d, k', y', s0, s1, s3, sf, sb, _⟩ := hT.spots HT.out.2.2.1
 obtain ⟨e0, e1⟩ := sb HT.out.2.2.2
 rw [HO.out, e0] at s0
 rw [HO.out, e1] at s1
 have s3' : (w2.setCell ⟨tb, off + 3, none⟩ (.int .u64 x)).cell? ⟨tb, off + 3, none⟩ = some (.int .u64 x) := World.cell?_setCell_same _ _ _ q3
 exact bodyPost_end (v := .tuple #[]) (results_none rfl _ _ _) rfl ⟨rfl, ⟨hT, s3', h2.out.2.trans (Chg.of_grown (F := fun j => j = tb) (gset _ _ _ _) (fun j hj => by injection hj with hj; exact hj.symm)) (fun j hj => .inl hj)⟩, s0, s1, sf _, sf _⟩

def Laid3 (F : Nat → Prop) (w : World) (tb : Nat) (mv : Nat → Option Nat) (f : Fp) (all : List Rc) (Bz : List Int → Prop) (m : Nat) (A : Option Addr) (n c : Nat) (p : List Int) (off : Nat) (X : World) : Prop :=
 Bn m 80 [.pointer (some ⟨tb, 0, none⟩)] X ∧ Bn (m + 1) 24 [.slice A n c] X ∧ Bn (m + 2) 156 [.pointer (some ⟨tb, off, none⟩)] X ∧ Below w.heap.size w X ∧ TR F X tb mv f all Bz ∧ Ns .i64 X X.heap.size A p
set_option maxRecDepth 100000 in
set_option maxHeartbeats 2000000 in
theorem hash_work {k : Nat} (HW : WorkC k) : HashC k := by
 intro F w tb mv f all Bz h hN A c n p hn hp hk hr hb
 have hbp : ¬ Bz p := hb p hp (List.prefix_refl p)
 have hlt := h.lt _ h.own
 obtain ⟨m, hm⟩ : ∃ m, w.heap.size = m := ⟨_, rfl⟩
 obtain ⟨U, hU⟩ : ∃ U, (w.alloc (.cells #[hd tb] 80)).alloc (.cells #[.slice A n c] 24) = U := ⟨_, rfl⟩
 have hbU : Below w.heap.size w U := by rw [← hU]; exact ((Below.refl _ _).alloc (Nat.le_refl _) _).alloc (by simp) _
 have sU : U.heap.size = m + 2 := by rw [← hU, ← hm]; simp
 have B0 : Bn m 80 [hd tb] U := by
  rw [← hU, ← hm]
  exact (show Bn w.heap.size 80 [hd tb] (w.alloc (.cells #[hd tb] 80)) from World.alloc_heap_new _ _).same (Below.heap_alloc _ _ _ (by simp))
 have B1 : Bn (m + 1) 24 [.slice A n c] U := by
  have h := World.alloc_heap_new (w.alloc (.cells #[hd tb] 80)) (.cells #[.slice A n c] 24)
  rw [hU] at h
  rw [← hm]
  show U.heap[w.heap.size + 1]? = _
  simpa using h
 have hTU := h.below hbU
 have hrU := h.ns (Chg.of_below hbU) hr
 have hI := Lib.hid (isPath_any A c n p hn (by omega) U hrU)
 rw [decide_eq_true hp] at hI
 have hsl := spot_lt hp
 obtain ⟨s, hs⟩ : ∃ s, spotN p = s := ⟨_, rfl⟩
 have hS : Hid (∀ V : World, (V.cell? ⟨m, 0, none⟩ = some (.pointer (some ⟨tb, 0, none⟩)) ∧ V.cell? ⟨m + 1, 0, none⟩ = some (.slice A n c) ∧ Below U.heap.size U V) → Calls Tryz.prog 92 #[.slice A n c] V (fun e w' => e = .returned (.int .i64 (s : Nat)) ∧ ∃ q, w' = V.drewN q)) := Lib.hid fun V hV => by
  have h9 := spot_any A c n p hn hp V ((hrU.below hV.2.2).more hV.2.2.size)
  rw [hs] at h9
  exact h9
 have HSP := Lib.hid hs
 have HOF : Hid (offN p = 256 + s * 4) := Lib.hid (by unfold offN; rw [hs]; omega)
 rw [hs] at hsl
 have s0' : (0 : Int) ≤ (s : Int) := by omega
 have s1' : (s : Int) < 273 := by omega
 have bUd : Below U.heap.size U U.drew := (Below.refl _ _).drew
 have bUq : ∀ q, Below U.heap.size U (U.drewN q) := fun q => ⟨rfl, rfl, rfl, Nat.le_refl _, fun _ _ => rfl⟩
 have bUa : ∀ (o : Obj) (q : Nat), Below U.heap.size U ((U.alloc o).drewN q) := fun o q => ((Below.refl _ _).alloc (Nat.le_refl _) o).trans ⟨rfl, rfl, rfl, Nat.le_refl _, fun _ _ => rfl⟩
 have bUs : ∀ (q : Nat) (v : Value), U.cell? ⟨m, 0, none⟩ = some (.pointer (some ⟨tb, 0, none⟩)) ∧ U.cell? ⟨m + 1, 0, none⟩ = some (.slice A n c) → ((((U.alloc (.cells #[.pointer none] 156)).drewN q).setCell ⟨m + 2, 0, none⟩ v).cell? ⟨m, 0, none⟩ = some (.pointer (some ⟨tb, 0, none⟩)) ∧ (((U.alloc (.cells #[.pointer none] 156)).drewN q).setCell ⟨m + 2, 0, none⟩ v).cell? ⟨m + 1, 0, none⟩ = some (.slice A n c) ∧ Below U.heap.size U (((U.alloc (.cells #[.pointer none] 156)).drewN q).setCell ⟨m + 2, 0, none⟩ v)) := fun q v hh => by
  have b1 : Below U.heap.size U (((U.alloc (.cells #[.pointer none] 156)).drewN q).setCell ⟨m + 2, 0, none⟩ v) := (bUa (.cells #[.pointer none] 156) q).grown (gset _ _ _ _) (bUa _ q).size (fun j hj => by injection hj with hj; omega)
  exact ⟨(b1.cell (p := ⟨m, 0, none⟩) (show m < _ by omega)).trans hh.1, (b1.cell (p := ⟨m + 1, 0, none⟩) (show m + 1 < _ by omega)).trans hh.2, b1⟩
 have HBB := Lib.hid (And.intro bUd (And.intro bUq (And.intro bUa bUs)))
 have a0 := B0.cell 0
 have a1 := B1.cell 0
 simp only [List.getElem?_cons_zero] at a0 a1
 have HU := Lib.hid (And.intro hbU (And.intro sU (And.intro B0 (And.intro B1 (And.intro hTU (And.intro hrU hm))))))
 have HT := Lib.hid (And.intro h (And.intro hr (And.intro hp (And.intro hn (And.intro hk (And.intro hb hbp))))))
 have HE : Hid (hashF all p = hF k all p) := Lib.hid (by unfold hashF; rw [if_pos hp, show 2 - p.length = k by omega])
 have HM := Lib.hid hm
 clear hbU B0 B1 hTU hrU h hr hp hn hk hb hbp hs bUd bUq bUa bUs
 unfold hd at a0 hU ⊢
 go_enter Tryz.func74, Tryz.ntmps74
 go_wp2_with fail
 refine hI.out.mono ?_
 rintro e w1 ⟨rfl, rfl⟩
 go_wp2_with fail
 have lm0 : m < U.heap.size := by omega
 have lm1 : m + 1 < U.heap.size := by omega
 have HXF : Hid ((∀ q, Hid (Laid3 F w tb mv f all Bz m A n c p (256 + s * 4) (((U.alloc (.cells #[.pointer none] 156)).drewN q).setCell ⟨m + 2, 0, none⟩ (.pointer (some ⟨tb, 256 + s * 4, none⟩))))) ∧ ∀ q, Hid (Laid3 F w tb mv f all Bz m A n c p (256 + s * 4) ((U.drewN q).alloc (.cells #[.pointer (some ⟨tb, 256 + s * 4, none⟩)] 156)))) := Lib.hid (by
  constructor
  ·intro q
   have b1 := (HBB.out.2.2.2 q (.pointer (some ⟨tb, 256 + s * 4, none⟩)) ⟨a0, a1⟩).2.2
   have h2 : Bn (m + 2) 156 [.pointer none] ((U.alloc (.cells #[.pointer none] 156)).drewN q) := by
    have h := World.alloc_heap_new U (.cells #[.pointer none] 156)
    rw [sU] at h
    exact h
   have b0 : Below w.heap.size w (((U.alloc (.cells #[.pointer none] 156)).drewN q).setCell ⟨m + 2, 0, none⟩ (.pointer (some ⟨tb, 256 + s * 4, none⟩))) := HU.out.1.trans (b1.mono HU.out.1.size)
   exact Lib.hid ⟨HU.out.2.2.1.same (b1.block _ lm0), HU.out.2.2.2.1.same (b1.block _ lm1), h2.set 0 _, b0, HT.out.1.below b0, (HT.out.2.1.below b0).more b0.size⟩
  ·intro q
   have b1 : Below U.heap.size U ((U.drewN q).alloc (.cells #[.pointer (some ⟨tb, 256 + s * 4, none⟩)] 156)) := (HBB.out.2.1 q).alloc (Nat.le_refl _) _
   have h2 : Bn (m + 2) 156 [.pointer (some ⟨tb, 256 + s * 4, none⟩)] ((U.drewN q).alloc (.cells #[.pointer (some ⟨tb, 256 + s * 4, none⟩)] 156)) := by
    have h := World.alloc_heap_new (U.drewN q) (.cells #[.pointer (some ⟨tb, 256 + s * 4, none⟩)] 156)
    rw [show (U.drewN q).heap.size = m + 2 from sU] at h
    exact h
   have b0 : Below w.heap.size w ((U.drewN q).alloc (.cells #[.pointer (some ⟨tb, 256 + s * 4, none⟩)] 156)) := HU.out.1.trans (b1.mono HU.out.1.size)
   exact Lib.hid ⟨HU.out.2.2.1.same (b1.block _ lm0), HU.out.2.2.2.1.same (b1.block _ lm1), h2, b0, HT.out.1.below b0, (HT.out.2.1.below b0).more b0.size⟩)
 have HNE : Hid (¬ m = tb ∧ ¬ m + 1 = tb ∧ ¬ m + 2 = tb) := Lib.hid ⟨by omega, by omega, by omega⟩
 clear hU hm
 go_region_held3 (fun V => V.cell? ⟨m, 0, none⟩ = some (.pointer (some ⟨tb, 0, none⟩)) ∧ V.cell? ⟨m + 1, 0, none⟩ = some (.slice A n c) ∧ Below U.heap.size U V)
  (first | exact ⟨a0, a1, HBB.out.1⟩ | exact ⟨a0, a1, HBB.out.2.1 _⟩ | exact ⟨(World.cell?_alloc_lt _ _ ⟨m, 0, none⟩ lm0).trans a0, (World.cell?_alloc_lt _ _ ⟨m + 1, 0, none⟩ lm1).trans a1, HBB.out.2.2.1 _ _⟩ | exact ⟨(World.cell?_alloc_lt _ _ ⟨m, 0, none⟩ lm0).trans a0, (World.cell?_alloc_lt _ _ ⟨m + 1, 0, none⟩ lm1).trans a1, HBB.out.2.2.1 _ 1⟩ | exact HBB.out.2.2.2 _ _ ⟨a0, a1⟩ | trace_state)
  (first
   | (go_at_call 92; refine (hS.out _ (by assumption)).mono ?_; rintro e w2 ⟨rfl, q, rfl⟩))
 all_goals
  first
   | (have hXX := HXF.out.1 (1 + q)
      obtain ⟨X, hX⟩ : ∃ X, (((U.alloc (.cells #[.pointer none] 156)).drewN (1 + q)).setCell ⟨m + 2, 0, none⟩ (.pointer (some ⟨tb, 256 + s * 4, none⟩))) = X := ⟨_, rfl⟩
      rw [hX] at hXX ⊢
      clear hX)
   | (have hXX := HXF.out.2 (1 + q)
      obtain ⟨X, hX⟩ : ∃ X, ((U.drewN (1 + q)).alloc (.cells #[.pointer (some ⟨tb, 256 + s * 4, none⟩)] 156)) = X := ⟨_, rfl⟩
      rw [hX] at hXX ⊢
      clear hX)
  obtain ⟨x0, x1, x2, bX, hTX, hrX⟩ := hXX.out
  have c0 := x0.cell 0
  have c1 := x1.cell 0
  have c2 := x2.cell 0
  simp only [List.getElem?_cons_zero] at c0 c1 c2
  obtain ⟨d, k', x, s0, s1, s3, sf, _, sb⟩ := hTX.spots HT.out.2.2.1
  obtain ⟨e1, e2⟩ := sb HT.out.2.2.2.2.2.2
  rw [HOF.out] at s0 s1 s3
  rw [e1] at s1
  have hmf : ∀ (fn : Fn) (first cap : Array Value) (w : World), (Instr.makeFunc fn first cap).run Tryz.prog w = .ok (.func fn first cap) w := fun _ _ _ _ => rfl
  obtain ⟨off, hoff⟩ : ∃ off, 256 + s * 4 = off := ⟨_, rfl⟩
  rw [hoff] at s0 s1 s3 c2 x2 ⊢
  have HOFF := Lib.hid hoff
  clear hoff hXX
  have HX2 := Lib.hid (And.intro x0 (And.intro x1 (And.intro x2 (And.intro bX (And.intro hTX hrX)))))
  rcases e2 with e2 | ⟨e2, e3⟩
  ·rw [e2] at s0
   have hsf := sf (off + 1)
   have hlock := hTX.lock HT.out.2.2.1 HT.out.2.2.2.2.2.2 (by rw [HOF.out, HOFF.out]; exact s0)
   rw [HOF.out, HOFF.out] at hlock
   obtain ⟨W1, hW1⟩ : ∃ W1, X.setCell ⟨tb, off + 1, none⟩ (.int .i32 1) = W1 := ⟨_, rfl⟩
   have hg1 : X.grownBy W1 (some tb) := by rw [← hW1]; exact gset _ _ _ _
   rw [hW1] at hlock
   have hmk := make_any HW hlock hN A c n m HT.out.2.2.2.1 HT.out.2.2.1 HT.out.2.2.2.2.1 (hTX.ns (Chg.of_grown hg1 (fun j hj => by injection hj with hj; exact hj.symm)) hrX) (fun q hq hpq hne hq2 => by
     rcases hq2 with h9 | h9
     ·exact HT.out.2.2.2.2.2.1 q hq hpq h9
     ·exact hne h9) (.inr rfl) HNE.out (x0.kept hg1 (by intro h9; injection h9 with h9; exact HNE.out.1 h9)) (x1.kept hg1 (by intro h9; injection h9 with h9; exact HNE.out.2.1 h9)) (by rw [HOF.out, HOFF.out]; exact x2.kept hg1 (by intro h9; injection h9 with h9; exact HNE.out.2.2 h9))
   rw [HOF.out, HOFF.out, ← hW1] at hmk
   have hD := Lib.hid (Once.do_first tb off 94 #[.pointer (some ⟨m, 0, none⟩), .pointer (some ⟨m + 1, 0, none⟩), .pointer (some ⟨m + 2, 0, none⟩)] _ X s0 s1 hsf (enters_of Tryz.func94 (by kernel_rfl) rfl _) hmk)
   have HG1 := Lib.hid (And.intro hg1 hW1)
   clear hmk hlock hg1 hW1 x0 x1 x2 bX hTX hrX s0 s1 s3 hsf sf sb e1 e2
   go_wp2_with fail
   refine hD.out.mono ?_
   rintro e w4 ⟨rfl, w2, ⟨hT2, hc2, hch2⟩, _, _, hw4⟩
   have hT4 := hT2.done (Bz := Bz) HT.out.2.2.1 (fun q hq => ⟨.inl, fun h9 => h9.resolve_right hq⟩) HT.out.2.2.2.2.2.2 (by rw [HOF.out, HOFF.out, HE.out]; exact hc2)
   rw [HOF.out, HOFF.out, ← hw4] at hT4
   have h4 : w4.cell? ⟨tb, off + 3, none⟩ = some (.int .u64 (hF k all p)) := by
    rw [hw4]
    refine (World.cell?_setCell_other _ ⟨tb, off + 1, none⟩ ⟨tb, off + 3, none⟩ _ (by simp)).trans ((World.cell?_setCell_other _ ⟨tb, off, none⟩ ⟨tb, off + 3, none⟩ _ (by simp)).trans ?_)
    rw [World.cell?_drew]
    exact hc2
   have hg4 : w2.grownBy w4 (some tb) := by rw [hw4]; exact grown_trans_one (grown_trans_one (show w2.grownBy w2.drew (some tb) from ⟨rfl, rfl, rfl, Nat.le_refl _, fun _ _ _ => rfl⟩) (gset w2.drew tb off (.int .u32 1))) (gset _ tb _ _)
   have ch1 : Chg (fun j => j = tb) X w2 := (Chg.of_grown (F := fun j => j = tb) HG1.out.1 (fun j hj => by injection hj with hj; exact hj.symm)).trans (HG1.out.2 ▸ hch2) (fun j hj => .inl hj)
   have ch4 : Chg (fun j => j = tb) X w4 := ch1.trans (Chg.of_grown (F := fun j => j = tb) hg4 (fun j hj => by injection hj with hj; exact hj.symm)) (fun j hj => .inl hj)
   have hB4 := HX2.out.2.2.1.same (ch4.block _ HX2.out.2.2.1.lt HNE.out.2.2)
   have c2' := hB4.cell 0
   simp only [List.getElem?_cons_zero] at c2'
   have HF : Hid (TR F w4 tb mv f all Bz ∧ Chg (fun j => j = tb) w w4) := Lib.hid ⟨hT4, (Chg.of_below HX2.out.2.2.2.1).trans ch4 (fun j hj => .inl hj)⟩
   clear hT4 hT2 hc2 hch2 hw4 hg4 ch1 ch4 hB4 c0 c1 c2 hD
   go_wp2_with fail
   go_ret
   exact ⟨rfl, HF⟩
  ·rw [e2] at s0
   rw [e3, HE.out] at s3
   have HF : Hid (TR F X tb mv f all Bz ∧ Chg (fun j => j = tb) w X) := Lib.hid ⟨hTX, Chg.of_below bX⟩
   have hD := Lib.hid (fun fv => Once.do_done ⟨tb, off, none⟩ 1 (by decide) fv X s0)
   clear x0 x1 x2 bX hTX hrX s0 s1 sf sb e1 e2 e3
   go_wp2_with fail
   refine (hD.out _).mono ?_
   rintro e w4 ⟨rfl, hw4⟩
   obtain rfl := hw4.symm
   go_wp2_with fail
   go_ret
   exact ⟨rfl, HF⟩

theorem hash_all : ∀ k, HashC k
 | 0 => hash_work work_zero
 | k + 1 => hash_work (work_succ (hash_all k))
end
end Tree
end Go.Proofs.YtkfdplfgaddkmaaGreat

/-
 What a tree tells, whatever the path; where two lists of hashes differ.
-/
namespace Go.Proofs.YtkfdplfgaddkmaaGreat
namespace Tree
open Go.RowKit Vers Num Ring Disk Blk
open Go.Proofs.YtkfdplfgaddkmaaGreat.Code hiding Bn
attribute [local go_sem ↓] Go.wp_at_zero Go.wp_at_succ

section
variable {F : Nat → Prop} {w : World} {tb : Nat} {mv : Nat → Option Nat} {f : Fp} {all : List Rc}
set_option maxRecDepth 100000 in
set_option maxHeartbeats 2000000 in
theorem hash_tell (h : TR F w tb mv f all fun _ => False) (hN : all.length ≤ 3518437208882) (A : Option Addr) (c n : Nat) (p : List Int) (hn : p.length = n) (hbig : n ≤ 140737488355328) (hr : Ns .i64 w w.heap.size A p) :
  Calls Tryz.prog 74 #[hd tb, .slice A n c] w (Told F tb mv f all (fun _ => False) (hashF all p) w) := by
 by_cases hp : okP p
 ·have e : hashF all p = hF (2 - p.length) all p := by unfold hashF; rw [if_pos hp]
  rw [e]
  exact hash_all (2 - p.length) F w tb mv f all (fun _ => False) h hN A c n p hn hp (by have := hp.2; omega) hr fun _ _ _ q => q
 ·have e : hashF all p = 0 := by unfold hashF; rw [if_neg hp]
  rw [e]
  obtain ⟨U, hU⟩ : ∃ U, (w.alloc (.cells #[hd tb] 80)).alloc (.cells #[.slice A n c] 24) = U := ⟨_, rfl⟩
  have hbU : Below w.heap.size w U := by rw [← hU]; exact ((Below.refl _ _).alloc (Nat.le_refl _) _).alloc (by simp) _
  have B1 : Bn (w.heap.size + 1) 24 [.slice A n c] U := by
   have h := World.alloc_heap_new (w.alloc (.cells #[hd tb] 80)) (.cells #[.slice A n c] 24)
   rw [hU] at h
   show U.heap[w.heap.size + 1]? = _
   simpa using h
  have a1 := B1.cell 0
  simp only [List.getElem?_cons_zero] at a1
  have H1 := Lib.hid (isPath_any A c n p hn hbig U (h.ns (Chg.of_below hbU) hr))
  rw [decide_eq_false hp] at H1
  have HF : Hid (TR F U tb mv f all (fun _ => False) ∧ Chg (fun k => k = tb) w U) := Lib.hid ⟨h.below hbU, Chg.of_below hbU⟩
  clear hp e hn hr h hbU B1
  unfold hd at hU ⊢
  go_enter Tryz.func74, Tryz.ntmps74
  go_wp2_with fail
  refine H1.out.mono ?_
  rintro e w1 ⟨rfl, rfl⟩
  go_wp2_with fail
  go_ret
  exact ⟨rfl, HF⟩

def KidsQ (F : Nat → Prop) (tb : Nat) (mv : Nat → Option Nat) (f : Fp) (all : List Rc) (zs : List Int) (w : World) (e : Ending) (w' : World) : Prop :=
 ∃ A m c, e = .returned (.slice A m c) ∧ Hid (zs.length = m ∧ m ≤ c ∧ Ns .u64 w' w'.heap.size A zs ∧ (∀ a, 0 < m → A = some a → w.heap.size ≤ a.block) ∧ TR F w' tb mv f all (fun _ => False) ∧ Chg (fun k => k = tb) w w')
set_option maxRecDepth 100000 in
set_option maxHeartbeats 2000000 in
theorem kids_tell (h : TR F w tb mv f all fun _ => False) (hN : all.length ≤ 3518437208882) (A : Option Addr) (c n : Nat) (p : List Int) (hn : p.length = n) (hbig : n ≤ 140737488355328) (hr : Ns .i64 w w.heap.size A p) :
  Calls Tryz.prog 50 #[hd tb, .slice A n c] w (KidsQ F tb mv f all (kidsF all p) w) := by
 by_cases hp : okP p ∧ p.length < 2
 ·have e : kidsF all p = (List.range 16).map fun (d : Nat) => hF (1 - p.length) all (p ++ [(d : Int)]) := by
   unfold kidsF
   rw [if_pos hp]
   refine List.map_congr_left fun d hd => ?_
   unfold hashF
   rw [if_pos (ok_longer hp.1 hp.2 (List.mem_range.1 hd))]
   congr 1
   rw [List.length_append]
   simp only [List.length_cons, List.length_nil]
   omega
  rw [e]
  refine (kids_some (hash_all (1 - p.length)) h hN A c n p hn hp.1 (by have := hp.2; omega) hr fun _ _ _ _ q => q).mono ?_
  rintro e w' ⟨g, he, hh⟩
  refine ⟨some ⟨g, 0, none⟩, 16, 16, he, Lib.hid ⟨by simp, Nat.le_refl _, bn_ns hh.out.2.1, fun a _ ha => by injection ha with ha; rw [← ha]; exact hh.out.1, hh.out.2.2⟩⟩
 ·have e : kidsF all p = [] := by unfold kidsF; rw [if_neg hp]
  rw [e]
  have HF : Hid (KidsQ F tb mv f all [] w (.returned (.slice none 0 0)) w) := Lib.hid ⟨none, 0, 0, rfl, Lib.hid ⟨rfl, Nat.le_refl _, Ns.nil _, fun _ h _ => absurd h (by omega), h, Chg.refl _ _⟩⟩
  by_cases h2 : 2 ≤ n
  ·have e1 : decide ((2 : Int) ≤ (n : Int)) = true := decide_eq_true (by omega)
   clear hp e hn hr h h2
   unfold hd
   go_enter Tryz.func50, Tryz.ntmps50
   go_wp2_with fail
   go_ret
   exact HF.out
  ·have e1 : decide ((2 : Int) ≤ (n : Int)) = false := decide_eq_false (by omega)
   have H1 := Lib.hid (isPath_any A c n p hn hbig w hr)
   rw [decide_eq_false (fun q => hp ⟨q, by omega⟩)] at H1
   clear hp e hn hr h h2
   unfold hd
   go_enter Tryz.func50, Tryz.ntmps50
   go_wp2_with fail
   refine H1.out.mono ?_
   rintro e w1 ⟨rfl, rfl⟩
   go_wp2_with fail
   go_ret
   exact HF.out

set_option maxRecDepth 100000 in
theorem recs_tell (h : TR F w tb mv f all fun _ => False) (hN : all.length ≤ 3518437208882) (A : Option Addr) (c n : Nat) (p : List Int) (hn : p.length = n) (hbig : n ≤ 140737488355328) (hr : Ns .i64 w w.heap.size A p) :
  Calls Tryz.prog 51 #[hd tb, .slice A n c] w (NewRs (recsF all p) w) := by
 by_cases hp : okP p
 ·have e : recsF all p = beneath all p := by unfold recsF; rw [if_pos hp]
  rw [e]
  exact recs_any h hN A c n p hn hp hbig hr
 ·have e : recsF all p = [] := by unfold recsF; rw [if_neg hp]
  rw [e]
  have H1 := Lib.hid (isPath_any A c n p hn hbig w hr)
  rw [decide_eq_false hp] at H1
  clear hp e hn hr h
  unfold hd
  go_enter Tryz.func51, Tryz.ntmps51
  go_wp2_with fail
  refine H1.out.mono ?_
  rintro e w1 ⟨rfl, rfl⟩
  go_wp2_with fail
  go_ret
  exact ⟨none, 0, 0, [], rfl, Lib.hid ⟨rfl, rfl, Nat.le_refl _, fun h => absurd h (by simp)⟩, Below.refl _ _⟩
end

/-! ### Where lists differ -/
theorem at_any (A : Option Addr) (c n : Nat) (l : List Int) (hn : l.length = n) (i : Nat) (w : World) (hr : Ns .u64 w w.heap.size A l) :
  Calls Tryz.prog 98 #[.slice A n c, .int .i64 (i : Int)] w (fun e w' => e = .returned (.int .u64 (l.getD i 0)) ∧ w = w') := by
 by_cases hi : i < n
 ·obtain ⟨b, off, rfl, _, hc⟩ := hr (by omega)
  have c0 := hc i (by omega)
  obtain ⟨x, hx⟩ : ∃ x, l.getD i 0 = x := ⟨_, rfl⟩
  rw [hx] at c0 ⊢
  have d1 : (0 : Int) ≤ (i : Int) := by omega
  have d2 : (i : Int) < (n : Int) := by omega
  clear hx hr hc hn
  go_enter Tryz.func98, Tryz.ntmps98
  go_wp2_with fail
  go_ret
  exact ⟨rfl, rfl⟩
 ·have hx : l.getD i 0 = 0 := by simp [List.getD_eq_getElem?_getD, List.getElem?_eq_none (show l.length ≤ i by omega)]
  rw [hx]
  have d2 : ¬ (i : Int) < (n : Int) := by omega
  clear hx hr hn
  go_enter Tryz.func98, Tryz.ntmps98
  go_wp2_with fail
  go_ret
  exact ⟨rfl, rfl⟩
def dk (a b : List Int) (k : Nat) : List Int := ((List.range k).filter fun (i : Nat) => !decide (a.getD i 0 = b.getD i 0)).map fun (i : Nat) => (i : Int)
theorem dk_full (a b : List Int) : dk a b 16 = diffF a b := rfl
theorem dk_len (a b : List Int) (k : Nat) : (dk a b k).length ≤ k := by
 unfold dk
 rw [List.length_map]
 refine Nat.le_trans (List.length_filter_le _ _) ?_
 simp
theorem dk_yes {a b : List Int} {k : Nat} (h : a.getD k 0 ≠ b.getD k 0) : dk a b (k + 1) = dk a b k ++ [(k : Int)] := by
 unfold dk
 rw [List.range_succ, List.filter_append, List.map_append, List.filter_cons, if_pos (by simpa using h)]
 rfl
theorem dk_no {a b : List Int} {k : Nat} (h : a.getD k 0 = b.getD k 0) : dk a b (k + 1) = dk a b k := by
 unfold dk
 rw [List.range_succ, List.filter_append, List.map_append, List.filter_cons, if_neg (by simpa using h)]
 simp
def OwnN (l : List Int) (w : World) (e : Ending) (w' : World) : Prop := ∃ A1 m c1, e = .returned (.slice A1 m c1) ∧ Hid (l.length = m ∧ m ≤ c1 ∧ w'.ownsRow w.heap.size 3 1 (.slice A1 m c1) m (nums .i64 l)) ∧ Below w.heap.size w w'
set_option maxRecDepth 100000 in
theorem differ_any (A A' : Option Addr) (c c' n n' : Nat) (a b : List Int) (hn : a.length = n) (hn' : b.length = n') (w : World) (hr : Ns .u64 w w.heap.size A a) (hr' : Ns .u64 w w.heap.size A' b) :
  Calls Tryz.prog 80 #[.slice A n c, .slice A' n' c'] w (OwnN (diffF a b) w) := by
 obtain ⟨i0, hi0, hz0, hz1, hz2⟩ := info_parts info_int
 have HP := Lib.hid (And.intro hn (And.intro hn' (And.intro hr hr')))
 clear hn hn' hr hr'
 go_enter Tryz.func80, Tryz.ntmps80
 go_wp2_with fail
 go_loopw [5, 7] (fun v q wr => ∃ (k m : Nat) (A1 : Option Addr) (c1 : Nat), q = .int .i64 k ∧ k ≤ 16 ∧ v = .slice A1 m c1 ∧ m ≤ k ∧ Hid ((dk a b k).length = m ∧ wr.ownsRow w.heap.size 3 1 (.slice A1 m c1) m (nums .i64 (dk a b k)) ∧ Below w.heap.size w wr)) (fun _ q _ => 16 - (intOf q).toNat)
 case atStart => exact ⟨0, 0, none, 0, rfl, by omega, rfl, by omega, Lib.hid ⟨rfl, World.ownsRow_nil _ _ _ _, Below.refl _ _⟩⟩
 case round =>
  obtain ⟨k, m, A1, c1, rfl, hk, rfl, hmk, hst⟩ := hrel
  by_cases hlt : k < 16
  ·have d1 : (0 : Int) ≤ (k : Int) := by omega
   have d2 : (k : Int) < 16 := by omega
   have hb := hst.out.2.2
   have h1 := at_any A c n a HP.out.1 k wr ((HP.out.2.2.1.below hb).more hb.size)
   have h2 := at_any A' c' n' b HP.out.2.1 k wr ((HP.out.2.2.2.below hb).more hb.size)
   obtain ⟨x, hx⟩ : ∃ x, a.getD k 0 = x := ⟨_, rfl⟩
   obtain ⟨y, hy⟩ : ∃ y, b.getD k 0 = y := ⟨_, rfl⟩
   rw [hx] at h1
   rw [hy] at h2
   have H1 := Lib.hid h1
   have H2 := Lib.hid h2
   have HXY := Lib.hid (And.intro hx hy)
   have hsz := hb.size
   clear h1 h2 hx hy hb
   by_cases hxy : x = y
   ·subst hxy
    have e1 : (x != x) = false := by simp
    have HF : Hid ((dk a b (k + 1)).length = m ∧ wr.ownsRow w.heap.size 3 1 (.slice A1 m c1) m (nums .i64 (dk a b (k + 1))) ∧ Below w.heap.size w wr) := Lib.hid (by
     rw [dk_no (HXY.out.1.trans HXY.out.2.symm)]
     exact hst.out)
    clear hst
    go_wp2_with fail
    refine H1.out.mono ?_
    rintro e w1 ⟨rfl, rfl⟩
    go_wp2_with fail
    refine H2.out.mono ?_
    rintro e w1 ⟨rfl, rfl⟩
    go_wp2_with fail
    go_roundw
    case rel => exact ⟨k + 1, m, A1, c1, by go_num, by omega, rfl, by omega, HF⟩
    case measure => simp only [intOf]; omega
   ·have e1 : (x != y) = true := by simpa using hxy
    have HN : Hid (dk a b (k + 1) = dk a b k ++ [(k : Int)]) := Lib.hid (dk_yes (by rw [HXY.out.1, HXY.out.2]; exact hxy))
    have ho := hst.out.2.1
    have HST := Lib.hid hst.out
    clear hst hxy
    go_wp2_with fail
    refine H1.out.mono ?_
    rintro e w1 ⟨rfl, rfl⟩
    go_wp2_with fail
    refine H2.out.mono ?_
    rintro e w1 ⟨rfl, rfl⟩
    go_wp2_with (at_builtin; refine wpList_append_one _ rfl _ _ 24 rfl w.heap.size 3 i0 _ 8 Tryz.underlying24 hi0 hz0 hz1 hz2 rfl _ m (nums .i64 (dk a b k)) rfl ho (.int .i64 (k : Int)) 1 rfl rfl (by omega) (by omega) hsz ?_; intro v2 w2 o2 g2 at2; obtain ⟨A2, c2, rfl⟩ := own_form o2)
    have HF : Hid ((dk a b (k + 1)).length = m + 1 ∧ w2.ownsRow w.heap.size 3 1 (.slice A2 (m + 1) c2) (m + 1) (nums .i64 (dk a b (k + 1))) ∧ Below w.heap.size w w2) := Lib.hid (by
     rw [HN.out]
     exact ⟨by simp [HST.out.1], by rw [show nums .i64 (dk a b k ++ [(k : Int)]) = nums .i64 (dk a b k) ++ [.int .i64 (k : Int)] by simp [nums]]; exact o2, HST.out.2.2.grown g2 hsz (fun j hj => (ho.lt j hj).1)⟩)
    clear o2 g2 at2 ho
    go_roundw
    case rel => exact ⟨k + 1, m + 1, A2, c2, by go_num, by omega, rfl, by omega, HF⟩
    case measure => simp only [intOf]; omega
  ·have hk16 : k = 16 := by omega
   subst hk16
   rw [dk_full] at hst
   go_wp2_with fail
   go_ret
   exact ⟨A1, m, c1, rfl, Lib.hid ⟨hst.out.1, (own_low hst.out.2.1).1, hst.out.2.1⟩, hst.out.2.2⟩
end Tree
end Go.Proofs.YtkfdplfgaddkmaaGreat

/-
 Trees of a law's own (layer 11): what is done with them, from a world on.
-/
namespace Go.Proofs.YtkfdplfgaddkmaaGreat
namespace Tree
open Go.RowKit Vers Num Ring Disk Blk
open Go.Proofs.YtkfdplfgaddkmaaGreat.Code hiding Bn
def On (F : Nat → Prop) (w V : World) (tb : Nat) (all : List Rc) : Prop := (∃ mv f, TR F V tb mv f all fun _ => False) ∧ Below w.heap.size w V ∧ ∀ j, F j → w.heap.size ≤ j
theorem ns_nil {k : IntKind} {w : World} {L : Nat} {A : Option Addr} : Ns k w L A [] := fun h => by simp at h
section
variable {F G : Nat → Prop} {w V V' : World} {tb : Nat} {all : List Rc}
theorem On.old (h : On F w V tb all) : Below w.heap.size w V := h.2.1
theorem On.own (h : On F w V tb all) : F tb := by
 obtain ⟨⟨mv, f, h⟩, _⟩ := h
 exact h.own
theorem On.lt (h : On F w V tb all) {k : Nat} (hk : F k) : k < V.heap.size := by
 obtain ⟨⟨mv, f, h⟩, _⟩ := h
 exact h.lt k hk
theorem On.okA (h : On F w V tb all) : okAll all := by
 obtain ⟨⟨mv, f, h⟩, _⟩ := h
 exact h.ok
theorem On.chg (h : On F w V tb all) (hc : Chg G V V') (hG : ∀ k, F k → ¬ G k) (hw : ∀ k, G k → w.heap.size ≤ k) : On F w V' tb all := by
 obtain ⟨⟨mv, f, h1⟩, h2, h3⟩ := h
 exact ⟨⟨mv, f, h1.chg hc hG⟩, h2.trans (hc.below hw h2.size), h3⟩
theorem On.below (h : On F w V tb all) (hb : Below V.heap.size V V') : On F w V' tb all := h.chg (G := fun _ => False) (Chg.of_below hb) (fun _ _ h => h) fun _ h => h.elim
theorem On.hash (h : On F w V tb all) (hN : all.length ≤ 3518437208882) (A : Option Addr) (c n : Nat) (p : List Int) (hn : p.length = n) (hbig : n ≤ 140737488355328) (hr : Ns .i64 V V.heap.size A p) :
  Calls Tryz.prog 74 #[hd tb, .slice A n c] V (fun e w' => e = .returned (.int .u64 (hashF all p)) ∧ Hid (On F w w' tb all ∧ Chg (fun k => k = tb) V w')) := by
 obtain ⟨⟨mv, f, h1⟩, h2, h3⟩ := h
 refine (hash_tell h1 hN A c n p hn hbig hr).mono ?_
 rintro e w' ⟨rfl, hx⟩
 exact ⟨rfl, Lib.hid ⟨⟨⟨mv, f, hx.out.1⟩, h2.trans (hx.out.2.below (fun k e => by rw [e]; exact h3 _ h1.own) h2.size), h3⟩, hx.out.2⟩⟩
theorem On.kids (h : On F w V tb all) (hN : all.length ≤ 3518437208882) (A : Option Addr) (c n : Nat) (p : List Int) (hn : p.length = n) (hbig : n ≤ 140737488355328) (hr : Ns .i64 V V.heap.size A p) :
  Calls Tryz.prog 50 #[hd tb, .slice A n c] V (fun e w' => ∃ A m c, e = .returned (.slice A m c) ∧ Hid ((kidsF all p).length = m ∧ m ≤ c ∧ Ns .u64 w' w'.heap.size A (kidsF all p) ∧ (∀ a, 0 < m → A = some a → V.heap.size ≤ a.block) ∧ On F w w' tb all ∧ Chg (fun k => k = tb) V w')) := by
 obtain ⟨⟨mv, f, h1⟩, h2, h3⟩ := h
 refine (kids_tell h1 hN A c n p hn hbig hr).mono ?_
 rintro e w' ⟨A', m, c', rfl, hx⟩
 obtain ⟨q1, q2, q3, q4, q5, q6⟩ := hx.out
 exact ⟨A', m, c', rfl, Lib.hid ⟨q1, q2, q3, q4, ⟨⟨mv, f, q5⟩, h2.trans (q6.below (fun k e => by rw [e]; exact h3 _ h1.own) h2.size), h3⟩, q6⟩⟩
theorem On.recs (h : On F w V tb all) (hN : all.length ≤ 3518437208882) (A : Option Addr) (c n : Nat) (p : List Int) (hn : p.length = n) (hbig : n ≤ 140737488355328) (hr : Ns .i64 V V.heap.size A p) :
  Calls Tryz.prog 51 #[hd tb, .slice A n c] V (fun e w' => ∃ A n c ps, e = .returned (.slice A n c) ∧ Hid (ps.map Prod.fst = recsF all p ∧ n = (recsF all p).length ∧ n ≤ c ∧ Got V.heap.size w' A ps ∧ On F w w' tb all ∧ Below V.heap.size V w')) := by
 have hO := h
 obtain ⟨⟨mv, f, h1⟩, h2, h3⟩ := h
 refine (recs_tell h1 hN A c n p hn hbig hr).mono ?_
 rintro e w' ⟨A', n', c', ps, rfl, hx, hb⟩
 obtain ⟨q1, q2, q3, q4⟩ := hx.out
 exact ⟨A', n', c', ps, rfl, Lib.hid ⟨q1, q2, q3, q4, hO.below hb, hb⟩⟩
theorem On.set (h : On F w V tb all) (hN : all.length ≤ 3518437208882) (key : Nm) (A : Option Addr) (c m : Nat) (lv : List Vr) (hm : lv.length = m) (hv : Vs V 0 V.heap.size A lv) (hok : okR (key, lv)) :
  Calls Tryz.prog 72 #[hd tb, .agg #[.string key, .slice A m c]] V (fun e w' => e = .returned (.int .i64 0) ∧ Hid (∃ F', On F' w w' tb (withR all (key, lv)) ∧ Stp F V F' w')) := by
 obtain ⟨⟨mv, f, h1⟩, h2, h3⟩ := h
 refine (set_ok h1 hN key A c m lv hm hv hok).mono ?_
 rintro e w' ⟨F', mv', f', rfl, hx⟩
 refine ⟨rfl, Lib.hid ⟨F', ⟨⟨mv', f', hx.out.1⟩, h2.trans (hx.out.2.1.below h3 h2.size), fun j hj => ?_⟩, hx.out.2⟩⟩
 rcases hx.out.2.2 j hj with q | q
 ·exact h3 j q
 ·exact Nat.le_trans h2.size q
theorem on_new (hb : Below w.heap.size w V) (A : Option Addr) (c n : Nat) (l : List Rc) (hn : l.length = n) (hbig : n ≤ 3518437208882) (hr : Rs V 0 V.heap.size A l) (hok : ∀ r ∈ l, okR r) :
  Calls Tryz.prog 45 #[.slice A n c] V (fun e w' => ∃ tb, e = .returned (.tuple #[hd tb, .int .i64 0]) ∧ Hid (∃ F, On F w w' tb (layF l) ∧ (∀ k, F k → V.heap.size ≤ k) ∧ Below V.heap.size V w')) := by
 refine (new_any A c n l hn hbig V hr).mono ?_
 rintro e w' (⟨_, F, tb, mv, f, rfl, hx⟩ | ⟨hno, _⟩)
 ·exact ⟨tb, rfl, Lib.hid ⟨F, ⟨⟨mv, f, hx.out.1⟩, hb.trans (hx.out.2.2.mono hb.size), fun j hj => Nat.le_trans hb.size (hx.out.2.1 j hj)⟩, hx.out.2⟩⟩
 ·exact absurd hok hno
theorem no_new (A : Option Addr) (c n : Nat) (l : List Rc) (hn : l.length = n) (hbig : n ≤ 3518437208882) (hr : Rs V 0 V.heap.size A l) (hno : ¬ ∀ r ∈ l, okR r) :
  Calls Tryz.prog 45 #[.slice A n c] V (fun e w' => e = .returned (.tuple #[.pointer none, .int .i64 1]) ∧ Below V.heap.size V w') := by
 refine (new_any A c n l hn hbig V hr).mono ?_
 rintro e w' (⟨hok, _⟩ | ⟨_, rfl, hb⟩)
 ·exact absurd hok hno
 ·exact ⟨rfl, hb⟩
end
theorem rs_nil {w : World} {L B : Nat} {A : Option Addr} : Rs w L B A [] := fun h => by simp at h
end Tree
end Go.Proofs.YtkfdplfgaddkmaaGreat

/-
 The document's Give (layer 14).
-/
namespace Go.Proofs.YtkfdplfgaddkmaaGreat
namespace Mend
open Go.RowKit Vers Num Ring Disk Blk Tree
open Go.Proofs.YtkfdplfgaddkmaaGreat.Code hiding Bn
attribute [local go_sem ↓] Go.wp_at_zero Go.wp_at_succ
theorem filter_take {l : List Rc} (f : Rc → Bool) {k : Nat} {r : Rc} (hk : k < l.length) (hr : l.getD k r0 = r) : (l.take (k + 1)).filter f = (l.take k).filter f ++ (if f r = true then [r] else []) := by
 rw [take_at hk, hr, List.filter_append, List.filter_cons, List.filter_nil]
theorem rs_rb {w : World} {A : Option Addr} {l : List Rc} (h : Rs w 0 w.heap.size A l) : Rb w w.heap.size A l := fun hp => by
 obtain ⟨b, off, e, _, hb, hc⟩ := h hp
 exact ⟨b, off, e, hb, hc⟩
theorem rb_rs {w : World} {B : Nat} {A : Option Addr} {l : List Rc} (h : Rb w B A l) (hB : B ≤ w.heap.size) : Rs w 0 w.heap.size A l := fun hp => by
 obtain ⟨b, off, e, hb, hc⟩ := h hp
 refine ⟨b, off, e, Nat.zero_le _, hb, fun j hj => ?_⟩
 obtain ⟨A', c', h0, h1, h2, h3⟩ := hc j hj
 exact ⟨A', c', h0, h1, h2.more hB, h3⟩
def GrowR (f : Rc → Bool) (B n : Nat) (R : List Rc) (U : World) (v q : Value) (wr : World) : Prop :=
 ∃ (i x : Nat) (A1 : Option Addr) (c1 : Nat), q = .int .i64 i ∧ i ≤ n ∧ v = .slice A1 x c1 ∧ x ≤ i ∧ Hid (∃ ps, ps.map Prod.fst = (R.take i).filter f ∧ ps.length = x ∧ RowX U.heap.size B wr (.slice A1 x c1) ps ∧ Below U.heap.size U wr)
theorem GrowR.more {f : Rc → Bool} {B n i x c1 : Nat} {R : List Rc} {U wr W : World} {A1 A4 : Option Addr} {c4 ml : Nat} {key : Nm} {lv : List Vr} (h : ∃ ps, ps.map Prod.fst = (R.take i).filter f ∧ ps.length = x ∧ RowX U.heap.size B wr (.slice A1 x c1) ps ∧ Below U.heap.size U wr) (hi : i < n) (hx : x ≤ i) (hR : R.length = n) (hr : R.getD i r0 = (key, lv)) (hf : f (key, lv) = true) (hb : Below wr.heap.size wr W) (hB : B ≤ U.heap.size) (hml : lv.length = ml) (hv : Vs W 0 B A4 lv) (hz : ml ≤ c4 ∧ ml ≤ 140737488355328 ∧ key.size ≤ 140737488355328) :
  ∃ ps, ps.length = x ∧ W.ownsRow U.heap.size 70 2 (.slice A1 x c1) x (rcs ps) ∧ U.heap.size ≤ W.heap.size ∧ ∀ (w4 : World) (A5 : Option Addr) (c5 : Nat), w4.ownsRow U.heap.size 70 2 (.slice A5 (x + 1) c5) (x + 1) (rcs (ps ++ [((key, lv), A4, c4)])) → W.grownBy w4 (Value.slice A1 x c1).ownBlock → GrowR f B n R U (.slice A5 (x + 1) c5) (.int .i64 ((i : Int) + 1)) w4 := by
 obtain ⟨ps, h1, h2, h3, h4⟩ := h
 have hUW := h4.trans (hb.mono h4.size)
 have hrow := RowX.keepB h3 hb (Nat.le_trans hB h4.size)
 have hro := hrow.1
 rw [h2] at hro
 refine ⟨ps, h2, hro, hUW.size, fun w4 A5 c5 o4 g4 => ?_⟩
 have hp := RowX.put (key := key) (lv := lv) (ml := ml) hrow h2 hB hUW.size hUW hml hv hz o4 g4
 refine ⟨i + 1, x + 1, A5, c5, by push_cast; rfl, by omega, rfl, by omega, Lib.hid ⟨_, ?_, by simp [h2], hp.1, hp.2⟩⟩
 rw [filter_take f (by omega) hr, hf, List.map_append, h1]
 simp
end Mend
end Go.Proofs.YtkfdplfgaddkmaaGreat

/-
 Steps of an answer in memory: rows of three slices each (layer 14).
-/
namespace Go.Proofs.YtkfdplfgaddkmaaGreat
namespace Mend
open Go.RowKit Vers Num Ring Disk Blk Tree
open Go.Proofs.YtkfdplfgaddkmaaGreat.Code hiding Bn
abbrev Sl3 := Option Addr × Nat × Nat
abbrev St := Sl3 × Sl3 × Sl3
def slV (x : Sl3) : Value := .slice x.1 x.2.1 x.2.2
def stc (x : St) : List Value := [slV x.1, slV x.2.1, slV x.2.2]
def stcs (l : List St) : List Value := l.flatMap stc
theorem stcs_at (l : List St) : ∀ (j : Nat) (x : St), l[j]? = some x → ∀ r, r < 3 → (stcs l)[j * 3 + r]? = (stc x)[r]? := by
 induction l with
 | nil => intro j x h; simp at h
 | cons y l ih =>
  intro j x hj r hr
  have hc : stcs (y :: l) = stc y ++ stcs l := by simp [stcs]
  rw [hc]
  cases j with
  | zero =>
   simp at hj
   subst hj
   rw [Nat.zero_mul, Nat.zero_add, List.getElem?_append_left (by simp [stc]; omega)]
  | succ j =>
   rw [List.getElem?_cons_succ] at hj
   rw [List.getElem?_append_right (by simp [stc]; omega)]
   have e : (j + 1) * 3 + r - (stc y).length = j * 3 + r := by simp [stc]; omega
   rw [e]
   exact ih j x hj r hr
section
variable {P : Program} {w : World}
end
def StIs (w : World) (x : St) (s : Stp3) : Prop :=
 (s.1.length = x.1.2.1 ∧ x.1.2.1 ≤ 4 ∧ Ns .i64 w w.heap.size x.1.1 s.1) ∧ (s.2.1.length = x.2.1.2.1 ∧ x.2.1.2.1 ≤ 16 ∧ Ns .u64 w w.heap.size x.2.1.1 s.2.1) ∧ s.2.2.length = x.2.2.2.1 ∧ x.2.2.2.1 ≤ 3518437208882 ∧ Rs w 0 w.heap.size x.2.2.1 s.2.2
theorem StIs.below {w w' : World} {x : St} {s : Stp3} (h : StIs w x s) (hb : Below w.heap.size w w') : StIs w' x s :=
 ⟨⟨h.1.1, h.1.2.1, (h.1.2.2.below hb).more hb.size⟩, ⟨h.2.1.1, h.2.1.2.1, (h.2.1.2.2.below hb).more hb.size⟩, h.2.2.1, h.2.2.2.1, (h.2.2.2.2.below hb).more hb.size⟩
def Sta (G : Nat → Prop) (w : World) (P : World → Prop) : Prop := ∀ w', w.heap.size ≤ w'.heap.size → (∀ k, k < w.heap.size → ¬ G k → w'.heap[k]? = w.heap[k]?) → P w'
theorem Sta.now {G : Nat → Prop} {w : World} {P : World → Prop} (h : Sta G w P) : P w := h w (Nat.le_refl _) fun _ _ _ => rfl
theorem Sta.less {G G' : Nat → Prop} {w : World} {P : World → Prop} (h : Sta G w P) (hG : ∀ k, G' k → G k) : Sta G' w P := fun w' hs hk => h w' hs fun k h1 h2 => hk k h1 fun h3 => h2 (hG k h3)
theorem Sta.go {G G' : Nat → Prop} {w w' : World} {P : World → Prop} (h : Sta G w P) (hs : w.heap.size ≤ w'.heap.size) (hk : ∀ k, k < w.heap.size → ¬ G k → w'.heap[k]? = w.heap[k]?) (hG : ∀ k, k < w.heap.size → G' k → G k) : Sta G' w' P := fun w2 hs2 hk2 => h w2 (Nat.le_trans hs hs2) fun k h1 h2 => (hk2 k (Nat.lt_of_lt_of_le h1 hs) fun h3 => h2 (hG k h1 h3)).trans (hk k h1 h2)
def StepsR (X : Nat → Prop) (t : TypeId) (base : Nat) (L : List Stp3) (v : Value) (w : World) : Prop :=
 ∃ sts : List St, sts.length = L.length ∧ w.ownsRow base t 3 v L.length (stcs sts) ∧ ∀ (j : Nat) (s : Stp3) (x : St), L[j]? = some s → sts[j]? = some x → Sta (fun k => X k ∨ v.ownBlock = some k) w (fun W => StIs W x s)
theorem StepsR.less {X X' : Nat → Prop} {t : TypeId} {base : Nat} {L : List Stp3} {v : Value} {w : World} (h : StepsR X t base L v w) (hX : ∀ k, X' k → X k) : StepsR X' t base L v w := by
 obtain ⟨sts, h1, h2, h3⟩ := h
 exact ⟨sts, h1, h2, fun j s x a b => (h3 j s x a b).less fun k hk => hk.imp (hX k) id⟩
theorem StepsR.low {X : Nat → Prop} {t : TypeId} {base base' : Nat} {L : List Stp3} {v : Value} {w : World} (h : StepsR X t base L v w) (hb : base' ≤ base) : StepsR X t base' L v w := by
 obtain ⟨sts, h1, ⟨h0, h2⟩, h3⟩ := h
 refine ⟨sts, h1, ⟨h0, ?_⟩, h3⟩
 rcases h2 with h2 | ⟨g, cap, cur, e, hg, hr⟩
 ·exact .inl h2
 ·exact .inr ⟨g, cap, cur, e, Nat.le_trans hb hg, hr⟩
theorem StepsR.chg {X : Nat → Prop} {t : TypeId} {base : Nat} {L : List Stp3} {v : Value} {w w' : World} (h : StepsR X t base L v w) (hc : Chg X w w') (hX : ∀ g, v.ownBlock = some g → ¬ X g) : StepsR X t base L v w' := by
 obtain ⟨sts, h1, h2, h3⟩ := h
 refine ⟨sts, h1, Blk.own_keep h2 fun g hg => hc.block g (h2.lt g hg).2 (hX g hg), fun j s x a b => (h3 j s x a b).go hc.size (fun k hk hn => hc.block k hk fun e => hn (.inl e)) fun k _ hk => hk⟩
theorem StepsR.below {X : Nat → Prop} {t : TypeId} {base : Nat} {L : List Stp3} {v : Value} {w w' : World} (h : StepsR X t base L v w) (hb : Below w.heap.size w w') : StepsR X t base L v w' := by
 obtain ⟨sts, h1, h2, h3⟩ := h
 exact ⟨sts, h1, own_below h2 hb (Nat.le_refl _), fun j s x a b => (h3 j s x a b).go hb.size (fun k hk _ => hb.block k hk) fun k _ hk => hk⟩
end Mend
end Go.Proofs.YtkfdplfgaddkmaaGreat

/-
 The document's Differ (layer 14; TreeDiffer without the place, which TreeDoc has).
-/
namespace Go.Proofs.YtkfdplfgaddkmaaGreat
namespace Tree
open Go.RowKit Vers Num Ring Disk Blk
open Go.Proofs.YtkfdplfgaddkmaaGreat.Code hiding Bn
attribute [local go_sem ↓] Go.wp_at_zero Go.wp_at_succ

end Tree
end Go.Proofs.YtkfdplfgaddkmaaGreat

/-
 What an answer tells (layer 14).
-/
namespace Go.Proofs.YtkfdplfgaddkmaaGreat
namespace Mend
open Go.RowKit Vers Num Ring Disk Blk Tree
open Go.Proofs.YtkfdplfgaddkmaaGreat.Code hiding Bn
attribute [local go_sem ↓] Go.wp_at_zero Go.wp_at_succ
end Mend
end Go.Proofs.YtkfdplfgaddkmaaGreat

/-
 The document's Take (layer 14).
-/
namespace Go.Proofs.YtkfdplfgaddkmaaGreat
namespace Mend
open Go.RowKit Vers Num Ring Disk Blk Tree
open Go.Proofs.YtkfdplfgaddkmaaGreat.Code hiding Bn
attribute [local go_sem ↓] Go.wp_at_zero Go.wp_at_succ
end Mend
end Go.Proofs.YtkfdplfgaddkmaaGreat

/-
 firthref14.doubt and Doubt: has an unlike place one hash? (layer 14)
-/
namespace Go.Proofs.YtkfdplfgaddkmaaGreat
namespace Mend
open Go.RowKit Vers Num Ring Disk Blk Tree
open Go.Proofs.YtkfdplfgaddkmaaGreat.Code hiding Bn
attribute [local go_sem ↓] Go.wp_at_zero Go.wp_at_succ
def dbF (x y : List Rc) (p : List Int) : Prop := hashF x p = hashF y p ∧ recsF x p ≠ recsF y p
instance (x y : List Rc) (p : List Int) : Decidable (dbF x y p) := by unfold dbF; infer_instance
theorem newS_rs {l : List Rc} {w w' : World} {e : Ending} (h : NewS l w e w') : ∃ A m c, e = .returned (.slice A m c) ∧ l.length = m ∧ Rs w' 0 w'.heap.size A l ∧ Below w.heap.size w w' := by
 obtain ⟨A, m, c, ps, he, h1, hb⟩ := h
 refine ⟨A, m, c, he, h1.out.2.1, ?_, hb⟩
 have h2 := h1.out.2.2.2.rs hb.size
 rwa [h1.out.1] at h2
theorem recs_len (all : List Rc) (p : List Int) : (recsF all p).length ≤ all.length := by
 unfold recsF
 split
 ·exact beneath_len _ _
 ·simp
theorem okL_held {l : List Rc} (h : okL l) : okL (heldF l) := by
 have hf : ∀ (l acc : List Rc), okL l → okL acc → okL (l.foldl withR acc) := by
  intro l
  induction l with
  | nil => exact fun _ _ h => h
  | cons r l ih =>
   intro acc h1 h2
   refine ih _ (fun x hx => h1 x (List.mem_cons_of_mem _ hx)) fun x hx => ?_
   rcases with_mem.1 hx with ⟨rfl, _⟩ | ⟨hx, _⟩
   ·exact h1 _ (by simp)
   ·exact h2 x hx
 exact hf l [] h fun _ hr => by cases hr
end Mend
end Go.Proofs.YtkfdplfgaddkmaaGreat

/-
 The document's Answer (layer 14).
-/
namespace Go.Proofs.YtkfdplfgaddkmaaGreat
namespace Mend
open Go.RowKit Vers Num Ring Disk Blk Tree
open Go.Proofs.YtkfdplfgaddkmaaGreat.Code hiding Bn
attribute [local go_sem ↓] Go.wp_at_zero Go.wp_at_succ
theorem diff_range {a b : List Int} {d : Int} (h : d ∈ diffF a b) : 0 ≤ d ∧ d < 16 := by
 unfold diffF at h
 obtain ⟨i, hi, rfl⟩ := List.mem_map.1 h
 have := List.mem_range.1 (List.mem_filter.1 hi).1
 omega
end Mend
end Go.Proofs.YtkfdplfgaddkmaaGreat

/-
 firthlaw14.laid and both: records laid into a list, records merged into a list (layer 14).
-/
namespace Go.Proofs.YtkfdplfgaddkmaaGreat
namespace Mend
open Go.RowKit Vers Num Ring Disk Blk Tree
open Go.Proofs.YtkfdplfgaddkmaaGreat.Code hiding Bn
attribute [local go_sem ↓] Go.wp_at_zero Go.wp_at_succ
def okB (a b : List Rc) : Prop := ∀ k, k < b.length → (mergeF (getF ((b.take k).foldl mergeR a) (b.getD k r0).1) (b.getD k r0).2).2 = 0
end Mend
end Go.Proofs.YtkfdplfgaddkmaaGreat

/-
 Where two differ under some keys alone: how many places are found (layer 14).
-/
namespace Go.Proofs.YtkfdplfgaddkmaaGreat
namespace Mend
open Go.RowKit Vers Num Ring Disk Blk Tree
open Go.Proofs.YtkfdplfgaddkmaaGreat.Code hiding Bn
theorem diff_nodup (a b : List Int) : (diffF a b).Nodup := by
 unfold diffF
 rw [List.Nodup, List.pairwise_map]
 refine List.Pairwise.imp ?_ (List.Pairwise.filter _ List.nodup_range)
 intro x y h e
 exact h (by omega)
theorem diff_mem {a b : List Int} {d : Int} (h : d ∈ diffF a b) : ∃ i : Nat, d = i ∧ i < 16 ∧ a.getD i 0 ≠ b.getD i 0 := by
 unfold diffF at h
 obtain ⟨i, hi, rfl⟩ := List.mem_map.1 h
 obtain ⟨h1, h2⟩ := List.mem_filter.1 hi
 exact ⟨i, rfl, List.mem_range.1 h1, by simpa using h2⟩
theorem kids_at {all : List Rc} {p : List Int} (hp : okP p) (h2 : p.length < 2) {i : Nat} (hi : i < 16) : (kidsF all p).getD i 0 = hashF all (p ++ [(i : Int)]) := by
 unfold kidsF
 rw [if_pos ⟨hp, h2⟩, List.getD_eq_getElem?_getD, List.getElem?_map, List.getElem?_range hi]
 rfl
theorem beneath_with {all : List Rc} (hs : Srt all) {r : Rc} {p : List Int} (h : inP p r.1 = false) : beneath (withR all r) p = beneath all p := by
 refine srt_mem (beneath_srt (with_srt hs r) p) (beneath_srt hs p) fun x => ?_
 rw [beneath_mem, beneath_mem, with_mem]
 constructor
 ·rintro ⟨⟨rfl, _⟩ | ⟨h1, _⟩, h2⟩
  ·rw [h] at h2; cases h2
  ·exact ⟨h1, h2⟩
 ·rintro ⟨h1, h2⟩
  refine ⟨.inr ⟨h1, fun e => ?_⟩, h2⟩
  rw [e, h] at h2
  cases h2
theorem beneath_fold {p : List Int} (m : List Rc) : ∀ a : List Rc, Srt a → (∀ r ∈ m, inP p r.1 = false) → beneath (m.foldl withR a) p = beneath a p := by
 induction m with
 | nil => exact fun _ _ _ => rfl
 | cons r m ih =>
  intro a hs h
  rw [List.foldl_cons, ih _ (with_srt hs r) (fun x hx => h x (by simp [hx])), beneath_with hs (h r (by simp))]
theorem hash_same {a b : List Rc} {p : List Int} (hp : okP p) (h : beneath a p = beneath b p) : hashF a p = hashF b p := by
 unfold hashF
 rw [if_pos hp, if_pos hp]
 exact hF_congr _ _ _ _ hp (by have := hp.2; omega) h
theorem differ_key {a m : List Rc} (hs : Srt a) {p : List Int} (hp : okP p) (h : hashF (m.foldl withR a) p ≠ hashF a p) : ∃ r ∈ m, inP p r.1 = true := by
 refine Classical.byContradiction fun hn => h (hash_same hp (beneath_fold m a hs fun r hr => ?_))
 cases e : inP p r.1 with
 | false => rfl
 | true => exact absurd ⟨r, hr, e⟩ hn
theorem in_two {d e : Int} {k : Nm} (h : inP [d, e] k = true) : dig0 k = d ∧ dig1 k = e := by simpa [inP] using h
def leavesF (a b : List Rc) (d : Int) : List (Int × Int) := (diffF (kidsF a [d]) (kidsF b [d])).map fun e => (d, e)
theorem leaves_nodup (a b : List Rc) : ∀ D : List Int, D.Nodup → (D.flatMap (leavesF a b)).Nodup := by
 intro D
 induction D with
 | nil => intro _; simp
 | cons d D ih =>
  intro h
  obtain ⟨h1, h2⟩ := List.nodup_cons.1 h
  rw [List.flatMap_cons, List.nodup_append]
  refine ⟨?_, ih h2, fun x hx y hy e => ?_⟩
  ·unfold leavesF
   rw [List.Nodup, List.pairwise_map]
   refine List.Pairwise.imp ?_ (diff_nodup (kidsF a [d]) (kidsF b [d]))
   intro x y hxy e
   exact hxy (by injection e)
  ·obtain ⟨d', hd', hy'⟩ := List.mem_flatMap.1 hy
   unfold leavesF at hx hy'
   obtain ⟨_, _, rfl⟩ := List.mem_map.1 hx
   obtain ⟨_, _, rfl⟩ := List.mem_map.1 hy'
   injection e with e1 e2
   exact h1 (e1 ▸ hd')
theorem leaves_len {a m : List Rc} (hs : Srt a) : ((diffF (kidsF (m.foldl withR a) []) (kidsF a [])).flatMap (leavesF a (m.foldl withR a))).length ≤ m.length := by
 have h := nodup_len (m := m.map fun r => (dig0 r.1, dig1 r.1)) (leaves_nodup a (m.foldl withR a) _ (diff_nodup (kidsF (m.foldl withR a) []) (kidsF a []))) fun x hx => by
  obtain ⟨d, hd, hx⟩ := List.mem_flatMap.1 hx
  unfold leavesF at hx
  obtain ⟨e, he, rfl⟩ := List.mem_map.1 hx
  have hd2 := diff_range hd
  have ok1 : okP [d] := ok_one.2 hd2
  obtain ⟨i, rfl, hi, hne⟩ := diff_mem he
  rw [kids_at ok1 (by simp) hi, kids_at ok1 (by simp) hi] at hne
  obtain ⟨r, hr, hin⟩ := differ_key hs (ok_two.2 ⟨hd2, by omega⟩) (Ne.symm hne)
  obtain ⟨e1, e2⟩ := in_two hin
  exact List.mem_map.2 ⟨r, hr, by rw [e1, e2]⟩
 simpa using h
end Mend
end Go.Proofs.YtkfdplfgaddkmaaGreat

/-
 What is merged, taken and laid, key by key (layer 14).
-/
namespace Go.Proofs.YtkfdplfgaddkmaaGreat
namespace Mend
open Go.RowKit Vers Num Ring Disk Blk Tree
open Go.Proofs.YtkfdplfgaddkmaaGreat.Code hiding Bn
/-! ### Key by key -/
theorem getF_mem {a : List Rc} (ha : Srt a) {r : Rc} (hr : r ∈ a) : getF a r.1 = r.2 := by
 unfold getF
 rw [find_mem ha hr]
 rfl
theorem mem_getF {a : List Rc} {k : Nm} (h : getF a k ≠ []) : (k, getF a k) ∈ a := by
 unfold getF at h ⊢
 cases hf : find a k with
 | none => rw [hf] at h; exact absurd rfl h
 | some v => exact find_some hf
def mg1 (a b : List Vr) : List Vr := if (mergeF a b).2 = 0 then (mergeF a b).1 else a
theorem get_merge (now : List Rc) (r : Rc) (k : Nm) : getF (mergeR now r) k = if k = r.1 then mg1 (getF now k) r.2 else getF now k := by
 unfold mergeR mg1
 by_cases hk : k = r.1
 ·subst hk
  rw [if_pos rfl]
  split
  ·rw [get_with, if_pos rfl]
  ·rfl
 ·rw [if_neg hk]
  split
  ·rw [get_with, if_neg hk]
  ·rfl
theorem hel_cons {r : Rc} {l : List Rc} (h : Hel (r :: l)) : Hel l ∧ r.2 ≠ [] ∧ find l r.1 = none := by
 obtain ⟨h1, h2⟩ := h
 have h3 := List.pairwise_cons.1 h1
 exact ⟨⟨h3.2, fun x hx => h2 x (by simp [hx])⟩, h2 r (by simp), find_none.2 fun x hx e => nlt_ne (h3.1 x hx) e.symm⟩
theorem get_cons (r : Rc) (l : List Rc) (k : Nm) : getF (r :: l) k = if r.1 = k then r.2 else getF l k := by
 show (if r.1 = k then some r.2 else find l k).getD [] = _
 by_cases h : r.1 = k
 ·rw [if_pos h, if_pos h]; rfl
 ·rw [if_neg h, if_neg h]; rfl
theorem get_laid : ∀ (l : List Rc), Hel l → ∀ (a : List Rc) (k : Nm), getF (l.foldl withR a) k = if getF l k = [] then getF a k else getF l k := by
 intro l
 induction l with
 | nil => intro _ a k; rfl
 | cons r l ih =>
  intro h a k
  obtain ⟨h1, h2, h3⟩ := hel_cons h
  rw [List.foldl_cons, ih h1, get_with, get_cons]
  by_cases hk : k = r.1
  ·subst hk
   have h0 : getF l r.1 = [] := by unfold getF; rw [h3]; rfl
   rw [h0, if_pos rfl, if_pos rfl, if_pos rfl, if_neg h2]
  ·have hk2 : ¬ r.1 = k := fun e => hk e.symm
   rw [if_neg hk, if_neg hk2]
theorem hel_filter {l : List Rc} (h : Hel l) (f : Rc → Bool) : Hel (l.filter f) := ⟨List.Pairwise.filter _ h.1, fun x hx => h.2 x (List.mem_filter.1 hx).1⟩
theorem get_filter {l : List Rc} (h : Hel l) (f : Rc → Bool) (k : Nm) : getF (l.filter f) k = if f (k, getF l k) = true then getF l k else [] := by
 by_cases hg : getF l k = []
 ·rw [hg, ite_self]
  refine Classical.byContradiction fun hne => ?_
  have h1 := (List.mem_filter.1 (mem_getF hne)).1
  have h2 := getF_mem h.1 h1
  exact hne (h2.symm.trans hg)
 ·have hm := mem_getF hg
  by_cases hf : f (k, getF l k) = true
  ·rw [if_pos hf]
   exact getF_mem (hel_filter h f).1 (List.mem_filter.2 ⟨hm, hf⟩)
  ·rw [if_neg hf]
   refine Classical.byContradiction fun hne => ?_
   have h1 := List.mem_filter.1 (mem_getF hne)
   have h2 : getF l k = getF (l.filter f) k := getF_mem h.1 h1.1
   rw [← h2] at h1
   exact hf h1.2
/-! ### Where all can be merged -/
theorem okB_cons {a t : List Rc} {r : Rc} (h : okB a (r :: t)) : (mergeF (getF a r.1) r.2).2 = 0 ∧ okB (mergeR a r) t := by
 refine ⟨by simpa using h 0 (by simp), fun k hk => ?_⟩
 have := h (k + 1) (by simpa using hk)
 simpa using this
theorem fine_at : ∀ {t : List Rc}, Hel t → ∀ {a : List Rc}, okB a t → ∀ {k : Nm}, getF t k ≠ [] → (mergeF (getF a k) (getF t k)).2 = 0 := by
 intro t
 induction t with
 | nil => intro _ a _ k h; exact absurd rfl h
 | cons r t ih =>
  intro h a hf k hk
  obtain ⟨h1, _, h3⟩ := hel_cons h
  obtain ⟨f1, f2⟩ := okB_cons hf
  rw [get_cons] at hk ⊢
  by_cases e : r.1 = k
  ·subst e
   rw [if_pos rfl]
   exact f1
  ·rw [if_neg e] at hk ⊢
   have := ih h1 f2 hk
   rwa [get_merge, if_neg (fun q => e q.symm)] at this
end Mend
end Go.Proofs.YtkfdplfgaddkmaaGreat

/-
 firthlaw14.written: are the versions of two, key by key, such as writes make them? Written by gen14/written.py.
-/
namespace Go.Proofs.YtkfdplfgaddkmaaGreat
namespace Mend
open Go.RowKit Vers Num Ring Disk Blk Tree
open Span (cell_below)
open Go.Proofs.YtkfdplfgaddkmaaGreat.Code hiding Bn
attribute [local go_sem ↓] Go.wp_at_zero Go.wp_at_succ
end Mend
end Go.Proofs.YtkfdplfgaddkmaaGreat

/-
 What awake's answers are (layer 14).
-/
namespace Go.Proofs.YtkfdplfgaddkmaaGreat
namespace Mend
open Go.RowKit Vers Num Ring Disk Blk Tree
open Go.Proofs.YtkfdplfgaddkmaaGreat.Code hiding Bn
def kN : Nm := ⟨#[107]⟩
def kV : Vr := ⟨1, 1, [], false, ⟨#[118]⟩⟩
def kR : Rc := (kN, [kV])
theorem aw_ok : okR kR := by decide
theorem aw_okL : okL [kR] := fun r hr => by rw [List.mem_singleton.1 hr]; exact aw_ok
theorem okL_nil : okL [] := fun _r hr => nomatch hr
end Mend
end Go.Proofs.YtkfdplfgaddkmaaGreat

/-
 The closure of mend.Answer: one step (layer 14).
-/
namespace Go.Proofs.YtkfdplfgaddkmaaGreat
namespace Mend
open Go.RowKit Vers Num Ring Disk Blk Tree
open Go.Proofs.YtkfdplfgaddkmaaGreat.Code hiding Bn
attribute [local go_sem ↓] Go.wp_at_zero Go.wp_at_succ
section
variable {F : Nat → Prop} {w V : World} {tb : Nat} {all : List Rc}
end
theorem sta_got {G : Nat → Prop} {Z : World} {base : Nat} {A : Option Addr} {ps : List Pr} (h : Got base Z A ps) (hG : ∀ g, base ≤ g → ¬ G g) : Sta G Z (fun W => Rs W 0 W.heap.size A (ps.map Prod.fst)) := fun _ hs hk => (h.keep hs fun k h1 h2 => hk k h2 (hG k h1)).rs.less (Nat.zero_le _)
end Mend
end Go.Proofs.YtkfdplfgaddkmaaGreat

/-
 mend.Answer (layer 14).
-/
namespace Go.Proofs.YtkfdplfgaddkmaaGreat
namespace Mend
open Go.RowKit Vers Num Ring Disk Blk Tree
open Go.Proofs.YtkfdplfgaddkmaaGreat.Code hiding Bn
attribute [local go_sem ↓] Go.wp_at_zero Go.wp_at_succ
section
variable {F : Nat → Prop} {w V : World} {tb : Nat} {all : List Rc}
end
end Mend
end Go.Proofs.YtkfdplfgaddkmaaGreat

/-
 firthlaw14.steps: two lists of the same steps are the same.
-/
namespace Go.Proofs.YtkfdplfgaddkmaaGreat
namespace Mend
open Go.RowKit Vers Num Ring Disk Blk Tree
open Go.Proofs.YtkfdplfgaddkmaaGreat.Code hiding Bn
attribute [local go_sem ↓] Go.wp_at_zero Go.wp_at_succ
theorem StepsR.at {X : Nat → Prop} {t : TypeId} {base : Nat} {L : List Stp3} {A : Option Addr} {m c : Nat} {w : World} (h : StepsR X t base L (.slice A m c) w) (hL : L.length = m) {j : Nat} (hj : j < m) {s : Stp3} (hs : L[j]? = some s) :
  ∃ g, ∃ x : St, A = some ⟨g, 0, none⟩ ∧ base ≤ g ∧ g < w.heap.size ∧ w.cell? ⟨g, j * 3, none⟩ = some (slV x.1) ∧ w.cell? ⟨g, j * 3 + 1, none⟩ = some (slV x.2.1) ∧ w.cell? ⟨g, j * 3 + 2, none⟩ = some (slV x.2.2) ∧ StIs w x s := by
 obtain ⟨sts, h1, h2, h3⟩ := h
 have hj2 : j < sts.length := by omega
 have hx : sts[j]? = some sts[j] := List.getElem?_eq_getElem hj2
 have hst := (h3 j s _ hs hx).now
 rcases h2.2 with ⟨_, h0⟩ | ⟨g, cap, cur, hv, hbg, hg, rest⟩
 ·omega
 ·injection hv with e1 e2 e3
  subst e1
  rw [hL] at h2
  have hat := stcs_at sts j _ hx
  have hc := fun r (hr : r < 3) => (World.ownsRow.cellAt h2 (j * 3 + r) (by omega)).trans (hat r hr)
  refine ⟨g, sts[j], rfl, hbg, (Array.getElem?_eq_some_iff.1 hg).1, ?_, ?_, ?_, hst⟩
  ·exact hc 0 (by omega)
  ·exact hc 1 (by omega)
  ·exact hc 2 (by omega)
end Mend
end Go.Proofs.YtkfdplfgaddkmaaGreat

/-
 mend.Give (layer 14).
-/
namespace Go.Proofs.YtkfdplfgaddkmaaGreat
namespace Mend
open Go.RowKit Vers Num Ring Disk Blk Tree
open Go.Proofs.YtkfdplfgaddkmaaGreat.Code hiding Bn
attribute [local go_sem ↓] Go.wp_at_zero Go.wp_at_succ
end Mend
end Go.Proofs.YtkfdplfgaddkmaaGreat

/-
 mend.Open: the hashes by which one begins (layer 14).
-/
namespace Go.Proofs.YtkfdplfgaddkmaaGreat
namespace Mend
open Go.RowKit Vers Num Ring Disk Blk Tree
open Go.Proofs.YtkfdplfgaddkmaaGreat.Code hiding Bn
attribute [local go_sem ↓] Go.wp_at_zero Go.wp_at_succ
end Mend
end Go.Proofs.YtkfdplfgaddkmaaGreat

/-
 firthlaw11.built: a tree of the right ones of a list, and the records that are there.
-/
namespace Go.Proofs.YtkfdplfgaddkmaaGreat
namespace Tree
open Go.RowKit Vers Num Ring Disk Blk
open Go.Proofs.YtkfdplfgaddkmaaGreat.Code hiding Bn
attribute [local go_sem ↓] Go.wp_at_zero Go.wp_at_succ
theorem take_at {l : List Rc} {k : Nat} (hk : k < l.length) : l.take (k + 1) = l.take k ++ [l.getD k r0] := by
 rw [List.take_succ_eq_append_getElem hk]
 simp [List.getD_eq_getElem?_getD, hk]
def Pair (F : Nat → Prop) (w : World) (B : Nat) (W : World) (tb : Nat) (L : List Rc) (v : Value) (ps : List Pr) : Prop :=
 On F w W tb L ∧ ps.map Prod.fst = L ∧ RowX B w.heap.size W v ps ∧ (∀ g, v.ownBlock = some g → ¬ F g) ∧ ∀ k, F k → B ≤ k
theorem RowX.keep {base B : Nat} {w w' : World} {v : Value} {ps : List Pr} (h : RowX base B w v ps) (hv : ∀ g, v.ownBlock = some g → w'.heap[g]? = w.heap[g]?) (hk : ∀ k, k < B → w'.heap[k]? = w.heap[k]?) : RowX base B w' v ps := by
 refine ⟨⟨h.1.1, ?_⟩, fun p hp => ⟨(h.2 p hp).1.keep fun a _ ha => World.cell?_of_block (hk _ ha), (h.2 p hp).2⟩⟩
 rcases h.1.2 with hn | ⟨g, cap, cur, rfl, hbg, hg, rest⟩
 ·exact .inl hn
 ·exact .inr ⟨g, cap, cur, rfl, hbg, by rw [hv g rfl]; exact hg, rest⟩
theorem RowX.lt {base B : Nat} {w : World} {v : Value} {ps : List Pr} (h : RowX base B w v ps) (g : Nat) (hg : v.ownBlock = some g) : base ≤ g ∧ g < w.heap.size := ⟨(h.1.lt g hg).1, (h.1.lt g hg).2⟩
theorem Pair.chg {F G : Nat → Prop} {w W W' : World} {B tb : Nat} {L : List Rc} {v : Value} {ps : List Pr} (h : Pair F w B W tb L v ps) (hc : Chg G W W') (hG : ∀ k, F k → ¬ G k) (hv : ∀ g, v.ownBlock = some g → ¬ G g) (hw : ∀ k, G k → w.heap.size ≤ k) : Pair F w B W' tb L v ps :=
 ⟨h.1.chg hc hG hw, h.2.1, h.2.2.1.keep (fun g hg => hc.block g (h.2.2.1.lt g hg).2 (hv g hg)) (fun k hk => hc.block k (Nat.lt_of_lt_of_le hk h.1.old.size) fun e => by have := hw k e; omega), h.2.2.2⟩
theorem Pair.below {F : Nat → Prop} {w W W' : World} {B tb : Nat} {L : List Rc} {v : Value} {ps : List Pr} (h : Pair F w B W tb L v ps) (hb : Below W.heap.size W W') : Pair F w B W' tb L v ps :=
 h.chg (G := fun _ => False) (Chg.of_below hb) (fun _ _ q => q) (fun _ _ q => q) (fun _ q => q.elim)
end Tree
end Go.Proofs.YtkfdplfgaddkmaaGreat

/-
 firthlaw11.awake.
-/
namespace Go.Proofs.YtkfdplfgaddkmaaGreat
namespace Tree
open Go.RowKit Vers Num Ring Disk Blk
open Go.Proofs.YtkfdplfgaddkmaaGreat.Code hiding Bn
attribute [local go_sem ↓] Go.wp_at_zero Go.wp_at_succ
end Tree
end Go.Proofs.YtkfdplfgaddkmaaGreat
