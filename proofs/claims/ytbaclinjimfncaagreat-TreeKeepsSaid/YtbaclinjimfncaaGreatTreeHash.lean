/-
  The hash of a place: made when it is first asked for.
-/
import Derived.Test.YtbaclinjimfncaaGreatTreeWork
import Derived.Test.YtbaclinjimfncaaGreatTreeSpot
import Derived.Test.YtbaclinjimfncaaGreatTreeOnce
import Derived.Deep.RegionHeld3
import Derived.Deep.DrawnRows
namespace Go.Proofs.YtbaclinjimfncaaGreat
namespace Tree
open Go.RowKit Vers Num Ring Disk Blk
open Go.Proofs.YtbaclinjimfncaaGreat.Code hiding Bn
attribute [local go_sem ↓] Go.wp_at_zero Go.wp_at_succ

section
variable {F : Nat → Prop} {w : World} {tb : Nat} {mv : Nat → Option Nat} {f : Fp} {all : List Rc} {Bz : List Int → Prop} {p : List Int}
set_option maxRecDepth 100000 in
set_option maxHeartbeats 2000000 in
/-- What is done once: the hash is made and laid. -/
theorem make_any {k : Nat} (HW : WorkC k) (h : TR F w tb mv f all Bz) (hN : all.length ≤ 3518437208882) (A : Option Addr) (c n m : Nat) (hn : p.length = n) (hp : okP p) (hk : p.length + k = 2) (hr : Ns .i64 w w.heap.size A p) (hb : ∀ q, okP q → p <+: q → q ≠ p → ¬ Bz q) (hbp : Bz p) (hm : ¬ m = tb ∧ ¬ m + 1 = tb ∧ ¬ m + 2 = tb)
    (B0 : Bn m 25 [hd tb] w) (B1 : Bn (m + 1) 23 [.slice A n c] w) (B2 : Bn (m + 2) 63 [.pointer (some ⟨tb, offN p, none⟩)] w) :
    Calls Tryz.prog 30 #[.pointer (some ⟨m, 0, none⟩), .pointer (some ⟨m + 1, 0, none⟩), .pointer (some ⟨m + 2, 0, none⟩)] w
      (Once.Held tb (offN p) (fun w' => TR F w' tb mv f all Bz ∧ w'.cell? ⟨tb, offN p + 3, none⟩ = some (.int .u64 (hF k all p)) ∧ Chg (fun j => j = tb) w w')) := by
  have H1 := Lib.hid (fun (W : World) (hT : TR F W tb mv f all Bz) (hW : Ns .i64 W W.heap.size A p) => HW F W tb mv f all Bz hT hN A c n p hn hp hk hW hb)
  obtain ⟨x, hx⟩ : ∃ x, hF k all p = x := ⟨_, rfl⟩
  rw [hx] at H1 ⊢
  have HT := Lib.hid (And.intro h (And.intro hr (And.intro hp hbp)))
  obtain ⟨off, hoff⟩ : ∃ off, offN p = off := ⟨_, rfl⟩
  have HO := Lib.hid hoff
  rw [hoff] at B2 ⊢
  have a0 := B0.cell 0
  have a1 := B1.cell 0
  have a2 := B2.cell 0
  simp only [List.getElem?_cons_zero] at a0 a1 a2
  have l0 := B0.lt
  have l1 := B1.lt
  have l2 := B2.lt
  clear hx h hr hp hbp hb hk hn HW hoff B0 B1 B2
  unfold hd at H1 a0
  go_enter Tryz.func30, Tryz.ntmps30
  go_wp2_with fail
  have n0 : ∀ j, (⟨tb, j, none⟩ : Addr) ≠ ⟨m, 0, none⟩ := fun j q => hm.1 (by injection q with q; exact q.symm)
  have n1 : ∀ j, (⟨tb, j, none⟩ : Addr) ≠ ⟨m + 1, 0, none⟩ := fun j q => hm.2.1 (by injection q with q; exact q.symm)
  have n2 : ∀ j, (⟨tb, j, none⟩ : Addr) ≠ ⟨m + 2, 0, none⟩ := fun j q => hm.2.2 (by injection q with q; exact q.symm)
  have HNN := Lib.hid (And.intro n0 (And.intro n1 n2))
  have HK : Hid (Calls Tryz.prog 31 #[.pointer (some ⟨tb, 0, none⟩), .slice A n c] w.drew fun e w2 => e = .returned (.int .u64 x) ∧ w2.cell? ⟨m, 0, none⟩ = some (.pointer (some ⟨tb, 0, none⟩)) ∧ w2.cell? ⟨m + 1, 0, none⟩ = some (.slice A n c) ∧ w2.cell? ⟨m + 2, 0, none⟩ = some (.pointer (some ⟨tb, off, none⟩)) ∧ (∃ y, w2.cell? ⟨tb, off + 3, none⟩ = some (.int .u64 y)) ∧ w2.frozen? ⟨tb, off + 3, none⟩ = false ∧ Hid (TR F w2 tb mv f all Bz ∧ Chg (fun j => j = tb) w w2)) := Lib.hid (by
    refine (H1.out w.drew (HT.out.1.keep (Nat.le_refl _) fun _ _ => rfl) HT.out.2.1.drew).mono ?_
    rintro e w2 ⟨he, h2⟩
    have hch : Chg (fun j => j = tb) w w2 := (show Chg (fun j => j = tb) w w.drew from ⟨rfl, rfl, rfl, Nat.le_refl _, fun _ _ _ => rfl⟩).trans h2.out.2 (fun j hj => .inl hj)
    obtain ⟨d, k', y, s0, s1, s3, sf, _⟩ := h2.out.1.spots HT.out.2.2.1
    rw [HO.out] at s3
    exact ⟨he, (World.cell?_of_block (hch.block _ l0 hm.1)).trans a0, (World.cell?_of_block (hch.block _ l1 hm.2.1)).trans a1, (World.cell?_of_block (hch.block _ l2 hm.2.2)).trans a2, ⟨y, s3⟩, sf _, Lib.hid ⟨h2.out.1, hch⟩⟩)
  clear n0 n1 n2 H1
  go_region_held3 (fun V => V.cell? ⟨m, 0, none⟩ = some (.pointer (some ⟨tb, 0, none⟩)) ∧ V.cell? ⟨m + 1, 0, none⟩ = some (.slice A n c) ∧ V.cell? ⟨m + 2, 0, none⟩ = some (.pointer (some ⟨tb, off, none⟩)))
    (first | exact ⟨a0, a1, a2⟩ | (refine ⟨?_, ?_, ?_⟩ <;> assumption) | exact ⟨(World.cell?_setCell_other _ _ _ _ (HNN.out.1 _)).trans (by assumption), (World.cell?_setCell_other _ _ _ _ (HNN.out.2.1 _)).trans (by assumption), (World.cell?_setCell_other _ _ _ _ (HNN.out.2.2 _)).trans (by assumption)⟩)
    (first
      | (go_at_call 31; refine HK.out.mono ?_; rintro e w2 ⟨rfl, q0, q1, q2, ⟨y, q3⟩, q4, h2⟩))
  have hT := h2.out.1.hashed HT.out.2.2.1 HT.out.2.2.2 x
  rw [HO.out] at hT
  obtain ⟨d, k', y', s0, s1, s3, sf, sb, _⟩ := hT.spots HT.out.2.2.1
  obtain ⟨e0, e1⟩ := sb HT.out.2.2.2
  rw [HO.out, e0] at s0
  rw [HO.out, e1] at s1
  have s3' : (w2.setCell ⟨tb, off + 3, none⟩ (.int .u64 x)).cell? ⟨tb, off + 3, none⟩ = some (.int .u64 x) := World.cell?_setCell_same _ _ _ q3
  exact bodyPost_end (v := .tuple #[]) (results_none rfl _ _ _) rfl ⟨rfl, ⟨hT, s3', h2.out.2.trans (Chg.of_grown (F := fun j => j = tb) (gset _ _ _ _) (fun j hj => by injection hj with hj; exact hj.symm)) (fun j hj => .inl hj)⟩, s0, s1, sf _, sf _⟩

theorem info_ptr : (Tryz.prog.info? 63).map (fun i => (i.zero, i.size, i.bytes)) = some (some (.pointer none), 1, 8) := by kernel_rfl
/-- The world in which Do is called: three variables have been laid. -/
def Laid3 (F : Nat → Prop) (w : World) (tb : Nat) (mv : Nat → Option Nat) (f : Fp) (all : List Rc) (Bz : List Int → Prop) (m : Nat) (A : Option Addr) (n c : Nat) (p : List Int) (off : Nat) (X : World) : Prop :=
  Bn m 25 [.pointer (some ⟨tb, 0, none⟩)] X ∧ Bn (m + 1) 23 [.slice A n c] X ∧ Bn (m + 2) 63 [.pointer (some ⟨tb, off, none⟩)] X ∧ Below w.heap.size w X ∧ TR F X tb mv f all Bz ∧ Ns .i64 X X.heap.size A p
set_option maxRecDepth 100000 in
set_option maxHeartbeats 2000000 in
theorem hash_work {k : Nat} (HW : WorkC k) : HashC k := by
  intro F w tb mv f all Bz h hN A c n p hn hp hk hr hb
  have hbp : ¬ Bz p := hb p hp (List.prefix_refl p)
  have hlt := h.lt _ h.own
  obtain ⟨m, hm⟩ : ∃ m, w.heap.size = m := ⟨_, rfl⟩
  obtain ⟨U, hU⟩ : ∃ U, (w.alloc (.cells #[hd tb] 25)).alloc (.cells #[.slice A n c] 23) = U := ⟨_, rfl⟩
  have hbU : Below w.heap.size w U := by rw [← hU]; exact ((Below.refl _ _).alloc (Nat.le_refl _) _).alloc (by simp) _
  have sU : U.heap.size = m + 2 := by rw [← hU, ← hm]; simp
  have B0 : Bn m 25 [hd tb] U := by
    rw [← hU, ← hm]
    exact (show Bn w.heap.size 25 [hd tb] (w.alloc (.cells #[hd tb] 25)) from World.alloc_heap_new _ _).same (Below.heap_alloc _ _ _ (by simp))
  have B1 : Bn (m + 1) 23 [.slice A n c] U := by
    have h := World.alloc_heap_new (w.alloc (.cells #[hd tb] 25)) (.cells #[.slice A n c] 23)
    rw [hU] at h
    rw [← hm]
    show U.heap[w.heap.size + 1]? = _
    simpa using h
  have hTU := h.below hbU
  have hrU := h.ns (Chg.of_below hbU) hr
  have hI := Lib.hid (isPath_any A c n p hn (by omega) U hrU)
  rw [decide_eq_true hp] at hI
  have hsl := spot_lt hp
  obtain ⟨s, hs⟩ : ∃ s, spotN p = s := ⟨_, rfl⟩
  have hS : Hid (∀ V : World, (V.cell? ⟨m, 0, none⟩ = some (.pointer (some ⟨tb, 0, none⟩)) ∧ V.cell? ⟨m + 1, 0, none⟩ = some (.slice A n c) ∧ Below U.heap.size U V) → Calls Tryz.prog 28 #[.slice A n c] V (fun e w' => e = .returned (.int .i64 (s : Nat)) ∧ ∃ q, w' = V.drewN q)) := Lib.hid fun V hV => by
    have h9 := spot_any A c n p hn hp V ((hrU.below hV.2.2).more hV.2.2.size)
    rw [hs] at h9
    exact h9
  have HSP := Lib.hid hs
  have HOF : Hid (offN p = 256 + s * 4) := Lib.hid (by unfold offN; rw [hs]; omega)
  rw [hs] at hsl
  have s0' : (0 : Int) ≤ (s : Int) := by omega
  have s1' : (s : Int) < 273 := by omega
  have bUd : Below U.heap.size U U.drew := (Below.refl _ _).drew
  have bUq : ∀ q, Below U.heap.size U (U.drewN q) := fun q => ⟨rfl, rfl, rfl, Nat.le_refl _, fun _ _ => rfl⟩
  have bUa : ∀ (o : Obj) (q : Nat), Below U.heap.size U ((U.alloc o).drewN q) := fun o q => ((Below.refl _ _).alloc (Nat.le_refl _) o).trans ⟨rfl, rfl, rfl, Nat.le_refl _, fun _ _ => rfl⟩
  have bUs : ∀ (q : Nat) (v : Value), U.cell? ⟨m, 0, none⟩ = some (.pointer (some ⟨tb, 0, none⟩)) ∧ U.cell? ⟨m + 1, 0, none⟩ = some (.slice A n c) → ((((U.alloc (.cells #[.pointer none] 63)).drewN q).setCell ⟨m + 2, 0, none⟩ v).cell? ⟨m, 0, none⟩ = some (.pointer (some ⟨tb, 0, none⟩)) ∧ (((U.alloc (.cells #[.pointer none] 63)).drewN q).setCell ⟨m + 2, 0, none⟩ v).cell? ⟨m + 1, 0, none⟩ = some (.slice A n c) ∧ Below U.heap.size U (((U.alloc (.cells #[.pointer none] 63)).drewN q).setCell ⟨m + 2, 0, none⟩ v)) := fun q v hh => by
    have b1 : Below U.heap.size U (((U.alloc (.cells #[.pointer none] 63)).drewN q).setCell ⟨m + 2, 0, none⟩ v) := (bUa (.cells #[.pointer none] 63) q).grown (gset _ _ _ _) (bUa _ q).size (fun j hj => by injection hj with hj; omega)
    exact ⟨(b1.cell (p := ⟨m, 0, none⟩) (show m < _ by omega)).trans hh.1, (b1.cell (p := ⟨m + 1, 0, none⟩) (show m + 1 < _ by omega)).trans hh.2, b1⟩
  have HBB := Lib.hid (And.intro bUd (And.intro bUq (And.intro bUa bUs)))
  have a0 := B0.cell 0
  have a1 := B1.cell 0
  simp only [List.getElem?_cons_zero] at a0 a1
  have HU := Lib.hid (And.intro hbU (And.intro sU (And.intro B0 (And.intro B1 (And.intro hTU (And.intro hrU hm))))))
  have HT := Lib.hid (And.intro h (And.intro hr (And.intro hp (And.intro hn (And.intro hk (And.intro hb hbp))))))
  have HE : Hid (hashF all p = hF k all p) := Lib.hid (by unfold hashF; rw [if_pos hp, show 2 - p.length = k by omega])
  have HM := Lib.hid hm
  clear hbU B0 B1 hTU hrU h hr hp hn hk hb hbp hs bUd bUq bUa bUs
  unfold hd at a0 hU ⊢
  go_enter Tryz.func11, Tryz.ntmps11
  go_wp2_with fail
  refine hI.out.mono ?_
  rintro e w1 ⟨rfl, rfl⟩
  go_wp2_with fail
  have lm0 : m < U.heap.size := by omega
  have lm1 : m + 1 < U.heap.size := by omega
  have HXF : Hid ((∀ q, Hid (Laid3 F w tb mv f all Bz m A n c p (256 + s * 4) (((U.alloc (.cells #[.pointer none] 63)).drewN q).setCell ⟨m + 2, 0, none⟩ (.pointer (some ⟨tb, 256 + s * 4, none⟩))))) ∧ ∀ q, Hid (Laid3 F w tb mv f all Bz m A n c p (256 + s * 4) ((U.drewN q).alloc (.cells #[.pointer (some ⟨tb, 256 + s * 4, none⟩)] 63)))) := Lib.hid (by
    constructor
    · intro q
      have b1 := (HBB.out.2.2.2 q (.pointer (some ⟨tb, 256 + s * 4, none⟩)) ⟨a0, a1⟩).2.2
      have h2 : Bn (m + 2) 63 [.pointer none] ((U.alloc (.cells #[.pointer none] 63)).drewN q) := by
        have h := World.alloc_heap_new U (.cells #[.pointer none] 63)
        rw [sU] at h
        exact h
      have b0 : Below w.heap.size w (((U.alloc (.cells #[.pointer none] 63)).drewN q).setCell ⟨m + 2, 0, none⟩ (.pointer (some ⟨tb, 256 + s * 4, none⟩))) := HU.out.1.trans (b1.mono HU.out.1.size)
      exact Lib.hid ⟨HU.out.2.2.1.same (b1.block _ lm0), HU.out.2.2.2.1.same (b1.block _ lm1), h2.set 0 _, b0, HT.out.1.below b0, (HT.out.2.1.below b0).more b0.size⟩
    · intro q
      have b1 : Below U.heap.size U ((U.drewN q).alloc (.cells #[.pointer (some ⟨tb, 256 + s * 4, none⟩)] 63)) := (HBB.out.2.1 q).alloc (Nat.le_refl _) _
      have h2 : Bn (m + 2) 63 [.pointer (some ⟨tb, 256 + s * 4, none⟩)] ((U.drewN q).alloc (.cells #[.pointer (some ⟨tb, 256 + s * 4, none⟩)] 63)) := by
        have h := World.alloc_heap_new (U.drewN q) (.cells #[.pointer (some ⟨tb, 256 + s * 4, none⟩)] 63)
        rw [show (U.drewN q).heap.size = m + 2 from sU] at h
        exact h
      have b0 : Below w.heap.size w ((U.drewN q).alloc (.cells #[.pointer (some ⟨tb, 256 + s * 4, none⟩)] 63)) := HU.out.1.trans (b1.mono HU.out.1.size)
      exact Lib.hid ⟨HU.out.2.2.1.same (b1.block _ lm0), HU.out.2.2.2.1.same (b1.block _ lm1), h2, b0, HT.out.1.below b0, (HT.out.2.1.below b0).more b0.size⟩)
  have HNE : Hid (¬ m = tb ∧ ¬ m + 1 = tb ∧ ¬ m + 2 = tb) := Lib.hid ⟨by omega, by omega, by omega⟩
  clear hU hm
  go_region_held3 (fun V => V.cell? ⟨m, 0, none⟩ = some (.pointer (some ⟨tb, 0, none⟩)) ∧ V.cell? ⟨m + 1, 0, none⟩ = some (.slice A n c) ∧ Below U.heap.size U V)
    (first | exact ⟨a0, a1, HBB.out.1⟩ | exact ⟨a0, a1, HBB.out.2.1 _⟩ | exact ⟨(World.cell?_alloc_lt _ _ ⟨m, 0, none⟩ lm0).trans a0, (World.cell?_alloc_lt _ _ ⟨m + 1, 0, none⟩ lm1).trans a1, HBB.out.2.2.1 _ _⟩ | exact ⟨(World.cell?_alloc_lt _ _ ⟨m, 0, none⟩ lm0).trans a0, (World.cell?_alloc_lt _ _ ⟨m + 1, 0, none⟩ lm1).trans a1, HBB.out.2.2.1 _ 1⟩ | exact HBB.out.2.2.2 _ _ ⟨a0, a1⟩ | trace_state)
    (first
      | (go_at_call 28; refine (hS.out _ (by assumption)).mono ?_; rintro e w2 ⟨rfl, q, rfl⟩))
  all_goals
    first
      | (have hXX := HXF.out.1 (1 + q)
         obtain ⟨X, hX⟩ : ∃ X, (((U.alloc (.cells #[.pointer none] 63)).drewN (1 + q)).setCell ⟨m + 2, 0, none⟩ (.pointer (some ⟨tb, 256 + s * 4, none⟩))) = X := ⟨_, rfl⟩
         rw [hX] at hXX ⊢
         clear hX)
      | (have hXX := HXF.out.2 (1 + q)
         obtain ⟨X, hX⟩ : ∃ X, ((U.drewN (1 + q)).alloc (.cells #[.pointer (some ⟨tb, 256 + s * 4, none⟩)] 63)) = X := ⟨_, rfl⟩
         rw [hX] at hXX ⊢
         clear hX)
    obtain ⟨x0, x1, x2, bX, hTX, hrX⟩ := hXX.out
    have c0 := x0.cell 0
    have c1 := x1.cell 0
    have c2 := x2.cell 0
    simp only [List.getElem?_cons_zero] at c0 c1 c2
    obtain ⟨d, k', x, s0, s1, s3, sf, _, sb⟩ := hTX.spots HT.out.2.2.1
    obtain ⟨e1, e2⟩ := sb HT.out.2.2.2.2.2.2
    rw [HOF.out] at s0 s1 s3
    rw [e1] at s1
    have hmf : ∀ (fn : Fn) (first cap : Array Value) (w : World), (Instr.makeFunc fn first cap).run Tryz.prog w = .ok (.func fn first cap) w := fun _ _ _ _ => rfl
    obtain ⟨off, hoff⟩ : ∃ off, 256 + s * 4 = off := ⟨_, rfl⟩
    rw [hoff] at s0 s1 s3 c2 x2 ⊢
    have HOFF := Lib.hid hoff
    clear hoff hXX
    have HX2 := Lib.hid (And.intro x0 (And.intro x1 (And.intro x2 (And.intro bX (And.intro hTX hrX)))))
    rcases e2 with e2 | ⟨e2, e3⟩
    · rw [e2] at s0
      have hsf := sf (off + 1)
      have hlock := hTX.lock HT.out.2.2.1 HT.out.2.2.2.2.2.2 (by rw [HOF.out, HOFF.out]; exact s0)
      rw [HOF.out, HOFF.out] at hlock
      obtain ⟨W1, hW1⟩ : ∃ W1, X.setCell ⟨tb, off + 1, none⟩ (.int .i32 1) = W1 := ⟨_, rfl⟩
      have hg1 : X.grownBy W1 (some tb) := by rw [← hW1]; exact gset _ _ _ _
      rw [hW1] at hlock
      have hmk := make_any HW hlock hN A c n m HT.out.2.2.2.1 HT.out.2.2.1 HT.out.2.2.2.2.1 (hTX.ns (Chg.of_grown hg1 (fun j hj => by injection hj with hj; exact hj.symm)) hrX) (fun q hq hpq hne hq2 => by
          rcases hq2 with h9 | h9
          · exact HT.out.2.2.2.2.2.1 q hq hpq h9
          · exact hne h9) (.inr rfl) HNE.out (x0.kept hg1 (by intro h9; injection h9 with h9; exact HNE.out.1 h9)) (x1.kept hg1 (by intro h9; injection h9 with h9; exact HNE.out.2.1 h9)) (by rw [HOF.out, HOFF.out]; exact x2.kept hg1 (by intro h9; injection h9 with h9; exact HNE.out.2.2 h9))
      rw [HOF.out, HOFF.out, ← hW1] at hmk
      have hD := Lib.hid (Once.do_first tb off 30 #[.pointer (some ⟨m, 0, none⟩), .pointer (some ⟨m + 1, 0, none⟩), .pointer (some ⟨m + 2, 0, none⟩)] _ X s0 s1 hsf (enters_of Tryz.func30 (by kernel_rfl) rfl _) hmk)
      have HG1 := Lib.hid (And.intro hg1 hW1)
      clear hmk hlock hg1 hW1 x0 x1 x2 bX hTX hrX s0 s1 s3 hsf sf sb e1 e2
      go_wp2_with fail
      refine hD.out.mono ?_
      rintro e w4 ⟨rfl, w2, ⟨hT2, hc2, hch2⟩, _, _, hw4⟩
      have hT4 := hT2.done (Bz := Bz) HT.out.2.2.1 (fun q hq => ⟨.inl, fun h9 => h9.resolve_right hq⟩) HT.out.2.2.2.2.2.2 (by rw [HOF.out, HOFF.out, HE.out]; exact hc2)
      rw [HOF.out, HOFF.out, ← hw4] at hT4
      have h4 : w4.cell? ⟨tb, off + 3, none⟩ = some (.int .u64 (hF k all p)) := by
        rw [hw4]
        refine (World.cell?_setCell_other _ ⟨tb, off + 1, none⟩ ⟨tb, off + 3, none⟩ _ (by simp)).trans ((World.cell?_setCell_other _ ⟨tb, off, none⟩ ⟨tb, off + 3, none⟩ _ (by simp)).trans ?_)
        rw [World.cell?_drew]
        exact hc2
      have hg4 : w2.grownBy w4 (some tb) := by rw [hw4]; exact grown_trans_one (grown_trans_one (show w2.grownBy w2.drew (some tb) from ⟨rfl, rfl, rfl, Nat.le_refl _, fun _ _ _ => rfl⟩) (gset w2.drew tb off (.int .u32 1))) (gset _ tb _ _)
      have ch1 : Chg (fun j => j = tb) X w2 := (Chg.of_grown (F := fun j => j = tb) HG1.out.1 (fun j hj => by injection hj with hj; exact hj.symm)).trans (HG1.out.2 ▸ hch2) (fun j hj => .inl hj)
      have ch4 : Chg (fun j => j = tb) X w4 := ch1.trans (Chg.of_grown (F := fun j => j = tb) hg4 (fun j hj => by injection hj with hj; exact hj.symm)) (fun j hj => .inl hj)
      have hB4 := HX2.out.2.2.1.same (ch4.block _ HX2.out.2.2.1.lt HNE.out.2.2)
      have c2' := hB4.cell 0
      simp only [List.getElem?_cons_zero] at c2'
      have HF : Hid (TR F w4 tb mv f all Bz ∧ Chg (fun j => j = tb) w w4) := Lib.hid ⟨hT4, (Chg.of_below HX2.out.2.2.2.1).trans ch4 (fun j hj => .inl hj)⟩
      clear hT4 hT2 hc2 hch2 hw4 hg4 ch1 ch4 hB4 c0 c1 c2 hD
      go_wp2_with fail
      go_ret
      exact ⟨rfl, HF⟩
    · rw [e2] at s0
      rw [e3, HE.out] at s3
      have HF : Hid (TR F X tb mv f all Bz ∧ Chg (fun j => j = tb) w X) := Lib.hid ⟨hTX, Chg.of_below bX⟩
      have hD := Lib.hid (fun fv => Once.do_done ⟨tb, off, none⟩ 1 (by decide) fv X s0)
      clear x0 x1 x2 bX hTX hrX s0 s1 sf sb e1 e2 e3
      go_wp2_with fail
      refine (hD.out _).mono ?_
      rintro e w4 ⟨rfl, hw4⟩
      obtain rfl := hw4.symm
      go_wp2_with fail
      go_ret
      exact ⟨rfl, HF⟩

/-- The hash of every place is told. -/
theorem hash_all : ∀ k, HashC k
  | 0 => hash_work work_zero
  | k + 1 => hash_work (work_succ (hash_all k))
end
end Tree
end Go.Proofs.YtbaclinjimfncaaGreat
