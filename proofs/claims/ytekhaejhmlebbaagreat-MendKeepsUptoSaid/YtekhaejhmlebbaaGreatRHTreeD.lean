/-
 Several texts of this family in one: TreeDoc, TreeDocRecs, TreeDocHash, TreeDocKids, TreeLaw, TreeWith, TreeArgs.
-/
import Derived.Test.YtekhaejhmlebbaaGreatRHTreeA
import Derived.Test.YtekhaejhmlebbaaGreatRHTreeB
import Derived.WalkLawsBesides
import Derived.Test.YtekhaejhmlebbaaGreatRHTreeC
import Derived.Deep.RegionHeld3
import Derived.Deep.DrawnRows
import Derived.Deep.DeepCutAuto
import Derived.Deep.CutBlock
import Derived.Test.YtekhaejhmlebbaaGreatRGArg
import Derived.Test.YtekhaejhmlebbaaGreatRGBase
import Derived.Test.YtekhaejhmlebbaaGreatRRow
/-
 The document's side: a key's place, paths, a hash as bytes, the mark of a key with its versions.
-/
namespace Go.Proofs.YtekhaejhmlebbaaGreat
namespace Tree
open Go.RowKit Vers Num Ring Disk Blk
open Go.Proofs.YtekhaejhmlebbaaGreat.Code hiding Bn
attribute [local go_sem ↓] Go.wp_at_zero Go.wp_at_succ

set_option maxRecDepth 100000 in
theorem ref_place_any (k : Nm) (w : World) (hbig : k.size ≤ 140737488355328) : Calls Tryz.prog 32 #[.string k] w (Placed k w) := by
 obtain ⟨c, V, hcv, hns, hb⟩ := text_bytes k w
 have H1 := Lib.hid (ref_hash_any _ c k.size (strNums k) (strNums_length k) (strNums_bytes k) V hns hbig)
 have hr := hash_range (strNums k)
 have HD : Hid (dig0 k = keyH k / 1152921504606846976 ∧ dig1 k = keyH k / 72057594037927936 % 16) := Lib.hid ⟨rfl, rfl⟩
 unfold keyH at HD
 obtain ⟨x, hx⟩ : ∃ x, hashL (strNums k) = x := ⟨_, rfl⟩
 rw [hx] at H1 hr HD
 have HB := Lib.hid hb
 obtain ⟨r0, r1⟩ := hr
 clear hns hb hx
 go_enter Tryz.func32, Tryz.ntmps32
 go_wp2_with fail
 refine H1.out.mono ?_
 rintro e w1 ⟨rfl, rfl⟩
 go_wp2_with fail
 go_ret
 exact ⟨V.heap.size, rfl, Lib.hid ⟨by rw [HD.out.1, HD.out.2]; exact ns_two V _ _, HB.out.size⟩, HB.out.alloc HB.out.size _⟩

/-! ### Paths -/
end Tree
end Go.Proofs.YtekhaejhmlebbaaGreat

/-
 The document's records beneath a path; records with one in the place of its key's.
-/
namespace Go.Proofs.YtekhaejhmlebbaaGreat
namespace Tree
open Go.RowKit Vers Num Ring Disk Blk
open Go.Proofs.YtekhaejhmlebbaaGreat.Code hiding Bn
attribute [local go_sem ↓] Go.wp_at_zero Go.wp_at_succ

theorem info_rec' : (Tryz.prog.info? 53).map (fun i => (i.zero, i.size, i.bytes)) = some (some (.agg #[.string ⟨#[]⟩, .slice none 0 0]), 2, 40) := by kernel_rfl
def RowS (base : Nat) (w : World) (v : Value) (ps : List Pr) : Prop :=
 w.ownsRow base 53 2 v ps.length (rcs ps) ∧ ∀ p ∈ ps, Vs w 0 base p.2.1 p.1.2 ∧ p.1.2.length ≤ p.2.2 ∧ p.1.2.length ≤ 140737488355328 ∧ p.1.1.size ≤ 140737488355328
theorem RowS.below {base : Nat} {w w' : World} {v : Value} {ps : List Pr} (h : RowS base w v ps) (hb : Below w.heap.size w w') (hB : base ≤ w.heap.size) : RowS base w' v ps :=
 ⟨own_below h.1 hb (Nat.le_refl _), fun p hp => ⟨(h.2 p hp).1.below (hb.mono hB), (h.2 p hp).2⟩⟩
theorem RowS.add {base : Nat} {w w' : World} {v v' : Value} {ps : List Pr} {p : Pr} (h : RowS base w v ps) (ho : w'.ownsRow base 53 2 v' (ps.length + 1) (rcs (ps ++ [p]))) (hg : w.grownBy w' v.ownBlock) (hB : base ≤ w.heap.size) (hp : Vs w 0 base p.2.1 p.1.2 ∧ p.1.2.length ≤ p.2.2 ∧ p.1.2.length ≤ 140737488355328 ∧ p.1.1.size ≤ 140737488355328) : RowS base w' v' (ps ++ [p]) := by
 have hb : Below base w w' := (Below.refl _ _).grown hg hB (fun j hj => (h.1.lt j hj).1)
 refine ⟨by simpa using ho, fun q hq => ?_⟩
 rcases List.mem_append.1 hq with hq | hq
 ·exact ⟨(h.2 q hq).1.below hb, (h.2 q hq).2⟩
 ·rw [List.mem_singleton.1 hq]
  exact ⟨hp.1.below hb, hp.2⟩
theorem RowS.rs {base n c : Nat} {w : World} {A : Option Addr} {ps : List Pr} (h : RowS base w (.slice A n c) ps) (hB : base ≤ w.heap.size) : Rs w 0 w.heap.size A (ps.map Prod.fst) := fun hp => by
 rw [List.length_map] at hp
 obtain ⟨ho, hpa⟩ := h
 rcases ho.2 with ⟨_, h0⟩ | ⟨g, cap, cur, hv, hbg, hg, rest⟩
 ·omega
 ·injection hv with h1 h2 h3
  subst h1
  refine ⟨g, 0, rfl, Nat.zero_le _, (Array.getElem?_eq_some_iff.1 hg).1, fun j hj => ?_⟩
  rw [List.length_map] at hj
  have e : (ps.map Prod.fst).getD j r0 = (ps.getD j (r0, none, 0)).1 := by simp [List.getD_eq_getElem?_getD, hj]
  have hm : ps.getD j (r0, none, 0) ∈ ps := by
   rw [List.getD_eq_getElem?_getD, List.getElem?_eq_getElem hj]
   exact List.getElem_mem _
  rw [e]
  have hat : ∀ r, r < 2 → ∀ u, (rcc (ps.getD j (r0, none, 0)))[r]? = some u → w.cell? ⟨g, 0 + j * 2 + r, none⟩ = some u := fun r hr u hu => by
   have hc := ho.cells (g := g) rfl (j * 2 + r) u (by rw [rcs_at ps j hj r hr]; exact hu)
   rw [Vers.add_plain] at hc
   rw [show 0 + j * 2 + r = 0 + (j * 2 + r) by omega]
   exact hc
  obtain ⟨q1, q2, q3, q4⟩ := hpa _ hm
  exact ⟨_, _, hat 0 (by omega) _ (by simp [rcc]), hat 1 (by omega) _ (by simp [rcc]), q1.more hB, q2, q3, q4⟩
end Tree
end Go.Proofs.YtekhaejhmlebbaaGreat

/-
 The document's hashes.
-/
namespace Go.Proofs.YtekhaejhmlebbaaGreat
namespace Tree
open Go.RowKit Vers Num Ring Disk Blk
open Go.Proofs.YtekhaejhmlebbaaGreat.Code hiding Bn
attribute [local go_sem ↓] Go.wp_at_zero Go.wp_at_succ

def textF : Nat → List Rc → List Int → List Int
 | 0, all, p => leafT (beneath all p)
 | k + 1, all, p => kidsT (fun (d : Nat) => hF k all (p ++ [(d : Int)])) 16
end Tree
end Go.Proofs.YtekhaejhmlebbaaGreat

/-
 The document's lists of hashes; records, whatever the path.
-/
namespace Go.Proofs.YtekhaejhmlebbaaGreat
namespace Tree
open Go.RowKit Vers Num Ring Disk Blk
open Go.Proofs.YtekhaejhmlebbaaGreat.Code hiding Bn
attribute [local go_sem ↓] Go.wp_at_zero Go.wp_at_succ

end Tree
end Go.Proofs.YtekhaejhmlebbaaGreat

/-
 Trees of a law's own (layer 11): what is done with them, from a world on.
-/
namespace Go.Proofs.YtekhaejhmlebbaaGreat
namespace Tree
open Go.RowKit Vers Num Ring Disk Blk
open Go.Proofs.YtekhaejhmlebbaaGreat.Code hiding Bn
def On (F : Nat → Prop) (w V : World) (tb : Nat) (all : List Rc) : Prop := (∃ mv f, TR F V tb mv f all fun _ => False) ∧ Below w.heap.size w V ∧ ∀ j, F j → w.heap.size ≤ j
theorem ns_nil {k : IntKind} {w : World} {L : Nat} {A : Option Addr} : Ns k w L A [] := fun h => by simp at h
section
variable {F G : Nat → Prop} {w V V' : World} {tb : Nat} {all : List Rc}
theorem On.old (h : On F w V tb all) : Below w.heap.size w V := h.2.1
theorem On.own (h : On F w V tb all) : F tb := by
 obtain ⟨⟨mv, f, h⟩, _⟩ := h
 exact h.own
theorem On.lt (h : On F w V tb all) {k : Nat} (hk : F k) : k < V.heap.size := by
 obtain ⟨⟨mv, f, h⟩, _⟩ := h
 exact h.lt k hk
theorem On.okA (h : On F w V tb all) : okAll all := by
 obtain ⟨⟨mv, f, h⟩, _⟩ := h
 exact h.ok
theorem On.chg (h : On F w V tb all) (hc : Chg G V V') (hG : ∀ k, F k → ¬ G k) (hw : ∀ k, G k → w.heap.size ≤ k) : On F w V' tb all := by
 obtain ⟨⟨mv, f, h1⟩, h2, h3⟩ := h
 exact ⟨⟨mv, f, h1.chg hc hG⟩, h2.trans (hc.below hw h2.size), h3⟩
theorem On.below (h : On F w V tb all) (hb : Below V.heap.size V V') : On F w V' tb all := h.chg (G := fun _ => False) (Chg.of_below hb) (fun _ _ h => h) fun _ h => h.elim
theorem On.hash (h : On F w V tb all) (hN : all.length ≤ 3518437208882) (A : Option Addr) (c n : Nat) (p : List Int) (hn : p.length = n) (hbig : n ≤ 140737488355328) (hr : Ns .i64 V V.heap.size A p) :
  Calls Tryz.prog 65 #[hd tb, .slice A n c] V (fun e w' => e = .returned (.int .u64 (hashF all p)) ∧ Hid (On F w w' tb all ∧ Chg (fun k => k = tb) V w')) := by
 obtain ⟨⟨mv, f, h1⟩, h2, h3⟩ := h
 refine (hash_tell h1 hN A c n p hn hbig hr).mono ?_
 rintro e w' ⟨rfl, hx⟩
 exact ⟨rfl, Lib.hid ⟨⟨⟨mv, f, hx.out.1⟩, h2.trans (hx.out.2.below (fun k e => by rw [e]; exact h3 _ h1.own) h2.size), h3⟩, hx.out.2⟩⟩
theorem On.kids (h : On F w V tb all) (hN : all.length ≤ 3518437208882) (A : Option Addr) (c n : Nat) (p : List Int) (hn : p.length = n) (hbig : n ≤ 140737488355328) (hr : Ns .i64 V V.heap.size A p) :
  Calls Tryz.prog 39 #[hd tb, .slice A n c] V (fun e w' => ∃ A m c, e = .returned (.slice A m c) ∧ Hid ((kidsF all p).length = m ∧ m ≤ c ∧ Ns .u64 w' w'.heap.size A (kidsF all p) ∧ (∀ a, 0 < m → A = some a → V.heap.size ≤ a.block) ∧ On F w w' tb all ∧ Chg (fun k => k = tb) V w')) := by
 obtain ⟨⟨mv, f, h1⟩, h2, h3⟩ := h
 refine (kids_tell h1 hN A c n p hn hbig hr).mono ?_
 rintro e w' ⟨A', m, c', rfl, hx⟩
 obtain ⟨q1, q2, q3, q4, q5, q6⟩ := hx.out
 exact ⟨A', m, c', rfl, Lib.hid ⟨q1, q2, q3, q4, ⟨⟨mv, f, q5⟩, h2.trans (q6.below (fun k e => by rw [e]; exact h3 _ h1.own) h2.size), h3⟩, q6⟩⟩
theorem On.recs (h : On F w V tb all) (hN : all.length ≤ 3518437208882) (A : Option Addr) (c n : Nat) (p : List Int) (hn : p.length = n) (hbig : n ≤ 140737488355328) (hr : Ns .i64 V V.heap.size A p) :
  Calls Tryz.prog 43 #[hd tb, .slice A n c] V (fun e w' => ∃ A n c ps, e = .returned (.slice A n c) ∧ Hid (ps.map Prod.fst = recsF all p ∧ n = (recsF all p).length ∧ n ≤ c ∧ Got V.heap.size w' A ps ∧ On F w w' tb all ∧ Below V.heap.size V w')) := by
 have hO := h
 obtain ⟨⟨mv, f, h1⟩, h2, h3⟩ := h
 refine (recs_tell h1 hN A c n p hn hbig hr).mono ?_
 rintro e w' ⟨A', n', c', ps, rfl, hx, hb⟩
 obtain ⟨q1, q2, q3, q4⟩ := hx.out
 exact ⟨A', n', c', ps, rfl, Lib.hid ⟨q1, q2, q3, q4, hO.below hb, hb⟩⟩
theorem On.set (h : On F w V tb all) (hN : all.length ≤ 3518437208882) (key : Nm) (A : Option Addr) (c m : Nat) (lv : List Vr) (hm : lv.length = m) (hv : Vs V 0 V.heap.size A lv) (hok : okR (key, lv)) :
  Calls Tryz.prog 63 #[hd tb, .agg #[.string key, .slice A m c]] V (fun e w' => e = .returned (.int .i64 0) ∧ Hid (∃ F', On F' w w' tb (withR all (key, lv)) ∧ Stp F V F' w')) := by
 obtain ⟨⟨mv, f, h1⟩, h2, h3⟩ := h
 refine (set_ok h1 hN key A c m lv hm hv hok).mono ?_
 rintro e w' ⟨F', mv', f', rfl, hx⟩
 refine ⟨rfl, Lib.hid ⟨F', ⟨⟨mv', f', hx.out.1⟩, h2.trans (hx.out.2.1.below h3 h2.size), fun j hj => ?_⟩, hx.out.2⟩⟩
 rcases hx.out.2.2 j hj with q | q
 ·exact h3 j q
 ·exact Nat.le_trans h2.size q
theorem on_new (hb : Below w.heap.size w V) (A : Option Addr) (c n : Nat) (l : List Rc) (hn : l.length = n) (hbig : n ≤ 3518437208882) (hr : Rs V 0 V.heap.size A l) (hok : ∀ r ∈ l, okR r) :
  Calls Tryz.prog 38 #[.slice A n c] V (fun e w' => ∃ tb, e = .returned (.tuple #[hd tb, .int .i64 0]) ∧ Hid (∃ F, On F w w' tb (layF l) ∧ (∀ k, F k → V.heap.size ≤ k) ∧ Below V.heap.size V w')) := by
 refine (new_any A c n l hn hbig V hr).mono ?_
 rintro e w' (⟨_, F, tb, mv, f, rfl, hx⟩ | ⟨hno, _⟩)
 ·exact ⟨tb, rfl, Lib.hid ⟨F, ⟨⟨mv, f, hx.out.1⟩, hb.trans (hx.out.2.2.mono hb.size), fun j hj => Nat.le_trans hb.size (hx.out.2.1 j hj)⟩, hx.out.2⟩⟩
 ·exact absurd hok hno
theorem no_new (A : Option Addr) (c n : Nat) (l : List Rc) (hn : l.length = n) (hbig : n ≤ 3518437208882) (hr : Rs V 0 V.heap.size A l) (hno : ¬ ∀ r ∈ l, okR r) :
  Calls Tryz.prog 38 #[.slice A n c] V (fun e w' => e = .returned (.tuple #[.pointer none, .int .i64 1]) ∧ Below V.heap.size V w') := by
 refine (new_any A c n l hn hbig V hr).mono ?_
 rintro e w' (⟨hok, _⟩ | ⟨_, rfl, hb⟩)
 ·exact absurd hok hno
 ·exact ⟨rfl, hb⟩
end
theorem rs_nil {w : World} {L B : Nat} {A : Option Addr} : Rs w L B A [] := fun h => by simp at h
end Tree
end Go.Proofs.YtekhaejhmlebbaaGreat

/-
 firthref10.With: records, with one in the place of its key's.
-/
namespace Go.Proofs.YtekhaejhmlebbaaGreat
namespace Tree
open Go.RowKit Vers Num Ring Disk Blk
open Go.Proofs.YtekhaejhmlebbaaGreat.Code hiding Bn
attribute [local go_sem ↓] Go.wp_at_zero Go.wp_at_succ

def wf : List Rc → Rc → Bool → List Rc
 | [], r, laid => if laid then [] else [r]
 | x :: l, r, laid => if x.1 = r.1 then wf l r laid else if (!laid && nlt r.1 x.1) = true then r :: x :: wf l r true else x :: wf l r laid
theorem wf_true (r : Rc) : ∀ l : List Rc, wf l r true = wout l r.1
 | [] => rfl
 | x :: l => by
  have ih := wf_true r l
  unfold wf
  by_cases h : x.1 = r.1
  ·rw [if_pos h, ih]
   unfold wout
   rw [List.filter_cons, if_neg (by simp [h])]
  ·rw [if_neg h, if_neg (by simp), ih]
   unfold wout
   rw [List.filter_cons, if_pos (by simp [h])]
theorem wf_false (r : Rc) : ∀ l : List Rc, wf l r false = wit l r.1 r.2
 | [] => rfl
 | x :: l => by
  have ih := wf_false r l
  unfold wf
  by_cases h : x.1 = r.1
  ·rw [if_pos h, ih]
   unfold wit wout
   rw [List.filter_cons, if_neg (by simp [h])]
  ·rw [if_neg h]
   have e : wit (x :: l) r.1 r.2 = ins (x :: wout l r.1) r.1 r.2 := by
    unfold wit wout
    rw [List.filter_cons, if_pos (by simp [h])]
   rw [e]
   by_cases hn : nlt r.1 x.1 = true
   ·rw [if_pos (by simp [hn]), wf_true]
    unfold ins
    rw [if_pos hn]
   ·rw [if_neg (by simp [hn]), ih]
    unfold ins
    rw [if_neg hn]
    rfl
theorem wf_start (l : List Rc) (r : Rc) : wf l r (decide (r.2 = [])) = withR l r := by
 unfold withR
 by_cases h : r.2 = []
 ·rw [if_pos h, decide_eq_true h, wf_true]
 ·rw [if_neg h, decide_eq_false h, wf_false]
theorem wf_keep {x r : Rc} {l : List Rc} {laid : Bool} (hne : ¬ x.1 = r.1) (h : (!laid && nlt r.1 x.1) = false) : wf (x :: l) r laid = x :: wf l r laid := by
 rw [wf, if_neg hne, if_neg (by rw [h]; simp)]
theorem wf_lay {x r : Rc} {l : List Rc} (hne : ¬ x.1 = r.1) (h : nlt r.1 x.1 = true) : wf (x :: l) r false = r :: x :: wf l r true := by
 rw [wf, if_neg hne, if_pos (by rw [h]; rfl)]
theorem two_more {x k n : Nat} (h : x ≤ k) (h1 : k < n) (h2 : n ≤ 3518437208881) : (x + 1 + 1) * 40 ≤ 140737488355328 := by omega
theorem drop_at {l : List Rc} {k : Nat} (hk : k < l.length) : l.drop k = l.getD k r0 :: l.drop (k + 1) := by
 rw [List.drop_eq_getElem_cons hk]
 simp [List.getD_eq_getElem?_getD, hk]
def RowX (base B : Nat) (w : World) (v : Value) (ps : List Pr) : Prop :=
 w.ownsRow base 53 2 v ps.length (rcs ps) ∧ ∀ p ∈ ps, Vs w 0 B p.2.1 p.1.2 ∧ p.1.2.length ≤ p.2.2 ∧ p.1.2.length ≤ 140737488355328 ∧ p.1.1.size ≤ 140737488355328
theorem rowX_nil (base B : Nat) (w : World) : RowX base B w (.slice none 0 0) [] := ⟨World.ownsRow_nil _ _ _ _, fun p hp => by cases hp⟩
theorem RowX.drewN {base B : Nat} {w : World} {v : Value} {ps : List Pr} (h : RowX base B w v ps) (q : Nat) : RowX base B (w.drewN q) v ps :=
 ⟨own_below h.1 ⟨rfl, rfl, rfl, Nat.le_refl _, fun _ _ => rfl⟩ (Nat.le_refl _), fun p hp => ⟨(h.2 p hp).1.keep fun _ _ _ => rfl, (h.2 p hp).2⟩⟩
theorem RowX.add {base B : Nat} {w w' : World} {v v' : Value} {ps : List Pr} {p : Pr} (h : RowX base B w v ps) (ho : w'.ownsRow base 53 2 v' (ps.length + 1) (rcs (ps ++ [p]))) (hg : w.grownBy w' v.ownBlock) (hB : B ≤ base) (hbw : base ≤ w.heap.size) (hp : Vs w 0 B p.2.1 p.1.2 ∧ p.1.2.length ≤ p.2.2 ∧ p.1.2.length ≤ 140737488355328 ∧ p.1.1.size ≤ 140737488355328) : RowX base B w' v' (ps ++ [p]) := by
 have hb : Below B w w' := (Below.refl _ _).grown hg (Nat.le_trans hB hbw) (fun j hj => Nat.le_trans hB (h.1.lt j hj).1)
 refine ⟨by simpa using ho, fun q hq => ?_⟩
 rcases List.mem_append.1 hq with hq | hq
 ·exact ⟨(h.2 q hq).1.below hb, (h.2 q hq).2⟩
 ·rw [List.mem_singleton.1 hq]
  exact ⟨hp.1.below hb, hp.2⟩
theorem RowX.low {base base' B : Nat} {w : World} {v : Value} {ps : List Pr} (h : RowX base B w v ps) (hB : base' ≤ base) : RowX base' B w v ps := ⟨own_base h.1 hB, h.2⟩
def Rb (w : World) (B : Nat) (A : Option Addr) (l : List Rc) : Prop :=
 0 < l.length → ∃ b off, A = some ⟨b, off, none⟩ ∧ b < w.heap.size ∧ ∀ j, j < l.length → ∃ A' c', Rat w 0 B b (off + j * 2) (l.getD j r0) A' c'
theorem Rb.at {w w' : World} {B n k : Nat} {A : Option Addr} {l : List Rc} {r : Rc} (h : Rb w B A l) (hn : l.length = n) (hB : B ≤ w.heap.size) (hb : Below w.heap.size w w') (hk : k < n) (hv : l.getD k r0 = r) : ∃ b off A' c', A = some ⟨b, off, none⟩ ∧ 0 ≤ b ∧ b < w.heap.size ∧ Rat w' 0 B b (off + k * 2) r A' c' := by
 obtain ⟨b, off, e, hbB, hc⟩ := h (by omega)
 obtain ⟨A', c', h0, h1, h2, h3⟩ := hc k (by omega)
 rw [hv] at h0 h1 h2 h3
 exact ⟨b, off, A', c', e, Nat.zero_le _, hbB, (hb.cell (p := ⟨b, _, none⟩) hbB).trans h0, (hb.cell (p := ⟨b, _, none⟩) hbB).trans h1, h2.below (hb.mono hB), h3⟩
theorem RowX.rb {base B n c : Nat} {w : World} {A : Option Addr} {ps : List Pr} (h : RowX base B w (.slice A n c) ps) : Rb w B A (ps.map Prod.fst) := fun hp => by
 rw [List.length_map] at hp
 obtain ⟨ho, hpa⟩ := h
 rcases ho.2 with ⟨_, h0⟩ | ⟨g, cap, cur, hv, hbg, hg, rest⟩
 ·omega
 ·injection hv with h1 h2 h3
  subst h1
  refine ⟨g, 0, rfl, (Array.getElem?_eq_some_iff.1 hg).1, fun j hj => ?_⟩
  rw [List.length_map] at hj
  have e : (ps.map Prod.fst).getD j r0 = (ps.getD j (r0, none, 0)).1 := by simp [List.getD_eq_getElem?_getD, hj]
  have hm : ps.getD j (r0, none, 0) ∈ ps := by
   rw [List.getD_eq_getElem?_getD, List.getElem?_eq_getElem hj]
   exact List.getElem_mem _
  rw [e]
  have hat : ∀ r, r < 2 → ∀ u, (rcc (ps.getD j (r0, none, 0)))[r]? = some u → w.cell? ⟨g, 0 + j * 2 + r, none⟩ = some u := fun r hr u hu => by
   have hc := ho.cells (g := g) rfl (j * 2 + r) u (by rw [rcs_at ps j hj r hr]; exact hu)
   rw [Vers.add_plain] at hc
   rw [show 0 + j * 2 + r = 0 + (j * 2 + r) by omega]
   exact hc
  obtain ⟨q1, q2, q3, q4⟩ := hpa _ hm
  exact ⟨_, _, hat 0 (by omega) _ (by simp [rcc]), hat 1 (by omega) _ (by simp [rcc]), q1, q2, q3, q4⟩
def Withing (l : List Rc) (r : Rc) (n B : Nat) (U : World) (v z q : Value) (wr : World) : Prop :=
 ∃ (k x : Nat) (A1 : Option Addr) (c1 : Nat) (ps : List Pr) (laid : Bool), q = .int .i64 k ∧ k ≤ n ∧ v = .slice A1 x c1 ∧ z = .bool laid ∧ x ≤ k + 1 ∧ Hid ((laid = false → x ≤ k) ∧ ps.map Prod.fst ++ wf (l.drop k) r laid = withR l r ∧ ps.length = x ∧ RowX U.heap.size B wr (.slice A1 x c1) ps ∧ Below U.heap.size U wr)
def NewX (B : Nat) (l : List Rc) (w : World) (e : Ending) (w' : World) : Prop :=
 ∃ A m c ps, e = .returned (.slice A m c) ∧ Hid (ps.map Prod.fst = l ∧ l.length = m ∧ m ≤ c ∧ RowX w.heap.size B w' (.slice A m c) ps) ∧ Below w.heap.size w w'
theorem RowX.put {base B x c1 : Nat} {A1 A4 : Option Addr} {c4 ml : Nat} {ps : List Pr} {key : Nm} {lv : List Vr} {W w4 U : World} {v4 : Value} (hr : RowX base B W (.slice A1 x c1) ps) (hps : ps.length = x) (hB : B ≤ base) (hbw : base ≤ W.heap.size) (hU : Below base U W) (hml : lv.length = ml) (hv : Vs W 0 B A4 lv) (hz : ml ≤ c4 ∧ ml ≤ 140737488355328 ∧ key.size ≤ 140737488355328)
  (o4 : w4.ownsRow base 53 2 v4 (x + 1) (rcs (ps ++ [((key, lv), A4, c4)]))) (g4 : W.grownBy w4 (Value.slice A1 x c1).ownBlock) : RowX base B w4 v4 (ps ++ [((key, lv), A4, c4)]) ∧ Below base U w4 := by
 subst hml
 refine ⟨hr.add (by rw [hps]; exact o4) g4 hB hbw ⟨hv, hz⟩, hU.grown g4 hbw (fun j hj => (hr.1.lt j hj).1)⟩
set_option maxRecDepth 100000 in
set_option maxHeartbeats 4000000 in
theorem with_any (A Av : Option Addr) (c cv n m B : Nat) (l : List Rc) (key : Nm) (lv : List Vr) (hn : l.length = n) (hn2 : n ≤ 3518437208881) (hm : lv.length = m) (hz : m ≤ cv ∧ m ≤ 140737488355328 ∧ key.size ≤ 140737488355328) (w : World) (hBw : B ≤ w.heap.size) (hl : Rb w B A l) (hv : Vs w 0 B Av lv) :
  Calls Tryz.prog 34 #[.slice A n c, .agg #[.string key, .slice Av m cv]] w (NewX B (withR l (key, lv)) w) := by
 obtain ⟨i0, hi, hz0, hz1, hz2⟩ := info_parts info_rec'
 obtain ⟨rb, hrb⟩ : ∃ rb, w.heap.size = rb := ⟨_, rfl⟩
 obtain ⟨U, hU⟩ : ∃ U, w.alloc (.cells #[.string key, .slice Av m cv] 53) = U := ⟨_, rfl⟩
 have bU : Below w.heap.size w U := by rw [← hU]; exact (Below.refl _ w).alloc (Nat.le_refl _) _
 have BU : Bn rb 53 [.string key, .slice Av m cv] U := by rw [← hU, ← hrb]; exact World.alloc_heap_new _ _
 have x0 := BU.cell 0
 have x1 := BU.cell 1
 simp only [List.getElem?_cons_zero, List.getElem?_cons_succ] at x0 x1
 have hUs : U.heap.size = rb + 1 := by rw [← hU, ← hrb]; simp
 have HI : Hid (Withing l (key, lv) n B U (.slice none 0 0) (.bool (decide (m = 0))) (.int .i64 0) U) := Lib.hid ⟨0, 0, none, 0, [], decide (m = 0), rfl, by omega, rfl, rfl, by omega, Lib.hid ⟨fun _ => Nat.le_refl _, by
  have e : decide (m = 0) = decide ((key, lv).2 = []) := decide_eq_decide.2 (by rw [← hm]; exact ⟨fun h => List.eq_nil_of_length_eq_zero h, fun h => by simp at h; rw [h]; rfl⟩)
  rw [e]
  simpa using wf_start l (key, lv), rfl, rowX_nil _ _ _, Below.refl _ _⟩⟩
 have HH := Lib.hid (And.intro hl (And.intro hn (And.intro hv (And.intro hm (And.intro hz (And.intro bU (And.intro BU (And.intro hrb hUs))))))))
 obtain ⟨z0, hz0'⟩ : ∃ z0, decide (m = 0) = z0 := ⟨_, rfl⟩
 have e0 : ((m : Int) == 0) = z0 := by rw [← hz0']; by_cases h : m = 0 <;> simp [h]
 rw [hz0'] at HI
 clear hl hn hv hm hz bU BU hz0' hUs
 go_enter Tryz.func34, Tryz.ntmps34
 go_wp2_with fail
 clear hU e0 x0 x1 hrb
 go_loopw [5, 6, 7] (fun v z q wr => Withing l (key, lv) n B U v z q wr) (fun _ _ q _ => n - (intOf q).toNat)
 case atStart => exact HI.out
 case round =>
  clear HI
  obtain ⟨k, x, A1, c1, ps, laid, rfl, hk, rfl, rfl, hxk, hst⟩ := hrel
  have hbU := hst.out.2.2.2.2
  have hszU := hbU.size
  have hB1 := HH.out.2.2.2.2.2.2.1.same (hbU.block rb HH.out.2.2.2.2.2.2.1.lt)
  have x0 := hB1.cell 0
  have x1 := hB1.cell 1
  simp only [List.getElem?_cons_zero, List.getElem?_cons_succ] at x0 x1
  have hUw : w.heap.size ≤ U.heap.size := by have := HH.out.2.2.2.2.2.2.2; omega
  have hUB : B ≤ U.heap.size := Nat.le_trans hBw hUw
  have hbw : Below w.heap.size w wr := HH.out.2.2.2.2.2.1.trans (hbU.mono hUw)
  by_cases hlt : k < n
  ·have d1 : (0 : Int) ≤ (k : Int) := by omega
   have d2 : (k : Int) < (n : Int) := by omega
   obtain ⟨pb, off, A4, c4, rfl, _, hbB, k0, k1, k2, k3⟩ := HH.out.1.at HH.out.2.1 hBw hbw hlt rfl
   have hkl : k < l.length := by have := HH.out.2.1; omega
   have HTk := Lib.hid (drop_at hkl)
   obtain ⟨r, hrr⟩ : ∃ r, l.getD k r0 = r := ⟨_, rfl⟩
   rw [hrr] at k0 k1 k2 k3 HTk
   obtain ⟨key', lv'⟩ := r
   simp only at k0 k1 k2 k3
   obtain ⟨ml, hml⟩ : ∃ ml, lv'.length = ml := ⟨_, rfl⟩
   rw [hml] at k1 k3
   have hvr := HH.out.2.2.1.below (hbw.mono hBw)
   have HST := Lib.hid (And.intro hst.out (And.intro hUB (And.intro k2 (And.intro k3 (And.intro hml hvr)))))
   clear hst hbU hB1 hbw hrr hkl hml hvr k2 k3
   by_cases hkk : key' = key
   ·have e1 : (key'.toList == key.toList) = true := by rw [hkk]; simp
    have HF : Hid (∀ W, (∃ q, W = wr.drewN q) → Withing l (key, lv) n B U (.slice A1 x c1) (.bool laid) (.int .i64 ((k : Int) + 1)) W) := Lib.hid fun W ⟨q, hq⟩ => ⟨k + 1, x, A1, c1, ps, laid, by go_num, by omega, rfl, rfl, by omega, Lib.hid ⟨fun h => by have := HST.out.1.1 h; omega, by
      have h9 := HST.out.1.2.1
      rw [HTk.out] at h9
      rw [wf, if_pos hkk] at h9
      exact h9, HST.out.1.2.2.1, by rw [hq]; exact HST.out.1.2.2.2.1.drewN q, by rw [hq]; exact HST.out.1.2.2.2.2.trans ⟨rfl, rfl, rfl, Nat.le_refl _, fun _ _ => rfl⟩⟩⟩
    clear hkk
    go_wp2_with fail
    go_quiet (fail)
    have HF2 := Lib.hid (HF.out (wr.drewN nq) ⟨nq, rfl⟩)
    go_wp2_with fail
    go_roundw
    case rel => exact HF2.out
    case measure => simp only [intOf]; omega
   ·have e1 : (key'.toList == key.toList) = false := by rw [nm_eq]; exact decide_eq_false hkk
    have HKK := Lib.hid hkk
    clear hkk
    have HKP : Hid ((!laid && nlt key key') = false → ∀ (We w4 : World) (A5 : Option Addr) (c5 : Nat), RowX U.heap.size B We (.slice A1 x c1) ps → Below U.heap.size U We → U.heap.size ≤ We.heap.size → w4.ownsRow U.heap.size 53 2 (.slice A5 (x + 1) c5) (x + 1) (rcs (ps ++ [((key', lv'), A4, c4)])) → We.grownBy w4 (Value.slice A1 x c1).ownBlock → Withing l (key, lv) n B U (.slice A5 (x + 1) c5) (.bool laid) (.int .i64 ((k : Int) + 1)) w4) := Lib.hid fun hno We w4 A5 c5 hRE hUe hsz3 o4 g4 => by
     have hp := RowX.put (key := key') (lv := lv') (ml := ml) hRE HST.out.1.2.2.1 HST.out.2.1 hsz3 hUe HST.out.2.2.2.2.1 (HST.out.2.2.1.keep fun p _ hp => ((hUe.mono HST.out.2.1).cell hp).trans ((HST.out.1.2.2.2.2.mono HST.out.2.1).cell hp).symm) HST.out.2.2.2.1 o4 g4
     have h9 := HST.out.1.2.1
     rw [HTk.out, wf_keep HKK.out hno] at h9
     exact ⟨k + 1, x + 1, A5, c5, ps ++ [((key', lv'), A4, c4)], laid, by go_num, by omega, rfl, rfl, by omega, Lib.hid ⟨fun h => by have := HST.out.1.1 h; omega, by rw [← h9]; simp, by simp [HST.out.1.2.2.1], hp.1, hp.2⟩⟩
    have HD0 : Hid (∀ q, RowX U.heap.size B (wr.drewN q) (.slice A1 x c1) ps ∧ Below U.heap.size U (wr.drewN q)) := Lib.hid fun q => ⟨HST.out.1.2.2.2.1.drewN q, HST.out.1.2.2.2.2.trans ⟨rfl, rfl, rfl, Nat.le_refl _, fun _ _ => rfl⟩⟩
    go_wp2_with fail
    go_quiet (fail)
    obtain ⟨Wd, hWd⟩ : ∃ Wd, wr.drewN nq = Wd := ⟨_, rfl⟩
    have HD1 : Hid (∀ q, RowX U.heap.size B (Wd.drewN q) (.slice A1 x c1) ps ∧ Below U.heap.size U (Wd.drewN q)) := Lib.hid fun q => by
     rw [← hWd]
     exact ⟨(HST.out.1.2.2.2.1.drewN nq).drewN q, HST.out.1.2.2.2.2.trans ⟨rfl, rfl, rfl, Nat.le_refl _, fun _ _ => rfl⟩⟩
    have hz9 : wr.heap = Wd.heap := by rw [← hWd]; rfl
    have cc : ∀ a, wr.cell? a = Wd.cell? a := fun a => by rw [← hWd]; rfl
    rw [cc] at k0 k1 x0 x1
    rw [hWd]
    clear hWd cc hz9
    cases laid
    ·obtain ⟨lt, hlt3⟩ : ∃ lt, Op.bytesLess key.toList key'.toList = lt := ⟨_, rfl⟩
     cases lt
     ·go_wp2_with fail
      go_quiet (fail)
      obtain ⟨We, hWe⟩ : ∃ We, Wd.drewN nq = We := ⟨_, rfl⟩
      have hde := HD1.out nq
      have k0e : (Wd.drewN nq).cell? _ = _ := k0
      have k1e : (Wd.drewN nq).cell? _ = _ := k1
      rw [hWe] at hde k0e k1e ⊢
      obtain ⟨hRE, hUe⟩ := hde
      have hsz3 := hUe.size
      have hro := hRE.1
      have HRE := Lib.hid (And.intro hRE hUe)
      rw [HST.out.1.2.2.1] at hro
      have hl2 : (x + 1) * 40 ≤ 140737488355328 := by omega
      clear hWe hRE hUe k0 k1
      go_wp2_with (at_builtin; refine wpList_append_r _ rfl (.tmp 42) (.tmp 47) 22 rfl U.heap.size 53 i0 _ 40 Tryz.underlying22 hi hz0 hz1 hz2 rfl _ x ps rfl hro ((key', lv'), A4, c4) ml HST.out.2.2.2.2.1 1 rfl hl2 (by omega) hsz3 ?_; intro v4 w4 o4 g4 at4; obtain ⟨A5, c5, rfl⟩ := own_form o4)
      have HF2 := Lib.hid (HKP.out (by show (true && Op.bytesLess key.toList key'.toList) = false; rw [hlt3]; rfl) We w4 A5 c5 HRE.out.1 HRE.out.2 hsz3 o4 g4)
      clear o4 g4 at4 hro
      go_roundw
      case rel => exact HF2.out
      case measure => simp only [intOf]; omega
     ·go_wp2_with fail
      go_quiet (fail)
      obtain ⟨We, hWe⟩ : ∃ We, Wd.drewN nq = We := ⟨_, rfl⟩
      have hde := HD1.out nq
      have k0e : (Wd.drewN nq).cell? _ = _ := k0
      have k1e : (Wd.drewN nq).cell? _ = _ := k1
      have x0e : (Wd.drewN nq).cell? _ = _ := x0
      have x1e : (Wd.drewN nq).cell? _ = _ := x1
      rw [hWe] at hde k0e k1e x0e x1e ⊢
      obtain ⟨hRE, hUe⟩ := hde
      have hsz3 := hUe.size
      have hro := hRE.1
      have HRE := Lib.hid (And.intro hRE hUe)
      rw [HST.out.1.2.2.1] at hro
      have hl2 : (x + 1) * 40 ≤ 140737488355328 := by omega
      have HX : Hid (∀ o, (⟨pb, o, none⟩ : Addr).block < U.heap.size) := Lib.hid (fun o => by show pb < _; omega)
      have HLAID : Hid (x ≤ k) := Lib.hid (HST.out.1.1 (by simp))
      clear hWe hRE hUe k0 k1 x0 x1
      have hl3 := two_more HLAID.out hlt hn2
      have HFF : Hid (∀ (w4 w5 : World) (A5 A6 : Option Addr) (c5 c6 : Nat), w4.ownsRow U.heap.size 53 2 (.slice A5 (x + 1) c5) (x + 1) (rcs (ps ++ [((key, lv), Av, cv)])) → We.grownBy w4 (Value.slice A1 x c1).ownBlock → w5.ownsRow U.heap.size 53 2 (.slice A6 (x + 1 + 1) c6) (x + 1 + 1) (rcs ((ps ++ [((key, lv), Av, cv)]) ++ [((key', lv'), A4, c4)])) → w4.grownBy w5 (Value.slice A5 (x + 1) c5).ownBlock → Withing l (key, lv) n B U (.slice A6 (x + 1 + 1) c6) (.bool true) (.int .i64 ((k : Int) + 1)) w5) := Lib.hid fun w4 w5 A5 A6 c5 c6 o4 g4 o5 g5 => by
       have hp := RowX.put (key := key) (lv := lv) (ml := m) HRE.out.1 HST.out.1.2.2.1 HST.out.2.1 hsz3 HRE.out.2 HH.out.2.2.2.1 (HH.out.2.2.1.keep fun p _ hp => ((HRE.out.2.mono HST.out.2.1).cell hp).trans ((HH.out.2.2.2.2.2.1.mono hBw).cell hp)) HH.out.2.2.2.2.1 o4 g4
       have hp2 := RowX.put (key := key') (lv := lv') (ml := ml) hp.1 (by simp [HST.out.1.2.2.1]) HST.out.2.1 hp.2.size hp.2 HST.out.2.2.2.2.1 (HST.out.2.2.1.keep fun p _ hq => ((hp.2.mono HST.out.2.1).cell hq).trans ((HST.out.1.2.2.2.2.mono HST.out.2.1).cell hq).symm) HST.out.2.2.2.1 o5 g5
       have h9 := HST.out.1.2.1
       rw [HTk.out, wf_lay (x := (key', lv')) (r := (key, lv)) HKK.out hlt3] at h9
       exact ⟨k + 1, x + 1 + 1, A6, c6, (ps ++ [((key, lv), Av, cv)]) ++ [((key', lv'), A4, c4)], true, by go_num, by omega, rfl, rfl, by have := HLAID.out; omega, Lib.hid ⟨(fun h => absurd h (by simp)), by rw [← h9]; simp, by simp [HST.out.1.2.2.1], hp2.1, hp2.2⟩⟩
      go_wp2_with (at_builtin; first
       | (refine wpList_append_r _ rfl (.tmp 38) (.tmp 40) 22 rfl U.heap.size 53 i0 _ 40 Tryz.underlying22 hi hz0 hz1 hz2 rfl _ x ps rfl hro ((key, lv), Av, cv) m HH.out.2.2.2.1 1 rfl hl2 (by omega) hsz3 ?_; intro v4 w4 o4 g4 at4; obtain ⟨A5, c5, rfl⟩ := own_form o4; have bl := (Below.refl U.heap.size We).grown g4 hsz3 (fun j hj => (hro.lt j hj).1); have k0f := (bl.cell (HX.out _)).trans k0e; have k1f := (bl.cell (HX.out _)).trans k1e; have hsz4 := Nat.le_trans hsz3 bl.size; have HG4 := Lib.hid g4; clear k0e k1e x0e x1e bl g4 at4)
       | (refine wpList_append_r _ rfl (.tmp 42) (.tmp 47) 22 rfl U.heap.size 53 i0 _ 40 Tryz.underlying22 hi hz0 hz1 hz2 rfl _ (x + 1) (ps ++ [((key, lv), Av, cv)]) rfl o4 ((key', lv'), A4, c4) ml HST.out.2.2.2.2.1 1 rfl hl3 (by omega) hsz4 ?_; intro v5 w5 o5 g5 at5; obtain ⟨A6, c6, rfl⟩ := own_form o5))
      have HF2 := Lib.hid (HFF.out w4 w5 A5 A6 c5 c6 o4 HG4.out o5 g5)
      clear o4 o5 g5 at5 hro k0f k1f
      go_roundw
      case rel => exact HF2.out
      case measure => simp only [intOf]; omega
    ·go_wp2_with fail
     go_quiet (fail)
     obtain ⟨We, hWe⟩ : ∃ We, Wd.drewN nq = We := ⟨_, rfl⟩
     have hde := HD1.out nq
     have k0e : (Wd.drewN nq).cell? _ = _ := k0
     have k1e : (Wd.drewN nq).cell? _ = _ := k1
     rw [hWe] at hde k0e k1e ⊢
     obtain ⟨hRE, hUe⟩ := hde
     have hsz3 := hUe.size
     have hro := hRE.1
     have HRE := Lib.hid (And.intro hRE hUe)
     rw [HST.out.1.2.2.1] at hro
     have hl2 : (x + 1) * 40 ≤ 140737488355328 := by omega
     clear hWe hRE hUe k0 k1
     go_wp2_with (at_builtin; refine wpList_append_r _ rfl (.tmp 42) (.tmp 47) 22 rfl U.heap.size 53 i0 _ 40 Tryz.underlying22 hi hz0 hz1 hz2 rfl _ x ps rfl hro ((key', lv'), A4, c4) ml HST.out.2.2.2.2.1 1 rfl hl2 (by omega) hsz3 ?_; intro v4 w4 o4 g4 at4; obtain ⟨A5, c5, rfl⟩ := own_form o4)
     have HF2 := Lib.hid (HKP.out rfl We w4 A5 c5 HRE.out.1 HRE.out.2 hsz3 o4 g4)
     clear o4 g4 at4 hro
     go_roundw
     case rel => exact HF2.out
     case measure => simp only [intOf]; omega
  ·have hkm : k = n := by omega
   subst hkm
   have hdr : l.drop k = [] := List.drop_eq_nil_of_le (by have := HH.out.2.1; omega)
   rw [hdr] at hst
   clear hdr
   cases laid
   ·have hro := hst.out.2.2.2.1.1
    rw [hst.out.2.2.1] at hro
    have hl2 : (x + 1) * 40 ≤ 140737488355328 := by omega
    have HF : Hid (∀ (w4 : World) (A5 : Option Addr) (c5 : Nat), w4.ownsRow U.heap.size 53 2 (.slice A5 (x + 1) c5) (x + 1) (rcs (ps ++ [((key, lv), Av, cv)])) → wr.grownBy w4 (Value.slice A1 x c1).ownBlock → NewX B (withR l (key, lv)) w (.returned (.slice A5 (x + 1) c5)) w4) := Lib.hid fun w4 A5 c5 o4 g4 => by
     have hp := RowX.put (key := key) (lv := lv) (ml := m) hst.out.2.2.2.1 hst.out.2.2.1 hUB hszU hst.out.2.2.2.2 HH.out.2.2.2.1 (HH.out.2.2.1.below (hbw.mono hBw)) HH.out.2.2.2.2.1 o4 g4
     have hE : (ps ++ [(((key, lv) : Rc), Av, cv)]).map Prod.fst = withR l (key, lv) := by
      rw [List.map_append]
      exact hst.out.2.1
     have hL : (ps ++ [(((key, lv) : Rc), Av, cv)]).length = x + 1 := by simp [hst.out.2.2.1]
     exact ⟨A5, x + 1, c5, _, rfl, Lib.hid ⟨hE, by rw [← hE, List.length_map]; exact hL, (own_low o4).1, hp.1.low hUw⟩, HH.out.2.2.2.2.2.1.trans (hp.2.mono hUw)⟩
    clear hst hbU hB1 hbw
    go_wp2_with (at_builtin; refine wpList_append_r _ rfl (.tmp 51) (.tmp 53) 22 rfl U.heap.size 53 i0 _ 40 Tryz.underlying22 hi hz0 hz1 hz2 rfl _ x ps rfl hro ((key, lv), Av, cv) m HH.out.2.2.2.1 1 rfl hl2 (by omega) hszU ?_; intro v4 w4 o4 g4 at4; obtain ⟨A5, c5, rfl⟩ := own_form o4)
    have HF2 := Lib.hid (HF.out w4 A5 c5 o4 g4)
    clear o4 g4 at4
    go_ret
    exact HF2.out
   ·have HF : Hid (NewX B (withR l (key, lv)) w (.returned (.slice A1 x c1)) wr) := Lib.hid ⟨A1, x, c1, ps, rfl, by
     have h9 := hst.out.2.1
     have hE : ps.map Prod.fst = withR l (key, lv) := by rw [← h9]; simp [wf]
     have h8 := hst.out.2.2.2.1.1
     rw [hst.out.2.2.1] at h8
     exact Lib.hid ⟨hE, by rw [← hE, List.length_map]; exact hst.out.2.2.1, (own_low h8).1, hst.out.2.2.2.1.low hUw⟩, hbw⟩
    clear hst hbU hB1 hbw
    go_wp2_with fail
    go_ret
    exact HF.out
end Tree
end Go.Proofs.YtekhaejhmlebbaaGreat

/-
 Records, and lists of them, among a law's arguments (layer 11).
-/
namespace Go.Proofs.YtekhaejhmlebbaaGreat
theorem Facts.cells3 : Tryz.prog.cellsOf 3 = 1 := by kernel_rfl
theorem Facts.bytes3 : Tryz.prog.bytesOf 3 = 8 := by kernel_rfl
namespace Tree
open Go.ChangeShapes Go.WideShapes Go.ChangeAt Go.RowKit Go.Joins Go.Deep Span Vers Num
open Go.Proofs.YtekhaejhmlebbaaGreat.Code
set_option maxRecDepth 100000 in
theorem arg_recs {H : Type} {enc : TypeId × Value → H} {W : World} {v : Value} {d : DataW H} {p : List MemPlace} {r : Reach} {b0 : Nat} (hv : Value.okWide Tryz.prog W r b0 22 v) (h : DataW.Trod enc Tryz.prog W 0 (fun _ => true) true 22 v d p) (hw : Wt Tryz.prog 22 d) :
  ∃ (A : Option Addr) (c : Nat) (l : List Rc), v = .slice A l.length c ∧ Rs W 0 W.heap.size A l ∧ l.length ≤ c ∧ l.length * 40 ≤ 140737488351232 := by
 obtain ⟨A0, len0, c0, rfl⟩ := okWide_slice Tryz.underlying22 hv
 obtain ⟨fuel, hf⟩ := h
 obtain ⟨A, c, ps, hcs, hc, hb, hq, hp⟩ := slice_at Tryz.underlying22 hf hw cells_rec bytes_rec (by omega) rcc (fun p => Vs W 0 W.heap.size p.2.1 p.1.2 ∧ (p.1.2.length ≤ p.2.2 ∧ p.1.2.length ≤ 140737488355328 ∧ p.1.1.size ≤ 140737488355328)) (r0, none, 0) (fun _ => rfl) (fun n cs D Pl h hw => rec_at h hw)
 simp [Value.cells] at hcs
 obtain ⟨rfl, rfl, rfl⟩ := hcs
 refine ⟨A0, c0, ps.map Prod.fst, by rw [List.length_map], fun h0 => ?_, by rw [List.length_map]; exact hc, by rw [List.length_map]; omega⟩
 rw [List.length_map] at h0
 obtain ⟨b, off, e, hbl, hat⟩ := hp h0
 refine ⟨b, off, e, Nat.zero_le _, hbl, fun j hj => ?_⟩
 rw [List.length_map] at hj
 have e2 : (ps.map Prod.fst).getD j r0 = (ps.getD j (r0, none, 0)).1 := by simp [List.getD_eq_getElem?_getD, hj]
 have hm : ps.getD j (r0, none, 0) ∈ ps := by
  rw [List.getD_eq_getElem?_getD, List.getElem?_eq_getElem hj]
  exact List.getElem_mem _
 rw [e2]
 exact ⟨_, _, hat j hj 0 _ (by simp [rcc]), hat j hj 1 _ (by simp [rcc]), (hq _ hm).1, (hq _ hm).2⟩
end Tree
end Go.Proofs.YtekhaejhmlebbaaGreat
