/-
  Several texts of this family in one: TreeOwn, TreeSpot.
-/
import Derived.Test.YtkfdplfgaddkmaaGreatK4
import Derived.Test.YtkfdplfgaddkmaaGreatK8
import Derived.Test.YtkfdplfgaddkmaaGreatK3
import Derived.Test.YtkfdplfgaddkmaaGreatK10
import Derived.Laws.Rows
/-
 Trees in memory: a block of maps and of spots; each map's block; each key's versions.
-/
namespace Go.Proofs.YtkfdplfgaddkmaaGreat
namespace Tree
open Go.RowKit Vers Num Ring Disk Blk
open Go.Proofs.YtkfdplfgaddkmaaGreat.Code hiding Bn

abbrev Fp := Nm → Option Addr × Nat
def vOf (f : Fp) (r : Rc) : Nm × Value := (r.1, .slice (f r.1).1 r.2.length (f r.1).2)
def Spot (L : List Value) (s : Nat) (h : Int) (bz : Prop) : Prop :=
 ∃ (d k x : Int), L[256 + 4 * s]? = some (.int .u32 d) ∧ L[256 + 4 * s + 1]? = some (.int .i32 k) ∧ L[256 + 4 * s + 2]? = some (.int .u32 0) ∧ L[256 + 4 * s + 3]? = some (.int .u64 x) ∧
  (bz → d = 0 ∧ k = 1) ∧ (¬ bz → k = 0 ∧ (d = 0 ∨ (d = 1 ∧ x = h)))
def Cells (L : List Value) (mv : Nat → Option Nat) (all : List Rc) (Bz : List Int → Prop) : Prop :=
 L.length = 1348 ∧ (∀ i, i < 256 → L[i]? = some (.map (mv i))) ∧ ∀ p, okP p → Spot L (spotN p) (hashF all p) (Bz p)
def Mu (tb : Nat) (mv : Nat → Option Nat) (k : Nat) : Prop := k = tb ∨ ∃ i, i < 256 ∧ mv i = some k
def Row (F M : Nat → Prop) (w : World) (f : Fp) (r : Rc) : Prop :=
 ∃ L B, Vs w L B (f r.1).1 r.2 ∧ r.2.length ≤ (f r.1).2 ∧ B ≤ w.heap.size ∧ ∀ k, L ≤ k → k < B → F k ∧ ¬ M k
def Leaf (F : Nat → Prop) (w : World) (f : Fp) (all : List Rc) (i : Nat) (m : Option Nat) : Prop :=
 (m = none → leafR all i = []) ∧ ∀ mb, m = some mb → F mb ∧ MI w mb ((leafR all i).map (vOf f))
def okAll (all : List Rc) : Prop := Srt all ∧ ∀ r ∈ all, okR r ∧ r.2 ≠ []
structure TR (F : Nat → Prop) (w : World) (tb : Nat) (mv : Nat → Option Nat) (f : Fp) (all : List Rc) (Bz : List Int → Prop) : Prop where
 blk : ∃ L, Bn tb 139 L w ∧ Cells L mv all Bz
 leaf : ∀ i, i < 256 → Leaf F w f all i (mv i)
 inj : ∀ i j k, i < 256 → j < 256 → mv i = some k → mv j = some k → i = j
 rows : ∀ r ∈ all, Row F (Mu tb mv) w f r
 ok : okAll all
 own : F tb
 lt : ∀ k, F k → k < w.heap.size
def hd (tb : Nat) : Value := .pointer (some ⟨tb, 0, none⟩)
section
variable {F F' M : Nat → Prop} {w w' : World} {tb : Nat} {mv : Nat → Option Nat} {f : Fp} {all : List Rc} {Bz Bz' : List Int → Prop} {r : Rc} {p : List Int}
theorem Row.keep (h : Row F M w f r) (hs : w.heap.size ≤ w'.heap.size) (hk : ∀ k, F k → ¬ M k → w'.heap[k]? = w.heap[k]?) : Row F M w' f r := by
 obtain ⟨L, B, h1, h2, h3, h4⟩ := h
 exact ⟨L, B, h1.keep fun a ha hb => World.cell?_of_block (hk _ (h4 _ ha hb).1 (h4 _ ha hb).2), h2, Nat.le_trans h3 hs, h4⟩
theorem Row.vs (h : Row F M w f r) : Vs w 0 w.heap.size (f r.1).1 r.2 := by
 obtain ⟨L, B, h1, h2, h3, h4⟩ := h
 exact (h1.more h3).less (Nat.zero_le _)
theorem Row.cap (h : Row F M w f r) : r.2.length ≤ (f r.1).2 := by
 obtain ⟨L, B, h1, h2, h3, h4⟩ := h
 exact h2
theorem TR.keep (h : TR F w tb mv f all Bz) (hs : w.heap.size ≤ w'.heap.size) (hk : ∀ k, F k → w'.heap[k]? = w.heap[k]?) : TR F w' tb mv f all Bz := by
 obtain ⟨⟨L, h1, h2⟩, h3, h4, h5, h6, h7, h8⟩ := h
 exact ⟨⟨L, h1.same (hk _ h7), h2⟩, fun i hi => ⟨(h3 i hi).1, fun mb hm => ⟨((h3 i hi).2 mb hm).1, ((h3 i hi).2 mb hm).2.same (hk _ ((h3 i hi).2 mb hm).1)⟩⟩, h4, fun r hr => (h5 r hr).keep hs fun k hk1 _ => hk k hk1, h6, h7, fun k hk1 => Nat.lt_of_lt_of_le (h8 k hk1) hs⟩
theorem TR.below (h : TR F w tb mv f all Bz) (hb : Below w.heap.size w w') : TR F w' tb mv f all Bz := h.keep hb.size fun k hk => hb.block k (h.lt k hk)
theorem TR.chg {G : Nat → Prop} (h : TR F w tb mv f all Bz) (hb : Chg G w w') (hG : ∀ k, F k → ¬ G k) : TR F w' tb mv f all Bz := h.keep hb.size fun k hk => hb.block k (h.lt k hk) (hG k hk)
theorem TR.ne (h : TR F w tb mv f all Bz) {i k : Nat} (hi : i < 256) (hm : mv i = some k) : k ≠ tb := fun e => by
 obtain ⟨⟨L, h1, h2⟩, h3, _⟩ := h
 have h4 := ((h3 i hi).2 k hm).2
 exact h4.ne (g := tb) h1 e.symm
theorem TR.turn (h : TR F w tb mv f all Bz) (hg : w.grownBy w' (some tb)) {L : List Value} (hB : Bn tb 139 L w') (hC : Cells L mv all Bz') : TR F w' tb mv f all Bz' := by
 have hne := @TR.ne F w tb mv f all Bz h
 obtain ⟨_, h3, h4, h5, h6, h7, h8⟩ := h
 refine ⟨⟨L, hB, hC⟩, fun i hi => ⟨(h3 i hi).1, fun mb hm => ⟨((h3 i hi).2 mb hm).1, ((h3 i hi).2 mb hm).2.same (hg.block _ (h8 _ ((h3 i hi).2 mb hm).1) (fun e => hne hi hm (by injection e)))⟩⟩, h4, fun r hr => (h5 r hr).keep hg.size fun k hk hM => hg.block k (h8 k hk) (fun e => hM (.inl (by injection e))), h6, h7, fun k hk1 => Nat.lt_of_lt_of_le (h8 k hk1) hg.size⟩
theorem TR.nokept (h : TR F w tb mv f all Bz) {row : Option Nat} (hg : w.grownBy w' row) (hr : ∀ k, row = some k → ¬ F k) : TR F w' tb mv f all Bz := h.keep hg.size fun k hk => hg.block k (h.lt k hk) fun e => hr k e.symm hk
theorem TR.cell (h : TR F w tb mv f all Bz) {i : Nat} (hi : i < 256) : w.cell? ⟨tb, i, none⟩ = some (.map (mv i)) := by
 obtain ⟨⟨L, h1, h2⟩, _⟩ := h
 exact (h1.cell i).trans (h2.2.1 i hi)
theorem TR.small (h : TR F w tb mv f all Bz) {i : Nat} (hi : i < 256) (m : Option Nat) (hm : mv i = m) : (Builtin.len_ #[93] 3 #[.map m]).run Tryz.prog w = .ok (.int .i64 (leafR all i).length) w := by
 have hl := h.leaf i hi
 rw [hm] at hl
 rcases m with _ | mb
 ·rw [hl.1 rfl]
  exact Go.Maps.len_nil Tryz.underlying93 _
 ·obtain ⟨D, n, hown, _, _, _, hsz⟩ := (hl.2 mb rfl).2
  have := hown.len Tryz.underlying93 3
  rw [hsz, List.length_map] at this
  exact this
theorem TR.spot (h : TR F w tb mv f all Bz) (hp : okP p) : ∃ L, Bn tb 139 L w ∧ Cells L mv all Bz ∧ Spot L (spotN p) (hashF all p) (Bz p) := by
 obtain ⟨⟨L, h1, h2⟩, _⟩ := h
 exact ⟨L, h1, h2, h2.2.2 p hp⟩
theorem Cells.set {L L' : List Value} (h : Cells L mv all Bz) (hp : okP p) (hl : L'.length = L.length) (hk : ∀ j, j < 256 + 4 * spotN p ∨ 256 + 4 * spotN p + 4 ≤ j → L'[j]? = L[j]?) (hs : Spot L' (spotN p) (hashF all p) (Bz' p)) (hb : ∀ q, q ≠ p → (Bz' q ↔ Bz q)) : Cells L' mv all Bz' := by
 obtain ⟨h1, h2, h3⟩ := h
 refine ⟨hl.trans h1, fun i hi => (hk i (by omega)).trans (h2 i hi), fun q hq => ?_⟩
 by_cases e : q = p
 ·subst e; exact hs
 ·have hne : spotN q ≠ spotN p := fun e2 => e (spot_inj hq hp e2)
  obtain ⟨d, k, x, s0, s1, s2, s3, s4, s5⟩ := h3 q hq
  exact ⟨d, k, x, (hk _ (by omega)).trans s0, (hk _ (by omega)).trans s1, (hk _ (by omega)).trans s2, (hk _ (by omega)).trans s3, fun hb' => s4 ((hb q e).1 hb'), fun hb' => s5 fun e2 => hb' ((hb q e).2 e2)⟩
end
end Tree
end Go.Proofs.YtkfdplfgaddkmaaGreat

/-
 A spot is locked, gets its hash, is done.
-/
namespace Go.Proofs.YtkfdplfgaddkmaaGreat
namespace Tree
open Go.RowKit Vers Num Ring Disk Blk
open Go.Proofs.YtkfdplfgaddkmaaGreat.Code hiding Bn
def offN (p : List Int) : Nat := 256 + 4 * spotN p
section
variable {F : Nat → Prop} {w : World} {tb : Nat} {mv : Nat → Option Nat} {f : Fp} {all : List Rc} {Bz : List Int → Prop} {p : List Int}
theorem off_lt (hp : okP p) : offN p + 4 ≤ 1348 := by
 have := spot_lt hp
 unfold offN
 omega
theorem TR.spots (h : TR F w tb mv f all Bz) (hp : okP p) : ∃ d k x : Int, w.cell? ⟨tb, offN p, none⟩ = some (.int .u32 d) ∧ w.cell? ⟨tb, offN p + 1, none⟩ = some (.int .i32 k) ∧ w.cell? ⟨tb, offN p + 3, none⟩ = some (.int .u64 x) ∧ (∀ j, w.frozen? ⟨tb, j, none⟩ = false) ∧
  (Bz p → d = 0 ∧ k = 1) ∧ (¬ Bz p → k = 0 ∧ (d = 0 ∨ (d = 1 ∧ x = hashF all p))) := by
 obtain ⟨L, h1, h2, d, k, x, s0, s1, s2, s3, s4, s5⟩ := h.spot hp
 exact ⟨d, k, x, (h1.cell _).trans s0, (h1.cell _).trans s1, (h1.cell _).trans s3, fun j => h1.frozen j, s4, s5⟩
theorem TR.lock (h : TR F w tb mv f all Bz) (hp : okP p) (_hb : ¬ Bz p) (h0 : w.cell? ⟨tb, offN p, none⟩ = some (.int .u32 0)) : TR F (w.setCell ⟨tb, offN p + 1, none⟩ (.int .i32 1)) tb mv f all (fun q => Bz q ∨ q = p) := by
 obtain ⟨L, h1, h2, d, k, x, s0, s1, s2, s3, s4, s5⟩ := h.spot hp
 have hl := off_lt hp
 have hL := h2.1
 have e0 : L[256 + 4 * spotN p]? = some (.int .u32 0) := by rw [← h1.cell]; exact h0
 rw [s0] at e0
 have ed : d = 0 := by injection e0 with e0; injection e0
 unfold offN at hl ⊢
 refine h.turn (gset _ _ _ _) (h1.set _ _) (h2.set hp (by simp) (fun j hj => List.getElem?_set_ne (by omega)) ⟨d, 1, x, (List.getElem?_set_ne (by omega)).trans s0, List.getElem?_set_self (by omega), (List.getElem?_set_ne (by omega)).trans s2, (List.getElem?_set_ne (by omega)).trans s3, fun _ => ⟨ed, rfl⟩, fun hn => absurd (.inr rfl) hn⟩ fun q hq => ?_)
 constructor
 ·rintro (h | h)
  ·exact h
  ·exact absurd h hq
 ·exact .inl
theorem TR.hashed (h : TR F w tb mv f all Bz) (hp : okP p) (hb : Bz p) (y : Int) : TR F (w.setCell ⟨tb, offN p + 3, none⟩ (.int .u64 y)) tb mv f all Bz := by
 obtain ⟨L, h1, h2, d, k, x, s0, s1, s2, s3, s4, s5⟩ := h.spot hp
 have hl := off_lt hp
 have hL := h2.1
 unfold offN at hl ⊢
 exact h.turn (gset _ _ _ _) (h1.set _ _) (h2.set hp (by simp) (fun j hj => List.getElem?_set_ne (by omega)) ⟨d, k, y, (List.getElem?_set_ne (by omega)).trans s0, (List.getElem?_set_ne (by omega)).trans s1, (List.getElem?_set_ne (by omega)).trans s2, List.getElem?_set_self (by omega), s4, fun hn => absurd hb hn⟩ fun q _ => Iff.rfl)
theorem TR.done {Bz' : List Int → Prop} (h : TR F w tb mv f all Bz') (hp : okP p) (hB : ∀ q, q ≠ p → (Bz q ↔ Bz' q)) (hb : ¬ Bz p) (h3 : w.cell? ⟨tb, offN p + 3, none⟩ = some (.int .u64 (hashF all p))) : TR F ((w.drew.setCell ⟨tb, offN p, none⟩ (.int .u32 1)).setCell ⟨tb, offN p + 1, none⟩ (.int .i32 0)) tb mv f all Bz := by
 obtain ⟨L, h1, h2, d, k, x, s0, s1, s2, s3, s4, s5⟩ := h.spot hp
 have hl := off_lt hp
 have hL := h2.1
 have e0 : L[256 + 4 * spotN p + 3]? = some (.int .u64 (hashF all p)) := by rw [← h1.cell]; exact h3
 rw [s3] at e0
 have ex : x = hashF all p := by injection e0 with e0; injection e0
 unfold offN at hl ⊢
 have g1 : w.grownBy w.drew (some tb) := ⟨rfl, rfl, rfl, Nat.le_refl _, fun _ _ _ => rfl⟩
 have hd : Bn tb 139 L w.drew := h1.same rfl
 refine TR.turn h (w' := (w.drew.setCell ⟨tb, 256 + 4 * spotN p, none⟩ (.int .u32 1)).setCell ⟨tb, 256 + 4 * spotN p + 1, none⟩ (.int .i32 0)) (grown_trans_one (grown_trans_one g1 (gset w.drew tb (256 + 4 * spotN p) (.int .u32 1))) (gset _ tb _ _)) ((hd.set (256 + 4 * spotN p) (.int .u32 1)).set (256 + 4 * spotN p + 1) (.int .i32 0)) (h2.set hp (by simp) (fun j hj => ?_) ⟨1, 0, x, ?_, ?_, ?_, ?_, fun hn => absurd hn hb, fun _ => ⟨rfl, .inr ⟨rfl, ex⟩⟩⟩ fun q hq => hB q hq)
 ·rw [List.getElem?_set_ne (by omega), List.getElem?_set_ne (by omega)]
 ·rw [List.getElem?_set_ne (by omega), List.getElem?_set_self (by omega)]
 ·rw [List.getElem?_set_self (by simp; omega)]
 ·rw [List.getElem?_set_ne (by omega), List.getElem?_set_ne (by omega)]; exact s2
 ·rw [List.getElem?_set_ne (by omega), List.getElem?_set_ne (by omega)]; exact s3
end
end Tree
end Go.Proofs.YtkfdplfgaddkmaaGreat
