/-
  A spot is locked, gets its hash, is done.
-/
import Derived.Test.YtbaclinjimfncaaGreatTreeOwn
namespace Go.Proofs.YtbaclinjimfncaaGreat
namespace Tree
open Go.RowKit Vers Num Ring Disk Blk
open Go.Proofs.YtbaclinjimfncaaGreat.Code hiding Bn
/-- Where a place's spot begins. -/
def offN (p : List Int) : Nat := 256 + 4 * spotN p
section
variable {F : Nat → Prop} {w : World} {tb : Nat} {mv : Nat → Option Nat} {f : Fp} {all : List Rc} {Bz : List Int → Prop} {p : List Int}
theorem off_lt (hp : okP p) : offN p + 4 ≤ 1348 := by
  have := spot_lt hp
  unfold offN
  omega
/-- The cells of a spot. -/
theorem TR.spots (h : TR F w tb mv f all Bz) (hp : okP p) : ∃ d k x : Int, w.cell? ⟨tb, offN p, none⟩ = some (.int .u32 d) ∧ w.cell? ⟨tb, offN p + 1, none⟩ = some (.int .i32 k) ∧ w.cell? ⟨tb, offN p + 3, none⟩ = some (.int .u64 x) ∧ (∀ j, w.frozen? ⟨tb, j, none⟩ = false) ∧
    (Bz p → d = 0 ∧ k = 1) ∧ (¬ Bz p → k = 0 ∧ (d = 0 ∨ (d = 1 ∧ x = hashF all p))) := by
  obtain ⟨L, h1, h2, d, k, x, s0, s1, s2, s3, s4, s5⟩ := h.spot hp
  exact ⟨d, k, x, (h1.cell _).trans s0, (h1.cell _).trans s1, (h1.cell _).trans s3, fun j => h1.frozen j, s4, s5⟩
theorem TR.lock (h : TR F w tb mv f all Bz) (hp : okP p) (_hb : ¬ Bz p) (h0 : w.cell? ⟨tb, offN p, none⟩ = some (.int .u32 0)) : TR F (w.setCell ⟨tb, offN p + 1, none⟩ (.int .i32 1)) tb mv f all (fun q => Bz q ∨ q = p) := by
  obtain ⟨L, h1, h2, d, k, x, s0, s1, s2, s3, s4, s5⟩ := h.spot hp
  have hl := off_lt hp
  have hL := h2.1
  have e0 : L[256 + 4 * spotN p]? = some (.int .u32 0) := by rw [← h1.cell]; exact h0
  rw [s0] at e0
  have ed : d = 0 := by injection e0 with e0; injection e0
  unfold offN at hl ⊢
  refine h.turn (gset _ _ _ _) (h1.set _ _) (h2.set hp (by simp) (fun j hj => List.getElem?_set_ne (by omega)) ⟨d, 1, x, (List.getElem?_set_ne (by omega)).trans s0, List.getElem?_set_self (by omega), (List.getElem?_set_ne (by omega)).trans s2, (List.getElem?_set_ne (by omega)).trans s3, fun _ => ⟨ed, rfl⟩, fun hn => absurd (.inr rfl) hn⟩ fun q hq => ?_)
  constructor
  · rintro (h | h)
    · exact h
    · exact absurd h hq
  · exact .inl
theorem TR.hashed (h : TR F w tb mv f all Bz) (hp : okP p) (hb : Bz p) (y : Int) : TR F (w.setCell ⟨tb, offN p + 3, none⟩ (.int .u64 y)) tb mv f all Bz := by
  obtain ⟨L, h1, h2, d, k, x, s0, s1, s2, s3, s4, s5⟩ := h.spot hp
  have hl := off_lt hp
  have hL := h2.1
  unfold offN at hl ⊢
  exact h.turn (gset _ _ _ _) (h1.set _ _) (h2.set hp (by simp) (fun j hj => List.getElem?_set_ne (by omega)) ⟨d, k, y, (List.getElem?_set_ne (by omega)).trans s0, (List.getElem?_set_ne (by omega)).trans s1, (List.getElem?_set_ne (by omega)).trans s2, List.getElem?_set_self (by omega), s4, fun hn => absurd hb hn⟩ fun q _ => Iff.rfl)
theorem TR.done {Bz' : List Int → Prop} (h : TR F w tb mv f all Bz') (hp : okP p) (hB : ∀ q, q ≠ p → (Bz q ↔ Bz' q)) (hb : ¬ Bz p) (h3 : w.cell? ⟨tb, offN p + 3, none⟩ = some (.int .u64 (hashF all p))) : TR F ((w.drew.setCell ⟨tb, offN p, none⟩ (.int .u32 1)).setCell ⟨tb, offN p + 1, none⟩ (.int .i32 0)) tb mv f all Bz := by
  obtain ⟨L, h1, h2, d, k, x, s0, s1, s2, s3, s4, s5⟩ := h.spot hp
  have hl := off_lt hp
  have hL := h2.1
  have e0 : L[256 + 4 * spotN p + 3]? = some (.int .u64 (hashF all p)) := by rw [← h1.cell]; exact h3
  rw [s3] at e0
  have ex : x = hashF all p := by injection e0 with e0; injection e0
  unfold offN at hl ⊢
  have g1 : w.grownBy w.drew (some tb) := ⟨rfl, rfl, rfl, Nat.le_refl _, fun _ _ _ => rfl⟩
  have hd : Bn tb 82 L w.drew := h1.same rfl
  refine TR.turn h (w' := (w.drew.setCell ⟨tb, 256 + 4 * spotN p, none⟩ (.int .u32 1)).setCell ⟨tb, 256 + 4 * spotN p + 1, none⟩ (.int .i32 0)) (grown_trans_one (grown_trans_one g1 (gset w.drew tb (256 + 4 * spotN p) (.int .u32 1))) (gset _ tb _ _)) ((hd.set (256 + 4 * spotN p) (.int .u32 1)).set (256 + 4 * spotN p + 1) (.int .i32 0)) (h2.set hp (by simp) (fun j hj => ?_) ⟨1, 0, x, ?_, ?_, ?_, ?_, fun hn => absurd hn hb, fun _ => ⟨rfl, .inr ⟨rfl, ex⟩⟩⟩ fun q hq => hB q hq)
  · rw [List.getElem?_set_ne (by omega), List.getElem?_set_ne (by omega)]
  · rw [List.getElem?_set_ne (by omega), List.getElem?_set_self (by omega)]
  · rw [List.getElem?_set_self (by simp; omega)]
  · rw [List.getElem?_set_ne (by omega), List.getElem?_set_ne (by omega)]; exact s2
  · rw [List.getElem?_set_ne (by omega), List.getElem?_set_ne (by omega)]; exact s3
end
end Tree
end Go.Proofs.YtbaclinjimfncaaGreat
