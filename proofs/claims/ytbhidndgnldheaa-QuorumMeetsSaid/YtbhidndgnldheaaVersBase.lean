/-
  A slice of versions read as a list: five cells each, of which one is the slice of the spans of its past.
-/
import Derived.Test.YtbhidndgnldheaaVersPlain
import Derived.Test.YtbhidndgnldheaaSpanOwn
import Derived.Test.YtbhidndgnldheaaSpanRight
namespace Go.Proofs.Ytbhidndgnldheaa
namespace Vers
open Go.RowKit Span

/-- A version's value: the past stands at A. -/
def vv (A : Option Addr) (c : Nat) (v : Vr) : Value := .agg #[.int .i64 v.s, .int .i64 v.n, .slice A v.past.length c, .bool v.gone, .string v.val]
/-- The past of a version stands at A, between the blocks L and B. -/
def Pa (w : World) (L B : Nat) (A : Option Addr) (c : Nat) (v : Vr) : Prop :=
  Ss w B A v.past ∧ v.past.length ≤ c ∧ v.past.length ≤ 140737488355328 ∧ v.val.size ≤ 140737488355328 ∧ (0 < v.past.length → ∀ a, A = some a → L ≤ a.block)
/-- A version stands at a place. -/
def Vat (w : World) (L B b off : Nat) (v : Vr) (A : Option Addr) (c : Nat) : Prop :=
  w.cell? ⟨b, off, none⟩ = some (.int .i64 v.s) ∧ w.cell? ⟨b, off + 1, none⟩ = some (.int .i64 v.n) ∧ w.cell? ⟨b, off + 2, none⟩ = some (.slice A v.past.length c) ∧
  w.cell? ⟨b, off + 3, none⟩ = some (.bool v.gone) ∧ w.cell? ⟨b, off + 4, none⟩ = some (.string v.val) ∧ Pa w L B A c v
/-- From the address A on stand the versions l, they and their pasts in blocks from L on and below B. -/
def Vs (w : World) (L B : Nat) (A : Option Addr) (l : List Vr) : Prop :=
  0 < l.length → ∃ b off, A = some ⟨b, off, none⟩ ∧ L ≤ b ∧ b < B ∧ ∀ j, j < l.length → ∃ A' c', Vat w L B b (off + j * 5) (l.getD j v0) A' c'

section
variable {w w' : World} {L L' B B' b off c : Nat} {A : Option Addr} {l : List Vr} {l' : List Sp} {v : Vr}
theorem Ss.high (h : Ss w B A l') (hl : 0 < l'.length → ∀ a, A = some a → L ≤ a.block) (hk : ∀ p : Addr, L ≤ p.block → p.block < B → w'.cell? p = w.cell? p) : Ss w' B A l' := fun hp => by
  obtain ⟨b, off, e, hb, hc⟩ := h hp
  have hL : L ≤ b := hl hp _ e
  exact ⟨b, off, e, hb, fun j hj => ⟨(hk ⟨b, _, none⟩ hL hb).trans (hc j hj).1, (hk ⟨b, _, none⟩ hL hb).trans (hc j hj).2.1, (hk ⟨b, _, none⟩ hL hb).trans (hc j hj).2.2⟩⟩
theorem Pa.keep (h : Pa w L B A c v) (hk : ∀ p : Addr, L ≤ p.block → p.block < B → w'.cell? p = w.cell? p) : Pa w' L B A c v := ⟨Ss.high h.1 h.2.2.2.2 hk, h.2⟩
theorem Pa.more (h : Pa w L B A c v) (hB : B ≤ B') : Pa w L B' A c v := ⟨h.1.more hB, h.2⟩
theorem Pa.less (h : Pa w L B A c v) (hL : L' ≤ L) : Pa w L' B A c v := ⟨h.1, h.2.1, h.2.2.1, h.2.2.2.1, fun hp a ha => Nat.le_trans hL (h.2.2.2.2 hp a ha)⟩
theorem Pa.below (h : Pa w L B A c v) (hb : Below B w w') : Pa w' L B A c v := h.keep fun _ _ hp => hb.cell hp
theorem Pa.alloc (h : Pa w L B A c v) (hB : B ≤ w.heap.size) (o : Obj) : Pa (w.alloc o) L B A c v := h.keep fun p _ hp => World.cell?_alloc_lt w o p (by omega)
theorem Vat.keep (h : Vat w L B b off v A c) (hL : L ≤ b) (hb : b < B) (hk : ∀ p : Addr, L ≤ p.block → p.block < B → w'.cell? p = w.cell? p) : Vat w' L B b off v A c := by
  obtain ⟨h0, h1, h2, h3, h4, h5⟩ := h
  exact ⟨(hk ⟨b, _, none⟩ hL hb).trans h0, (hk ⟨b, _, none⟩ hL hb).trans h1, (hk ⟨b, _, none⟩ hL hb).trans h2, (hk ⟨b, _, none⟩ hL hb).trans h3, (hk ⟨b, _, none⟩ hL hb).trans h4, h5.keep hk⟩
theorem Vs.nil (A : Option Addr) : Vs w L B A [] := fun h => absurd h (by simp)
theorem Vs.keep (h : Vs w L B A l) (hk : ∀ p : Addr, L ≤ p.block → p.block < B → w'.cell? p = w.cell? p) : Vs w' L B A l := fun hp => by
  obtain ⟨b, off, e, hL, hb, hc⟩ := h hp
  refine ⟨b, off, e, hL, hb, fun j hj => ?_⟩
  obtain ⟨A', c', h1⟩ := hc j hj
  exact ⟨A', c', h1.keep hL hb hk⟩
theorem Vs.more (h : Vs w L B A l) (hB : B ≤ B') : Vs w L B' A l := fun hp => by
  obtain ⟨b, off, e, hL, hb, hc⟩ := h hp
  refine ⟨b, off, e, hL, by omega, fun j hj => ?_⟩
  obtain ⟨A', c', h0, h1, h2, h3, h4, h5⟩ := hc j hj
  exact ⟨A', c', h0, h1, h2, h3, h4, h5.more hB⟩
theorem Vs.less (h : Vs w L B A l) (hL : L' ≤ L) : Vs w L' B A l := fun hp => by
  obtain ⟨b, off, e, hLb, hb, hc⟩ := h hp
  refine ⟨b, off, e, by omega, hb, fun j hj => ?_⟩
  obtain ⟨A', c', h0, h1, h2, h3, h4, h5⟩ := hc j hj
  exact ⟨A', c', h0, h1, h2, h3, h4, h5.less hL⟩
theorem Vs.below (h : Vs w L B A l) (hb : Below B w w') : Vs w' L B A l := h.keep fun _ _ hp => hb.cell hp
theorem Vs.drewN (h : Vs w L B A l) (n : Nat) : Vs (w.drewN n) L B A l := h.keep fun _ _ _ => rfl
theorem Vs.alloc (h : Vs w L B A l) (hB : B ≤ w.heap.size) (o : Obj) : Vs (w.alloc o) L B A l := h.keep fun p _ hp => World.cell?_alloc_lt w o p (by omega)
/-- One of them, in a later world. -/
theorem Vs.at {n k : Nat} (h : Vs w L B A l) (hn : l.length = n) (hb : Below B w w') (hk : k < n) (hv : l.getD k v0 = v) : ∃ b off A' c', A = some ⟨b, off, none⟩ ∧ L ≤ b ∧ b < B ∧ Vat w' L B b (off + k * 5) v A' c' := by
  obtain ⟨b, off, e, hL, hbB, hc⟩ := (h.below hb) (by omega)
  obtain ⟨A', c', h1⟩ := hc k (by omega)
  rw [hv] at h1
  exact ⟨b, off, A', c', e, hL, hbB, h1⟩
end
end Vers
end Go.Proofs.Ytbhidndgnldheaa
