/-
  Records in memory.
-/
import Derived.Test.YtegiigeelcnemaaGreatCodeRdMsg
namespace Go.Proofs.YtegiigeelcnemaaGreat
namespace Code
open Go.RowKit Num Span Vers

def r0 : Rc := (⟨#[]⟩, [])
/-- A record stands at a place. -/
def Rat (w : World) (L B b off : Nat) (r : Rc) (A : Option Addr) (c : Nat) : Prop :=
  w.cell? ⟨b, off, none⟩ = some (.string r.1) ∧ w.cell? ⟨b, off + 1, none⟩ = some (.slice A r.2.length c) ∧ Vs w L B A r.2 ∧ (r.2.length ≤ c ∧ r.2.length ≤ 140737488355328 ∧ r.1.size ≤ 140737488355328)
/-- From the address A on stand the records l, they and what they point to in blocks from L on and below B. -/
def Rs (w : World) (L B : Nat) (A : Option Addr) (l : List Rc) : Prop :=
  0 < l.length → ∃ b off, A = some ⟨b, off, none⟩ ∧ L ≤ b ∧ b < B ∧ ∀ j, j < l.length → ∃ A' c', Rat w L B b (off + j * 2) (l.getD j r0) A' c'
section
variable {w w' : World} {L L' B B' b off c : Nat} {A : Option Addr} {l : List Rc} {r : Rc}
theorem Rat.keep (h : Rat w L B b off r A c) (hL : L ≤ b) (hb : b < B) (hk : ∀ p : Addr, L ≤ p.block → p.block < B → w'.cell? p = w.cell? p) : Rat w' L B b off r A c := by
  obtain ⟨h0, h1, h2, h3⟩ := h
  exact ⟨(hk ⟨b, _, none⟩ hL hb).trans h0, (hk ⟨b, _, none⟩ hL hb).trans h1, h2.keep hk, h3⟩
theorem Rs.nil (A : Option Addr) : Rs w L B A [] := fun h => absurd h (by simp)
theorem Rs.keep (h : Rs w L B A l) (hk : ∀ p : Addr, L ≤ p.block → p.block < B → w'.cell? p = w.cell? p) : Rs w' L B A l := fun hp => by
  obtain ⟨b, off, e, hL, hb, hc⟩ := h hp
  refine ⟨b, off, e, hL, hb, fun j hj => ?_⟩
  obtain ⟨A', c', h1⟩ := hc j hj
  exact ⟨A', c', h1.keep hL hb hk⟩
theorem Rs.more (h : Rs w L B A l) (hB : B ≤ B') : Rs w L B' A l := fun hp => by
  obtain ⟨b, off, e, hL, hb, hc⟩ := h hp
  refine ⟨b, off, e, hL, by omega, fun j hj => ?_⟩
  obtain ⟨A', c', h0, h1, h2, h3⟩ := hc j hj
  exact ⟨A', c', h0, h1, h2.more hB, h3⟩
theorem Rs.less (h : Rs w L B A l) (hL : L' ≤ L) : Rs w L' B A l := fun hp => by
  obtain ⟨b, off, e, hLb, hb, hc⟩ := h hp
  refine ⟨b, off, e, by omega, hb, fun j hj => ?_⟩
  obtain ⟨A', c', h0, h1, h2, h3⟩ := hc j hj
  exact ⟨A', c', h0, h1, h2.less hL, h3⟩
theorem Rs.below (h : Rs w L B A l) (hb : Below B w w') : Rs w' L B A l := h.keep fun _ _ hp => hb.cell hp
theorem Rs.alloc (h : Rs w L B A l) (hB : B ≤ w.heap.size) (o : Obj) : Rs (w.alloc o) L B A l := h.keep fun p _ hp => World.cell?_alloc_lt w o p (by omega)
/-- One of them, in a later world. -/
theorem Rs.at {n k : Nat} (h : Rs w L B A l) (hn : l.length = n) (hb : Below B w w') (hk : k < n) (hv : l.getD k r0 = r) : ∃ b off A' c', A = some ⟨b, off, none⟩ ∧ L ≤ b ∧ b < B ∧ Rat w' L B b (off + k * 2) r A' c' := by
  obtain ⟨b, off, e, hL, hbB, hc⟩ := (h.below hb) (by omega)
  obtain ⟨A', c', h1⟩ := hc k (by omega)
  rw [hv] at h1
  exact ⟨b, off, A', c', e, hL, hbB, h1⟩
end
theorem rcs_length (ps : List Pr) : (rcs ps).length = ps.length * 2 := by
  induction ps with
  | nil => rfl
  | cons p ps ih =>
    have : rcs (p :: ps) = rcc p ++ rcs ps := by simp [rcs]
    rw [this, List.length_append, ih]
    simp [rcc]
    omega
theorem rcs_at (ps : List Pr) : ∀ j, j < ps.length → ∀ r, r < 2 → (rcs ps)[j * 2 + r]? = (rcc (ps.getD j (r0, none, 0)))[r]? := by
  induction ps with
  | nil => intro j h; simp at h
  | cons x l ih =>
    intro j hj r hr
    have h0 : rcs (x :: l) = rcc x ++ rcs l := by simp [rcs]
    rw [h0]
    rcases j with _ | j
    · rw [List.getElem?_append_left (by simp [rcc]; omega)]
      simp
    · have hh := ih j (by simpa using hj) r hr
      rw [List.getElem?_append_right (by simp [rcc]; omega)]
      rw [show (j + 1) * 2 + r - (rcc x).length = j * 2 + r by simp [rcc]; omega, hh]
      simp
/-- Records that a reader made, as records in memory. -/
theorem RowR.rs {base B n c : Nat} {w : World} {A : Option Addr} {ps : List Pr} (h : RowR base B w (.slice A n c) ps) (hB : B ≤ w.heap.size) (hz : ∀ p ∈ ps, p.1.1.size ≤ 140737488355328 ∧ p.1.2.length ≤ 140737488355328) : Rs w base B A (ps.map Prod.fst) := by
  intro hp
  rw [List.length_map] at hp
  obtain ⟨ho, hrow, hpa⟩ := h
  rcases ho.2 with ⟨_, h0⟩ | ⟨g, cap, cur, hv, hbg, hg, rest⟩
  · omega
  · injection hv with h1 h2 h3
    subst h1
    refine ⟨g, 0, rfl, by omega, hrow g rfl, fun j hj => ?_⟩
    rw [List.length_map] at hj
    have e : (ps.map Prod.fst).getD j r0 = (ps.getD j (r0, none, 0)).1 := by simp [List.getD_eq_getElem?_getD, hj]
    have hm : ps.getD j (r0, none, 0) ∈ ps := by
      rw [List.getD_eq_getElem?_getD, List.getElem?_eq_getElem hj]
      exact List.getElem_mem _
    rw [e]
    have hat : ∀ r, r < 2 → ∀ u, (rcc (ps.getD j (r0, none, 0)))[r]? = some u → w.cell? ⟨g, 0 + j * 2 + r, none⟩ = some u := fun r hr u hu => by
      have hc := ho.cells (g := g) rfl (j * 2 + r) u (by rw [rcs_at ps j hj r hr]; exact hu)
      rw [Vers.add_plain] at hc
      rw [show 0 + j * 2 + r = 0 + (j * 2 + r) by omega]
      exact hc
    obtain ⟨L, B', k1, k2, _, k4, qs, hq, hrow⟩ := hpa _ hm
    obtain ⟨z1, z2⟩ := hz _ hm
    have hvs := hrow.vs (by omega)
    rw [hq] at hvs
    exact ⟨_, _, hat 0 (by omega) _ (by simp [rcc]), hat 1 (by omega) _ (by simp [rcc]), (hvs.more k2).less k1, k4, z2, z1⟩
/-- A message in memory. -/
def MsgI (w : World) (L B : Nat) : Ms → Pl → Prop
  | (_, _, _, _, _, _, _, _, recs, vec, path, hashes, route), (a8, a9, a10, a11, a12) =>
    Rs w L B a8.1 recs ∧ Ns .i64 w B a9.1 vec ∧ Ns .i64 w B a10.1 path ∧ Ns .u64 w B a11.1 hashes ∧ Ns .i64 w B a12.1 route
end Code
end Go.Proofs.YtegiigeelcnemaaGreat
