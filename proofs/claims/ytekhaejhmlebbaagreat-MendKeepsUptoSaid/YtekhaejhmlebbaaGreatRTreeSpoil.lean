/-
 Memory that a law writes over: some cells of versions and of spans (layer 11).
-/
import Derived.Test.YtekhaejhmlebbaaGreatRHTreeD
import Derived.Test.YtekhaejhmlebbaaGreatROwnRec
namespace Go.Proofs.YtekhaejhmlebbaaGreat
namespace Tree
open Go.RowKit Vers Span Num Ring Disk Blk
open Go.Proofs.YtekhaejhmlebbaaGreat.Code hiding Bn
def Spo (Soft : TypeId → Nat → Prop) (lo hi : Nat) (W wr : World) : Prop :=
 Below lo W wr ∧ wr.heap.size = W.heap.size ∧ (∀ q, hi ≤ q → wr.heap[q]? = W.heap[q]?) ∧ ∀ (q : Nat) (cs : Array Value) (t : TypeId), W.heap[q]? = some (Obj.cells cs t (0, 0)) → ∃ cs' : Array Value, wr.heap[q]? = some (Obj.cells cs' t (0, 0)) ∧ cs'.size = cs.size ∧ ∀ j, ¬ Soft t j → cs'[j]? = cs[j]?
def HardAt (Soft : TypeId → Nat → Prop) (W : World) (g j : Nat) (u : Value) : Prop := ∃ (cs : Array Value) (t : TypeId), W.heap[g]? = some (Obj.cells cs t (0, 0)) ∧ cs[j]? = some u ∧ ¬ Soft t j
def SoftAt (Soft : TypeId → Nat → Prop) (lo hi : Nat) (W : World) (g j : Nat) : Prop := lo ≤ g ∧ g < hi ∧ ∃ (cs : Array Value) (t : TypeId), W.heap[g]? = some (Obj.cells cs t (0, 0)) ∧ j < cs.size ∧ Soft t j
section
variable {S : TypeId → Nat → Prop} {lo hi : Nat} {W W' wr : World} {g j : Nat} {u v : Value}
theorem spo_refl (S : TypeId → Nat → Prop) (lo hi : Nat) (W : World) : Spo S lo hi W W := ⟨Below.refl _ _, rfl, fun _ _ => rfl, fun _ cs _ h => ⟨cs, h, rfl, fun _ _ => rfl⟩⟩
theorem HardAt.same (h : HardAt S W g j u) (hk : W'.heap[g]? = W.heap[g]?) : HardAt S W' g j u := by
 obtain ⟨cs, t, h2, h3⟩ := h
 exact ⟨cs, t, hk.trans h2, h3⟩
theorem SoftAt.same (h : SoftAt S lo hi W g j) (hk : W'.heap[g]? = W.heap[g]?) : SoftAt S lo hi W' g j := by
 obtain ⟨h0, h1, cs, t, h2, h3⟩ := h
 exact ⟨h0, h1, cs, t, hk.trans h2, h3⟩
theorem Spo.get (h : Spo S lo hi W wr) (hc : HardAt S W g j u) : wr.cell? ⟨g, j, none⟩ = some u := by
 obtain ⟨cs, t, h1, h2, h3⟩ := hc
 obtain ⟨cs', k1, k2, k3⟩ := h.2.2.2 g cs t h1
 rw [cell_of_row wr g j cs' t (0, 0) k1, k3 j h3, h2]
theorem Spo.put (h : Spo S lo hi W wr) (hc : SoftAt S lo hi W g j) : (∃ z, wr.cell? ⟨g, j, none⟩ = some z) ∧ wr.frozen? ⟨g, j, none⟩ = false ∧ ∀ v, Spo S lo hi W (wr.setCell ⟨g, j, none⟩ v) := by
 obtain ⟨hlo, hhi, cs, t, h1, hj, hs⟩ := hc
 obtain ⟨b, s, f, k⟩ := h
 obtain ⟨cs', k1, k2, k3⟩ := k g cs t h1
 refine ⟨⟨cs'[j]'(by omega), by rw [cell_of_row wr g j cs' t (0, 0) k1]; exact Array.getElem?_eq_getElem (by omega)⟩, by simp [World.frozen?, k1], fun v => ⟨b.setCell hlo v, (show (wr.setCell ⟨g, j, none⟩ v).heap.size = wr.heap.size by simp [World.setCell]).trans s, fun q hq => (Below.heap_setCell wr ⟨g, j, none⟩ v q (fun e => by simp only at e; omega)).trans (f q hq), fun q cs2 t2 h2 => ?_⟩⟩
 by_cases hq : q = g
 ·subst hq
  rw [h1] at h2
  injection h2 with h2
  injection h2 with e1 e2
  subst e1 e2
  refine ⟨cs'.setIfInBounds j v, by simp [World.setCell, Array.getElem?_modify, k1], by rw [Array.size_setIfInBounds]; exact k2, fun i hi => ?_⟩
  rw [Array.getElem?_setIfInBounds_ne (fun e : j = i => hi (by rw [← e]; exact hs))]
  exact k3 i hi
 ·obtain ⟨cs3, m1, m2, m3⟩ := k q cs2 t2 h2
  exact ⟨cs3, (Below.heap_setCell wr ⟨g, j, none⟩ v q hq).trans m1, m2, m3⟩
end
theorem own_obj {w : World} {base : Nat} {e : TypeId} {size : Nat} {A : Option Addr} {c n : Nat} {xs : List Value} (h : w.ownsRow base e size (.slice A n c) n xs) (hn : 0 < n) : ∃ g cur, A = some ⟨g, 0, none⟩ ∧ base ≤ g ∧ g < w.heap.size ∧ w.heap[g]? = some (.cells cur e (0, 0)) ∧ n * size ≤ cur.size ∧ cur.toList.take (n * size) = xs := by
 rcases h.2 with ⟨hv, h0⟩ | ⟨g, cap, cur, hv, hbg, hg, hnc, hcm, hcs, htk⟩
 ·omega
 ·injection hv with h1 h2 h3
  exact ⟨g, cur, h1, hbg, (Array.getElem?_eq_some_iff.1 hg).1, hg, by rw [hcs]; exact Nat.mul_le_mul_right size hnc, htk⟩
theorem hard_of {S : TypeId → Nat → Prop} {w : World} {g n : Nat} {e : TypeId} {cur : Array Value} {xs : List Value} (hg : w.heap[g]? = some (.cells cur e (0, 0))) (ht : cur.toList.take n = xs) {j : Nat} {u : Value} (hu : xs[j]? = some u) (hs : ¬ S e j) : HardAt S w g j u := by
 refine ⟨cur, e, hg, ?_, hs⟩
 have hj : j < n := by
  have := (List.getElem?_eq_some_iff.1 hu).1
  rw [← ht, List.length_take] at this
  omega
 rw [← ht, List.getElem?_take_of_lt hj, Array.getElem?_toList] at hu
 exact hu
theorem hard_cell {S : TypeId → Nat → Prop} {w : World} {g j : Nat} {e : TypeId} {cur : Array Value} {u : Value} (hg : w.heap[g]? = some (.cells cur e (0, 0))) (hu : w.cell? ⟨g, j, none⟩ = some u) (hs : ¬ S e j) : HardAt S w g j u :=
 ⟨cur, e, hg, by rw [cell_of_row w g j cur e (0, 0) hg] at hu; exact hu, hs⟩
theorem soft_cell {S : TypeId → Nat → Prop} {w : World} {lo hi g j : Nat} {e : TypeId} {cur : Array Value} {u : Value} (hg : w.heap[g]? = some (.cells cur e (0, 0))) (hu : w.cell? ⟨g, j, none⟩ = some u) (hs : S e j) (h1 : lo ≤ g) (h2 : g < hi) : SoftAt S lo hi w g j :=
 ⟨h1, h2, cur, e, hg, by rw [cell_of_row w g j cur e (0, 0) hg] at hu; exact (Array.getElem?_eq_some_iff.1 hu).1, hs⟩
def SoftV (t : TypeId) (j : Nat) : Prop := (t = 59 ∧ j % 5 = 4) ∨ t = 61
def MV (S : TypeId → Nat → Prop) (col lo hi : Nat) (W : World) (A : Option Addr) (m : Nat) : Prop :=
 ∀ i, i < m → ∃ (g : Nat) (P : Option Addr) (k c : Nat), A = some ⟨g, 0, none⟩ ∧ SoftAt S lo hi W g (i * 5 + col) ∧ HardAt S W g (i * 5 + 2) (.slice P k c) ∧ k ≤ 140737488355328 ∧ ∀ q, q < k → ∃ b off, P = some ⟨b, off, none⟩ ∧ SoftAt S lo hi W b (off + q * 3 + 2)
theorem MV.same {S : TypeId → Nat → Prop} {col lo hi : Nat} {W W' : World} {A : Option Addr} {m : Nat} (h : MV S col lo hi W A m) (hb : Below hi W W') : MV S col lo hi W' A m := fun i hi2 => by
 obtain ⟨g, P, k, c, h1, h2, h3, h4, h5⟩ := h i hi2
 have hg := h2.2.1
 refine ⟨g, P, k, c, h1, h2.same (hb.block g hg), h3.same (hb.block g hg), h4, fun q hq => ?_⟩
 obtain ⟨b, off, e, h6⟩ := h5 q hq
 exact ⟨b, off, e, h6.same (hb.block b h6.2.1)⟩
theorem recN_mv {S : TypeId → Nat → Prop} {col lo L B hi : Nat} {w : World} {p : Pr} (h : RecN w L B p) (hlo : lo ≤ L) (hhi : B ≤ hi) (hcol : col < 5) (hV : ∀ j, j % 5 = col → S 59 j) (hV2 : ∀ j, j % 5 = 2 → ¬ S 59 j) (hS : ∀ j, S 61 j) : MV S col lo hi w p.2.1 p.1.2.length := fun i hi2 => by
 obtain ⟨_, _, _, ps, hps, ⟨ho, hpa⟩, hB, htg⟩ := h
 have hm : ps.length = p.1.2.length := by rw [← hps, List.length_map]
 rw [← hm] at ho hi2 hB
 obtain ⟨g, cur, e1, hlg, _, hg, hsz, htk⟩ := own_obj ho (by omega)
 rw [e1] at hB
 have hgB := hB g rfl
 have hmem : ps.getD i z0 ∈ ps := by
  rw [List.getD_eq_getElem?_getD, List.getElem?_eq_getElem (by omega)]
  exact List.getElem_mem _
 have hq := hpa _ hmem
 refine ⟨g, (ps.getD i z0).2.1, (ps.getD i z0).1.past.length, (ps.getD i z0).2.2, e1, ⟨by omega, by omega, cur, _, hg, by omega, hV _ (by omega)⟩, hard_of hg htk (by rw [vcs_at ps i (by omega) 2 (by omega)]; rfl) (hV2 _ (by omega)), hq.2.2.1, fun q hq2 => ?_⟩
 obtain ⟨b, off, e, hb, hc⟩ := hq.1 (by omega)
 obtain ⟨cur2, hc2⟩ := htg _ hmem (by omega) _ e
 have hlb := hq.2.2.2.2 (by omega) _ e
 exact ⟨b, off, e, soft_cell hc2 (hc q hq2).2.2 (hS _) (by simp only at hlb; omega) (by omega)⟩
theorem softV_v (j : Nat) (h : j % 5 = 4) : SoftV 59 j := .inl ⟨rfl, h⟩
theorem softV_v2 (j : Nat) (h : j % 5 = 2) : ¬ SoftV 59 j := fun e => by
 rcases e with ⟨_, e⟩ | e
 ·omega
 ·exact absurd e (by decide)
theorem softV_s (j : Nat) : SoftV 61 j := .inr rfl
theorem softV_r (j : Nat) : ¬ SoftV 53 j := fun e => by
 rcases e with ⟨e, _⟩ | e <;> exact absurd e (by decide)
end Tree
end Go.Proofs.YtekhaejhmlebbaaGreat
