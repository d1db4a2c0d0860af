/-
  The order that both tell, as a function of the members and the partition.
-/
import Derived.Test.YtfnjengcemokpaaRingRight
namespace Go.Proofs.Ytfnjengcemokpaa
namespace Ring
open Go.RowKit

def OrdOK (ms : List Int) (part : Int) (r : List Int) : Prop :=
  (RightM ms ∧ 0 ≤ part ∧ part < 8 → IsOrd hp (hp 255 part) ms r) ∧ (¬ (RightM ms ∧ 0 ≤ part ∧ part < 8) → r = [])
theorem ordOK_one {ms r r' : List Int} {part : Int} (h : OrdOK ms part r) (h' : OrdOK ms part r') : r = r' := by
  by_cases hr : RightM ms ∧ 0 ≤ part ∧ part < 8
  · exact ord_one (h.1 hr) (h'.1 hr)
  · rw [h.2 hr, h'.2 hr]
open Classical in
noncomputable def ordL (ms : List Int) (part : Int) : List Int := if h : ∃ r, OrdOK ms part r then h.choose else []
theorem ordL_eq {ms r : List Int} {part : Int} (h : OrdOK ms part r) : ordL ms part = r := by
  have hx : ∃ r, OrdOK ms part r := ⟨r, h⟩
  unfold ordL
  rw [dif_pos hx]
  exact ordOK_one hx.choose_spec h
theorem ordOK_none {ms : List Int} {part : Int} (h : ¬ (RightM ms ∧ 0 ≤ part ∧ part < 8)) : OrdOK ms part [] := ⟨fun hr => absurd hr h, fun _ => rfl⟩
theorem ordOK_some {ms r : List Int} {part : Int} (hr : RightM ms ∧ 0 ≤ part ∧ part < 8) (h : IsOrd hp (hp 255 part) ms r) : OrdOK ms part r := ⟨fun _ => h, fun hn => absurd hr hn⟩
/-- What an order's teller tells: the order, in a row of the call's own. -/
def OrdPost (ms : List Int) (part : Int) (w : World) (e : Ending) (w' : World) : Prop := Hid (OrdOK ms part (ordL ms part)) ∧ MadeNs 3 .i64 (ordL ms part) w e w'
theorem ordPost_of {ms r : List Int} {part : Int} {w w' : World} {e : Ending} (h : OrdOK ms part r) (hm : MadeNs 3 .i64 r w e w') : OrdPost ms part w e w' := by
  have e1 := ordL_eq h
  unfold OrdPost
  rw [e1]
  exact ⟨Lib.hid h, hm⟩
theorem ordPost_none {ms : List Int} {part : Int} {w w' : World} (h : ¬ (RightM ms ∧ 0 ≤ part ∧ part < 8)) (hb : Below w.heap.size w w') : OrdPost ms part w (.returned (.slice none 0 0)) w' :=
  ordPost_of (ordOK_none h) ⟨none, 0, rfl, World.ownsRow_nil _ _ _ _, hb⟩

/-- The points of the members. -/
def ptm (m : Int) : List Pt := [(hp m 0, m), (hp m 1, m), (hp m 2, m), (hp m 3, m)]
def ptsL (ms : List Int) : List Pt := ms.flatMap ptm
theorem ptsL_snoc {ms : List Int} {i : Nat} (h : i < ms.length) : ptsL (ms.take (i + 1)) = ptsL (ms.take i) ++ ptm (ms.getD i 0) := by
  unfold ptsL
  rw [List.take_succ_eq_append_getElem h, List.flatMap_append]
  simp [List.getD_eq_getElem?_getD, h]
theorem ptsL_len (ms : List Int) : (ptsL ms).length = ms.length * 4 := by
  induction ms with
  | nil => rfl
  | cons m ms ih =>
    have : ptsL (m :: ms) = ptm m ++ ptsL ms := by simp [ptsL]
    rw [this, List.length_append, ih]
    simp [ptm]
    omega
theorem ptm_take (m : Int) {j : Nat} (h : j < 4) : (ptm m).take (j + 1) = (ptm m).take j ++ [(hp m j, m)] := by
  match j, h with
  | 0, _ => rfl
  | 1, _ => rfl
  | 2, _ => rfl
  | 3, _ => rfl
theorem mem_pts {ms : List Int} {p : Pt} : p ∈ ptsL ms ↔ p.2 ∈ ms ∧ ∃ i : Int, 0 ≤ i ∧ i ≤ 3 ∧ p.1 = hp p.2 i := by
  unfold ptsL
  rw [List.mem_flatMap]
  constructor
  · rintro ⟨m, hm, hpm⟩
    simp only [ptm, List.mem_cons, List.not_mem_nil, or_false] at hpm
    rcases hpm with rfl | rfl | rfl | rfl
    · exact ⟨hm, 0, by omega, by omega, rfl⟩
    · exact ⟨hm, 1, by omega, by omega, rfl⟩
    · exact ⟨hm, 2, by omega, by omega, rfl⟩
    · exact ⟨hm, 3, by omega, by omega, rfl⟩
  · rintro ⟨hm, i, h0, h3, he⟩
    obtain ⟨x, m⟩ := p
    simp only at hm he
    refine ⟨m, hm, ?_⟩
    simp only [ptm, List.mem_cons, List.not_mem_nil, or_false]
    obtain rfl | rfl | rfl | rfl : i = 0 ∨ i = 1 ∨ i = 2 ∨ i = 3 := by omega
    all_goals (rw [he]; simp)
/-- What is met from k on, round the whole. -/
def turnL (D : List Pt) (k : Nat) : List Pt := D.drop k ++ D.take k
theorem turn_len (D : List Pt) (k : Nat) : (turnL D k).length = D.length := by unfold turnL; simp; omega
theorem turn_at {D : List Pt} {k i : Nat} (hk : k ≤ D.length) (hi : i < D.length) : (turnL D k).getD i (0, 0) = D.getD ((k + i) % D.length) (0, 0) := by
  unfold turnL
  simp only [List.getD_eq_getElem?_getD]
  by_cases h : i < D.length - k
  · rw [List.getElem?_append_left (by simp; omega), List.getElem?_drop, Nat.mod_eq_of_lt (by omega)]
  · rw [List.getElem?_append_right (by simp; omega), List.length_drop, List.getElem?_take_of_lt (by omega), Nat.mod_eq_sub_mod (by omega), Nat.mod_eq_of_lt (by omega)]
    congr 2
    omega
theorem turn_ord {ms : List Int} {D : List Pt} {k : Nat} {f : Int} (hperm : D.Perm (ptsL ms)) (hD : D.Pairwise le0) (hf : U f) (hlo : ∀ p ∈ D.take k, p.1 < f) (hhi : ∀ p ∈ D.drop k, f ≤ p.1) :
    IsOrd hp f ms (metF ((turnL D k).map Prod.snd)) := by
  have hmem : ∀ p, p ∈ turnL D k ↔ p ∈ ptsL ms := fun p => by
    rw [← hperm.mem_iff]
    unfold turnL
    rw [List.mem_append, or_comm, ← List.mem_append, List.take_append_drop]
  have hu : ∀ p ∈ D, 0 ≤ p.1 ∧ p.1 < 18446744073709551616 := fun p hpd => by
    obtain ⟨_, i, _, _, e⟩ := mem_pts.1 (hperm.mem_iff.1 hpd)
    rw [e]
    exact hash_range _
  refine met_ord (fun p hpd => ?_) (fun m hm i h0 h3 => ?_) (fun p hpd => ?_) (turned hD hu hf hlo hhi)
  · exact (mem_pts.1 ((hmem p).1 hpd)).2
  · exact (hmem _).2 (mem_pts.2 ⟨hm, i, h0, h3, rfl⟩)
  · exact (mem_pts.1 ((hmem p).1 hpd)).1
/-- Of sorted points all behind one that isn't below f aren't. -/
theorem rest_hi {D : List Pt} {k : Nat} {f : Int} (hD : D.Pairwise le0) (hk : k < D.length) (h : ¬ (D.getD k (0, 0)).1 < f) : ∀ p ∈ D.drop k, f ≤ p.1 := by
  intro p hpd
  have e : D.getD k (0, 0) = D[k] := by simp [List.getD_eq_getElem?_getD, hk]
  rw [e] at h
  rw [List.drop_eq_getElem_cons hk] at hpd
  have hs := hD.sublist (List.drop_sublist k D)
  rw [List.drop_eq_getElem_cons hk, List.pairwise_cons] at hs
  rcases List.mem_cons.1 hpd with rfl | hpd
  · omega
  · have := hs.1 p hpd
    unfold le0 at this
    omega
theorem lo_step {D : List Pt} {k : Nat} {f : Int} (hk : k < D.length) (h : ∀ p ∈ D.take k, p.1 < f) (h2 : (D.getD k (0, 0)).1 < f) : ∀ p ∈ D.take (k + 1), p.1 < f := by
  intro p hpd
  have e : D.getD k (0, 0) = D[k] := by simp [List.getD_eq_getElem?_getD, hk]
  rw [e] at h2
  rw [List.take_succ_eq_append_getElem hk] at hpd
  rcases List.mem_append.1 hpd with hpd | hpd
  · exact h p hpd
  · rw [List.mem_singleton.1 hpd]; exact h2
/-- Those met among the first i. -/
def metT (R : List Pt) (i : Nat) : List Int := metF ((R.take i).map Prod.snd)
theorem metT_step {R : List Pt} {i : Nat} (h : i < R.length) : metT R (i + 1) = if (R.getD i (0, 0)).2 ∈ metT R i then metT R i else metT R i ++ [(R.getD i (0, 0)).2] := by
  unfold metT
  rw [List.take_succ_eq_append_getElem h, List.map_append, List.map_cons, List.map_nil, met_snoc]
  simp [List.getD_eq_getElem?_getD, h]
theorem metT_len (R : List Pt) (i : Nat) : (metT R i).length ≤ i := by
  induction i with
  | zero => simp [metT, metF]
  | succ i ih =>
    by_cases h : i < R.length
    · rw [metT_step h]
      split
      · omega
      · simp; omega
    · unfold metT at *
      rw [List.take_of_length_le (by omega)] at ih ⊢
      omega
end Ring
end Go.Proofs.Ytfnjengcemokpaa
