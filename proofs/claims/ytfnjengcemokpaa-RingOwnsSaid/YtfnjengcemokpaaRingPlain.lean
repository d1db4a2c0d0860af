/-
  The order in which a ring's members stand, on plain lists: h tells the mark of a member's point, f is where one begins.
-/
import Derived.Test.YtfnjengcemokpaaBase
namespace Go.Proofs.Ytfnjengcemokpaa
namespace Ring

def dist (f x : Int) : Int := (x - f) % 18446744073709551616
section
variable (h : Int → Int → Int) (f : Int)
/-- How far it is to the member's next point. -/
def firstF (m : Int) : Int := min (min (dist f (h m 0)) (dist f (h m 1))) (min (dist f (h m 2)) (dist f (h m 3)))
def ahead (a b : Int) : Prop := firstF h f a < firstF h f b ∨ (firstF h f a = firstF h f b ∧ a < b)
def IsOrd (ms r : List Int) : Prop := (∀ m, m ∈ r ↔ m ∈ ms) ∧ r.Pairwise (ahead h f)
end
section
variable {h : Int → Int → Int} {f : Int}
theorem firstF_le {m i : Int} (hi : 0 ≤ i ∧ i ≤ 3) : firstF h f m ≤ dist f (h m i) := by
  unfold firstF
  obtain rfl | rfl | rfl | rfl : i = 0 ∨ i = 1 ∨ i = 2 ∨ i = 3 := by omega
  all_goals omega
theorem le_firstF {m d : Int} (hd : ∀ i : Int, 0 ≤ i → i ≤ 3 → d ≤ dist f (h m i)) : d ≤ firstF h f m := by
  unfold firstF
  have h0 := hd 0 (by omega) (by omega)
  have h1 := hd 1 (by omega) (by omega)
  have h2 := hd 2 (by omega) (by omega)
  have h3 := hd 3 (by omega) (by omega)
  omega
theorem ahead_irrefl {a : Int} : ¬ ahead h f a a := by unfold ahead; omega
theorem ahead_trans {a b c : Int} (h1 : ahead h f a b) (h2 : ahead h f b c) : ahead h f a c := by unfold ahead at *; omega
theorem ahead_asymm {a b : Int} (h1 : ahead h f a b) (h2 : ahead h f b a) : False := by unfold ahead at *; omega

theorem canonO : ∀ {l m : List Int}, l.Pairwise (ahead h f) → m.Pairwise (ahead h f) → (∀ v, v ∈ l ↔ v ∈ m) → l = m
  | [], [], _, _, _ => rfl
  | [], y :: m, _, _, hh => absurd ((hh y).2 (by simp)) (by simp)
  | x :: l, [], _, _, hh => absurd ((hh x).1 (by simp)) (by simp)
  | x :: l, y :: m, hl, hm, hh => by
    rw [List.pairwise_cons] at hl hm
    have hxy : x = y := by
      rcases List.mem_cons.1 ((hh x).1 (by simp)) with e | hx
      · exact e
      · rcases List.mem_cons.1 ((hh y).2 (by simp)) with e | hy
        · exact e.symm
        · exact (ahead_asymm (hm.1 x hx) (hl.1 y hy)).elim
    subst hxy
    have key : ∀ v, v ∈ l ↔ v ∈ m := by
      intro v
      have hv := hh v
      rw [List.mem_cons, List.mem_cons] at hv
      constructor
      · intro hq
        rcases hv.1 (.inr hq) with rfl | h5
        · exact (ahead_irrefl (hl.1 v hq)).elim
        · exact h5
      · intro hq
        rcases hv.2 (.inr hq) with rfl | h5
        · exact (ahead_irrefl (hm.1 v hq)).elim
        · exact h5
    rw [canonO hl.2 hm.2 key]
theorem ord_one {ms r r' : List Int} (h1 : IsOrd h f ms r) (h2 : IsOrd h f ms r') : r = r' := canonO h1.2 h2.2 fun v => (h1.1 v).trans (h2.1 v).symm

theorem nodup_len : ∀ {l m : List Int}, l.Nodup → (∀ x ∈ l, x ∈ m) → l.length ≤ m.length
  | [], _, _, _ => by simp
  | x :: l, m, hn, hs => by
    rw [List.nodup_cons] at hn
    have hx : x ∈ m := hs x (by simp)
    have h1 := nodup_len (l := l) (m := m.erase x) hn.2 (fun y hy => (List.mem_erase_of_ne (fun e : y = x => hn.1 (by rw [← e]; exact hy))).2 (hs y (by simp [hy])))
    rw [List.length_erase_of_mem hx] at h1
    have := List.length_pos_of_mem hx
    simp only [List.length_cons]
    omega
theorem ahead_nodup {l : List Int} (hl : l.Pairwise (ahead h f)) : l.Nodup := List.Pairwise.imp (S := (· ≠ ·)) (fun {a b} hab e => by subst e; exact ahead_irrefl hab) hl
theorem rise_nodup {l : List Int} (hl : l.Pairwise (· < ·)) : l.Nodup := List.Pairwise.imp (S := (· ≠ ·)) (fun {a b} hab e => by omega) hl
theorem ord_len {ms r : List Int} (ho : IsOrd h f ms r) (hm : ms.Pairwise (· < ·)) : r.length = ms.length := by
  have h1 := nodup_len (ahead_nodup ho.2) (fun x hx => (ho.1 x).1 hx)
  have h2 := nodup_len (rise_nodup hm) (fun x hx => (ho.1 x).2 hx)
  omega

/-! ### One after the other, as one meets them -/
def metF (l : List Int) : List Int := l.foldl (fun acc m => if m ∈ acc then acc else acc ++ [m]) []
theorem met_snoc (l : List Int) (m : Int) : metF (l ++ [m]) = if m ∈ metF l then metF l else metF l ++ [m] := by
  unfold metF
  rw [List.foldl_append]
  rfl
theorem met_mem (l : List Int) : ∀ m, m ∈ metF l ↔ m ∈ l := by
  have key : ∀ k, k ≤ l.length → ∀ m, m ∈ metF (l.take k) ↔ m ∈ l.take k := by
    intro k
    induction k with
    | zero => intro _ m; simp [metF]
    | succ k ih =>
      intro hk m
      have ih := ih (by omega)
      rw [List.take_succ_eq_append_getElem (by omega), met_snoc]
      split
      · rename_i hin
        rw [ih, List.mem_append]
        constructor
        · exact .inl
        · rintro (h1 | h1)
          · exact h1
          · rw [List.mem_singleton.1 h1]; exact (ih _).1 hin
      · rw [List.mem_append, List.mem_append, ih]
  intro m
  have := key l.length (Nat.le_refl _) m
  rwa [List.take_length] at this

abbrev Pt := Int × Int
def le2 (f : Int) (p q : Pt) : Prop := dist f p.1 < dist f q.1 ∨ (dist f p.1 = dist f q.1 ∧ p.2 ≤ q.2)
theorem met_rise {P : List Pt} {ms : List Int} (hP : ∀ p ∈ P, ∃ i : Int, 0 ≤ i ∧ i ≤ 3 ∧ p.1 = h p.2 i) (hall : ∀ m ∈ ms, ∀ i : Int, 0 ≤ i → i ≤ 3 → (h m i, m) ∈ P) (hin : ∀ p ∈ P, p.2 ∈ ms) (hs : P.Pairwise (le2 f)) :
    ∀ k, k ≤ P.length → (metF ((P.take k).map Prod.snd)).Pairwise (ahead h f) := by
  intro k
  induction k with
  | zero => intro _; simp [metF]
  | succ k ih =>
    intro hk
    have ih := ih (by omega)
    have hsplit : P = P.take k ++ (P[k] :: P.drop (k + 1)) := by
      conv => lhs; rw [← List.take_append_drop k P]
      rw [List.drop_eq_getElem_cons (by omega)]
    rw [List.take_succ_eq_append_getElem (by omega), List.map_append, List.map_cons, List.map_nil, met_snoc]
    have hpm : P[k]'(by omega) ∈ P := List.getElem_mem _
    obtain ⟨p, hpk⟩ : ∃ p, P[k]'(by omega) = p := ⟨_, rfl⟩
    rw [hpk] at hsplit hpm ⊢
    obtain ⟨X, hX⟩ : ∃ X, P.take k = X := ⟨_, rfl⟩
    obtain ⟨Y, hY⟩ : ∃ Y, P.drop (k + 1) = Y := ⟨_, rfl⟩
    rw [hX, hY] at hsplit
    rw [hX] at ih ⊢
    clear hpk hX hY
    split
    · exact ih
    · rename_i hnew
      rw [met_mem] at hnew
      have hs' := hs
      rw [hsplit, List.pairwise_append, List.pairwise_cons] at hs'
      obtain ⟨_, ⟨hafter, _⟩, hcross⟩ := hs'
      refine List.pairwise_append.2 ⟨ih, by simp, fun a ha b hb => ?_⟩
      rw [List.mem_singleton.1 hb]
      rw [met_mem] at ha
      obtain ⟨q, hq, rfl⟩ := List.mem_map.1 ha
      have hqp := hcross q hq p (by simp)
      obtain ⟨i, hi0, hi3, hqi⟩ := hP q (by rw [hsplit]; simp [hq])
      have h1 : firstF h f q.2 ≤ dist f q.1 := by rw [hqi]; exact firstF_le ⟨hi0, hi3⟩
      have h2 : dist f p.1 ≤ firstF h f p.2 := by
        refine le_firstF fun j hj0 hj3 => ?_
        have hm := hall p.2 (hin _ hpm) j hj0 hj3
        rw [hsplit] at hm
        rcases List.mem_append.1 hm with hm | hm
        · exact absurd (List.mem_map.2 ⟨_, hm, rfl⟩) hnew
        · rcases List.mem_cons.1 hm with hm | hm
          · have : h p.2 j = p.1 := congrArg Prod.fst hm
            rw [this]; omega
          · have h3 := hafter _ hm
            unfold le2 at h3
            simp only at h3
            omega
      have hne : q.2 ≠ p.2 := fun e => hnew (List.mem_map.2 ⟨q, hq, e⟩)
      unfold le2 at hqp
      unfold ahead
      obtain ⟨i', hi0', hi3', hpi⟩ := hP p hpm
      have h4 : firstF h f p.2 ≤ dist f p.1 := by
        have h5 := firstF_le (h := h) (f := f) (m := p.2) (i := i') ⟨hi0', hi3'⟩
        rwa [← hpi] at h5
      omega
theorem met_ord {P : List Pt} {ms : List Int} (hP : ∀ p ∈ P, ∃ i : Int, 0 ≤ i ∧ i ≤ 3 ∧ p.1 = h p.2 i) (hall : ∀ m ∈ ms, ∀ i : Int, 0 ≤ i → i ≤ 3 → (h m i, m) ∈ P) (hin : ∀ p ∈ P, p.2 ∈ ms) (hs : P.Pairwise (le2 f)) :
    IsOrd h f ms (metF (P.map Prod.snd)) := by
  refine ⟨fun m => ?_, ?_⟩
  · rw [met_mem, List.mem_map]
    constructor
    · rintro ⟨p, hp, rfl⟩; exact hin p hp
    · intro hm; exact ⟨_, hall m hm 0 (by omega) (by omega), rfl⟩
  · have := met_rise hP hall hin hs P.length (Nat.le_refl _)
    rwa [List.take_length] at this

/-! ### Turned so that one begins at f -/
def le0 (p q : Pt) : Prop := p.1 < q.1 ∨ (p.1 = q.1 ∧ p.2 ≤ q.2)
theorem turned {D : List Pt} {k : Nat} (hD : D.Pairwise le0) (hu : ∀ p ∈ D, 0 ≤ p.1 ∧ p.1 < 18446744073709551616) (hf : 0 ≤ f ∧ f < 18446744073709551616) (hlo : ∀ p ∈ D.take k, p.1 < f) (hhi : ∀ p ∈ D.drop k, f ≤ p.1) :
    (D.drop k ++ D.take k).Pairwise (le2 f) := by
  have dlo : ∀ p ∈ D.take k, dist f p.1 = p.1 - f + 18446744073709551616 := fun p hp => by
    have := hu p (List.mem_of_mem_take hp)
    have := hlo p hp
    unfold dist
    omega
  have dhi : ∀ p ∈ D.drop k, dist f p.1 = p.1 - f := fun p hp => by
    have := hu p (List.mem_of_mem_drop hp)
    have := hhi p hp
    unfold dist
    omega
  refine List.pairwise_append.2 ⟨?_, ?_, fun p hp q hq => ?_⟩
  · refine List.Pairwise.imp_of_mem (fun {p q} hp hq hpq => ?_) (hD.sublist (List.drop_sublist _ _))
    unfold le2; unfold le0 at hpq
    rw [dhi p hp, dhi q hq]
    omega
  · refine List.Pairwise.imp_of_mem (fun {p q} hp hq hpq => ?_) (hD.sublist (List.take_sublist _ _))
    unfold le2; unfold le0 at hpq
    rw [dlo p hp, dlo q hq]
    omega
  · unfold le2
    rw [dhi p hp, dlo q hq]
    have := hu p (List.mem_of_mem_drop hp)
    have := hu q (List.mem_of_mem_take hq)
    omega

/-! ### The nearest one, one after the other -/
def Sel (h : Int → Int → Int) (f : Int) (ms out : List Int) : Prop := out.Pairwise (ahead h f) ∧ (∀ m ∈ out, m ∈ ms) ∧ ∀ a ∈ out, ∀ b ∈ ms, b ∉ out → ahead h f a b
theorem sel_nil {ms : List Int} : Sel h f ms [] := ⟨List.Pairwise.nil, by simp, by simp⟩
def BestOf (h : Int → Int → Int) (f : Int) (out pre : List Int) (best : Int) : Prop :=
  (best = 0 ∧ ∀ m ∈ pre, m ∈ out) ∨ (best ∈ pre ∧ best ∉ out ∧ ∀ b ∈ pre, b ∉ out → b = best ∨ ahead h f best b)
theorem best_nil {out : List Int} : BestOf h f out [] 0 := .inl ⟨rfl, by simp⟩
theorem best_in {out pre : List Int} {best m : Int} (hb : BestOf h f out pre best) (hm : m ∈ out) : BestOf h f out (pre ++ [m]) best := by
  rcases hb with ⟨e, h1⟩ | ⟨h1, h2, h3⟩
  · refine .inl ⟨e, fun x hx => ?_⟩
    rcases List.mem_append.1 hx with hx | hx
    · exact h1 x hx
    · rw [List.mem_singleton.1 hx]; exact hm
  · refine .inr ⟨by simp [h1], h2, fun x hx hn => ?_⟩
    rcases List.mem_append.1 hx with hx | hx
    · exact h3 x hx hn
    · rw [List.mem_singleton.1 hx] at hn; exact absurd hm hn
theorem best_first {out pre : List Int} {m : Int} (hb : BestOf h f out pre 0) (h0 : ∀ x ∈ pre, 1 ≤ x) (hm : m ∉ out) : BestOf h f out (pre ++ [m]) m := by
  rcases hb with ⟨_, h1⟩ | ⟨h1, _, _⟩
  · refine .inr ⟨by simp, hm, fun x hx hn => ?_⟩
    rcases List.mem_append.1 hx with hx | hx
    · exact absurd (h1 x hx) hn
    · exact .inl (List.mem_singleton.1 hx)
  · have := h0 0 h1; omega
theorem best_less {out pre : List Int} {best m : Int} (hb : BestOf h f out pre best) (h0 : best ≠ 0) (hm : m ∉ out) (hl : firstF h f m < firstF h f best) : BestOf h f out (pre ++ [m]) m := by
  rcases hb with ⟨e, _⟩ | ⟨h1, h2, h3⟩
  · exact absurd e h0
  · refine .inr ⟨by simp, hm, fun x hx hn => ?_⟩
    rcases List.mem_append.1 hx with hx | hx
    · rcases h3 x hx hn with rfl | h4
      · exact .inr (.inl hl)
      · unfold ahead at h4 ⊢; omega
    · exact .inl (List.mem_singleton.1 hx)
theorem best_stay {out pre : List Int} {best m : Int} (hb : BestOf h f out pre best) (h0 : best ≠ 0) (hl : ¬ firstF h f m < firstF h f best) (hr : ∀ x ∈ pre, x < m) : BestOf h f out (pre ++ [m]) best := by
  rcases hb with ⟨e, _⟩ | ⟨h1, h2, h3⟩
  · exact absurd e h0
  · refine .inr ⟨by simp [h1], h2, fun x hx hn => ?_⟩
    rcases List.mem_append.1 hx with hx | hx
    · exact h3 x hx hn
    · rw [List.mem_singleton.1 hx]
      have := hr _ h1
      unfold ahead
      omega
theorem best_is {out ms : List Int} {best : Int} (hb : BestOf h f out ms best) (hn : ms.Pairwise (· < ·)) (hl : out.length < ms.length) : best ∈ ms ∧ best ∉ out ∧ ∀ b ∈ ms, b ∉ out → b = best ∨ ahead h f best b := by
  rcases hb with ⟨_, h1⟩ | h1
  · have := nodup_len (rise_nodup hn) h1
    omega
  · exact h1
theorem sel_step {ms out : List Int} {best : Int} (hs : Sel h f ms out) (hb : best ∈ ms ∧ best ∉ out ∧ ∀ b ∈ ms, b ∉ out → b = best ∨ ahead h f best b) : Sel h f ms (out ++ [best]) := by
  obtain ⟨h1, h2, h3⟩ := hs
  refine ⟨List.pairwise_append.2 ⟨h1, by simp, fun a ha b hb' => ?_⟩, fun m hm => ?_, fun a ha b hbm hbn => ?_⟩
  · rw [List.mem_singleton.1 hb']; exact h3 a ha best hb.1 hb.2.1
  · rcases List.mem_append.1 hm with hm | hm
    · exact h2 m hm
    · rw [List.mem_singleton.1 hm]; exact hb.1
  · have hbo : b ∉ out := fun h => hbn (by simp [h])
    have hbb : b ≠ best := fun h => hbn (by simp [h])
    rcases List.mem_append.1 ha with ha | ha
    · exact h3 a ha b hbm hbo
    · rw [List.mem_singleton.1 ha]
      exact (hb.2.2 b hbm hbo).resolve_left hbb
theorem sel_end {ms out : List Int} (hs : Sel h f ms out) (hl : ms.length ≤ out.length) : IsOrd h f ms out := by
  obtain ⟨h1, h2, h3⟩ := hs
  refine ⟨fun m => ⟨h2 m, fun hm => ?_⟩, h1⟩
  by_cases hin : m ∈ out
  · exact hin
  · have hnd : (m :: out).Nodup := List.nodup_cons.2 ⟨hin, ahead_nodup h1⟩
    have := nodup_len hnd (m := ms) (fun x hx => by
      rcases List.mem_cons.1 hx with rfl | hx
      · exact hm
      · exact h2 x hx)
    simp at this
    omega
theorem sel_len {ms out : List Int} (hs : Sel h f ms out) : out.length ≤ ms.length := nodup_len (ahead_nodup hs.1) hs.2.1
end

/-- Which members are right. -/
def RightM (ms : List Int) : Prop := 1 ≤ ms.length ∧ ms.length ≤ 8 ∧ (∀ m ∈ ms, 1 ≤ m ∧ m ≤ 8) ∧ ms.Pairwise (· < ·)
instance (ms : List Int) : Decidable (RightM ms) := by unfold RightM; infer_instance
end Ring
end Go.Proofs.Ytfnjengcemokpaa
