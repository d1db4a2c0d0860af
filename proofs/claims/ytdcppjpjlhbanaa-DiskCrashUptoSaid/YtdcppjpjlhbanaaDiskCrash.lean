/-
  disk: Crash (layer 7).
-/
import Derived.Test.YtdcppjpjlhbanaaDiskMisc
namespace Go.Proofs.Ytdcppjpjlhbanaa
namespace Disk
open Go.RowKit Blk Go.Maps
attribute [local go_sem ↓] Go.wp_at_zero Go.wp_at_succ
/-- So many undos, the last change first. -/
def unE : List Un → Es → Nat → Es
  | _, es, 0 => es
  | [], es, _ + 1 => es
  | e :: r, es, m + 1 => unE r (undoE e 0 es) m
theorem unE_step : ∀ (r : List Un) (es : Es) (m : Nat) (e : Un), r[m]? = some e → unE r es (m + 1) = undoE e 0 (unE r es m)
  | [], _, m, e, h => by simp at h
  | a :: r, es, 0, e, h => by
    simp at h
    subst h
    cases r <;> rfl
  | a :: r, es, m + 1, e, h => by
    show unE r (undoE a 0 es) (m + 1) = undoE e 0 (unE r (undoE a 0 es) m)
    exact unE_step r _ m e (by simpa using h)
theorem unE_chain {N : Nat} : ∀ (r : List Un) (es : Es) (m : Nat), m ≤ r.length → Chain N r (xsE es) → Chain N (r.drop m) (xsE (unE r es m))
  | r, es, 0, _, h => by cases r <;> exact h
  | [], _, m + 1, hm, _ => by simp at hm
  | a :: r, es, m + 1, hm, h => by
    rw [List.drop_succ_cons]
    refine unE_chain r (undoE a 0 es) m (by simpa using hm) ?_
    rw [undo_ex]
    exact h.2.2
theorem unE_roomy {room : Int} : ∀ (r : List Un) (es : Es) (m : Nat), m ≤ r.length → Roomy room r (fsE es) → Roomy room (r.drop m) (fsE (unE r es m))
  | r, es, 0, _, h => by cases r <;> exact h
  | [], _, m + 1, hm, _ => by simp at hm
  | a :: r, es, m + 1, hm, h => by
    rw [List.drop_succ_cons]
    refine unE_roomy r (undoE a 0 es) m (by simpa using hm) ?_
    have e1 := undo_xf a 0 (xsE es)
    rw [← undo_ex, fs_xs, fs_xs] at e1
    rw [e1]
    exact h.2
/-- What a crash leaves: K changes stay, and of the next one its first torn bytes. -/
def crashE (r : List Un) (es : Es) (K : Nat) (t : Int) : Es :=
  match r[r.length - 1 - K]? with
  | some e => if K < r.length then undoE e t (unE r es (r.length - 1 - K)) else es
  | none => es
theorem undo_rok {F : Nat → Prop} {own : Nat → Nat} {w : World} {db : Nat} {e : Un} (he : e.ok F own w db) (t : Int) {es : Es} (h : ∀ x ∈ es, ROK F own w x.2) : ∀ x ∈ undoE e t es, ROK F own w x.2 := by
  rcases e with ⟨b1, b2, b3, b4, b5, s, wd, k, there, A, c⟩ | ⟨cut, b1, b2, b3, s, y⟩ | ⟨b1, b2, b3, b4, b5, b6, tn, from_, other, y2, y⟩
  · intro x hx
    unfold undoE undoG at hx
    simp only at hx
    rcases hf : find es s with _ | v
    · rw [hf] at hx
      exact h x hx
    · rw [hf] at hx
      simp only at hx
      split at hx
      · rcases mem_wit.1 hx with rfl | ⟨hx, _⟩
        · exact (h _ (find_some hf)).take _
        · exact h x (mem_wout.1 hx).1
      · exact h x (mem_wout.1 hx).1
  · intro x hx
    rcases mem_wit.1 hx with rfl | ⟨hx, _⟩
    · exact he.2.2.2.2
    · exact h x hx
  · intro x hx
    unfold undoE undoG at hx
    simp only at hx
    rcases mem_wit.1 hx with rfl | ⟨hx, _⟩
    · exact he.2.2.2.2.2.2.2.2.2
    · split at hx
      · rcases mem_wit.1 hx with rfl | ⟨hx, _⟩
        · exact he.2.2.2.2.2.2.2.2.1
        · exact h x (mem_wout.1 hx).1
      · exact h x (mem_wout.1 hx).1
theorem len_woutX {β : Type} {l : List (Nm × β)} (h : Srt l) (s : Nm) : (wout l s).length + (if (find l s).isSome then 1 else 0) = l.length := by
  have h1 := len_wout (h.map fun _ => (.bool true : Value)) s
  rw [← map_wout, find_map, Option.isSome_map] at h1
  unfold mapV at h1
  rw [List.length_map, List.length_map] at h1
  exact h1
theorem undo_keep_app {s : Nm} {wd k : Nat} {there : Bool} {A : Option Addr} {c b1 b2 b3 b4 b5 : Nat} {X : Xs} (t : Int) : ∀ x ∈ undoX (.app b1 b2 b3 b4 b5 s wd k there A c) t X, ∃ z ∈ X, z.1 = x.1 ∧ z.2.2 = x.2.2 := fun x hx => by
  unfold undoX undoG at hx
  simp only at hx
  rcases hf : find X s with _ | v
  · rw [hf] at hx
    exact ⟨x, hx, rfl, rfl⟩
  · rw [hf] at hx
    simp only at hx
    split at hx
    · rcases mem_wit.1 hx with rfl | ⟨hx, _⟩
      · exact ⟨(s, v), find_some hf, rfl, rfl⟩
      · exact ⟨x, (mem_wout.1 hx).1, rfl, rfl⟩
    · exact ⟨x, (mem_wout.1 hx).1, rfl, rfl⟩
/-- What a crash leaves of a change is well too. -/
theorem good_undo {N : Nat} {e : Un} {X : Xs} (hX : Good N X) (h0 : Good N (undoX e 0 X)) (t : Int) {room : Int} (hr : (used (fsX X) : Int) ≤ room) (hr0 : (used (fsX (undoX e 0 X)) : Int) ≤ room) : Good N (undoX e t X) ∧ (used (fsX (undoX e t X)) : Int) ≤ room := by
  rcases e with ⟨b1, b2, b3, b4, b5, s, wd, k, there, A, c⟩ | ⟨cut, b1, b2, b3, s, y⟩ | ⟨b1, b2, b3, b4, b5, b6, tn, from_, other, y2, y⟩
  · have hu : used (fsX (undoX (.app b1 b2 b3 b4 b5 s wd k there A c) t X)) ≤ used (fsX X) ∧ ((undoX (.app b1 b2 b3 b4 b5 s wd k there A c) t X).map fun x => x.2.2).Nodup ∧ (undoX (.app b1 b2 b3 b4 b5 s wd k there A c) t X).length ≤ X.length := by
      unfold undoX undoG
      simp only
      rcases hf : find X s with _ | v
      · exact ⟨Nat.le_refl _, hX.2.1, Nat.le_refl _⟩
      · simp only
        have hw := used_wout (hX.1.map Prod.fst) s
        have hfd : ((find (mapV Prod.fst X) s).getD []).length = v.1.length := by rw [find_map, hf]; rfl
        rw [hfd] at hw
        have hl := len_woutX hX.1 s
        rw [hf] at hl
        simp at hl
        split
        · refine ⟨?_, nodup_wit (nodup_wout hX.2.1 s) fun x hx _ he => ?_, ?_⟩
          · rw [show fsX (wit (wout X s) s (v.1.take (wd + tor t k), v.2)) = wit (wout (fsX X) s) s (v.1.take (wd + tor t k)) by rw [show fsX (wit (wout X s) s (v.1.take (wd + tor t k), v.2)) = mapV Prod.fst (wit (wout X s) s (v.1.take (wd + tor t k), v.2)) from rfl, map_wit, map_wout]]
            have h2 := used_wit ((hX.1.map Prod.fst).wout s) s (v.1.take (wd + tor t k))
            rw [List.length_take] at h2
            show used (wit (wout (mapV Prod.fst X) s) s (v.1.take (wd + tor t k))) ≤ used (mapV Prod.fst X)
            omega
          · have := nodup_id hX.2.1 (mem_wout.1 hx).1 (find_some hf) he
            exact (mem_wout.1 hx).2 (congrArg Prod.fst this)
          · have h1 : (wout (wout X s) s).length ≤ (wout X s).length := List.length_filter_le _ _
            rw [wit, len_ins]
            omega
        · refine ⟨?_, nodup_wout hX.2.1 s, by omega⟩
          rw [show fsX (wout X s) = wout (fsX X) s from map_wout _ _ _]
          show used (wout (mapV Prod.fst X) s) ≤ used (mapV Prod.fst X)
          omega
    obtain ⟨g1, g2, g3, g4, g5, g6⟩ := hX
    refine ⟨⟨undo_srt _ _ _ _ g1, hu.2.1, fun x hx => ?_, fun x hx => ?_, by omega, by omega⟩, by omega⟩
    · obtain ⟨z, hz, q1, q2⟩ := undo_keep_app t x hx
      rw [← q2]; exact g3 z hz
    · obtain ⟨z, hz, q1, q2⟩ := undo_keep_app t x hx
      rw [← q1]; exact g4 z hz
  · exact ⟨h0, hr0⟩
  · exact ⟨h0, hr0⟩
end Disk
end Go.Proofs.Ytdcppjpjlhbanaa
