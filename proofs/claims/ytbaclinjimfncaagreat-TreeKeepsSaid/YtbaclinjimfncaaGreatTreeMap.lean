/-
  A map from names to slices, whatever the slices lead to: each value is held as it stands (layer 11).
-/
import Derived.Test.YtbaclinjimfncaaGreatTreePlain
import Derived.Test.YtbaclinjimfncaaGreatGBase
import Derived.Maps.OwnSet
import Derived.Maps.OwnOps
import Derived.Maps.RangeWalk
import Derived.StringKeys
namespace Go.Proofs.YtbaclinjimfncaaGreat
namespace Tree
open Go.RowKit Blk Go.Maps Disk
/-- A value is read as itself. -/
def heldE (v : Value) : Option (DataW Value × List MemPlace) := some (.held v, [])
theorem keyed : Keyed Tryz.prog 9 := string_keyed Tryz.underlying9
/-- A name that may be one. -/
def okN (s : Nm) : Prop := s.size ≤ maxLen
theorem key_of {s : Nm} (h : okN s) : ∃ kl, keyOf Tryz.prog 9 (.string s) = some kl := ⟨_, WideMaps.keyOf_string_mk Tryz.underlying9 h⟩
theorem key_inj {s t : Nm} {kl : Lit} (h : keyOf Tryz.prog 9 (.string s) = some kl) (h' : keyOf Tryz.prog 9 (.string t) = some kl) : s = t := by
  have := keyed.inj h h'
  injection this
theorem key_inv {key : Value} {kl : Lit} (h : keyOf Tryz.prog 9 key = some kl) : ∃ s : Nm, key = .string s ∧ okN s := by
  cases key <;> simp [keyOf, mapKey, Tryz.underlying9] at h
  exact ⟨_, rfl, h.1⟩
abbrev Vl := List (Nm × Value)
/-- The map tells these values. -/
def MapV (D : DataW Value) (l : Vl) : Prop := ∀ s kl, keyOf Tryz.prog 9 (.string s) = some kl → ∀ z, D.atKey kl z = (match find l s with | some v => .held v | none => z)
theorem MapV.has {D : DataW Value} {l : Vl} (h : MapV D l) {s : Nm} {kl : Lit} (hk : keyOf Tryz.prog 9 (.string s) = some kl) : Maps.has D kl = (find l s).isSome := by
  have h1 := h s kl hk
  rcases hf : find l s with _ | v
  · rw [hf] at h1
    exact Maps.has_false_of_atKey h1
  · rw [hf] at h1
    exact Maps.has_true_of_atKey h1
def MI (w : World) (mb : Nat) (l : Vl) : Prop := ∃ D n, w.ownsMap Tryz.prog 9 heldE mb n D ∧ MapV D l ∧ Srt l ∧ (∀ x ∈ l, okN x.1) ∧ Maps.size D = l.length
theorem shrink {w : World} {mb n : Nat} {D : DataW Value} (h : w.ownsMap Tryz.prog 9 heldE mb n D) : w.ownsMap Tryz.prog 9 heldE mb (Maps.size D) D := by
  obtain ⟨es, clock, hb, F, _, rfl⟩ := h
  exact ⟨es, clock, hb, F, by simp [Maps.size, length_sorted], rfl⟩
theorem len_wout {l : Vl} (h : Srt l) (s : Nm) : (wout l s).length + (if (find l s).isSome then 1 else 0) = l.length := by
  induction l with
  | nil => rfl
  | cons y l ih =>
    obtain ⟨h1, h2⟩ := List.pairwise_cons.1 h
    have ih := ih h2
    have e : wout (y :: l) s = if y.1 = s then wout l s else y :: wout l s := by
      unfold wout
      by_cases h : y.1 = s
      · simp [h]
      · simp [h]
    rw [e]
    unfold find
    by_cases hs : y.1 = s
    · have n1 : find l s = none := find_none.2 fun z hz e2 => nlt_ne (h1 z hz) (hs.trans e2.symm)
      rw [n1] at ih
      rw [if_pos hs, if_pos hs]
      simp at ih ⊢
      omega
    · rw [if_neg hs, if_neg hs]
      simp only [List.length_cons]
      omega
theorem len_ins {β : Type} (l : List (Nm × β)) (s : Nm) (b : β) : (ins l s b).length = l.length + 1 := by
  induction l with
  | nil => rfl
  | cons y l ih =>
    unfold ins
    split
    · rfl
    · simp only [List.length_cons, ih]
theorem zeroS (w : World) : (zeroValue 43).run Tryz.prog w = .ok (.slice none 0 0) w := by kernel_rfl
section
variable {w w' : World} {mb : Nat} {l : Vl}
theorem MI.lt (h : MI w mb l) : mb < w.heap.size := by
  obtain ⟨D, n, h, _⟩ := h
  exact h.lt
theorem MI.srt (h : MI w mb l) : Srt l := by
  obtain ⟨D, n, _, _, h, _⟩ := h
  exact h
theorem MI.same (h : MI w mb l) (hk : w'.heap[mb]? = w.heap[mb]?) : MI w' mb l := by
  obtain ⟨D, n, ⟨q, clock, h1, h2⟩, hr⟩ := h
  exact ⟨D, n, ⟨q, clock, hk.trans h1, h2⟩, hr⟩
theorem MI.ne (h : MI w mb l) {t : TypeId} {cs : Array Value} {fr : Nat × Nat} {g : Nat} (hc : w.heap[g]? = some (.cells cs t fr)) : g ≠ mb := fun q => by
  obtain ⟨D, n, ⟨q1, q2, q3, _⟩, _⟩ := h
  rw [q, q3] at hc
  injection hc with hc
  cases hc
theorem mi_made (w : World) : MI (w.alloc (.map #[] 0)) w.heap.size [] :=
  ⟨_, 0, World.ownsMap_made w _ _ _, (fun s kl _ z => by rfl), Srt.nil, (fun x hx => by cases hx), rfl⟩
theorem held_is {D : DataW Value} {l : Vl} (hm : MapV D l) {s : Nm} {kl : Lit} (hkl : keyOf Tryz.prog 9 (.string s) = some kl) {v : Value} {ps : List MemPlace} (hv : heldE v = some (D.atKey kl (.held (.slice none 0 0)), ps)) : v = (find l s).getD (.slice none 0 0) := by
  have h1 := hm s kl hkl (.held (.slice none 0 0))
  have e1 : DataW.held v = D.atKey kl (.held (.slice none 0 0)) := congrArg Prod.fst (Option.some.inj hv)
  rw [h1] at e1
  cases hf : find l s with
  | none => rw [hf] at e1; exact DataW.held.inj e1
  | some u => rw [hf] at e1; exact DataW.held.inj e1
theorem MI.look (h : MI w mb l) (s : Nm) (hs : okN s) : (Instr.lookup 78 (.map (some mb)) (.string s) false).run Tryz.prog w = .ok ((find l s).getD (.slice none 0 0)) w := by
  obtain ⟨D, n, ho, hm, _, _, _⟩ := h
  obtain ⟨kl, hkl⟩ := key_of hs
  obtain ⟨v, ps, hrun, hv⟩ := ho.lookup (t := 78) (e := 43) keyed Tryz.underlying78 (zeroS w) (zd := .held (.slice none 0 0)) (zp := []) rfl hkl
  have hv3 : v = (find l s).getD (.slice none 0 0) := held_is hm hkl hv
  rw [← hv3]
  exact hrun
theorem MI.look_ok (h : MI w mb l) (s : Nm) (hs : okN s) : (Instr.lookup 78 (.map (some mb)) (.string s) true).run Tryz.prog w = .ok (.tuple #[(find l s).getD (.slice none 0 0), .bool (find l s).isSome]) w := by
  obtain ⟨D, n, ho, hm, _, _, _⟩ := h
  obtain ⟨kl, hkl⟩ := key_of hs
  obtain ⟨v, ps, hrun, hv⟩ := ho.look_ok (t := 78) (e := 43) keyed Tryz.underlying78 (zeroS w) (zd := .held (.slice none 0 0)) (zp := []) rfl hkl
  have hv3 : v = (find l s).getD (.slice none 0 0) := held_is hm hkl hv
  rw [← hv3, ← hm.has hkl]
  exact hrun
theorem MI.store (h : MI w mb l) (hn : l.length < 140737488355328) (s : Nm) (hs : okN s) (v : Value) : ∃ w', (Instr.mapUpdate 78 (.map (some mb)) (.string s) v).run Tryz.prog w = .ok () w' ∧ MI w' mb (wit l s v) ∧ w.grownBy w' (some mb) := by
  obtain ⟨D, n, ho, hm, hsr, hok, hsz⟩ := h
  obtain ⟨kl, hkl⟩ := key_of hs
  obtain ⟨w', hrun, h1, h2⟩ := (shrink ho).store (t := 78) (e := 43) keyed Tryz.underlying78 (by rw [hsz]; unfold maxLen; omega) (d := .held v) (ps := []) hkl rfl
  refine ⟨w', hrun, ⟨_, _, h1, fun t kt hkt z => ?_, hsr.wit s v, fun x hx => ?_, ?_⟩, h2.grown⟩
  · rw [find_wit]
    by_cases e : t = s
    · subst e
      obtain rfl : kt = kl := by rw [hkt] at hkl; injection hkl
      rw [if_pos rfl, Maps.atKey_put_same ho.isMap (keyed.key hkl)]
    · rw [if_neg e, Maps.atKey_put_other (fun q => e (key_inj hkt (by rw [q]; exact hkl)))]
      exact hm t kt hkt z
  · rcases mem_wit.1 hx with rfl | ⟨hx, _⟩
    · exact hs
    · exact hok x hx
  · rw [Maps.size_put (ho.tidy keyed), hm.has hkl, hsz, wit, len_ins]
    have := len_wout hsr s
    split at this <;> rename_i hc
    · rw [if_pos hc]; omega
    · rw [if_neg hc]; omega
theorem MI.drop (h : MI w mb l) (s : Nm) (hs : okN s) (ty : TypeId) : ∃ w', (Builtin.delete_ #[78, 9] ty #[.map (some mb), .string s]).run Tryz.prog w = .ok (.tuple #[]) w' ∧ MI w' mb (wout l s) ∧ w.grownBy w' (some mb) := by
  obtain ⟨D, n, ho, hm, hsr, hok, hsz⟩ := h
  obtain ⟨kl, hkl⟩ := key_of hs
  obtain ⟨w', hrun, h1, h2⟩ := ho.drop (t := 78) (e := 43) keyed Tryz.underlying78 hkl ty
  refine ⟨w', hrun, ⟨_, _, h1, fun t kt hkt z => ?_, hsr.wout s, fun x hx => hok x (mem_wout.1 hx).1, ?_⟩, h2.grown⟩
  · rw [find_wout]
    by_cases e : t = s
    · subst e
      obtain rfl : kt = kl := by rw [hkt] at hkl; injection hkl
      rw [if_pos rfl, Maps.atKey_del_same]
    · rw [if_neg e, Maps.atKey_del_other (fun q => e (key_inj hkt (by rw [q]; exact hkl)))]
      exact hm t kt hkt z
  · have h3 := Maps.size_del (k := kl) (ho.tidy keyed)
    rw [hm.has hkl, hsz] at h3
    have := len_wout hsr s
    omega
end
end Tree
end Go.Proofs.YtbaclinjimfncaaGreat
