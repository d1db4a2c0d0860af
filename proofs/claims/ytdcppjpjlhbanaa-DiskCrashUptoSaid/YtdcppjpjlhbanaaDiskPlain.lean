/-
  Plain words of layer 7: files by their names, in order; what a change makes of them.
-/
import Derived.Test.YtdcppjpjlhbanaaBlk
import Derived.Sort.Walk0
namespace Go.Proofs.Ytdcppjpjlhbanaa
namespace Disk
abbrev Nm := ByteArray
/-- One name stands ahead of another one. -/
def nlt (a b : Nm) : Bool := Op.bytesLess a.toList b.toList
theorem nm_ext {a b : Nm} (h : a.toList = b.toList) : a = b := by
  rw [Lib.toList_data, Lib.toList_data] at h
  exact ByteArray.ext (Array.toList_inj.1 h)
theorem nlt_iff {a b : Nm} : nlt a b = true ↔ a.toList < b.toList := by
  unfold nlt
  rw [bytesLess_eq, decide_eq_true_iff]
theorem nm_eq (a b : Nm) : (a.toList == b.toList) = decide (a = b) := by
  by_cases h : a = b
  · subst h; simp
  · rw [decide_eq_false h, beq_eq_false_iff_ne]
    exact fun e => h (nm_ext e)
theorem nlt_irrefl (a : Nm) : nlt a a = false := by
  rw [Bool.eq_false_iff]
  intro h
  exact List.lt_irrefl _ (nlt_iff.1 h)
theorem nlt_trans {a b c : Nm} (h : nlt a b = true) (h' : nlt b c = true) : nlt a c = true := nlt_iff.2 (List.lt_trans (nlt_iff.1 h) (nlt_iff.1 h'))
theorem nlt_asymm {a b : Nm} (h : nlt a b = true) : nlt b a = false := by
  rw [Bool.eq_false_iff]
  intro h'
  have := nlt_trans h h'
  rw [nlt_irrefl] at this
  cases this
theorem nlt_tri {a b : Nm} (h : nlt a b = false) (hne : a ≠ b) : nlt b a = true := by
  have h1 : ¬ a.toList < b.toList := fun e => by rw [nlt_iff.2 e] at h; cases h
  have h2 : b.toList ≤ a.toList := List.not_lt.1 h1
  rcases Classical.em (b.toList < a.toList) with h3 | h3
  · exact nlt_iff.2 h3
  · exact absurd (nm_ext (List.le_antisymm (List.not_lt.1 h3) h2)) hne
theorem nlt_ne {a b : Nm} (h : nlt a b = true) : a ≠ b := fun e => by subst e; rw [nlt_irrefl] at h; cases h
section
variable {β γ : Type}
/-- What stands under a name. -/
def find : List (Nm × β) → Nm → Option β
  | [], _ => none
  | x :: l, s => if x.1 = s then some x.2 else find l s
def wout (l : List (Nm × β)) (s : Nm) : List (Nm × β) := l.filter fun x => !decide (x.1 = s)
def ins : List (Nm × β) → Nm → β → List (Nm × β)
  | [], s, b => [(s, b)]
  | x :: l, s, b => if nlt s x.1 then (s, b) :: x :: l else x :: ins l s b
def wit (l : List (Nm × β)) (s : Nm) (b : β) : List (Nm × β) := ins (wout l s) s b
/-- Rising by names. -/
def Srt (l : List (Nm × β)) : Prop := l.Pairwise fun x y => nlt x.1 y.1 = true
theorem Srt.nil : Srt ([] : List (Nm × β)) := List.Pairwise.nil
theorem find_none {l : List (Nm × β)} {s : Nm} : find l s = none ↔ ∀ x ∈ l, x.1 ≠ s := by
  induction l with
  | nil => simp [find]
  | cons y l ih =>
    unfold find
    by_cases h : y.1 = s
    · simp [h]
    · simp [h, ih]
theorem find_some {l : List (Nm × β)} {s : Nm} {b : β} (h : find l s = some b) : (s, b) ∈ l := by
  induction l with
  | nil => simp [find] at h
  | cons y l ih =>
    unfold find at h
    by_cases e : y.1 = s
    · rw [if_pos e] at h
      injection h with h
      subst e h
      exact List.mem_cons_self
    · rw [if_neg e] at h
      exact List.mem_cons_of_mem _ (ih h)
theorem find_mem {l : List (Nm × β)} (h : Srt l) {x : Nm × β} (hx : x ∈ l) : find l x.1 = some x.2 := by
  induction l with
  | nil => cases hx
  | cons y l ih =>
    obtain ⟨h1, h2⟩ := List.pairwise_cons.1 h
    unfold find
    rcases List.mem_cons.1 hx with rfl | hx
    · rw [if_pos rfl]
    · rw [if_neg (nlt_ne (h1 x hx)), ih h2 hx]
theorem Srt.wout {l : List (Nm × β)} (h : Srt l) (s : Nm) : Srt (wout l s) := List.Pairwise.filter _ h
theorem mem_wout {l : List (Nm × β)} {s : Nm} {x : Nm × β} : x ∈ wout l s ↔ x ∈ l ∧ x.1 ≠ s := by simp [Disk.wout, List.mem_filter]
theorem mem_ins {l : List (Nm × β)} {s : Nm} {b : β} {x : Nm × β} : x ∈ ins l s b ↔ x = (s, b) ∨ x ∈ l := by
  induction l with
  | nil => simp [ins]
  | cons y l ih =>
    unfold ins
    by_cases h : nlt s y.1 = true
    · simp [h]
    · simp [h, ih]
      constructor
      · rintro (h | h | h)
        · exact .inr (.inl h)
        · exact .inl h
        · exact .inr (.inr h)
      · rintro (h | h | h)
        · exact .inr (.inl h)
        · exact .inl h
        · exact .inr (.inr h)
theorem mem_wit {l : List (Nm × β)} {s : Nm} {b : β} {x : Nm × β} : x ∈ wit l s b ↔ x = (s, b) ∨ (x ∈ l ∧ x.1 ≠ s) := by rw [wit, mem_ins, mem_wout]
theorem Srt.ins {l : List (Nm × β)} (h : Srt l) {s : Nm} (b : β) (hs : ∀ x ∈ l, x.1 ≠ s) : Srt (ins l s b) := by
  induction l with
  | nil => exact List.pairwise_singleton _ _
  | cons y l ih =>
    obtain ⟨h1, h2⟩ := List.pairwise_cons.1 h
    unfold Disk.ins
    by_cases e : nlt s y.1 = true
    · rw [if_pos e]
      refine List.pairwise_cons.2 ⟨fun x hx => ?_, h⟩
      rcases List.mem_cons.1 hx with rfl | hx
      · exact e
      · exact nlt_trans e (h1 x hx)
    · rw [if_neg e]
      refine List.pairwise_cons.2 ⟨fun x hx => ?_, ih h2 fun x hx => hs x (List.mem_cons_of_mem _ hx)⟩
      rcases mem_ins.1 hx with rfl | hx
      · exact nlt_tri (by simpa using e) (fun e2 => hs y List.mem_cons_self e2.symm)
      · exact h1 x hx
theorem Srt.wit {l : List (Nm × β)} (h : Srt l) (s : Nm) (b : β) : Srt (wit l s b) := (h.wout s).ins b fun _ hx => (mem_wout.1 hx).2
theorem find_wout {l : List (Nm × β)} (s t : Nm) : find (wout l s) t = if t = s then none else find l t := by
  induction l with
  | nil => simp [Disk.wout, find]
  | cons y l ih =>
    have e : wout (y :: l) s = if y.1 = s then wout l s else y :: wout l s := by
      unfold Disk.wout
      by_cases h : y.1 = s
      · simp [h]
      · simp [h]
    rw [e]
    by_cases h : y.1 = s
    · rw [if_pos h, ih]
      by_cases h2 : t = s
      · rw [if_pos h2, if_pos h2]
      · rw [if_neg h2, if_neg h2]
        show _ = (if y.1 = t then some y.2 else find l t)
        rw [if_neg (fun e => h2 (e.symm.trans h))]
    · rw [if_neg h]
      show (if y.1 = t then some y.2 else find (wout l s) t) = if t = s then none else (if y.1 = t then some y.2 else find l t)
      rw [ih]
      by_cases h2 : t = s
      · subst h2
        simp [h]
      · simp [h2]
theorem find_ins {l : List (Nm × β)} (s : Nm) (b : β) (t : Nm) (hs : ∀ x ∈ l, x.1 ≠ s) : find (ins l s b) t = if t = s then some b else find l t := by
  induction l with
  | nil =>
    show (if s = t then some b else none) = _
    by_cases h : t = s
    · subst h; simp
    · rw [if_neg (fun e => h e.symm), if_neg h]; rfl
  | cons y l ih =>
    have hy := hs y List.mem_cons_self
    have ih := ih fun x hx => hs x (List.mem_cons_of_mem _ hx)
    unfold Disk.ins
    by_cases e : nlt s y.1 = true
    · rw [if_pos e]
      show (if s = t then some b else find (y :: l) t) = _
      by_cases h : t = s
      · subst h; simp
      · rw [if_neg (fun e => h e.symm), if_neg h]
    · rw [if_neg e]
      show (if y.1 = t then some y.2 else find (ins l s b) t) = if t = s then some b else (if y.1 = t then some y.2 else find l t)
      rw [ih]
      by_cases h : t = s
      · subst h
        rw [if_neg hy, if_pos rfl, if_pos rfl]
      · rw [if_neg h, if_neg h]
theorem find_wit (l : List (Nm × β)) (s : Nm) (b : β) (t : Nm) : find (wit l s b) t = if t = s then some b else find l t := by
  rw [wit, find_ins s b t fun x hx => (mem_wout.1 hx).2, find_wout]
  by_cases h : t = s
  · rw [if_pos h, if_pos h]
  · rw [if_neg h, if_neg h, if_neg h]
/-- Two rising lists that tell the same of all names are the same. -/
theorem srt_ext {l m : List (Nm × β)} (hl : Srt l) (hm : Srt m) (h : ∀ s, find l s = find m s) : l = m := by
  induction l generalizing m with
  | nil =>
    rcases m with _ | ⟨y, m⟩
    · rfl
    · have := h y.1
      unfold find at this
      simp at this
  | cons x l ih =>
    obtain ⟨l1, l2⟩ := List.pairwise_cons.1 hl
    rcases m with _ | ⟨y, m⟩
    · have := h x.1
      unfold find at this
      simp at this
    · obtain ⟨m1, m2⟩ := List.pairwise_cons.1 hm
      have hx : (x.1, x.2) ∈ y :: m := find_some ((h x.1).symm.trans (by unfold find; rw [if_pos rfl]))
      have hy : (y.1, y.2) ∈ x :: l := find_some ((h y.1).trans (by unfold find; rw [if_pos rfl]))
      have hxy : x = y := by
        rcases List.mem_cons.1 hx with e | hx
        · exact e
        · rcases List.mem_cons.1 hy with e | hy
          · exact e.symm
          · have h1 := m1 _ hx
            have h2 := l1 _ hy
            simp only at h1 h2
            rw [nlt_asymm h1] at h2
            cases h2
      subst hxy
      rw [ih l2 m2 fun s => ?_]
      have := h s
      unfold find at this
      by_cases e : x.1 = s
      · have n1 : find l s = none := find_none.2 fun z hz e2 => nlt_ne (l1 z hz) (e.trans e2.symm)
        have n2 : find m s = none := find_none.2 fun z hz e2 => nlt_ne (m1 z hz) (e.trans e2.symm)
        rw [n1, n2]
      · rwa [if_neg e, if_neg e] at this
/-- The same with something else under each name. -/
def mapV (f : β → γ) (l : List (Nm × β)) : List (Nm × γ) := l.map fun x => (x.1, f x.2)
theorem find_map (f : β → γ) (l : List (Nm × β)) (s : Nm) : find (mapV f l) s = (find l s).map f := by
  induction l with
  | nil => rfl
  | cons y l ih =>
    show (if y.1 = s then some (f y.2) else find (mapV f l) s) = (if y.1 = s then some y.2 else find l s).map f
    rw [ih]
    by_cases h : y.1 = s
    · rw [if_pos h, if_pos h]; rfl
    · rw [if_neg h, if_neg h]
theorem Srt.map {l : List (Nm × β)} (h : Srt l) (f : β → γ) : Srt (mapV f l) := by
  unfold Srt mapV
  rw [List.pairwise_map]
  exact h
theorem map_wout (f : β → γ) (l : List (Nm × β)) (s : Nm) : mapV f (wout l s) = wout (mapV f l) s := by
  unfold mapV Disk.wout
  rw [List.filter_map]
  rfl
theorem map_ins (f : β → γ) (l : List (Nm × β)) (s : Nm) (b : β) : mapV f (ins l s b) = ins (mapV f l) s (f b) := by
  induction l with
  | nil => rfl
  | cons y l ih =>
    show mapV f (if nlt s y.1 then (s, b) :: y :: l else y :: ins l s b) = if nlt s y.1 then (s, f b) :: (y.1, f y.2) :: mapV f l else (y.1, f y.2) :: ins (mapV f l) s (f b)
    by_cases h : nlt s y.1 = true
    · rw [if_pos h, if_pos h]; rfl
    · rw [if_neg h, if_neg h, ← ih]; rfl
theorem map_wit (f : β → γ) (l : List (Nm × β)) (s : Nm) (b : β) : mapV f (wit l s b) = wit (mapV f l) s (f b) := by rw [wit, map_ins, map_wout]; rfl
end
/-- How many bytes all files have. -/
def used (l : List (Nm × List Int)) : Nat := (l.map fun x => x.2.length).sum
theorem used_wout {l : List (Nm × List Int)} (h : Srt l) (s : Nm) : used (wout l s) + ((find l s).getD []).length = used l := by
  induction l with
  | nil => rfl
  | cons y l ih =>
    obtain ⟨h1, h2⟩ := List.pairwise_cons.1 h
    have ih := ih h2
    have e : wout (y :: l) s = if y.1 = s then wout l s else y :: wout l s := by
      unfold Disk.wout
      by_cases h : y.1 = s
      · simp [h]
      · simp [h]
    rw [e]
    by_cases hs : y.1 = s
    · have n1 : find l s = none := find_none.2 fun z hz e2 => nlt_ne (h1 z hz) (hs.trans e2.symm)
      rw [if_pos hs]
      unfold find
      rw [if_pos hs]
      rw [n1] at ih
      simp only [used, List.map_cons, List.sum_cons, Option.getD_some, Option.getD_none, List.length_nil, Nat.add_zero] at ih ⊢
      omega
    · rw [if_neg hs]
      unfold find
      rw [if_neg hs]
      simp only [used, List.map_cons, List.sum_cons] at ih ⊢
      omega
theorem used_ins (l : List (Nm × List Int)) (s : Nm) (b : List Int) : used (ins l s b) = used l + b.length := by
  induction l with
  | nil => simp [ins, used]
  | cons y l ih =>
    unfold ins
    by_cases h : nlt s y.1 = true
    · rw [if_pos h]
      simp only [used, List.map_cons, List.sum_cons] at ih ⊢
      omega
    · rw [if_neg h]
      simp only [used, List.map_cons, List.sum_cons] at ih ⊢
      omega
theorem used_wit {l : List (Nm × List Int)} (h : Srt l) (s : Nm) (b : List Int) : used (wit l s b) + ((find l s).getD []).length = used l + b.length := by
  rw [wit, used_ins]
  have := used_wout h s
  omega
/-- A file's bytes; none, if there is none. -/
def dat (l : List (Nm × List Int)) (s : Nm) : List Int := (find l s).getD []
theorem dat_le {l : List (Nm × List Int)} (h : Srt l) (s : Nm) : (dat l s).length ≤ used l := by
  have := used_wout h s
  unfold dat
  omega
end Disk
end Go.Proofs.Ytdcppjpjlhbanaa
