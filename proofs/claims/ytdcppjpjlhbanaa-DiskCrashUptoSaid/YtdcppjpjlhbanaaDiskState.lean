/-
  disk: what a disk is by the document: its room, what is safe, and what was done since (layer 7, plain words).
-/
import Derived.Test.YtdcppjpjlhbanaaDiskChain
namespace Go.Proofs.Ytdcppjpjlhbanaa
namespace Disk
abbrev Fs := List (Nm × List Int)
/-- A change: its kind, the name, the other name, the bytes, the number. -/
structure Cp where
  k : Int
  s : Nm
  t : Nm
  d : List Int
  n : Int
def didP (c : Cp) (l : Fs) : Fs :=
  if c.k = 1 then wit l c.s (dat l c.s ++ c.d) else if c.k = 2 then wit l c.s ((dat l c.s).take c.n.toNat) else if c.k = 3 then wit (wout l c.s) c.t (dat l c.s) else wout l c.s
/-- The files behind changes; the last change stands first. -/
def fR (safe : Fs) : List Cp → Fs
  | [] => safe
  | c :: q => didP c (fR safe q)
/-- What stays of a change in a crash, if it is the first one that is lost. -/
def partP (c : Cp) (t : Int) (l : Fs) : Fs := if c.k = 1 ∧ 0 < tor t c.d.length then didP { c with d := c.d.take (tor t c.d.length) } l else l
structure Pd where
  room : Int
  safe : Fs
  q : List Cp
def Pd.files (P : Pd) : Fs := fR P.safe P.q
abbrev okNm (s : Nm) : Prop := 1 ≤ s.size ∧ s.size ≤ 16
instance (s : Nm) : Decidable (okNm s) := inferInstanceAs (Decidable (_ ∧ _))
/-- A change's answer; 0: it is done. -/
def Pd.code (P : Pd) (c : Cp) : Int :=
  if ¬ okNm c.s ∨ (c.k = 3 ∧ ¬ okNm c.t) then 70
  else if c.k = 1 then (if P.room - used P.files < c.d.length then 72 else 0)
  else match find P.files c.s with
    | none => 71
    | some b => if c.k = 2 ∧ (c.n < 0 ∨ (b.length : Int) < c.n) then 1 else 0
def Pd.push (P : Pd) (c : Cp) : Pd := if P.code c = 0 then { P with q := c :: P.q } else P
def Pd.sync (P : Pd) : Pd := { P with safe := P.files, q := [] }
/-- So many changes stay. -/
def Pd.kept (P : Pd) (keep : Int) : Nat := (min (max keep 0) P.q.length).toNat
def Pd.crash (P : Pd) (keep torn : Int) : Pd :=
  { P with
    safe := match P.q[P.q.length - 1 - P.kept keep]? with
      | some c => if P.kept keep < P.q.length then partP c torn (fR P.safe (P.q.drop (P.q.length - P.kept keep))) else P.files
      | none => P.files
    q := [] }
def Pd.wipe (P : Pd) : Pd := { P with safe := [], q := [] }
/-- Files as they may be. -/
def OkF (N : Nat) (room : Int) (l : Fs) : Prop := Srt l ∧ (∀ x ∈ l, okNm x.1) ∧ (used l : Int) ≤ room ∧ l.length ≤ N ∧ ∀ x ∈ l, ∀ z ∈ x.2, 0 ≤ z ∧ z ≤ 255
/-- A change as it may be, of such files. -/
def OkC (c : Cp) (l : Fs) : Prop := okNm c.s ∧ (c.k = 3 → okNm c.t) ∧ (c.k = 1 ∨ c.k = 2 ∨ c.k = 3 ∨ c.k = 4) ∧ (c.k = 2 → 0 ≤ c.n ∧ c.n ≤ ((dat l c.s).length : Int)) ∧ (c.k ≠ 1 → (find l c.s).isSome = true) ∧ ∀ z ∈ c.d, 0 ≤ z ∧ z ≤ 255
def Chg2 (N : Nat) (room : Int) (safe : Fs) : List Cp → Prop
  | [] => OkF N room safe
  | c :: q => OkF N room (fR safe (c :: q)) ∧ OkC c (fR safe q) ∧ Chg2 N room safe q
/-- A disk as it may be. -/
def Pd.ok (N : Nat) (P : Pd) : Prop := 0 ≤ P.room ∧ P.room ≤ 1073741824 ∧ P.q.length ≤ N ∧ Chg2 N P.room P.safe P.q
theorem Chg2.head {N : Nat} {room : Int} {safe : Fs} {q : List Cp} (h : Chg2 N room safe q) : OkF N room (fR safe q) := by
  cases q with
  | nil => exact h
  | cons c q => exact h.1
theorem OkF.mono {N N' : Nat} {room : Int} {l : Fs} (h : OkF N room l) (hN : N ≤ N') : OkF N' room l := ⟨h.1, h.2.1, h.2.2.1, Nat.le_trans h.2.2.2.1 hN, h.2.2.2.2⟩
theorem Chg2.mono {N N' : Nat} {room : Int} {safe : Fs} (hN : N ≤ N') : ∀ {q : List Cp}, Chg2 N room safe q → Chg2 N' room safe q
  | [], h => OkF.mono h hN
  | _ :: _, ⟨h1, h2, h3⟩ => ⟨h1.mono hN, h2, Chg2.mono hN h3⟩
theorem Chg2.drop {N : Nat} {room : Int} {safe : Fs} : ∀ {q : List Cp} (m : Nat), Chg2 N room safe q → Chg2 N room safe (q.drop m)
  | _, 0, h => h
  | [], _ + 1, h => by simpa using h
  | _ :: _, m + 1, h => by rw [List.drop_succ_cons]; exact Chg2.drop m h.2.2
theorem Pd.ok.mono {N N' : Nat} {P : Pd} (h : P.ok N) (hN : N ≤ N') : P.ok N' := ⟨h.1, h.2.1, Nat.le_trans h.2.2.1 hN, h.2.2.2.mono hN⟩
theorem Pd.ok.files {N : Nat} {P : Pd} (h : P.ok N) : OkF N P.room P.files := h.2.2.2.head
theorem okF_nil (N : Nat) {room : Int} (h : 0 ≤ room) : OkF N room [] := ⟨Srt.nil, by simp, by simpa [used] using h, by simp, by simp⟩
theorem Pd.ok.wipe {N : Nat} {P : Pd} (h : P.ok N) : P.wipe.ok N := ⟨h.1, h.2.1, Nat.zero_le _, okF_nil N h.1⟩
theorem Pd.ok.sync {N : Nat} {P : Pd} (h : P.ok N) : P.sync.ok N := ⟨h.1, h.2.1, Nat.zero_le _, h.files⟩
theorem len_woutF {l : Fs} (h : Srt l) (s : Nm) : (wout l s).length + (if (find l s).isSome then 1 else 0) = l.length := by
  induction l with
  | nil => rfl
  | cons y l ih =>
    obtain ⟨h1, h2⟩ := List.pairwise_cons.1 h
    have ih := ih h2
    have e : wout (y :: l) s = if y.1 = s then wout l s else y :: wout l s := by
      unfold wout
      by_cases h : y.1 = s
      · simp [h]
      · simp [h]
    rw [e]
    unfold find
    by_cases hs : y.1 = s
    · have n1 : find l s = none := find_none.2 fun z hz e2 => nlt_ne (h1 z hz) (hs.trans e2.symm)
      rw [n1] at ih
      rw [if_pos hs, if_pos hs]
      simp at ih ⊢
      omega
    · rw [if_neg hs, if_neg hs]
      simp only [List.length_cons]
      omega
theorem len_insF {β : Type} (l : List (Nm × β)) (s : Nm) (b : β) : (ins l s b).length = l.length + 1 := by
  induction l with
  | nil => rfl
  | cons y l ih =>
    unfold ins
    split
    · rfl
    · simp only [List.length_cons, ih]
theorem dat_bytes {N : Nat} {room : Int} {l : Fs} (h : OkF N room l) (s : Nm) : ∀ z ∈ dat l s, 0 ≤ z ∧ z ≤ 255 := fun z hz => by
  unfold dat at hz
  cases hf : find l s with
  | none => rw [hf] at hz; cases hz
  | some b => rw [hf] at hz; exact h.2.2.2.2 _ (find_some hf) z hz
theorem OkF.wout {N : Nat} {room : Int} {l : Fs} (h : OkF N room l) (s : Nm) : OkF N room (wout l s) := by
  refine ⟨h.1.wout s, fun x hx => h.2.1 x (mem_wout.1 hx).1, ?_, Nat.le_trans (List.length_filter_le _ _) h.2.2.2.1, fun x hx => h.2.2.2.2 x (mem_wout.1 hx).1⟩
  have := used_wout h.1 s
  have := h.2.2.1
  omega
theorem OkF.wit {N : Nat} {room : Int} {l : Fs} (h : OkF N room l) {s : Nm} (hs : okNm s) {b : List Int} (hb : ∀ z ∈ b, 0 ≤ z ∧ z ≤ 255) {M : Nat} (hM : (Disk.wout l s).length + 1 ≤ M) (hu : ((used l : Int) - (dat l s).length) + b.length ≤ room) : OkF M room (wit l s b) := by
  refine ⟨h.1.wit s b, fun x hx => ?_, ?_, ?_, fun x hx => ?_⟩
  · rcases mem_wit.1 hx with rfl | ⟨hx, _⟩
    · exact hs
    · exact h.2.1 x hx
  · have h1 := used_wit h.1 s b
    have h2 : ((find l s).getD []).length = (dat l s).length := rfl
    omega
  · rw [Disk.wit, len_insF]
    exact hM
  · rcases mem_wit.1 hx with rfl | ⟨hx, _⟩
    · exact hb
    · exact h.2.2.2.2 x hx
/-- What a change leaves. -/
theorem OkF.did {N : Nat} {room : Int} {l : Fs} (h : OkF N room l) {c : Cp} (hc : OkC c l) (hr : c.k = 1 → (used l : Int) + c.d.length ≤ room) : OkF (N + 1) room (didP c l) := by
  have hl := h.2.2.2.1
  have hw : (Disk.wout l c.s).length ≤ l.length := List.length_filter_le _ _
  have hd := dat_le h.1 c.s
  have hu := h.2.2.1
  unfold didP
  split
  · refine h.wit hc.1 (fun z hz => ?_) (by omega) ?_
    · rcases List.mem_append.1 hz with hz | hz
      · exact dat_bytes h c.s z hz
      · exact hc.2.2.2.2.2 z hz
    · rw [List.length_append]
      have := hr (by assumption)
      omega
  · split
    · refine h.wit hc.1 (fun z hz => dat_bytes h c.s z (List.mem_of_mem_take hz)) (by omega) ?_
      rw [List.length_take]
      omega
    · split
      · rename_i h3
        have ho := h.wout c.s
        have hw2 : (Disk.wout (Disk.wout l c.s) c.t).length ≤ (Disk.wout l c.s).length := List.length_filter_le _ _
        refine ho.wit (hc.2.1 h3) (dat_bytes h c.s) (by omega) ?_
        have h4 := used_wout h.1 c.s
        have h5 : ((find l c.s).getD []).length = (dat l c.s).length := rfl
        omega
      · exact (h.wout c.s).mono (by omega)
theorem okC_take {c : Cp} {l : Fs} (h : OkC c l) (m : Nat) : OkC { c with d := c.d.take m } l := ⟨h.1, h.2.1, h.2.2.1, h.2.2.2.1, h.2.2.2.2.1, fun z hz => h.2.2.2.2.2 z (List.mem_of_mem_take hz)⟩
/-- A change that is done may be. -/
theorem Pd.ok.push {N : Nat} {P : Pd} (h : P.ok N) {c : Cp} (hk : c.k = 1 ∨ c.k = 2 ∨ c.k = 3 ∨ c.k = 4) (hd : ∀ z ∈ c.d, 0 ≤ z ∧ z ≤ 255) : (P.push c).ok (N + 1) ∧ (P.code c = 0 → OkC c P.files ∧ (c.k = 1 → (used P.files : Int) + c.d.length ≤ P.room)) := by
  have key : P.code c = 0 → OkC c P.files ∧ (c.k = 1 → (used P.files : Int) + c.d.length ≤ P.room) := fun h0 => by
    unfold Pd.code at h0
    split at h0
    · cases h0
    · rename_i h1
      have hs : okNm c.s := Decidable.byContradiction fun e => h1 (.inl e)
      have ht : c.k = 3 → okNm c.t := fun e3 => Decidable.byContradiction fun e => h1 (.inr ⟨e3, e⟩)
      split at h0
      · rename_i h2
        split at h0
        · cases h0
        · exact ⟨⟨hs, ht, hk, fun e => by omega, fun e => absurd h2 e, hd⟩, fun _ => by omega⟩
      · rename_i h2
        cases hf : find P.files c.s with
        | none => rw [hf] at h0; cases h0
        | some b =>
          rw [hf] at h0
          simp only at h0
          split at h0
          · cases h0
          · rename_i h3
            refine ⟨⟨hs, ht, hk, fun e => ?_, fun _ => by rw [hf]; rfl, hd⟩, fun e => absurd e h2⟩
            have e2 : dat P.files c.s = b := by unfold dat; rw [hf]; rfl
            rw [e2]
            omega
  refine ⟨?_, key⟩
  unfold Pd.push
  split
  · rename_i h0
    obtain ⟨h1, h2⟩ := key h0
    exact ⟨h.1, h.2.1, by have := h.2.2.1; simp only [List.length_cons]; omega, OkF.did h.files h1 h2, h1, h.2.2.2.mono (by omega)⟩
  · exact h.mono (by omega)
theorem used_wit_len {l : Fs} (h : Srt l) (s : Nm) (b b' : List Int) (hb : b'.length ≤ b.length) : used (wit l s b') ≤ used (wit l s b) := by
  have h1 := used_wit h s b
  have h2 := used_wit h s b'
  omega
/-- What a crash leaves. -/
theorem Pd.ok.crash {N : Nat} {P : Pd} (h : P.ok N) (keep torn : Int) : (P.crash keep torn).ok N := by
  refine ⟨h.1, h.2.1, Nat.zero_le _, ?_⟩
  show OkF N P.room _
  simp only [Pd.crash]
  split
  · rename_i c hc
    split
    · rename_i hK
      have hd := h.2.2.2.drop (P.q.length - 1 - P.kept keep)
      have e1 : P.q.drop (P.q.length - 1 - P.kept keep) = c :: P.q.drop (P.q.length - P.kept keep) := by
        rw [List.drop_eq_getElem_cons (by omega)]
        congr 1
        · exact (List.getElem?_eq_some_iff.1 hc).2
        · congr 1
          omega
      rw [e1] at hd
      unfold partP
      split
      · rename_i hk
        have hF := hd.1
        have hb := hd.2.2.head
        have h1 : fR P.safe (c :: P.q.drop (P.q.length - P.kept keep)) = wit (fR P.safe (P.q.drop (P.q.length - P.kept keep))) c.s (dat (fR P.safe (P.q.drop (P.q.length - P.kept keep))) c.s ++ c.d) := by
          show didP c _ = _
          unfold didP
          rw [if_pos hk.1]
        rw [h1] at hF
        have h2 : didP { c with d := c.d.take (tor torn c.d.length) } (fR P.safe (P.q.drop (P.q.length - P.kept keep))) = wit (fR P.safe (P.q.drop (P.q.length - P.kept keep))) c.s (dat (fR P.safe (P.q.drop (P.q.length - P.kept keep))) c.s ++ c.d.take (tor torn c.d.length)) := by
          unfold didP
          rw [if_pos hk.1]
        rw [h2]
        refine ⟨hb.1.wit _ _, fun x hx => ?_, ?_, ?_, fun x hx => ?_⟩
        · rcases mem_wit.1 hx with rfl | ⟨hx, _⟩
          · exact hd.2.1.1
          · exact hb.2.1 x hx
        · have := used_wit_len hb.1 c.s (dat (fR P.safe (P.q.drop (P.q.length - P.kept keep))) c.s ++ c.d) (dat (fR P.safe (P.q.drop (P.q.length - P.kept keep))) c.s ++ c.d.take (tor torn c.d.length)) (by rw [List.length_append, List.length_append, List.length_take]; omega)
          have := hF.2.2.1
          omega
        · have := hF.2.2.2.1
          rw [wit, len_insF] at this ⊢
          exact this
        · rcases mem_wit.1 hx with rfl | ⟨hx, _⟩
          · intro z hz
            rcases List.mem_append.1 hz with hz | hz
            · exact dat_bytes hb c.s z hz
            · exact hd.2.1.2.2.2.2.2 z (List.mem_of_mem_take hz)
          · exact hb.2.2.2.2 x hx
      · exact hd.2.2.head
    · exact h.files
  · exact h.files
/-- The undos, and the changes that they take back. -/
def Tws (safe : Fs) : List Un → List Cp → Prop
  | [], [] => True
  | e :: r, c :: q => (∀ t, undoF e t (fR safe (c :: q)) = partP c t (fR safe q)) ∧ Tws safe r q
  | _, _ => False
theorem Tws.len {safe : Fs} : ∀ {r : List Un} {q : List Cp}, Tws safe r q → r.length = q.length
  | [], [], _ => rfl
  | _ :: _, _ :: _, h => by rw [List.length_cons, List.length_cons, Tws.len h.2]
  | [], _ :: _, h => h.elim
  | _ :: _, [], h => h.elim
theorem Tws.drop {safe : Fs} : ∀ {r : List Un} {q : List Cp} (m : Nat), Tws safe r q → Tws safe (r.drop m) (q.drop m)
  | _, _, 0, h => h
  | [], [], _ + 1, h => h
  | _ :: _, _ :: _, m + 1, h => by rw [List.drop_succ_cons, List.drop_succ_cons]; exact Tws.drop m h.2
  | [], _ :: _, _ + 1, h => h.elim
  | _ :: _, [], _ + 1, h => h.elim
theorem partP_zero (c : Cp) (l : Fs) : partP c 0 l = l := by unfold partP; rw [tor_zero]; simp
end Disk
end Go.Proofs.Ytdcppjpjlhbanaa
