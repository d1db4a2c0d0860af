/-
  disk: the changes that may be taken back: what each undo makes of the files (layer 7, plain words).
-/
import Derived.Test.YtdcppjpjlhbanaaDiskSet
namespace Go.Proofs.Ytdcppjpjlhbanaa
namespace Disk
open Go.RowKit Blk Go.Maps
abbrev Xs := List (Nm × (List Int × Nat))
def Fl.x (y : Fl) : List Int × Nat := (y.d, y.i)
abbrev xsE (es : Es) : Xs := mapV Fl.x es
abbrev fsX (X : Xs) : List (Nm × List Int) := mapV Prod.fst X
theorem map_map {β γ δ : Type} (f : β → γ) (g : γ → δ) (l : List (Nm × β)) : mapV g (mapV f l) = mapV (fun x => g (f x)) l := by
  unfold mapV
  rw [List.map_map]
  rfl
theorem fs_xs (es : Es) : fsX (xsE es) = fsE es := map_map _ _ _
/-- A change that may be taken back, as the program keeps it. -/
inductive Un
  | app (b1 b2 b3 b4 b5 : Nat) (s : Nm) (wd k : Nat) (there : Bool) (A : Option Addr) (c : Nat)
  | put (cut : Bool) (b1 b2 b3 : Nat) (s : Nm) (y : Fl)
  | ren (b1 b2 b3 b4 b5 b6 : Nat) (to from_ : Nm) (other : Bool) (y2 y : Fl)
abbrev pt (b : Nat) : Value := .pointer (some ⟨b, 0, none⟩)
def Un.v : Un → Value
  | .app b1 b2 b3 b4 b5 .. => .func (.func 39) #[] #[pt b1, pt b2, pt b3, pt b4, pt b5]
  | .put true b1 b2 b3 .. => .func (.func 46) #[] #[pt b1, pt b2, pt b3]
  | .put false b1 b2 b3 .. => .func (.func 43) #[] #[pt b1, pt b2, pt b3]
  | .ren b1 b2 b3 b4 b5 b6 .. => .func (.func 41) #[] #[pt b1, pt b2, pt b3, pt b4, pt b5, pt b6]
theorem Un.one (e : Un) : e.v.oneCell' = true := by
  rcases e with _ | ⟨cut, _⟩ | _
  · rfl
  · cases cut <;> rfl
  · rfl
/-- How much of an append stays. -/
def tor (t : Int) (k : Nat) : Nat := (min (max t 0) k).toNat
theorem tor_zero (k : Nat) : tor 0 k = 0 := by unfold tor; omega
theorem tor_le (t : Int) (k : Nat) : tor t k ≤ k := by unfold tor; omega
theorem tor_eq (t : Int) (k : Nat) : ((tor t k : Nat) : Int) = min (max t 0) k := by unfold tor; omega
section
variable {β γ : Type}
/-- What an undo makes of the files; an append's first torn bytes stay. -/
def undoG (tk : Nat → β → β) (f : Fl → β) : Un → Int → List (Nm × β) → List (Nm × β)
  | .app _ _ _ _ _ s wd k there _ _, t, l => match find l s with
    | some x => if there = true ∨ 0 < tor t k then wit (wout l s) s (tk (wd + tor t k) x) else wout l s
    | none => l
  | .put _ _ _ _ s y, _, l => wit l s (f y)
  | .ren _ _ _ _ _ _ to from_ other y2 y, _, l => wit (if other then wit (wout l to) to (f y2) else wout l to) from_ (f y)
theorem undo_map (tk : Nat → β → β) (f : Fl → β) (tk' : Nat → γ → γ) (g : β → γ) (hg : ∀ n x, g (tk n x) = tk' n (g x)) (e : Un) (t : Int) (l : List (Nm × β)) :
    mapV g (undoG tk f e t l) = undoG tk' (fun y => g (f y)) e t (mapV g l) := by
  rcases e with ⟨b1, b2, b3, b4, b5, s, wd, k, there, A, c⟩ | ⟨cut, b1, b2, b3, s, y⟩ | ⟨b1, b2, b3, b4, b5, b6, to, from_, other, y2, y⟩
  · unfold undoG
    simp only
    rw [find_map]
    rcases find l s with _ | x
    · rfl
    · simp only [Option.map_some]
      split
      · rw [map_wit, map_wout, hg]
      · rw [map_wout]
  · exact map_wit _ _ _ _
  · unfold undoG
    simp only
    rw [map_wit]
    split
    · rw [map_wit, map_wout]
    · rw [map_wout]
theorem undo_srt (tk : Nat → β → β) (f : Fl → β) (e : Un) (t : Int) {l : List (Nm × β)} (h : Srt l) : Srt (undoG tk f e t l) := by
  rcases e with ⟨b1, b2, b3, b4, b5, s, wd, k, there, A, c⟩ | ⟨cut, b1, b2, b3, s, y⟩ | ⟨b1, b2, b3, b4, b5, b6, to, from_, other, y2, y⟩
  · unfold undoG
    simp only
    rcases find l s with _ | x
    · exact h
    · simp only
      split
      · exact (h.wout s).wit _ _
      · exact h.wout s
  · exact h.wit _ _
  · unfold undoG
    simp only
    refine Srt.wit ?_ _ _
    split
    · exact (h.wout _).wit _ _
    · exact h.wout _
end
def tkE (n : Nat) (x : Fl) : Fl := ⟨x.d.take n, x.A, x.c, x.i⟩
abbrev undoE : Un → Int → Es → Es := undoG tkE id
abbrev undoX : Un → Int → Xs → Xs := undoG (fun n p => (p.1.take n, p.2)) Fl.x
abbrev undoF : Un → Int → List (Nm × List Int) → List (Nm × List Int) := undoG (fun n d => d.take n) Fl.d
theorem undo_ex (e : Un) (t : Int) (es : Es) : xsE (undoE e t es) = undoX e t (xsE es) := undo_map tkE id (fun n p => (p.1.take n, p.2)) Fl.x (fun _ _ => rfl) e t es
theorem undo_xf (e : Un) (t : Int) (X : Xs) : fsX (undoX e t X) = undoF e t (fsX X) := undo_map (fun n p => (p.1.take n, p.2)) Fl.x (fun n d => d.take n) Prod.fst (fun _ _ => rfl) e t X
/-- Files as they may be: rising, of ids that are unlike. -/
def Good (N : Nat) (X : Xs) : Prop := Srt X ∧ (X.map fun x => x.2.2).Nodup ∧ (∀ x ∈ X, x.2.2 < N) ∧ (∀ x ∈ X, 1 ≤ x.1.size ∧ x.1.size ≤ 16) ∧ used (fsX X) ≤ 1073741824 ∧ X.length ≤ N
/-- An append's undo finds what was appended. -/
def valid : Un → Xs → Prop
  | .app _ _ _ _ _ s wd k _ _ _, X => ∃ d i, find X s = some (d, i) ∧ d.length = wd + k
  | _, _ => True
/-- The loose changes, the last one first. -/
def Chain (N : Nat) : List Un → Xs → Prop
  | [], X => Good N X
  | e :: r, X => Good N X ∧ valid e X ∧ Chain N r (undoX e 0 X)
/-- No state had more bytes than the room. -/
def Roomy (room : Int) : List Un → List (Nm × List Int) → Prop
  | [], l => (used l : Int) ≤ room
  | e :: r, l => (used l : Int) ≤ room ∧ Roomy room r (undoF e 0 l)
theorem Roomy.head {room : Int} {r : List Un} {l : List (Nm × List Int)} (h : Roomy room r l) : (used l : Int) ≤ room := by
  rcases r with _ | ⟨e, r⟩
  · exact h
  · exact h.1
theorem Chain.good {N : Nat} {r : List Un} {X : Xs} (h : Chain N r X) : Good N X := by
  rcases r with _ | ⟨e, r⟩
  · exact h
  · exact h.1
end Disk
end Go.Proofs.Ytdcppjpjlhbanaa
