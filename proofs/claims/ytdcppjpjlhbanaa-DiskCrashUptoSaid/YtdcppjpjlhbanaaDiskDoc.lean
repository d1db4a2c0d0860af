/-
  The document's files in memory; find, without, with, data (layer 7).
-/
import Derived.Test.YtdcppjpjlhbanaaDiskState
import Derived.Deep.RegionHeld3
import Derived.Deep.DrawnRows
namespace Go.Proofs.Ytdcppjpjlhbanaa
namespace Disk
open Go.RowKit Blk
attribute [local go_sem ↓] Go.wp_at_zero Go.wp_at_succ
/-- A file's bytes in memory. -/
structure Df where
  d : List Int
  A : Option Addr
  c : Nat
def Df.v (x : Df) : Value := .slice x.A x.d.length x.c
abbrev Rl := List (Nm × Df)
abbrev fsR (l : Rl) : Fs := mapV Df.d l
def fc (x : Nm × Df) : List Value := [.string x.1, x.2.v]
def fcs (l : Rl) : List Value := l.flatMap fc
theorem fcs_append (l m : Rl) : fcs (l ++ m) = fcs l ++ fcs m := by simp [fcs]
theorem fcs_one (x : Nm × Df) : fcs [x] = fc x := by simp [fcs]
theorem fcs_at (l : Rl) : ∀ (j : Nat) (x : Nm × Df), l[j]? = some x → ∀ r, r < 2 → (fcs l)[j * 2 + r]? = (fc x)[r]? := by
  induction l with
  | nil => intro j x h; simp at h
  | cons y l ih =>
    intro j x h r hr
    have he : fcs (y :: l) = fc y ++ fcs l := by simp [fcs]
    rw [he]
    rcases j with _ | j
    · simp only [List.getElem?_cons_zero, Option.some.injEq] at h
      subst h
      rw [List.getElem?_append_left (by simp [fc]; omega), Nat.zero_mul, Nat.zero_add]
    · rw [List.getElem?_append_right (by simp [fc]; omega)]
      have : (j + 1) * 2 + r - (fc y).length = j * 2 + r := by simp [fc]; omega
      rw [this]
      exact ih j x (by simpa using h) r hr
theorem info_file : (Try.prog.info? 67).map (fun i => (i.zero, i.size, i.bytes)) = some (some (.agg #[.string ⟨#[]⟩, .slice none 0 0]), 2, 40) := by kernel_rfl
/-- A file's bytes are found, in blocks of F. -/
def FlOK (F : Nat → Prop) (w : World) (x : Df) : Prop :=
  w.ownsRow 0 5 1 x.v x.d.length (nums .u8 x.d) ∧ (∀ g, x.v.ownBlock = some g → F g) ∧ (∀ z ∈ x.d, 0 ≤ z ∧ z ≤ 255) ∧ x.d.length ≤ 2147483648
/-- A slice of files. -/
def Fr (F : Nat → Prop) (w : World) (A : Option Addr) (n c : Nat) (l : Rl) : Prop :=
  l.length = n ∧ w.ownsRow 0 67 2 (.slice A n c) n (fcs l) ∧ (∀ g, (Value.slice A n c).ownBlock = some g → F g) ∧ (∀ x ∈ l, FlOK F w x.2) ∧ ∀ x ∈ l, x.1.size ≤ 16
section
variable {F F' : Nat → Prop} {w w' : World} {A : Option Addr} {n c : Nat} {l : Rl}
theorem FlOK.keep {x : Df} (h : FlOK F w x) (hk : ∀ j, F j → j < w.heap.size → w'.heap[j]? = w.heap[j]?) (hF : ∀ j, F j → F' j) : FlOK F' w' x := ⟨own_keep h.1 fun g hg => hk g (h.2.1 g hg) (h.1.lt g hg).2, fun g hg => hF g (h.2.1 g hg), h.2.2⟩
theorem Fr.keep (h : Fr F w A n c l) (hk : ∀ j, F j → j < w.heap.size → w'.heap[j]? = w.heap[j]?) (hF : ∀ j, F j → F' j) : Fr F' w' A n c l :=
  ⟨h.1, own_keep h.2.1 fun g hg => hk g (h.2.2.1 g hg) (h.2.1.lt g hg).2, fun g hg => hF g (h.2.2.1 g hg), fun x hx => (h.2.2.2.1 x hx).keep hk hF, h.2.2.2.2⟩
theorem Fr.below (h : Fr F w A n c l) {B : Nat} (hb : Below B w w') (hB : w.heap.size ≤ B) : Fr F w' A n c l := h.keep (fun j _ hj => hb.block j (by omega)) fun _ => id
theorem Fr.nil (F : Nat → Prop) (w : World) : Fr F w none 0 0 [] := ⟨rfl, World.ownsRow_nil _ _ _ _, (fun g hg => by cases hg), by simp, by simp⟩
/-- A file's cells. -/
theorem Fr.at (h : Fr F w A n c l) {j : Nat} {x : Nm × Df} (hx : l[j]? = some x) : ∃ g, A = some ⟨g, 0, none⟩ ∧ w.cell? ⟨g, j * 2, none⟩ = some (.string x.1) ∧ w.cell? ⟨g, j * 2 + 1, none⟩ = some x.2.v := by
  have hj := (List.getElem?_eq_some_iff.1 hx).1
  have hn := h.1
  rcases h.2.1.2 with ⟨hv, h2⟩ | ⟨g, cap, cur, hv, _, hc, hnc, hcs⟩
  · omega
  · injection hv with hA
    subst hA
    have hat : ∀ r, r < 2 → w.cell? ⟨g, j * 2 + r, none⟩ = (fc x)[r]? := fun r hr => by
      rw [h.2.1.cellAt (j * 2 + r) (by omega), fcs_at l j x hx r hr]
    exact ⟨g, rfl, hat 0 (by omega), hat 1 (by omega)⟩
theorem Fr.small (h : Fr F w A n c l) : n ≤ 9223372036854775807 := by
  rcases h.2.1.2 with ⟨hv, h2⟩ | ⟨g, cap, cur, hv, _, hc, hnc, hcm, _⟩
  · omega
  · unfold maxLen at hcm
    omega
theorem FlOK.ns {x : Df} (h : FlOK F w x) : Ns .u8 w w.heap.size x.A x.d := own_ns h.1
end
section
variable {P : Program} {w : World}
/-- append of one file onto a row of files of the call's own. -/
theorem wpList_append_fl {ops : Array Oper} {rest : List Oper} {o : Oper} {a : Act} {Q : Exit → Act → World → Prop} (hgd : o.guard = none) (s x : Operand) (t : TypeId)
    (ho : o.op = .call { callee := .builtin .append, args := #[s, x], argTypes := #[t, t] })
    (base : Nat) (e : TypeId) (i : TypeInfo) (z : Value) (bytes : Nat) (ht : P.underlying t = some (.slice e)) (hi : P.info? e = some i) (hz : i.zero = some z)
    (hsize : i.size = 2) (hby : i.bytes = bytes) (hzs : z.cells.size = 2)
    (v : Value) (n : Nat) (l : Rl) (hs : a.eval s = v) (hown : w.ownsRow base e 2 v n (fcs l)) (y : Nm × Df) (c : Nat)
    (hx : a.eval x = .slice (some ⟨w.heap.size, 0, none⟩) 1 c)
    (hbytes : (n + 1) * bytes ≤ 140737488355328) (hn : n + 1 ≤ 140737488355328) (hbase : base ≤ w.heap.size)
    (h : ∀ v' w', w'.ownsRow base e 2 v' (n + 1) (fcs (l ++ [y])) → w.grownBy w' v.ownBlock → (v'.ownBlock = v.ownBlock ∨ ∃ g, v'.ownBlock = some g ∧ w.heap.size ≤ g) → wpList P ops Q rest (a.put o.dst v') w') :
    wpList P ops Q (o :: rest) a (w.alloc (.cells #[.string y.1, y.2.v] e)) := by
  refine wpList_append_own_at _ hgd s x t ho base e i z 2 bytes ht hi hz hsize hby hzs (by omega) v n (fcs l) hs (hown.alloc _) ⟨w.heap.size, 0, none⟩ 1 c (fc y) hx rfl ?_ ?_ (by unfold maxLen; omega) hbytes (by simp; omega) ?_
  · intro j u' hj
    match j, hj with
    | 0, hj => simp [fc] at hj; subst hj; simp [Addr.add]
    | 1, hj => simp [fc] at hj; subst hj; simp [Addr.add]
  · intro u' hu
    simp [fc, Df.v] at hu
    rcases hu with rfl | rfl <;> rfl
  · intro v' w' hown' hg _ hat
    refine h v' w' ?_ ?_ ?_
    · rw [fcs_append, fcs_one]; exact hown'
    · exact ⟨hg.os, hg.tape, hg.output, Nat.le_trans (by simp) hg.size, fun k hk hne => (hg.block k (by simp; omega) hne).trans (Below.heap_alloc w _ k hk)⟩
    · rcases hat with h1 | h1
      · exact .inl h1
      · exact .inr ⟨_, h1, by simp⟩
end
/-! ### find -/
section
variable {β : Type}
/-- Where a name stands. -/
def pos : List (Nm × β) → Nm → Option Nat
  | [], _ => none
  | x :: l, s => if x.1 = s then some 0 else (pos l s).map (· + 1)
theorem pos_of {l : List (Nm × β)} {s : Nm} {i : Nat} {x : Nm × β} (h : ∀ y ∈ l.take i, y.1 ≠ s) (hx : l[i]? = some x) (hs : x.1 = s) : pos l s = some i := by
  induction l generalizing i with
  | nil => simp at hx
  | cons y l ih =>
    unfold pos
    rcases i with _ | i
    · simp at hx
      subst hx
      rw [if_pos hs]
    · rw [if_neg (h y (by simp)), ih (fun z hz => h z (by rw [List.take_succ_cons]; exact List.mem_cons_of_mem _ hz)) (by simpa using hx)]
      rfl
theorem pos_none {l : List (Nm × β)} {s : Nm} (h : ∀ y ∈ l, y.1 ≠ s) : pos l s = none := by
  induction l with
  | nil => rfl
  | cons y l ih =>
    unfold pos
    rw [if_neg (h y (by simp)), ih fun z hz => h z (by simp [hz])]
    rfl
theorem pos_find (l : List (Nm × β)) (s : Nm) : (match pos l s with | some i => ∃ b, l[i]? = some (s, b) ∧ find l s = some b | none => find l s = none) := by
  induction l with
  | nil => rfl
  | cons y l ih =>
    unfold pos find
    by_cases h : y.1 = s
    · rw [if_pos h, if_pos h]
      exact ⟨y.2, by simp [← h], rfl⟩
    · rw [if_neg h, if_neg h]
      cases hp : pos l s with
      | none => rw [hp] at ih; exact ih
      | some i =>
        rw [hp] at ih
        obtain ⟨b, h1, h2⟩ := ih
        exact ⟨b, by simpa using h1, h2⟩
end
def posI (l : Rl) (s : Nm) : Int := match pos l s with | some i => (i : Int) | none => -1
section
variable {F : Nat → Prop} {w : World} {A : Option Addr} {n c : Nat} {l : Rl}
set_option maxRecDepth 100000 in
theorem doc_find (h : Fr F w A n c l) (s : Nm) : Calls Try.prog 53 #[.slice A n c, .string s] w (fun e w' => e = .returned (.int .i64 (posI l s)) ∧ w' = w) := by
  have HH := Lib.hid h
  have hnB := h.small
  clear h
  go_enter Try.func53, Try.ntmps53
  go_wp2_with fail
  go_loopw [5] (fun iv V => ∃ i : Nat, iv = .int .i64 i ∧ i ≤ n ∧ V = w ∧ Hid (∀ y ∈ l.take i, y.1 ≠ s)) (fun iv _ => n - (intOf iv).toNat)
  case atStart => exact ⟨0, rfl, by omega, rfl, Lib.hid (by simp)⟩
  case round =>
    obtain ⟨i, rfl, hi, hw, hst⟩ := hrel
    subst hw
    by_cases hlt : i < n
    · obtain ⟨x, hx⟩ : ∃ x, l[i]? = some x := ⟨_, List.getElem?_eq_getElem (by have := HH.out.1; omega)⟩
      obtain ⟨g, rfl, p0, _⟩ := HH.out.at hx
      have d1 : (0 : Int) ≤ (i : Int) := by omega
      have d2 : (i : Int) < (n : Int) := by omega
      have hb := nm_eq x.1 s
      by_cases hs : x.1 = s
      · have HE : Hid (posI l s = (i : Int)) := Lib.hid (by unfold posI; rw [pos_of hst.out hx hs])
        subst hs
        clear hx hst hb
        go_wp2_with fail
        go_ret
        exact ⟨by rw [HE.out]; rfl, rfl⟩
      · have hne : (x.1.toList == s.toList) = false := by rw [hb, decide_eq_false hs]
        have HN : Hid (∀ y ∈ l.take (i + 1), y.1 ≠ s) := Lib.hid fun y hy => by
          obtain ⟨hil, hxx⟩ := List.getElem?_eq_some_iff.1 hx
          rw [List.take_succ_eq_append_getElem hil, List.mem_append] at hy
          rcases hy with hy | hy
          · exact hst.out y hy
          · rw [List.mem_singleton, hxx] at hy
            rw [hy]; exact hs
        clear hx hst hb
        go_wp2_with fail
        exact ⟨⟨i + 1, rfl, by omega, by trivial, HN⟩, by simp only [intOf]; omega⟩
    · obtain rfl : i = n := by omega
      have HE : Hid (posI l s = -1) := Lib.hid (by
        unfold posI
        rw [pos_none fun y hy => hst.out y (by rw [List.take_of_length_le (by have := HH.out.1; omega)]; exact hy)])
      clear hst
      go_wp2_with fail
      go_ret
      exact ⟨by rw [HE.out]; rfl, rfl⟩
end
end Disk
end Go.Proofs.Ytdcppjpjlhbanaa
