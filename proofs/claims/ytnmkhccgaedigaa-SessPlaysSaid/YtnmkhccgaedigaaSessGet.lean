/-
  sess: what only reads; New; bytes.Clone.
-/
import Derived.Test.YtnmkhccgaedigaaSessOwn
import Derived.Lib.SliceRun
import Derived.Deep.AppendLies
import Derived.Deep.RegionHeld3
import Derived.Deep.DrawnRows
import Derived.Lib.Hide
namespace Go.Proofs.Ytnmkhccgaedigaa
namespace Sess
open Go.RowKit Blk Go.Maps
attribute [local go_sem ↓] Go.wp_at_zero Go.wp_at_succ

abbrev hd (sb : Nat) : Value := .pointer (some ⟨sb, 0, none⟩)
theorem isSite_any {w : World} {sb : Nat} {N : Int} {v1 v2 : Value} (h : Bn sb 63 [.int .i64 N, v1, v2] w) (site : Int) :
    Calls Try.prog 22 #[hd sb, .int .i64 site] w (fun e w' => e = .returned (.bool (decide (1 ≤ site ∧ site ≤ N))) ∧ w' = w) := by
  have c0 := h.cell 0
  simp only [List.getElem?_cons_zero] at c0
  by_cases h1 : 1 ≤ site
  · have d1 : decide (1 ≤ site) = true := decide_eq_true h1
    by_cases h2 : site ≤ N
    · have d2 : decide (site ≤ N) = true := decide_eq_true h2
      rw [show decide (1 ≤ site ∧ site ≤ N) = true from decide_eq_true ⟨h1, h2⟩]
      go_enter Try.func22, Try.ntmps22
      go_wp2_with fail
      go_ret
      exact ⟨rfl, rfl⟩
    · have d2 : decide (site ≤ N) = false := decide_eq_false h2
      rw [show decide (1 ≤ site ∧ site ≤ N) = false from decide_eq_false fun h => h2 h.2]
      go_enter Try.func22, Try.ntmps22
      go_wp2_with fail
      go_ret
      exact ⟨rfl, rfl⟩
  · have d1 : decide (1 ≤ site) = false := decide_eq_false h1
    rw [show decide (1 ≤ site ∧ site ≤ N) = false from decide_eq_false fun h => h1 h.1]
    go_enter Try.func22, Try.ntmps22
    go_wp2_with fail
    go_ret
    exact ⟨rfl, rfl⟩

section
variable {F : Nat → Prop} {w : World} {sb mb n m c : Nat} {N : Int} {A : Option Addr} {es : List Se} {L : List Sn} {D : DataW Unit}
theorem SO.inF (h : SO F w sb mb N A c n es L m D) (k : Int) : inF L k ↔ 1 ≤ k ∧ k ≤ n := by
  have := h.2.1.1
  unfold Sess.inF
  omega
theorem get_none (h : SO F w sb mb N A c n es L m D) (k : Int) (hk : ¬ inF L k) :
    Calls Try.prog 23 #[hd sb, .int .i64 k] w (fun e w' => e = .returned (.pointer none) ∧ w' = w) := by
  rw [h.inF] at hk
  have c1 := h.1.1.cell 1
  simp only [List.getElem?_cons_succ, List.getElem?_cons_zero] at c1
  clear h
  by_cases h1 : k < 1
  · have d1 : decide (k < 1) = true := decide_eq_true h1
    go_enter Try.func23, Try.ntmps23
    go_wp2_with fail
    go_ret
    exact ⟨rfl, rfl⟩
  · have d1 : decide (k < 1) = false := decide_eq_false h1
    have d2 : decide ((n : Int) < k) = true := decide_eq_true (by omega)
    clear hk
    go_enter Try.func23, Try.ntmps23
    go_wp2_with fail
    go_ret
    exact ⟨rfl, rfl⟩
theorem get_some (h : SO F w sb mb N A c n es L m D) (hn : n ≤ 140737488355328) (i : Nat) (e : Se) (he : es[i]? = some e) (k : Int) (hk : k = (i : Int) + 1) :
    Calls Try.prog 23 #[hd sb, .int .i64 k] w (fun r w' => r = .returned (ptr e) ∧ w' = w) := by
  have hin : i < n := by have := (List.getElem?_eq_some_iff.1 he).1; have := h.2.1.2.1; omega
  have c1 := h.1.1.cell 1
  simp only [List.getElem?_cons_succ, List.getElem?_cons_zero] at c1
  obtain ⟨g, cap, hv, _, hg⟩ := h.1.2.1.form (by omega)
  injection hv with hA _ hcap
  subst hA
  have hp : (ptrs es)[i]? = some (ptr e) := by unfold ptrs; rw [List.getElem?_map, he]; rfl
  have c2 : w.cell? ⟨g, i, none⟩ = some (.pointer (some ⟨e.1, 0, none⟩)) := by
    have h := h.1.2.1.cells (g := g) rfl i (ptr e) hp
    have hadd : (⟨g, 0, none⟩ : Addr).add i = ⟨g, i, none⟩ := by unfold Addr.add; split <;> simp_all
    rwa [hadd] at h
  have hpt : ptr e = .pointer (some ⟨e.1, 0, none⟩) := rfl
  rw [hpt]
  have e1 : IntKind.i64.wrap (k - 1) = (i : Int) := by rw [hk]; rw [show (i : Int) + 1 - 1 = i by omega]; exact Go.IntWalk.i64_in _ (by omega)
  have d1 : decide (k < 1) = false := decide_eq_false (by omega)
  have d2 : decide ((n : Int) < k) = false := decide_eq_false (by omega)
  have z1 : (0 : Int) ≤ (i : Int) := by omega
  have z2 : (i : Int) < (n : Int) := by omega
  clear h hp he hk hpt
  go_enter Try.func23, Try.ntmps23
  go_wp2_with fail
  go_ret
  exact ⟨rfl, rfl⟩
theorem len_any (h : SO F w sb mb N A c n es L m D) : Calls Try.prog 19 #[hd sb] w (fun e w' => e = .returned (.int .i64 n) ∧ w' = w) := by
  have c1 := h.1.1.cell 1
  simp only [List.getElem?_cons_succ, List.getElem?_cons_zero] at c1
  clear h
  go_enter Try.func19, Try.ntmps19
  go_wp2_with fail
  go_ret
  exact ⟨rfl, rfl⟩
end

/-- New memory that holds the same bytes. -/
theorem clone_any (A : Option Addr) (c n : Nat) (zs : List Int) (hn : zs.length = n) (B : Nat) (w : World) (hB : B ≤ w.heap.size) (hr : Ns .u8 w B A zs) (hbig : n ≤ 140737488351232) :
    Calls Try.prog 24 #[.slice A n c] w (fun e w' => ∃ A1 c1, e = .returned (.slice A1 n c1) ∧ w'.ownsRow w.heap.size 5 1 (.slice A1 n c1) n (nums .u8 zs) ∧ Below w.heap.size w w') := by
  rcases A with _ | ad
  · have h0 : n = 0 := by
      rcases Nat.eq_zero_or_pos n with h | h
      · exact h
      · obtain ⟨b, off, e, _⟩ := hr (by omega)
        cases e
    subst h0
    obtain rfl : zs = [] := List.eq_nil_of_length_eq_zero hn
    have hne := Lib.run_eql_slice_nil (P := Try.prog) w 32 5 none 0 c 0 0 Try.underlying32
    rw [show (none : Option Addr).isNone = true from rfl] at hne
    clear hr hn
    go_enter Try.func24, Try.ntmps24
    go_wp2_with fail
    go_ret
    exact ⟨none, 0, rfl, World.ownsRow_nil _ _ _ _, Below.refl _ _⟩
  · obtain ⟨i0, hi0, hz0, hz1, hz2⟩ := info_parts Facts.info5
    have q1 := hr.more hB
    have ho := World.ownsRow_lit (base := w.heap.size) (e := 5) (size := 1) w #[] 0 (Nat.le_refl _) (by unfold maxLen; omega) rfl
    have q2 := q1.alloc (Nat.le_refl _) (.cells #[] 5)
    have hne := Lib.run_eql_slice_nil (P := Try.prog) w 32 5 (some ad) n c 0 0 Try.underlying32
    rw [show (some ad).isNone = false from rfl] at hne
    have Hn := Lib.hid hn
    clear hr hn q1
    go_enter Try.func24, Try.ntmps24
    have b0 := (Below.refl w.heap.size w).alloc (Nat.le_refl _) (.cells #[] 5)
    go_wp2_with (at_builtin; refine wpList_append_ns _ rfl (.tmp 5) (.tmp 6) 32 rfl w.heap.size 5 i0 (.int .u8 0) 1 Try.underlying32 hi0 hz0 hz1 hz2 rfl _ 0 [] rfl ho .u8 w.heap.size (some ad) n c zs Hn.out rfl q2 (by omega) (by omega) (by simp) ?_; intro v1 w1 o1 g1 at1)
    have b1 := b0.grown g1 (by simp) (fun j hj => (ho.lt j hj).1)
    rw [Nat.zero_add, List.nil_append] at o1
    obtain ⟨A1, c1, rfl⟩ := own_form o1
    have HE := Lib.hid (And.intro o1 b1)
    clear o1 g1 at1 b1
    go_ret
    exact ⟨A1, c1, rfl, HE.out⟩
end Sess
end Go.Proofs.Ytnmkhccgaedigaa
