/-
  net: the small functions: counters, has, fresh, the deletion of a packet from the list.
-/
import Derived.Test.YtinbaiblbbfnnaaNetOwn
import Derived.Lib.SliceRun
import Derived.Deep.AppendLies
import Derived.Deep.RegionHeld3
import Derived.Deep.DrawnRows
import Derived.Deep.RegionLaw
import Derived.Laws.LoneSync
import Derived.Lib.Hide
namespace Go.Proofs.Ytinbaiblbbfnnaa
namespace Net
open Go.RowKit Blk Go.Maps
attribute [local go_sem ↓] Go.wp_at_zero Go.wp_at_succ
abbrev hd (nb : Nat) : Value := .pointer (some ⟨nb, 0, none⟩)

/-- New memory that holds the same bytes. -/
theorem clone_any (A : Option Addr) (c n : Nat) (zs : List Int) (hn : zs.length = n) (B : Nat) (w : World) (hB : B ≤ w.heap.size) (hr : Ns .u8 w B A zs) (hbig : n ≤ 140737488351232) :
    Calls Try.prog 40 #[.slice A n c] w (fun e w' => ∃ A1 c1, e = .returned (.slice A1 n c1) ∧ w'.ownsRow w.heap.size 5 1 (.slice A1 n c1) n (nums .u8 zs) ∧ Below w.heap.size w w') := by
  rcases A with _ | ad
  · have h0 : n = 0 := by
      rcases Nat.eq_zero_or_pos n with h | h
      · exact h
      · obtain ⟨b, off, e, _⟩ := hr (by omega)
        cases e
    subst h0
    obtain rfl : zs = [] := List.eq_nil_of_length_eq_zero hn
    have hne := Lib.run_eql_slice_nil (P := Try.prog) w 34 5 none 0 c 0 0 Try.underlying34
    rw [show (none : Option Addr).isNone = true from rfl] at hne
    clear hr hn
    go_enter Try.func40, Try.ntmps40
    go_wp2_with fail
    go_ret
    exact ⟨none, 0, rfl, World.ownsRow_nil _ _ _ _, Below.refl _ _⟩
  · obtain ⟨i0, hi0, hz0, hz1, hz2⟩ := info_parts Facts.info5
    have q1 := hr.more hB
    have ho := World.ownsRow_lit (base := w.heap.size) (e := 5) (size := 1) w #[] 0 (Nat.le_refl _) (by unfold maxLen; omega) rfl
    have q2 := q1.alloc (Nat.le_refl _) (.cells #[] 5)
    have hne := Lib.run_eql_slice_nil (P := Try.prog) w 34 5 (some ad) n c 0 0 Try.underlying34
    rw [show (some ad).isNone = false from rfl] at hne
    have Hn := Lib.hid hn
    clear hr hn q1
    go_enter Try.func40, Try.ntmps40
    have b0 := (Below.refl w.heap.size w).alloc (Nat.le_refl _) (.cells #[] 5)
    go_wp2_with (at_builtin; refine wpList_append_ns _ rfl (.tmp 5) (.tmp 6) 34 rfl w.heap.size 5 i0 (.int .u8 0) 1 Try.underlying34 hi0 hz0 hz1 hz2 rfl _ 0 [] rfl ho .u8 w.heap.size (some ad) n c zs Hn.out rfl q2 (by omega) (by omega) (by simp) ?_; intro v1 w1 o1 g1 at1)
    have b1 := b0.grown g1 (by simp) (fun j hj => (ho.lt j hj).1)
    rw [Nat.zero_add, List.nil_append] at o1
    obtain ⟨A1, c1, rfl⟩ := own_form o1
    have HE := Lib.hid (And.intro o1 b1)
    clear o1 g1 at1 b1
    go_ret
    exact ⟨A1, c1, rfl, HE.out⟩

/-! ### Counters -/
theorem load_any (w : World) (b r : Nat) (x : Int) (hc : w.cell? ⟨b, r, none⟩ = some (.int .i64 x)) :
    Calls Try.prog 31 #[.pointer (some ⟨b, r, none⟩)] w (fun e w' => e = .returned (.int .i64 x) ∧ w' = w) := by
  have hrun : (callFunc 39 #[.pointer (some ⟨b, r, none⟩)]).run Try.prog w = .ok (.value (.int .i64 x)) w := run_call_load Try.func39 rfl rfl (by kernel_rfl) .i64 (by kernel_rfl) hc
  go_enter Try.func31, Try.ntmps31
  go_wp2_with fail
  go_ret
  exact ⟨rfl, rfl⟩
theorem add_int (w : World) (b r : Nat) (x y : Int) (hc : w.cell? ⟨b, r, none⟩ = some (.int .i64 x)) (hf : w.frozen? ⟨b, r, none⟩ = false) :
    Calls Try.prog 35 #[.pointer (some ⟨b, r, none⟩), .int .i64 y] w (fun e w' => e = .returned (.int .i64 (IntKind.i64.wrap (x + y))) ∧ w' = w.setCell ⟨b, r, none⟩ (.int .i64 (IntKind.i64.wrap (x + y)))) := by
  obtain ⟨v, hv⟩ : ∃ v, IntKind.i64.wrap (x + y) = v := ⟨_, rfl⟩
  have hrun : (callFunc 41 #[.pointer (some ⟨b, r, none⟩), .int .i64 y]).run Try.prog w = .ok (.value (.int .i64 v)) (w.setCell ⟨b, r, none⟩ (.int .i64 v)) :=
    run_call_add Try.func41 rfl rfl (by kernel_rfl) .i64 (by kernel_rfl) hc hf (by rw [← hv]; rfl)
  rw [hv]
  clear hv hc hf
  go_enter Try.func35, Try.ntmps35
  go_wp2_with fail
  go_ret
  exact ⟨rfl, rfl⟩

theorem has_any {w : World} {nb n c : Nat} {A : Option Addr} {v1 v2 v3 v4 : Value} (h : Bn nb 63 [.slice A n c, v1, v2, v3, v4] w) (i : Int) :
    Calls Try.prog 32 #[hd nb, .int .i64 i] w (fun e w' => e = .returned (.bool (decide (0 ≤ i ∧ i < n))) ∧ w' = w) := by
  have c0 := h.cell 0
  simp only [List.getElem?_cons_zero] at c0
  clear h
  by_cases h1 : 0 ≤ i
  · have d1 : decide (0 ≤ i) = true := decide_eq_true h1
    by_cases h2 : i < n
    · have d2 : decide (i < (n : Int)) = true := decide_eq_true h2
      rw [show decide (0 ≤ i ∧ i < (n : Int)) = true from decide_eq_true ⟨h1, h2⟩]
      go_enter Try.func32, Try.ntmps32
      go_wp2_with fail
      go_ret
      exact ⟨rfl, rfl⟩
    · have d2 : decide (i < (n : Int)) = false := decide_eq_false h2
      rw [show decide (0 ≤ i ∧ i < (n : Int)) = false from decide_eq_false fun h => h2 h.2]
      go_enter Try.func32, Try.ntmps32
      go_wp2_with fail
      go_ret
      exact ⟨rfl, rfl⟩
  · have d1 : decide (0 ≤ i) = false := decide_eq_false h1
    rw [show decide (0 ≤ i ∧ i < (n : Int)) = false from decide_eq_false fun h => h1 h.1]
    go_enter Try.func32, Try.ntmps32
    go_wp2_with fail
    go_ret
    exact ⟨rfl, rfl⟩

/-- A packet with data of its own. -/
theorem fresh_any (w : World) (a1 a2 b1 b2 : Int) (zs : List Int) (n : Nat) (hn : zs.length = n) (A : Option Addr) (c : Nat) (hr : Ns .u8 w w.heap.size A zs) (hbig : n ≤ 140737488351232) :
    Calls Try.prog 33 #[.agg #[.int .i64 a1, .int .i64 a2, .int .i64 b1, .int .i64 b2, .slice A n c]] w (fun e w' => ∃ A1 c1, e = .returned (.agg #[.int .i64 a1, .int .i64 a2, .int .i64 b1, .int .i64 b2, .slice A1 n c1]) ∧ w'.ownsRow w.heap.size 5 1 (.slice A1 n c1) n (nums .u8 zs) ∧ Below w.heap.size w w') := by
  obtain ⟨W1, hW1⟩ : ∃ W1, (w.alloc (.cells #[.int .i64 a1, .int .i64 a2, .int .i64 b1, .int .i64 b2, .slice A n c] 36)).alloc (.cells #[.int .i64 0, .int .i64 0, .int .i64 0, .int .i64 0, .slice none 0 0] 36) = W1 := ⟨_, rfl⟩
  have hb1 : Below w.heap.size w W1 := by rw [← hW1]; exact ((Below.refl _ w).alloc (Nat.le_refl _) _).alloc (by simp) _
  have hB1 : Bn w.heap.size 36 [.int .i64 a1, .int .i64 a2, .int .i64 b1, .int .i64 b2, .slice A n c] W1 := by
    rw [← hW1]
    have h := heap_alloc_new w (.cells #[.int .i64 a1, .int .i64 a2, .int .i64 b1, .int .i64 b2, .slice A n c] 36)
    exact (Below.heap_alloc _ _ _ (by simp)).trans h
  have hC1 : Bn (w.heap.size + 1) 36 [.int .i64 0, .int .i64 0, .int .i64 0, .int .i64 0, .slice none 0 0] W1 := by
    rw [← hW1]
    have h := heap_alloc_new (w.alloc (.cells #[.int .i64 a1, .int .i64 a2, .int .i64 b1, .int .i64 b2, .slice A n c] 36)) (.cells #[.int .i64 0, .int .i64 0, .int .i64 0, .int .i64 0, .slice none 0 0] 36)
    rw [World.size_alloc] at h
    exact h
  have hs1 : W1.heap.size = w.heap.size + 2 := by rw [← hW1]; simp
  have h2 := Lib.hid (clone_any A c n zs hn w.heap.size W1 hb1.size (hr.below hb1) hbig)
  have c0 := hB1.cell 0
  have c1 := hB1.cell 1
  have c2 := hB1.cell 2
  have c3 := hB1.cell 3
  have c4 := hB1.cell 4
  simp only [List.getElem?_cons_succ, List.getElem?_cons_zero] at c0 c1 c2 c3 c4
  have HB := Lib.hid (And.intro hB1 (And.intro hC1 (And.intro hb1 hs1)))
  clear hb1 hB1 hC1 hs1 hr hn
  go_enter Try.func33, Try.ntmps33
  go_wp2_with fail
  refine h2.out.mono ?_
  rintro e w2 ⟨A1, cc1, rfl, o1, bb⟩
  have hB2 : Bn w.heap.size 36 [.int .i64 a1, .int .i64 a2, .int .i64 b1, .int .i64 b2, .slice A n c] w2 := HB.out.1.same (bb.block _ (by have := HB.out.2.2.2; omega))
  have hC2 : Bn (w.heap.size + 1) 36 [.int .i64 0, .int .i64 0, .int .i64 0, .int .i64 0, .slice none 0 0] w2 := HB.out.2.1.same (bb.block _ (by have := HB.out.2.2.2; omega))
  have hb2 : Below w.heap.size w w2 := HB.out.2.2.1.trans (bb.mono HB.out.2.2.1.size)
  have hg3 := gset w2 w.heap.size 4 (.slice A1 n cc1)
  have o3 := own_keep o1 fun g hg => hg3.block g (o1.lt g hg).2 fun q => own_ne o1 hB2 (by decide) (by rw [hg, q])
  have hb3 : Below w.heap.size w (w2.setCell ⟨w.heap.size, 4, none⟩ (.slice A1 n cc1)) := hb2.grown hg3 hb2.size (fun j hj => by injection hj with hj; omega)
  have hB3 := hB2.set 4 (.slice A1 n cc1)
  have hC3 := hC2.kept hg3 (fun q => by injection q with q; omega)
  obtain ⟨W3, hW3⟩ : ∃ W3, w2.setCell ⟨w.heap.size, 4, none⟩ (.slice A1 n cc1) = W3 := ⟨_, rfl⟩
  rw [hW3] at hB3 hC3 o3 hb3
  have c0 := hB3.cell 0
  have c1 := hB3.cell 1
  have c2 := hB3.cell 2
  have c3 := hB3.cell 3
  have c4 := hB3.cell 4
  have e0 := hC3.cell 0
  have e1 := hC3.cell 1
  have e2 := hC3.cell 2
  have e3 := hC3.cell 3
  have e4 := hC3.cell 4
  have d4 := hB2.cell 4
  simp only [List.set_cons_succ, List.set_cons_zero, List.getElem?_cons_succ, List.getElem?_cons_zero] at c0 c1 c2 c3 c4 e0 e1 e2 e3 e4 d4
  have f4 := hB2.frozen 4
  have f0' := hC3.frozen 0
  have f1' := hC3.frozen 1
  have f2' := hC3.frozen 2
  have f3' := hC3.frozen 3
  have f4' := hC3.frozen 4
  have hg4 := five_grown W3 (w.heap.size + 1) (.int .i64 a1) (.int .i64 a2) (.int .i64 b1) (.int .i64 b2) (.slice A1 n cc1)
  have o4 := own_keep o3 fun g hg => hg4.block g (o3.lt g hg).2 fun q => own_ne o3 hC3 (by decide) (by rw [hg, q])
  have hb4 := hb3.grown hg4 hb3.size (fun j hj => by injection hj with hj; omega)
  have hC4 := five_bn hC3 (.int .i64 a1) (.int .i64 a2) (.int .i64 b1) (.int .i64 b2) (.slice A1 n cc1)
  obtain ⟨W4, hW4⟩ : ∃ W4, five W3 (w.heap.size + 1) (.int .i64 a1) (.int .i64 a2) (.int .i64 b1) (.int .i64 b2) (.slice A1 n cc1) = W4 := ⟨_, rfl⟩
  rw [hW4] at o4 hb4 hC4
  unfold five at hW4
  have g0 := hC4.cell 0
  have g1 := hC4.cell 1
  have g2 := hC4.cell 2
  have g3 := hC4.cell 3
  have g4 := hC4.cell 4
  simp only [List.getElem?_cons_succ, List.getElem?_cons_zero] at g0 g1 g2 g3 g4
  have o5 := own_base (base' := w.heap.size) o4 HB.out.2.2.1.size
  have HE := Lib.hid (And.intro o5 hb4)
  clear hB2 hC2 hb2 hg3 o3 hb3 hB3 hC3 hg4 o4 hb4 hC4 o1 bb o5
  go_wp2_with fail
  refine bodyPost_ret (v := .agg #[.int .i64 a1, .int .i64 a2, .int .i64 b1, .int .i64 b2, .slice A1 n cc1]) ?_ rfl ⟨A1, cc1, rfl, HE.out⟩
  rw [results_cell1 rfl]
  go_simp
end Net
end Go.Proofs.Ytinbaiblbbfnnaa
