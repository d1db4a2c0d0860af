/-
  net: Len, Send, Look, Parted.
-/
import Derived.Test.YtinbaiblbbfnnaaNetAdd
namespace Go.Proofs.Ytinbaiblbbfnnaa
namespace Net
open Go.RowKit Blk Go.Maps
attribute [local go_sem ↓] Go.wp_at_zero Go.wp_at_succ
section
variable {F : Nat → Prop} {w : World} {nb m : Nat} {P : List Pk} {s t u : Int} {C : Ad → Ad → Bool}
theorem NI.cnt (h : NI F w nb P s t u C m) : w.cell? ⟨nb, 2, none⟩ = some (.int .i64 s) ∧ w.cell? ⟨nb, 3, none⟩ = some (.int .i64 t) ∧ w.cell? ⟨nb, 4, none⟩ = some (.int .i64 u) ∧ (∀ r, w.frozen? ⟨nb, r, none⟩ = false) ∧ F nb := by
  obtain ⟨mb, A, c, l, D, e, hS, _⟩ := h
  have h2 := hS.1.1.cell 2
  have h3 := hS.1.1.cell 3
  have h4 := hS.1.1.cell 4
  simp only [List.getElem?_cons_zero, List.getElem?_cons_succ] at h2 h3 h4
  exact ⟨h2, h3, h4, fun r => hS.1.1.frozen r, hS.2.2.1⟩
theorem NI.count2 (h : NI F w nb P s t u C m) (v : Int) : NI F (w.setCell ⟨nb, 2, none⟩ (.int .i64 v)) nb P v t u C m ∧ Stp F w F (w.setCell ⟨nb, 2, none⟩ (.int .i64 v)) := by
  obtain ⟨mb, A, c, l, D, e, hS, hr⟩ := h
  exact ⟨⟨mb, A, c, l, D, e, hS.count rfl, hr⟩, Chg.of_grown (gset w nb 2 _) fun g hg => by injection hg with hg; subst hg; exact hS.2.2.1, fun _ => .inl⟩
theorem NI.count3 (h : NI F w nb P s t u C m) (v : Int) : NI F (w.setCell ⟨nb, 3, none⟩ (.int .i64 v)) nb P s v u C m ∧ Stp F w F (w.setCell ⟨nb, 3, none⟩ (.int .i64 v)) := by
  obtain ⟨mb, A, c, l, D, e, hS, hr⟩ := h
  exact ⟨⟨mb, A, c, l, D, e, hS.count rfl, hr⟩, Chg.of_grown (gset w nb 3 _) fun g hg => by injection hg with hg; subst hg; exact hS.2.2.1, fun _ => .inl⟩
theorem NI.count4 (h : NI F w nb P s t u C m) (v : Int) : NI F (w.setCell ⟨nb, 4, none⟩ (.int .i64 v)) nb P s t v C m ∧ Stp F w F (w.setCell ⟨nb, 4, none⟩ (.int .i64 v)) := by
  obtain ⟨mb, A, c, l, D, e, hS, hr⟩ := h
  exact ⟨⟨mb, A, c, l, D, e, hS.count rfl, hr⟩, Chg.of_grown (gset w nb 4 _) fun g hg => by injection hg with hg; subst hg; exact hS.2.2.1, fun _ => .inl⟩

theorem len_any (h : NI F w nb P s t u C m) (n : Nat) (hn : P.length = n) : Calls Try.prog 13 #[hd nb] w (fun e w' => e = .returned (.int .i64 n) ∧ w' = w) := by
  obtain ⟨mb, A, c, l, D, e, hS, _⟩ := h
  have h1 : l.length = n := by rw [← hn, ← e, List.length_map]
  rw [h1] at hS
  have c0 := hS.1.1.cell 0
  simp only [List.getElem?_cons_zero] at c0
  clear hS e h1 hn
  go_enter Try.func13, Try.ntmps13
  go_wp2_with fail
  go_ret
  exact ⟨rfl, rfl⟩

theorem send_full (h : NI F w nb P s t u C m) (hf : 4096 ≤ P.length) (a1 a2 b1 b2 : Int) (v : Value) (_hv : v.oneCell' = true) :
    Calls Try.prog 18 #[hd nb, .agg #[.int .i64 a1, .int .i64 a2, .int .i64 b1, .int .i64 b2, v]] w (fun e w' => e = .returned (.bool false) ∧ Below w.heap.size w w') := by
  obtain ⟨U, hU⟩ : ∃ U, w.alloc (.cells #[.int .i64 a1, .int .i64 a2, .int .i64 b1, .int .i64 b2, v] 36) = U := ⟨_, rfl⟩
  have hb : Below w.heap.size w U := by rw [← hU]; exact (Below.refl _ w).alloc (Nat.le_refl _) _
  have hB : Bn w.heap.size 36 [.int .i64 a1, .int .i64 a2, .int .i64 b1, .int .i64 b2, v] U := by rw [← hU]; exact heap_alloc_new w _
  have x1 := hB.cell 0
  have x2 := hB.cell 1
  have x3 := hB.cell 2
  have x4 := hB.cell 3
  have x5 := hB.cell 4
  simp only [List.getElem?_cons_zero, List.getElem?_cons_succ] at x1 x2 x3 x4 x5
  have H1 := Lib.hid (add_full (h.below hb) hf a1 a2 b1 b2 v)
  have HB := Lib.hid hb
  clear hB hb h hf
  go_enter Try.func18, Try.ntmps18
  go_wp2_with fail
  refine H1.out.mono ?_
  rintro e w2 ⟨rfl, b2⟩
  have HE := Lib.hid (HB.out.trans (b2.mono HB.out.size))
  clear b2
  go_wp2_with fail
  go_ret
  exact ⟨rfl, HE.out⟩
theorem send_more (h : NI F w nb P s t u C m) (hf : P.length < 4096) (a1 a2 b1 b2 : Int) (zs : List Int) (k : Nat) (hk : zs.length = k) (Ad : Option Addr) (cd : Nat) (hr : Ns .u8 w w.heap.size Ad zs) (hok : OkP ((a1, a2), (b1, b2), zs)) :
    Calls Try.prog 18 #[hd nb, .agg #[.int .i64 a1, .int .i64 a2, .int .i64 b1, .int .i64 b2, .slice Ad k cd]] w (fun e w' => e = .returned (.bool true) ∧ ∃ F', Hid (NI F' w' nb (P ++ [((a1, a2), (b1, b2), zs)]) (IntKind.i64.wrap (s + 1)) t u C m ∧ Stp F w F' w')) := by
  obtain ⟨U, hU⟩ : ∃ U, w.alloc (.cells #[.int .i64 a1, .int .i64 a2, .int .i64 b1, .int .i64 b2, .slice Ad k cd] 36) = U := ⟨_, rfl⟩
  have hb : Below w.heap.size w U := by rw [← hU]; exact (Below.refl _ w).alloc (Nat.le_refl _) _
  have hB : Bn w.heap.size 36 [.int .i64 a1, .int .i64 a2, .int .i64 b1, .int .i64 b2, .slice Ad k cd] U := by rw [← hU]; exact heap_alloc_new w _
  have x1 := hB.cell 0
  have x2 := hB.cell 1
  have x3 := hB.cell 2
  have x4 := hB.cell 3
  have x5 := hB.cell 4
  simp only [List.getElem?_cons_zero, List.getElem?_cons_succ] at x1 x2 x3 x4 x5
  have H1 := Lib.hid (add_more (h.below hb) hf a1 a2 b1 b2 zs k hk Ad cd ((hr.below hb).more hb.size) hok)
  have HB := Lib.hid hb
  clear hB hb h hf hr hok hk
  go_enter Try.func18, Try.ntmps18
  go_wp2_with fail
  refine H1.out.mono ?_
  rintro e w2 ⟨rfl, F2, h2⟩
  have H2 := Lib.hid (add_int w2 nb 2 s 1 h2.out.1.cnt.1 (h2.out.1.cnt.2.2.2.1 2))
  go_wp2_with fail
  refine H2.out.mono ?_
  rintro e w3 ⟨rfl, rfl⟩
  go_wp2_with fail
  go_ret
  have h3 := h2.out.1.count2 (IntKind.i64.wrap (s + 1))
  exact ⟨rfl, F2, Lib.hid ⟨h3.1, ((Stp.of_below HB.out).trans h2.out.2).trans h3.2⟩⟩

/-- The packet in the i-th place, as the walks read it. -/
theorem NI.at (h : NI F w nb P s t u C m) {i : Nat} {a1 a2 b1 b2 : Int} {zs : List Int} (hx : P[i]? = some ((a1, a2), (b1, b2), zs)) :
    ∃ A c n g Ad cd, n = P.length ∧ i < n ∧ n ≤ 4096 ∧ w.cell? ⟨nb, 0, none⟩ = some (.slice A n c) ∧ A = some ⟨g, 0, none⟩ ∧
      (w.cell? ⟨g, i * 5, none⟩ = some (.int .i64 a1) ∧ w.cell? ⟨g, i * 5 + 1, none⟩ = some (.int .i64 a2) ∧ w.cell? ⟨g, i * 5 + 2, none⟩ = some (.int .i64 b1) ∧ w.cell? ⟨g, i * 5 + 3, none⟩ = some (.int .i64 b2) ∧ w.cell? ⟨g, i * 5 + 4, none⟩ = some (.slice Ad zs.length cd)) ∧
      w.ownsRow 0 5 1 (.slice Ad zs.length cd) zs.length (nums .u8 zs) ∧ OkP ((a1, a2), (b1, b2), zs) := by
  obtain ⟨mb, A, c, l, D, e, hS, hM, hl⟩ := h
  have hil : i < P.length := (List.getElem?_eq_some_iff.1 hx).1
  have hlP : l.length = P.length := by rw [← e, List.length_map]
  rw [← e, List.getElem?_map] at hx
  obtain ⟨x, hxl, hxe⟩ := Option.map_eq_some_iff.1 hx
  obtain ⟨x1, Ad, cd⟩ := x
  simp only at hxe
  subst hxe
  have c0 := hS.1.1.cell 0
  simp only [List.getElem?_cons_zero] at c0
  obtain ⟨g, cap, hv, _, hg⟩ := hS.1.2.1.form (by omega)
  injection hv with hA _ hcap
  have hat : ∀ r, r < 5 → w.cell? ⟨g, i * 5 + r, none⟩ = (pc (((a1, a2), (b1, b2), zs), Ad, cd))[r]? := fun r hr => by
    have h5 := hS.1.2.1
    rw [hA, hcap] at h5
    rw [h5.cellAt (i * 5 + r) (by omega), pcs_at l hxl r hr]
  have hp := hS.2.1.2.2 _ (List.mem_of_getElem? hxl)
  refine ⟨A, c, l.length, g, Ad, cd, hlP, by omega, hl, c0, hA, ⟨?_, ?_, ?_, ?_, ?_⟩, hp.1, hp.2.2⟩
  · exact hat 0 (by omega)
  · exact hat 1 (by omega)
  · exact hat 2 (by omega)
  · exact hat 3 (by omega)
  · exact hat 4 (by omega)
end
end Net
end Go.Proofs.Ytinbaiblbbfnnaa
