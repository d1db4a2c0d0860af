/-
  The document's sessions: Open, Go, Begin.
-/
import Derived.Test.YtnmkhccgaedigaaSessRefFind
namespace Go.Proofs.Ytnmkhccgaedigaa
namespace Sess
open Go.RowKit Blk Go.Maps
attribute [local go_sem ↓] Go.wp_at_zero Go.wp_at_succ
theorem info_rs : (Try.prog.info? 54).map (fun i => (i.zero, i.size, i.bytes)) = some (some (.agg #[.int .i64 0, .slice none 0 0, .int .i64 0]), 3, 40) := by kernel_rfl
section
variable {G : Nat → Prop} {w : World} {rb : Nat} {N : Int} {L : List Sn}
set_option maxRecDepth 100000 in
theorem ropen_any (h : RI G w rb N L) (hn : L.length ≤ 3000000000000) (site : Int) :
    Calls Try.prog 9 #[hd rb, .int .i64 site] w (fun e w' => e = .returned (.tuple #[.int .i64 (openF N L site).2.1, .int .i64 (openF N L site).2.2]) ∧ ∃ G', RI G' w' rb N (openF N L site).1 ∧ Stp G w G' w') := by
  obtain ⟨n, hnn⟩ : ∃ n, L.length = n := ⟨_, rfl⟩
  by_cases hs : 1 ≤ site ∧ site ≤ N
  · rw [show openF N L site = (L ++ [(site, [], 0)], (L.length : Int) + 1, 0) from if_pos hs]
    obtain ⟨i0, hi0, hz0, hz1, hz2⟩ := info_parts info_rs
    obtain ⟨A, c, l, e, hS⟩ := h
    have hlL : l.length = n := by rw [← hnn, ← e, List.length_map]
    rw [hlL] at hS
    rw [hnn] at hn ⊢
    have c0 := hS.1.1.cell 0
    have c1 := hS.1.1.cell 1
    simp only [List.getElem?_cons_zero, List.getElem?_cons_succ] at c0 c1
    have hbv : Below w.heap.size w (w.alloc (.cells #[.int .i64 site, .slice none 0 0, .int .i64 0] 54)) := (Below.refl _ w).alloc (Nat.le_refl _) _
    have d1 : decide (site < 1) = false := decide_eq_false (by omega)
    have d2 : decide (N < site) = false := decide_eq_false (by omega)
    have HS := Lib.hid (And.intro hS (And.intro e (And.intro hlL hbv)))
    clear hS e hlL hbv hs hnn
    go_enter Try.func9, Try.ntmps9
    go_wp2_with (at_builtin; refine wpList_append_lies _ rfl _ _ _ rfl 0 54 i0 _ 3 40 Try.underlying29 hi0 hz0 hz1 hz2 rfl (by omega) (.slice A n c) n (rcs l) rfl (HS.out.1.below HS.out.2.2.2).1.2 ⟨w.heap.size, 0, none⟩ 1 1 [.int .i64 site, .slice none 0 0, .int .i64 0] rfl rfl (World.news_of_block (heap_alloc_new w _)) (by simp [Value.oneCell']) (by omega) (by unfold maxLen; omega) (by omega) (Nat.zero_le _) (w.heap.size + 1) (by simp) ?_; intro g7 cap7 w7 o7 gr7 at7 hl7; have b7 := (HS.out.1.below HS.out.2.2.2).1.1.kept gr7 (fun q => own_ne (HS.out.1.below HS.out.2.2.2).1.2 (HS.out.1.below HS.out.2.2.2).1.1 (by decide) q.symm); have k1 := b7.cell 1; have f1 := b7.frozen 1; simp only [List.getElem?_cons_succ, List.getElem?_cons_zero] at k1)
    have hP := HS.out.1.push HS.out.2.2.2 site o7 gr7 at7 (by omega) hl7
    have hgs := gset w7 rb 1 (.slice (some ⟨g7, 0, none⟩) (n + 1) cap7)
    have hC : Stp G w (fun k => G k ∨ (w.heap.size ≤ k ∧ k < w7.heap.size)) (w7.setCell ⟨rb, 1, none⟩ (.slice (some ⟨g7, 0, none⟩) (n + 1) cap7)) :=
      ⟨((Chg.of_below HS.out.2.2.2).trans (Chg.of_grown gr7 fun g hg => HS.out.1.2.2.2.1 g hg) fun k hk => .inl hk).trans (Chg.of_grown hgs fun g hg => by injection hg with hg; subst hg; exact HS.out.1.2.2.1) fun k hk => .inl hk, fun k hk => hk.elim .inl fun e => .inr e.1⟩
    have k2 := hP.1.1.cell 1
    simp only [List.getElem?_cons_succ, List.getElem?_cons_zero] at k2
    have HP := Lib.hid (And.intro hP hC)
    clear hP hC hgs o7 gr7 at7 b7
    go_wp2_with fail
    go_ret2
    refine ⟨rfl, _, ⟨some ⟨g7, 0, none⟩, cap7, l ++ [((site, [], 0), none, 0)], by rw [List.map_append, HS.out.2.1]; rfl, ?_⟩, HP.out.2⟩
    rw [List.length_append, HS.out.2.2.1]
    exact HP.out.1
  · rw [show openF N L site = (L, 0, 1) from if_neg hs]
    obtain ⟨A, c, c0, c1⟩ := h.head n hnn
    have HS := Lib.hid h
    have hds : decide (site < 1) = true ∨ (decide (site < 1) = false ∧ decide (N < site) = true) := by
      by_cases h1 : site < 1
      · exact .inl (decide_eq_true h1)
      · exact .inr ⟨decide_eq_false h1, decide_eq_true (by omega)⟩
    clear h hs hnn
    rcases hds with d1 | ⟨d1, d2⟩
    all_goals
      go_enter Try.func9, Try.ntmps9
      go_wp2_with fail
      go_ret2
      exact ⟨rfl, G, HS.out, Stp.refl _ _⟩
/-- A number of none of the sessions. -/
theorem notIn {n : Nat} {k : Int} (hnn : L.length = n) (hk : ¬ inF L k) : decide (k < 1) = true ∨ (decide (k < 1) = false ∧ decide ((n : Int) < k) = true) := by
  unfold inF at hk
  by_cases h1 : k < 1
  · exact .inl (decide_eq_true h1)
  · exact .inr ⟨decide_eq_false h1, decide_eq_true (by omega)⟩
set_option maxRecDepth 100000 in
theorem rgo_any (h : RI G w rb N L) (hn : L.length ≤ 10000000000000) (hI : InvS N L) (k site : Int) :
    Calls Try.prog 15 #[hd rb, .int .i64 k, .int .i64 site] w (fun e w' => e = .returned (.int .i64 (goF N L k site).2) ∧ RI G w' rb N (goF N L k site).1 ∧ Stp G w G w') := by
  obtain ⟨n, hnn⟩ : ∃ n, L.length = n := ⟨_, rfl⟩
  by_cases hk : inF L k
  case neg =>
    rw [show goF N L k site = (L, 210) from if_pos hk]
    obtain ⟨A, c, c0, c1⟩ := h.head n hnn
    have HS := Lib.hid h
    have hds := notIn hnn hk
    clear h hk hnn hn
    rcases hds with d1 | ⟨d1, d2⟩
    all_goals
      go_enter Try.func15, Try.ntmps15
      go_wp2_with fail
      go_ret
      exact ⟨rfl, HS.out, Stp.refl _ _⟩
  have hx := getF_at hk
  obtain ⟨i, hi⟩ : ∃ i : Nat, (k - 1).toNat = i := ⟨_, rfl⟩
  have hki : k = (i : Int) + 1 := by unfold inF at hk; omega
  rw [hi] at hx
  obtain ⟨x, hxe⟩ : ∃ x, getF L k = x := ⟨_, rfl⟩
  rw [hxe] at hx
  obtain ⟨A, c, n', g, At, ct, hn', hin, hA, c0, c1, ⟨e0, e1, e2⟩, hfz, _, hset, _⟩ := h.at hx
  obtain rfl : n' = n := by omega
  subst hA
  have hx3 := (hI.1 x (List.mem_of_getElem? hx)).2.1
  have d1 : decide (k < 1) = false := decide_eq_false (by omega)
  have d2 : decide ((n' : Int) < k) = false := decide_eq_false (by omega)
  by_cases hs : 1 ≤ site ∧ site ≤ N
  case neg =>
    rw [show goF N L k site = (L, 1) from by unfold goF; rw [if_neg (by simpa using hk), if_pos hs]]
    have HS := Lib.hid h
    have hds : decide (site < 1) = true ∨ (decide (site < 1) = false ∧ decide (N < site) = true) := by
      by_cases h1 : site < 1
      · exact .inl (decide_eq_true h1)
      · exact .inr ⟨decide_eq_false h1, decide_eq_true (by omega)⟩
    clear h hk hnn hn hn' hx hxe hi hki hs hset hx3 e0 e1 e2 hfz
    rcases hds with d3 | ⟨d3, d4⟩
    all_goals
      go_enter Try.func15, Try.ntmps15
      go_wp2_with fail
      go_ret
      exact ⟨rfl, HS.out, Stp.refl _ _⟩
  have d3 : decide (site < 1) = false := decide_eq_false (by omega)
  have d4 : decide (N < site) = false := decide_eq_false (by omega)
  have w1 : IntKind.i64.wrap (k - 1) = (i : Int) := by rw [hki, show (i : Int) + 1 - 1 = i by omega]; exact Go.IntWalk.i64_in _ (by omega)
  have z1 : (0 : Int) ≤ (i : Int) := by omega
  have z2 : (i : Int) < (n' : Int) := by omega
  by_cases ho : x.2.2 = 0
  · rw [show goF N L k site = (L.set i (site, x.2.1, x.2.2), 0) from by unfold goF; rw [if_neg (by simpa using hk), if_neg (by simpa using hs), hxe, if_neg (by simpa using ho), hi]]
    have d5 : decide (0 < x.2.2) = false := decide_eq_false (by omega)
    have f0 := hfz (i * 3)
    have HE := Lib.hid (hset site)
    clear h hk hnn hn hn' hx hxe hi hki hs hset hx3 hfz ho
    go_enter Try.func15, Try.ntmps15
    go_wp2_with fail
    go_ret
    exact ⟨rfl, HE.out.1, HE.out.2⟩
  · rw [show goF N L k site = (L, 202) from by unfold goF; rw [if_neg (by simpa using hk), if_neg (by simpa using hs), hxe, if_pos ho]]
    have d5 : decide (0 < x.2.2) = true := decide_eq_true (by omega)
    have HS := Lib.hid h
    clear h hk hnn hn hn' hx hxe hi hki hs hset hx3 hfz ho
    go_enter Try.func15, Try.ntmps15
    go_wp2_with fail
    go_ret
    exact ⟨rfl, HS.out, Stp.refl _ _⟩
end
end Sess
end Go.Proofs.Ytnmkhccgaedigaa
