/-
  sess: New, Open, Begin, End, Go, Token, Site.
-/
import Derived.Test.YtnmkhccgaedigaaSessGet
import Derived.WalkKit
namespace Go.Proofs.Ytnmkhccgaedigaa
namespace Sess
open Go.RowKit Blk Go.Maps
attribute [local go_sem ↓] Go.wp_at_zero Go.wp_at_succ

/-- Sessions in memory. -/
def SI (F : Nat → Prop) (w : World) (sb : Nat) (N : Int) (L : List Sn) (m : Nat) : Prop := ∃ mb A c es D, SO F w sb mb N A c L.length es L m D ∧ MapIs D L ∧ InvS N L
/-- One step: what was turned, and what the sessions are made of behind it. -/
def Stp (F : Nat → Prop) (w : World) (F' : Nat → Prop) (w' : World) : Prop := Chg F w w' ∧ ∀ k, F' k → F k ∨ w.heap.size ≤ k
section
variable {F F' F'' : Nat → Prop} {w w' w'' : World} {sb m : Nat} {N : Int} {L : List Sn}
theorem Stp.refl (F : Nat → Prop) (w : World) : Stp F w F w := ⟨Chg.refl _ _, fun _ h => .inl h⟩
theorem Stp.of_below (h : Below w.heap.size w w') : Stp F w F w' := ⟨Chg.of_below h, fun _ h => .inl h⟩
theorem Stp.trans (h : Stp F w F' w') (h' : Stp F' w' F'' w'') : Stp F w F'' w'' := ⟨h.1.trans h'.1 h.2, fun k hk => (h'.2 k hk).elim (h.2 k) fun e => .inr (Nat.le_trans h.1.size e)⟩
theorem SI.lt (h : SI F w sb N L m) : ∀ k, F k → k < w.heap.size := by obtain ⟨mb, A, c, es, D, hs, _⟩ := h; exact hs.lt
theorem SI.below (h : SI F w sb N L m) (hb : Below w.heap.size w w') : SI F w' sb N L m := by obtain ⟨mb, A, c, es, D, hs, hr⟩ := h; exact ⟨mb, A, c, es, D, hs.below hb, hr⟩
theorem SI.chg {G : Nat → Prop} (h : SI F w sb N L m) (hb : Chg G w w') (hG : ∀ k, F k → ¬ G k) : SI F w' sb N L m := by obtain ⟨mb, A, c, es, D, hs, hr⟩ := h; exact ⟨mb, A, c, es, D, hs.chg hb hG, hr⟩
end

def NewPost (sites : Int) (w : World) (e : Ending) (w' : World) : Prop := Below w.heap.size w w' ∧ ((¬ (1 ≤ sites ∧ sites ≤ 16) ∧ e = .returned (.tuple #[.pointer none, .int .i64 1])) ∨ ((1 ≤ sites ∧ sites ≤ 16) ∧ ∃ F sb, e = .returned (.tuple #[hd sb, .int .i64 0]) ∧ SI F w' sb sites [] 0 ∧ ∀ k, F k → w.heap.size ≤ k))
theorem new_any (sites : Int) (w : World) :
    Calls Try.prog 6 #[.int .i64 sites] w (NewPost sites w) := by
  have hmm := @run_makeMap Try.prog
  by_cases h1 : sites < 1
  · have d1 : decide (sites < 1) = true := decide_eq_true h1
    have H := Lib.hid (show ¬ (1 ≤ sites ∧ sites ≤ 16) by omega)
    go_enter Try.func6, Try.ntmps6
    go_wp2_with fail
    go_ret2
    exact ⟨Below.refl _ _, .inl ⟨H.out, rfl⟩⟩
  · have d1 : decide (sites < 1) = false := decide_eq_false h1
    by_cases h2 : 16 < sites
    · have d2 : decide (16 < sites) = true := decide_eq_true h2
      have H := Lib.hid (show ¬ (1 ≤ sites ∧ sites ≤ 16) by omega)
      go_enter Try.func6, Try.ntmps6
      go_wp2_with fail
      go_ret2
      exact ⟨Below.refl _ _, .inl ⟨H.out, rfl⟩⟩
    · have d2 : decide (16 < sites) = false := decide_eq_false h2
      have H := Lib.hid (show 1 ≤ sites ∧ sites ≤ 16 by omega)
      obtain ⟨U, hU⟩ : ∃ U, (w.alloc (.map #[] 0)).alloc (.cells #[.int .i64 sites, .slice none 0 0, .map (some w.heap.size)] 63) = U := ⟨_, rfl⟩
      have hb : Below w.heap.size w U := by rw [← hU]; exact ((Below.refl _ w).alloc (Nat.le_refl _) _).alloc (by simp) _
      have hS : Hid (SI (fun k => k = w.heap.size ∨ k = w.heap.size + 1) U (w.heap.size + 1) sites [] 0) := Lib.hid (by
        have hm := World.ownsMap_made (H := Unit) w Try.prog 2 (plainElem Try.prog 3)
        have hB : Bn (w.heap.size + 1) 63 [.int .i64 sites, .slice none 0 0, .map (some w.heap.size)] U := by
          rw [← hU]
          have h := heap_alloc_new (w.alloc (.map #[] 0)) (.cells #[.int .i64 sites, .slice none 0 0, .map (some w.heap.size)] 63)
          rw [World.size_alloc] at h
          exact h
        refine ⟨w.heap.size, none, 0, [], .map [], ⟨⟨hB, World.ownsRow_nil _ _ _ _, by rw [← hU]; exact hm.alloc _⟩, ⟨rfl, rfl, List.nodup_nil, fun i x e hx => by simp at hx⟩, .inr rfl, .inl rfl, (fun g hg => by cases hg), fun k hk => by rw [← hU]; simp; omega⟩, map_nil, inv_nil _⟩)
      have HB := Lib.hid hb
      have HU := Lib.hid hU
      clear hb hU
      go_enter Try.func6, Try.ntmps6
      go_wp2_with fail
      rw [HU.out]
      go_ret2
      exact ⟨HB.out, .inr ⟨H.out, _, _, rfl, hS.out, fun k hk => by omega⟩⟩

theorem open_any {F : Nat → Prop} {w : World} {sb m : Nat} {N : Int} {L : List Sn} (h : SI F w sb N L m) (hn : L.length ≤ 10000000000000) (site : Int) :
    Calls Try.prog 8 #[hd sb, .int .i64 site] w (fun e w' => e = .returned (.tuple #[.int .i64 (openF N L site).2.1, .int .i64 (openF N L site).2.2]) ∧ ∃ F', SI F' w' sb N (openF N L site).1 m ∧ Stp F w F' w') := by
  obtain ⟨mb, A, c, es, D, hS, hM, hI⟩ := h
  have h1 := isSite_any hS.1.1 site
  by_cases hs : 1 ≤ site ∧ site ≤ N
  · rw [decide_eq_true hs] at h1
    rw [show openF N L site = (L ++ [(site, [], 0)], (L.length : Int) + 1, 0) from if_pos hs]
    obtain ⟨i0, hi0, hz0, hz1, hz2⟩ := info_parts (show (Try.prog.info? 65).map (fun i => (i.zero, i.size, i.bytes)) = some (some (.pointer none), 1, 8) by kernel_rfl)
    obtain ⟨n, hnn⟩ : ∃ n, L.length = n := ⟨_, rfl⟩
    rw [hnn] at hS hn ⊢
    obtain ⟨U, hU⟩ : ∃ U, (w.alloc (.cells #[.int .i64 site, .slice none 0 0, .int .i64 0] 67)).alloc (.cells #[.pointer (some ⟨w.heap.size, 0, none⟩)] 65) = U := ⟨_, rfl⟩
    have c1 := hS.1.1.cell 1
    simp only [List.getElem?_cons_succ, List.getElem?_cons_zero] at c1
    have hown : ((w.alloc (.cells #[.int .i64 site, .slice none 0 0, .int .i64 0] 67)).alloc (.cells #[.pointer (some ⟨w.heap.size, 0, none⟩)] 65)).ownsRow 0 65 1 (.slice A n c) n (ptrs es) := (hS.1.2.1.alloc _).alloc _
    have hsb := hS.lt sb hS.2.2.1
    have hbU : Bn sb 63 [.int .i64 N, .slice A n c, .map (some mb)] ((w.alloc (.cells #[.int .i64 site, .slice none 0 0, .int .i64 0] 67)).alloc (.cells #[.pointer (some ⟨w.heap.size, 0, none⟩)] 65)) := (hS.1.1.kept (World.grownBy_alloc _ _ none) (by simp)).kept (World.grownBy_alloc _ _ none) (by simp)
    have H1 := Lib.hid h1
    have HO := Lib.hid (And.intro hown hbU)
    have HS := Lib.hid (And.intro hS (And.intro hM (And.intro hI (And.intro hnn hs))))
    clear h1 hS hM hI hnn hs hown hbU hU
    go_enter Try.func8, Try.ntmps8
    go_wp2_with fail
    refine H1.out.mono ?_
    rintro e w1 ⟨rfl, rfl⟩
    go_wp2_with (at_builtin; go_loud (refine wpList_append_lies _ rfl _ _ _ rfl 0 65 i0 _ 1 8 Try.underlying61 hi0 hz0 hz1 hz2 rfl (by omega) (.slice A n c) n (ptrs es) rfl HO.out.1 ⟨w1.heap.size + 1, 0, none⟩ 1 1 [.pointer (some ⟨w1.heap.size, 0, none⟩)] rfl rfl (World.news_of_block (by have h := heap_alloc_new (w1.alloc (.cells #[.int .i64 site, .slice none 0 0, .int .i64 0] 67)) (.cells #[.pointer (some ⟨w1.heap.size, 0, none⟩)] 65); rw [World.size_alloc] at h; exact h)) (by simp [Value.oneCell']) (by omega) (by unfold maxLen; omega) (by omega) (by omega) _ rfl ?_); intro g7 cap7 w7 o7 gr7 at7 hl7; have b7 := HO.out.2.kept gr7 (fun q => own_ne HO.out.1 HO.out.2 (by decide) q.symm); have k1 := b7.cell 1; have f1 := b7.frozen 1; simp only [List.getElem?_cons_succ, List.getElem?_cons_zero] at k1)
    have hP := HS.out.1.push (site := site) (site0 := w1.heap.size) rfl o7 gr7 at7 rfl
    have hgz := gset w7 sb 1 (.slice (some ⟨g7, 0, none⟩) (n + 1) cap7)
    have hC : Stp F w1 (fun k => F k ∨ (w1.heap.size ≤ k ∧ k < w7.heap.size)) (w7.setCell ⟨sb, 1, none⟩ (.slice (some ⟨g7, 0, none⟩) (n + 1) cap7)) := by
      refine ⟨((Chg.of_below (((Below.refl _ w1).alloc (Nat.le_refl _) _).alloc (by simp) _)).trans (Chg.of_grown gr7 fun g hg => HS.out.1.2.2.2.2.1 g hg) fun k hk => .inl hk).trans (Chg.of_grown hgz fun g hg => by injection hg with hg; subst hg; exact HS.out.1.2.2.1) fun k hk => .inl hk, fun k hk => hk.elim .inl fun e => .inr e.1⟩
    have k2 := hP.1.1.cell 1
    simp only [List.getElem?_cons_succ, List.getElem?_cons_zero] at k2
    have HP := Lib.hid (And.intro hP hC)
    clear hP hC hgz o7 gr7 at7 b7
    go_wp2_with fail
    go_ret2
    refine ⟨rfl, _, ⟨mb, some ⟨g7, 0, none⟩, cap7, es ++ [(w1.heap.size, none, 0)], D, ?_, map_open HS.out.2.1 site, inv_open HS.out.2.2.1 HS.out.2.2.2.2⟩, HP.out.2⟩
    rw [List.length_append, List.length_singleton, HS.out.2.2.2.1]
    exact HP.out.1
  · rw [decide_eq_false hs] at h1
    rw [show openF N L site = (L, 0, 1) from if_neg hs]
    have H1 := Lib.hid h1
    have HS := Lib.hid (show SI F w sb N L m from ⟨mb, A, c, es, D, hS, hM, hI⟩)
    clear h1 hS hM hI hs
    go_enter Try.func8, Try.ntmps8
    go_wp2_with fail
    refine H1.out.mono ?_
    rintro e w1 ⟨rfl, rfl⟩
    go_wp2_with fail
    go_ret2
    exact ⟨rfl, F, HS.out, Stp.refl _ _⟩

section
variable {F : Nat → Prop} {w : World} {sb m : Nat} {N : Int} {L : List Sn}
theorem token_any (h : SI F w sb N L m) (hn : L.length ≤ 10000000000000) (k : Int) :
    Calls Try.prog 21 #[hd sb, .int .i64 k] w (fun e w' => ∃ A1 c1 n1, e = .returned (.slice A1 n1 c1) ∧ (tokF L k).length = n1 ∧ w'.ownsRow w.heap.size 5 1 (.slice A1 n1 c1) n1 (nums .u8 (tokF L k)) ∧ Below w.heap.size w w') := by
  obtain ⟨mb, A, c, es, D, hS, hM, hI⟩ := h
  by_cases hk : inF L k
  · have hx := getF_at hk
    have hk2 := (hS.inF k).1 hk
    obtain ⟨i, hi⟩ : ∃ i : Nat, (k - 1).toNat = i := ⟨_, rfl⟩
    have hki : k = (i : Int) + 1 := by omega
    rw [hi] at hx
    have hil : i < L.length := (List.getElem?_eq_some_iff.1 hx).1
    obtain ⟨x', e, hx', he, hse⟩ := hS.at hil
    rw [show tokF L k = (getF L k).2.1 from if_pos hk]
    obtain ⟨x, hxe⟩ : ∃ x, getF L k = x := ⟨_, rfl⟩
    rw [hxe] at hx ⊢
    rw [hx] at hx'
    injection hx' with hx'
    subst hx'
    have h1 := get_some hS (by omega) i e he k hki
    obtain ⟨tn, htn⟩ : ∃ tn, x.2.1.length = tn := ⟨_, rfl⟩
    have hb := hse.1
    have ho := hse.2.1
    have hsm := (hI.1 x (List.mem_of_getElem? hx)).2.2.1
    unfold cellsS tokV at hb
    unfold tokV at ho
    rw [htn] at hb ho hsm ⊢
    have c1 := hb.cell 1
    simp only [List.getElem?_cons_succ, List.getElem?_cons_zero] at c1
    have h2 := clone_any e.2.1 e.2.2 tn x.2.1 htn w.heap.size w (Nat.le_refl _) (own_ns (by rw [htn]; exact ho)) hsm
    rw [show ptr e = .pointer (some ⟨e.1, 0, none⟩) from rfl] at h1
    have H1 := Lib.hid h1
    have H2 := Lib.hid h2
    clear h1 h2 hb ho hS hM hI hx he hse hxe htn hi hki hk2 hk hil hsm
    go_enter Try.func21, Try.ntmps21
    go_wp2_with fail
    refine H1.out.mono ?_
    rintro e1 w1 ⟨rfl, rfl⟩
    go_wp2_with fail
    refine H2.out.mono ?_
    rintro e2 w2 ⟨A1, c1, rfl, o1, b1⟩
    have HE := Lib.hid (And.intro o1 b1)
    clear o1 b1
    go_wp2_with fail
    go_ret
    exact ⟨A1, c1, tn, rfl, rfl, HE.out.1, HE.out.2⟩
  · rw [show tokF L k = [] from if_neg hk]
    have H1 := Lib.hid (get_none hS k hk)
    clear hS hM hI hk
    go_enter Try.func21, Try.ntmps21
    go_wp2_with fail
    refine H1.out.mono ?_
    rintro e1 w1 ⟨rfl, rfl⟩
    go_wp2_with fail
    go_ret
    exact ⟨none, 0, 0, rfl, rfl, World.ownsRow_nil _ _ _ _, Below.refl _ _⟩
theorem site_any (h : SI F w sb N L m) (hn : L.length ≤ 10000000000000) (k : Int) :
    Calls Try.prog 20 #[hd sb, .int .i64 k] w (fun e w' => e = .returned (.int .i64 (siteF L k)) ∧ w' = w) := by
  obtain ⟨mb, A, c, es, D, hS, hM, hI⟩ := h
  by_cases hk : inF L k
  · have hx := getF_at hk
    have hk2 := (hS.inF k).1 hk
    obtain ⟨i, hi⟩ : ∃ i : Nat, (k - 1).toNat = i := ⟨_, rfl⟩
    have hki : k = (i : Int) + 1 := by omega
    rw [hi] at hx
    have hil : i < L.length := (List.getElem?_eq_some_iff.1 hx).1
    obtain ⟨x', e, hx', he, hse⟩ := hS.at hil
    rw [show siteF L k = (getF L k).1 from if_pos hk]
    obtain ⟨x, hxe⟩ : ∃ x, getF L k = x := ⟨_, rfl⟩
    rw [hxe] at hx ⊢
    rw [hx] at hx'
    injection hx' with hx'
    subst hx'
    have h1 := get_some hS (by omega) i e he k hki
    have c0 := hse.1.cell 0
    unfold cellsS at c0
    simp only [List.getElem?_cons_zero] at c0
    rw [show ptr e = .pointer (some ⟨e.1, 0, none⟩) from rfl] at h1
    have H1 := Lib.hid h1
    clear h1 hS hM hI hx he hse hxe hi hki hk2 hk hil
    go_enter Try.func20, Try.ntmps20
    go_wp2_with fail
    refine H1.out.mono ?_
    rintro e1 w1 ⟨rfl, rfl⟩
    go_wp2_with fail
    go_ret
    exact ⟨rfl, rfl⟩
  · rw [show siteF L k = 0 from if_neg hk]
    have H1 := Lib.hid (get_none hS k hk)
    clear hS hM hI hk
    go_enter Try.func20, Try.ntmps20
    go_wp2_with fail
    refine H1.out.mono ?_
    rintro e1 w1 ⟨rfl, rfl⟩
    go_wp2_with fail
    go_ret
    exact ⟨rfl, rfl⟩
end
end Sess
end Go.Proofs.Ytnmkhccgaedigaa
