/-
  inbox.Ready and Clean.
-/
import Derived.Test.YtiempgabamheiaaInboxReady
namespace Go.Proofs.Ytiempgabamheiaa
namespace Inbox
open Go.RowKit Vers Span Blk
attribute [local go_sem ↓] Go.wp_at_zero Go.wp_at_succ

set_option maxRecDepth 100000 in
set_option maxHeartbeats 1000000 in
theorem ready_any {F : Nat → Prop} {w : World} {nb : Nat} {room : Int} {P : List Fr} (h : IN 81 35 F w nb room P) (hP : ∀ y ∈ P, okF y) (hPl : P.length ≤ 1759218604390)
    (A : Option Addr) (c n : Nat) (v : List Int) (hn : v.length = n) (hbig : n ≤ 140737488355328) (hvv : Ns .i64 w w.heap.size A v) :
    Calls Try.prog 13 #[hd nb, .slice A n c] w (ReadyPost 81 35 F nb room P v w) := by
  obtain ⟨Aw, cw, nw, l, e, hS⟩ := h
  have hlP : l.length = P.length := by rw [← e, List.length_map]
  have hnw : nw ≤ 1759218604390 := by rw [← hS.2.1.1, hlP]; exact hPl
  obtain ⟨U, hU⟩ : ∃ U, w.alloc (.cells #[.slice A n c] 36) = U := ⟨_, rfl⟩
  have bU : Below w.heap.size w U := by rw [← hU]; exact (Below.refl _ w).alloc (Nat.le_refl _) _
  have sU : U.heap.size = w.heap.size + 1 := by rw [← hU]; simp
  have BU : Bn w.heap.size 36 [.slice A n c] U := by rw [← hU]; exact heap_alloc_new w _
  obtain ⟨V, hV⟩ : ∃ V, U.alloc (.cells #[.int .i64 0, .int .i64 0, .string ⟨#[]⟩, .slice none 0 0, .slice none 0 0] 35) = V := ⟨_, rfl⟩
  have bV : Below U.heap.size U V := by rw [← hV]; exact (Below.refl _ U).alloc (Nat.le_refl _) _
  have BV : Bn U.heap.size 35 [.int .i64 0, .int .i64 0, .string ⟨#[]⟩, .slice none 0 0, .slice none 0 0] V := by rw [← hV]; exact heap_alloc_new U _
  have sV : V.heap.size = w.heap.size + 2 := by rw [← hV]; simp [sU]
  rw [sU] at BV
  have BU' := BU.same (bV.block _ BU.lt)
  have bW : Below w.heap.size w V := bU.trans (bV.mono bU.size)
  have hSV := hS.below bW
  have hmem : ∀ x ∈ l, x.1 ∈ P := fun x hx => by rw [← e]; exact List.mem_map_of_mem hx
  have hD := drop_any hSV hnw 1 40 (fun a W => by simp [go_sem]) (.pointer (some ⟨w.heap.size, 0, none⟩)) (fun x => decide (mayF v x.1)) (fun W hW x hx m k hm hk => by
    obtain ⟨⟨⟨f1, f2⟩, ⟨k1, v1⟩, rr⟩, ⟨a1, c1⟩, ⟨a2, c2⟩⟩ := x
    obtain ⟨hm1, hov⟩ := ok_one (hP _ (hmem _ hx))
    obtain ⟨i, hi⟩ := List.getElem?_of_mem hx
    obtain ⟨g, _, _, _, _, hv1, _⟩ := hSV.at hi
    simp only at hm hk hm1
    obtain rfl : m = 1 := by omega
    have h1 := ready1_any f1 f2 k1 a1 c1 v1 a2 k c2 A c n v hm1 hov hn hbig w.heap.size W ((hW.cell (p := ⟨w.heap.size, 0, none⟩) (BU'.lt)).trans ((BU'.cell 0).trans rfl)) ((hv1.below hW).more hW.size) ((hvv.below (bW.trans (hW.mono bW.size))).more (Nat.le_trans bW.size hW.size))
    refine h1.mono fun e' w' ⟨he, hb⟩ => ⟨?_, hb⟩
    rw [he]
    congr 2)
  have hmap := dropF_map 1 (fun x => decide (mayF v x)) (Prod.fst : FE → Fr) l
  rw [e] at hmap
  have hnb : nb < w.heap.size := hS.lt nb hS.2.2.1
  have HB := Lib.hid (And.intro bW (And.intro BV (And.intro sV (And.intro hSV (And.intro hS.lt hnb)))))
  have HM := Lib.hid hmap
  have HL := Lib.hid hmem
  rcases ready_is (fun x : FE => decide (mayF v x.1)) l with ⟨h0, hnone⟩ | ⟨i, x, hx, hpx, _, h1⟩
  · rw [h0] at hD hmap
    have HD := Lib.hid hD
    have HE := Lib.hid hmap
    clear hD hmap h0 hnone hP e hS hlP hvv hn bW BV sV hSV bU BU BU' bV hmem HM
    go_enter Try.func13, Try.ntmps13
    go_wp2_with fail
    refine HD.out.mono ?_
    rintro e w2 ⟨A1, c1, rfl, h2⟩
    have hc := h2.out.2.2
    have B2 := HB.out.2.1.same (hc.block _ (by have := HB.out.2.2.1; omega) (by omega))
    have x0 := (B2.cell 0).trans rfl
    have x1 := (B2.cell 1).trans rfl
    have x2 := (B2.cell 2).trans rfl
    have x3 := (B2.cell 3).trans rfl
    have x4 := (B2.cell 4).trans rfl
    have f0' := B2.frozen 0
    have f1' := B2.frozen 1
    have f2' := B2.frozen 2
    have f3' := B2.frozen 3
    have f4' := B2.frozen 4
    have BY := five_bn B2 (.int .i64 0) (.int .i64 0) (.string ⟨#[]⟩) (.slice none 0 0) (.slice none 0 0)
    have gY := five_grown w2 (w.heap.size + 1) (.int .i64 0) (.int .i64 0) (.string ⟨#[]⟩) (.slice none 0 0) (.slice none 0 0)
    obtain ⟨Y, hY⟩ : ∃ Y, five w2 (w.heap.size + 1) (.int .i64 0) (.int .i64 0) (.string ⟨#[]⟩) (.slice none 0 0) (.slice none 0 0) = Y := ⟨_, rfl⟩
    rw [hY] at BY gY
    unfold five at hY
    have y0 := (BY.cell 0).trans rfl
    have y1 := (BY.cell 1).trans rfl
    have y2 := (BY.cell 2).trans rfl
    have y3 := (BY.cell 3).trans rfl
    have y4 := (BY.cell 4).trans rfl
    have hR : ReadyPost 81 35 F nb room P v w (.returned (.tuple #[.agg #[.int .i64 0, .int .i64 0, .string ⟨#[]⟩, .slice none 0 0, .slice none 0 0], .bool false])) Y := by
      obtain ⟨_, ⟨A', c', F', hIO, hst⟩, _⟩ := h2.out
      have hsV := HB.out.2.2.1
      have hcY : Chg (fun k => k = w.heap.size + 1) w2 Y := Chg.of_grown gY fun g hg => by injection hg with hg; exact hg.symm
      have hF : ∀ k, F' k → ¬ k = w.heap.size + 1 := fun k hk q => by
        rcases hst.2 k hk with h | h
        · have := HB.out.2.2.2.2.1 k h
          omega
        · omega
      refine ⟨⟨F', Lib.hid ⟨?_, ?_⟩⟩, .inl ⟨by rw [HE.out]; rfl, rfl⟩⟩
      · rw [HE.out]
        exact ⟨_, _, _, _, rfl, hIO.chg hcY hF⟩
      · refine ⟨((Chg.of_below HB.out.1).trans hst.1 fun k hk => .inl hk).trans hcY fun k hk => .inr (by omega), fun k hk => (hst.2 k hk).imp id fun q => by omega⟩
    have HR := Lib.hid hR
    clear hR BY gY B2 hc h2
    go_wp2_with fail
    refine bodyPost_ret (v := .tuple #[.agg #[.int .i64 0, .int .i64 0, .string ⟨#[]⟩, .slice none 0 0, .slice none 0 0], .bool false]) ?_ rfl HR.out
    rw [results_cell_tmp rfl]
    go_simp
  · rw [h1] at hD hmap
    have HD := Lib.hid hD
    have hxm := List.mem_of_getElem? hx
    have HE := Lib.hid (And.intro hmap (And.intro hxm (of_decide_eq_true hpx)))
    have hok1 := (ok_one (hP _ (hmem _ hxm))).1
    obtain ⟨⟨⟨f1, f2⟩, ⟨k1, v1⟩, rr⟩, ⟨a1, c1⟩, ⟨a2, c2⟩⟩ := x
    obtain ⟨r1, hr1⟩ : ∃ r, rr.length = r := ⟨_, rfl⟩
    have HR1 := Lib.hid (And.intro hr1 hok1)
    clear hD hmap h1 hpx hxm hx hok1 hr1 hP e hS hlP hvv hn bW BV sV hSV bU BU BU' bV HM
    go_enter Try.func13, Try.ntmps13
    go_wp2_with fail
    refine HD.out.mono ?_
    rintro e w2 ⟨A1, c3, rfl, h2⟩
    have hc := h2.out.2.2
    have B2 := HB.out.2.1.same (hc.block _ (by have := HB.out.2.2.1; omega) (by omega))
    have x0 := (B2.cell 0).trans rfl
    have x1 := (B2.cell 1).trans rfl
    have x2 := (B2.cell 2).trans rfl
    have x3 := (B2.cell 3).trans rfl
    have x4 := (B2.cell 4).trans rfl
    have f0' := B2.frozen 0
    have f1' := B2.frozen 1
    have f2' := B2.frozen 2
    have f3' := B2.frozen 3
    have f4' := B2.frozen 4
    have ho := h2.out.1
    obtain ⟨g, cap, hv, _, hg⟩ := ho.form (by simp)
    injection hv with hA _ hcap
    subst hA
    have hat : ∀ r, r < 5 → w2.cell? ⟨g, r, none⟩ = (fc (((f1, f2), (k1, v1), rr), (a1, c1), (a2, c2)))[r]? := fun r hr => by
      have h5 := ho
      rw [hcap] at h5
      have := h5.cellAt r (by simp; omega)
      rw [this, fcs_one]
    have q0 : w2.cell? ⟨g, 0, none⟩ = some (.int .i64 f1) := hat 0 (by omega)
    have q1 : w2.cell? ⟨g, 1, none⟩ = some (.int .i64 f2) := hat 1 (by omega)
    have q2 : w2.cell? ⟨g, 2, none⟩ = some (.string k1) := hat 2 (by omega)
    have q3 : w2.cell? ⟨g, 3, none⟩ = some (.slice a1 1 c1) := by rw [← HR1.out.2]; exact hat 3 (by omega)
    have q4 : w2.cell? ⟨g, 4, none⟩ = some (.slice a2 r1 c2) := by rw [← HR1.out.1]; exact hat 4 (by omega)
    have BY := five_bn B2 (.int .i64 f1) (.int .i64 f2) (.string k1) (.slice a1 1 c1) (.slice a2 r1 c2)
    have gY := five_grown w2 (w.heap.size + 1) (.int .i64 f1) (.int .i64 f2) (.string k1) (.slice a1 1 c1) (.slice a2 r1 c2)
    obtain ⟨Y, hY⟩ : ∃ Y, five w2 (w.heap.size + 1) (.int .i64 f1) (.int .i64 f2) (.string k1) (.slice a1 1 c1) (.slice a2 r1 c2) = Y := ⟨_, rfl⟩
    rw [hY] at BY gY
    unfold five at hY
    have y0 := (BY.cell 0).trans rfl
    have y1 := (BY.cell 1).trans rfl
    have y2 := (BY.cell 2).trans rfl
    have y3 := (BY.cell 3).trans rfl
    have y4 := (BY.cell 4).trans rfl
    have hR : ReadyPost 81 35 F nb room P v w (.returned (.tuple #[.agg #[.int .i64 f1, .int .i64 f2, .string k1, .slice a1 1 c1, .slice a2 r1 c2], .bool true])) Y := by
      obtain ⟨_, ⟨A', c', F', hIO, hst⟩, _⟩ := h2.out
      have hsV := HB.out.2.2.1
      have hcY : Chg (fun k => k = w.heap.size + 1) w2 Y := Chg.of_grown gY fun g hg => by injection hg with hg; exact hg.symm
      have hF : ∀ k, F' k → ¬ k = w.heap.size + 1 := fun k hk q => by
        rcases hst.2 k hk with h | h
        · have := HB.out.2.2.2.2.1 k h
          omega
        · omega
      obtain ⟨s1, L, B, g1, g2, g3⟩ := HB.out.2.2.2.1.2.1.2 _ HE.out.2.1
      have g4 := (g1.heap fun k a b => hc.block k (by omega) (g3 k a b).2.1).heap fun k a b => hcY.block k (by have := hc.size; omega) (fun q => by have := HB.out.2.2.2.2.1 k (g3 k a b).1; omega)
      have hsY := hcY.size
      have hs2 := hc.size
      refine ⟨⟨F', Lib.hid ⟨?_, ?_⟩⟩, .inr ⟨((f1, f2), (k1, v1), rr), a1, c1, a2, c2, r1, rfl, Lib.hid ⟨by rw [HE.out.1]; rfl, HR1.out.1, HL.out _ HE.out.2.1, HE.out.2.2, s1, L, B, g4, by omega, fun k a b => (g3 k a b).1⟩⟩⟩
      · rw [HE.out.1]
        exact ⟨_, _, _, _, rfl, hIO.chg hcY hF⟩
      · refine ⟨((Chg.of_below HB.out.1).trans hst.1 fun k hk => .inl hk).trans hcY fun k hk => .inr (by omega), fun k hk => (hst.2 k hk).imp id fun q => by omega⟩
    have HR := Lib.hid hR
    clear hR BY gY B2 hc h2 hat hg ho hcap
    go_wp2_with fail
    refine bodyPost_ret (v := .tuple #[.agg #[.int .i64 f1, .int .i64 f2, .string k1, .slice a1 1 c1, .slice a2 r1 c2], .bool true]) ?_ rfl HR.out
    rw [results_cell_tmp rfl]
    go_simp

set_option maxRecDepth 100000 in
set_option maxHeartbeats 1000000 in
theorem clean_any {F : Nat → Prop} {w : World} {nb : Nat} {room : Int} {P : List Fr} (h : IN 81 35 F w nb room P) (hP : ∀ y ∈ P, okF y) (hPl : P.length ≤ 1759218604390)
    (A : Option Addr) (c n : Nat) (v : List Int) (hn : v.length = n) (hbig : n ≤ 140737488355328) (hvv : Ns .i64 w w.heap.size A v) (k : Nat) (hk : (P.filter fun x => decide (covF v x)).length = k) :
    Calls Try.prog 17 #[hd nb, .slice A n c] w (CleanPost 81 35 F nb room P v k w) := by
  obtain ⟨Aw, cw, nw, l, e, hS⟩ := h
  have hlP : l.length = P.length := by rw [← e, List.length_map]
  have hnw : nw ≤ 1759218604390 := by rw [← hS.2.1.1, hlP]; exact hPl
  obtain ⟨U, hU⟩ : ∃ U, w.alloc (.cells #[.slice A n c] 36) = U := ⟨_, rfl⟩
  have bU : Below w.heap.size w U := by rw [← hU]; exact (Below.refl _ w).alloc (Nat.le_refl _) _
  have sU : U.heap.size = w.heap.size + 1 := by rw [← hU]; simp
  have BU : Bn w.heap.size 36 [.slice A n c] U := by rw [← hU]; exact heap_alloc_new w _
  have hSV := hS.below bU
  have hmem : ∀ x ∈ l, x.1 ∈ P := fun x hx => by rw [← e]; exact List.mem_map_of_mem hx
  have hD := drop_any hSV hnw (nw : Int) 42 (fun a W => by simp [go_sem]) (.pointer (some ⟨w.heap.size, 0, none⟩)) (fun x => decide (covF v x.1)) (fun W hW x hx m k hm hk => by
    obtain ⟨⟨⟨f1, f2⟩, ⟨k1, v1⟩, rr⟩, ⟨a1, c1⟩, ⟨a2, c2⟩⟩ := x
    obtain ⟨hm1, hov⟩ := ok_one (hP _ (hmem _ hx))
    obtain ⟨i, hi⟩ := List.getElem?_of_mem hx
    obtain ⟨g, _, _, _, _, hv1, _⟩ := hSV.at hi
    simp only at hm hk hm1
    obtain rfl : m = 1 := by omega
    have h1 := clean1_any f1 f2 k1 a1 c1 v1 a2 k c2 A c n v hm1 hn hbig w.heap.size W ((hW.cell (p := ⟨w.heap.size, 0, none⟩) (BU.lt)).trans ((BU.cell 0).trans rfl)) ((hv1.below hW).more hW.size) ((hvv.below (bU.trans (hW.mono bU.size))).more (Nat.le_trans bU.size hW.size))
    refine h1.mono fun e' w' ⟨he, hb⟩ => ⟨?_, hb⟩
    rw [he]
    congr 2)
  have hcl : dropF (nw : Int) (fun x : FE => decide (covF v x.1)) l = (l.filter fun x => decide (covF v x.1), l.filter fun x => !decide (covF v x.1)) := by
    have h := clean_is (fun x : FE => decide (covF v x.1)) l
    rwa [hS.2.1.1] at h
  rw [hcl] at hD
  have hf1 : (l.filter fun x => decide (covF v x.1)).map Prod.fst = P.filter fun x => decide (covF v x) := by
    rw [← e, List.filter_map]
    rfl
  have hf2 : (l.filter fun x => !decide (covF v x.1)).map Prod.fst = P.filter fun x => !decide (covF v x) := by
    rw [← e, List.filter_map]
    rfl
  have hk1 : (l.filter fun x => decide (covF v x.1)).length = k := by rw [← hk, ← hf1, List.length_map]
  have z1 := (hSV.1.1.cell 1).trans rfl
  have HB := Lib.hid (And.intro bU (And.intro hSV (And.intro hf1 (And.intro hf2 (And.intro hk1 (And.intro hk hmem))))))
  have HD := Lib.hid hD
  clear hD hP e hS hlP hvv hn bU hSV BU hmem hf1 hf2 hk1 hk hcl
  go_enter Try.func17, Try.ntmps17
  go_wp2_with fail
  refine HD.out.mono ?_
  rintro e w2 ⟨A1, c1, rfl, h2⟩
  rw [HB.out.2.2.2.2.1]
  go_wp2_with fail
  go_ret
  obtain ⟨ho, ⟨A', c', F', hIO, hst⟩, hc⟩ := h2.out
  obtain ⟨bU, hSV, hf1, hf2, hk1, hk, hmem⟩ := HB.out
  have hFF : ∀ k, F k → F' k ∨ F k := fun k hk => .inr hk
  have hsU := bU.size
  refine ⟨A1, c1, rfl, Lib.hid ⟨hk, fun k => F' k ∨ F k ∨ (U.heap.size ≤ k ∧ k < w2.heap.size), ⟨⟨_, _, _, _, hf2, hIO.wide (fun k hk => .inl hk) fun k hk => ?_⟩, ((Stp.of_below bU).trans hst).1, fun k hk => ?_⟩, ?_⟩⟩
  · rcases hk with hk | hk | hk
    · exact hIO.lt k hk
    · have := hSV.lt k hk
      have := hc.size
      omega
    · exact hk.2
  · rcases hk with hk | hk | hk
    · exact ((Stp.of_below bU).trans hst).2 k hk
    · exact .inl hk
    · exact .inr (by omega)
  · rw [← hf1]
    rw [hk1] at ho
    refine own_fsP ho hk1 (fun g hg => .inr (.inr (ho.lt g hg))) fun x hx => ?_
    obtain ⟨s, L, B, h1, h2, h3⟩ := drop_data hSV hc x (List.mem_filter.1 hx).1
    exact ⟨s, L, B, h1, h2, fun k a b => .inr (.inl (h3 k a b))⟩
theorem new_any (room : Int) (w : World) : Calls Try.prog 10 #[.int .i64 room] w (fun e w' => ∃ F nb, e = .returned (hd nb) ∧ Hid (IN 81 35 F w' nb (max room 0) [] ∧ (∀ k, F k → w.heap.size ≤ k) ∧ Below w.heap.size w w')) := by
  obtain ⟨U, hU⟩ : ∃ U, w.alloc (.cells #[.int .i64 (max room 0), .slice none 0 0] 81) = U := ⟨_, rfl⟩
  have bU : Below w.heap.size w U := by rw [← hU]; exact (Below.refl _ w).alloc (Nat.le_refl _) _
  have sU : U.heap.size = w.heap.size + 1 := by rw [← hU]; simp
  have BU : Bn w.heap.size 81 [.int .i64 (max room 0), .slice none 0 0] U := by rw [← hU]; exact heap_alloc_new w _
  have hI : IN 81 35 (fun k => k = w.heap.size) U w.heap.size (max room 0) [] := ⟨none, 0, 0, [], rfl, ⟨BU, World.ownsRow_nil _ _ _ _⟩, ⟨rfl, by simp⟩, rfl, (fun g hg => by cases hg), fun k hk => by omega⟩
  have HI := Lib.hid (And.intro hI bU)
  have HU := Lib.hid hU
  clear hI bU BU hU
  by_cases hr : room < 0
  · have hm : max room 0 = 0 := by omega
    rw [hm] at HI HU ⊢
    clear hm
    go_enter Try.func10, Try.ntmps10
    go_wp2_with fail
    rw [HU.out]
    go_ret
    exact ⟨_, _, rfl, Lib.hid ⟨HI.out.1, fun k hk => by omega, HI.out.2⟩⟩
  · have hm : max room 0 = room := by omega
    rw [hm] at HI HU ⊢
    clear hm
    go_enter Try.func10, Try.ntmps10
    go_wp2_with fail
    rw [HU.out]
    go_ret
    exact ⟨_, _, rfl, Lib.hid ⟨HI.out.1, fun k hk => by omega, HI.out.2⟩⟩
end Inbox
end Go.Proofs.Ytiempgabamheiaa
