/-
  disk: Cut (layer 7).
-/
import Derived.Test.YtdcppjpjlhbanaaDiskTail
import Derived.Test.YtdcppjpjlhbanaaDiskRemove
namespace Go.Proofs.Ytdcppjpjlhbanaa
namespace Disk
open Go.RowKit Blk Go.Maps
attribute [local go_sem ↓] Go.wp_at_zero Go.wp_at_succ
section
variable {F : Nat → Prop} {own : Nat → Nat} {w : World} {db N : Nat} {room : Int} {es : Es} {r : List Un}
/-- The first bytes of a file alone, with no room behind. -/
def clipF (m : Nat) (y : Fl) : Fl := ⟨y.d.take m, y.A, m, y.i⟩
theorem rok_clip {F : Nat → Prop} {own : Nat → Nat} {w : World} {y : Fl} (h : ROK F own w y) {m : Nat} (hm : m ≤ y.d.length) : ROK F own w (clipF m y) := by
  obtain ⟨h1, h2, h3, h4⟩ := h
  have hl : (clipF m y).d.length = m := by unfold clipF; simp only [List.length_take]; omega
  refine ⟨by rw [hl]; exact Nat.le_refl _, fun z hz => h2 z (List.mem_of_mem_take hz), by omega, ?_⟩
  rcases h4 with ⟨q1, q2, q3⟩ | ⟨g, cur, q1, q2, q3, q4, q5, q6⟩
  · refine .inl ⟨q1, by unfold clipF; simp [q2], ?_⟩
    rw [q2] at hm
    simp at hm
    exact hm
  · refine .inr ⟨g, cur, q1, q2, q3, q4, by show m ≤ _; omega, ?_⟩
    have e1 : (clipF m y).d = y.d.take m := rfl
    rw [e1, List.length_take, ← List.take_take, q6, nums, ← List.map_take]
    rfl
theorem cut_hm (A : Option Addr) (k c : Nat) (hk : k ≤ c) : ∀ V, (Instr.slice 29 (.slice A k c) none (some (.int .i64 (k : Int))) (some (.int .i64 (k : Int)))).run Try.prog V = .ok (.slice A k k) V := fun V => by
  obtain ⟨j0, hj0, hy0, hy1, hy2⟩ := info_parts Facts.info5
  have hs := run_slice_hm (P := Try.prog) V 29 A k c Cut.elem_bytes .i64 .i64 (k : Int) (k : Int) (by omega) (by omega) (by omega)
  rw [hs, Cut.elem_byte]
  simp only [sizeOf, typeInfo, Sem.run_bind, Sem.run_pure, sliced, Int.toNat_natCast, Nat.sub_zero]
  simp [go_sem, hj0, hy1]
theorem clip_any (A : Option Addr) (k c : Nat) (hk : k ≤ c) (w : World) : Calls Try.prog 45 #[.slice A k c] w (fun e w' => e = .returned (.slice A k k) ∧ w' = w) := by
  have h1 := cut_hm A k c hk w
  clear hk
  go_enter Try.func45, Try.ntmps45
  go_wp2_with fail
  go_ret
  exact ⟨rfl, rfl⟩
set_option maxRecDepth 100000 in
set_option maxHeartbeats 4000000 in
theorem cut_ok (h : DK F own N w db room es r) (hN : N < 10000000000000) (s : Nm) (hs : 1 ≤ s.size ∧ s.size ≤ 16) (y : Fl) (hy : find es s = some y) (m : Nat) (hm : m ≤ y.d.length) :
    Calls Try.prog 27 #[hd db, .string s, .int .i64 m] w (fun e w' => e = .returned (.int .i64 0) ∧ Hid (DoneP F N w db room (wit es s (clipF m y)) r (Undone es (wit es s (clipF m y))) w')) := by
  obtain ⟨mb, A, n, c, hp⟩ := h.parts
  obtain ⟨k, hk⟩ : ∃ k, y.d.length = k := ⟨_, rfl⟩
  have hyk0 : ROK F own w y := hp.2.2.1.1 _ (find_some hy)
  have hkc : k ≤ y.c := by rw [← hk]; exact hyk0.1
  rw [hk] at hm
  obtain ⟨bd, hbd⟩ : ∃ b, w.heap.size = b := ⟨_, rfl⟩
  obtain ⟨U0, hU0⟩ : ∃ V, w.alloc (.cells #[hd db] 24) = V := ⟨_, rfl⟩
  have bU0 : Below w.heap.size w U0 := by rw [← hU0]; exact (Below.refl _ w).alloc (Nat.le_refl _) _
  have D0 : Bn bd 24 [hd db] U0 := by rw [← hU0, ← hbd]; exact heap_alloc_new w _
  obtain ⟨bn, hbn⟩ : ∃ b, U0.heap.size = b := ⟨_, rfl⟩
  obtain ⟨U1, hU1⟩ : ∃ V, U0.alloc (.cells #[.string s] 9) = V := ⟨_, rfl⟩
  have eU1 : Below U0.heap.size U0 U1 := by rw [← hU1]; exact (Below.refl _ U0).alloc (Nat.le_refl _) _
  have bU1 : Below w.heap.size w U1 := bU0.trans (eU1.mono bU0.size)
  have N0 : Bn bn 9 [.string s] U1 := by rw [← hU1, ← hbn]; exact heap_alloc_new U0 _
  have D0_U1 := D0.same (eU1.block bd D0.lt)
  have H1 := right_any s U1
  rw [decide_eq_true hs] at H1
  have H1 := Lib.hid H1
  have hC := hp.1.below bU1
  have c1 := (D0_U1.cell 0).trans rfl
  have c2 := (N0.cell 0).trans rfl
  have k2 := (hC.1.cell 2).trans rfl
  have hall : ∀ V, Below U1.heap.size U1 V → V.cell? ⟨bd, 0, none⟩ = some (hd db) ∧ V.cell? ⟨bn, 0, none⟩ = some (.string s) ∧ V.cell? ⟨db, 2, none⟩ = some (.map (some mb)) ∧ (Instr.lookup 57 (.map (some mb)) (.string s) true).run Try.prog V = .ok (.tuple #[.slice y.A k y.c, .bool true]) V := fun V hV =>
    ⟨(hV.cell D0_U1.lt).trans c1, (hV.cell N0.lt).trans c2, (hV.cell hC.1.lt).trans k2, by
      have q := MI.look_ok (w := V) (hC.below hV).2 s (ok_of hs.2)
      rw [find_map, hy] at q
      rw [← hk]
      exact q⟩
  obtain ⟨xa0, xb0, xc0, xd0⟩ := hall U1.drew (show Below U1.heap.size U1 U1.drew from (Below.refl _ U1).drew)
  obtain ⟨xa1, xb1, xc1, xd1⟩ := hall (U1.alloc (.cells #[.slice none 0 0] 29)).drew (show Below U1.heap.size U1 (U1.alloc (.cells #[.slice none 0 0] 29)).drew from ((Below.refl _ U1).alloc (Nat.le_refl _) _).drew)
  have HU := Lib.hid (And.intro hp (And.intro bU1 (And.intro D0_U1 (And.intro N0 (And.intro hC (And.intro hy (And.intro hk (And.intro hm hkc))))))))
  have HS : Hid (w.heap.size ≤ bn) := Lib.hid (by rw [← hbn]; exact bU0.size)
  have hn13 : n ≤ 10000000000000 := by have := hp.2.1.1; have := hp.2.2.2.2.1.2.2.2.1; omega
  have d1 : decide ((m : Int) < 0) = false := decide_eq_false (by omega)
  have d2 : decide ((k : Int) < (m : Int)) = false := decide_eq_false (by omega)
  have d3 : decide (k < m) = false := decide_eq_false (by omega)
  have hcut1 := Cut.cut_h y.A k y.c m (m : Int) rfl hm hkc
  clear hp bU1 D0_U1 N0 hC hy hk D0 bU0 eU1 hall h hyk0 hkc hm
  go_enter Try.func27, Try.ntmps27
  go_wp2_with fail
  refine H1.out.mono ?_
  rintro e w2 ⟨rfl, rfl⟩
  go_wp2_with fail
  go_cut [7, 8] (fun v5 v6 V => ∃ bw, v5 = pt bw ∧ v6 = .bool true ∧ Hid (Bn bw 29 [.slice y.A k y.c] V ∧ Below w2.heap.size w2 V ∧ w2.heap.size ≤ bw))
  case first =>
    go_region
    all_goals
      go_wp2_with fail
      go_meet
      exact ⟨_, rfl, rfl, Lib.hid (by have q := one_new w2 29 (.slice y.A k y.c); exact ⟨q.1, q.2.drew, Nat.le_refl _⟩)⟩
  case rest =>
  obtain ⟨bw, rfl, rfl, hbx⟩ := hcut
  have bwc : Below w.heap.size w wc := HU.out.2.1.trans (hbx.out.2.1.mono HU.out.2.1.size)
  have D2 := HU.out.2.2.1.same (hbx.out.2.1.block bd HU.out.2.2.1.lt)
  have N2 := HU.out.2.2.2.1.same (hbx.out.2.1.block bn HU.out.2.2.2.1.lt)
  have C2 := HU.out.2.2.2.2.1.below hbx.out.2.1
  have hml : (clipF m y).d.length = m := by have := HU.out.2.2.2.2.2.2; unfold clipF; simp only [List.length_take]; omega
  have H2 := Lib.hid (set_any (cor_drew C2) s (ok_of hs.2) (clipF m y) m hml (by have := HU.out.1.good.2.2.2.2.1; rw [fs_xs] at this; omega) (by have h1 := HU.out.2.2.2.2.2.2; have h2 := (HU.out.1.2.2.1.1 _ (find_some HU.out.2.2.2.2.2.1)).2.2.1; simp only at h2; omega) (by have := HU.out.1.len; omega))
  have H3 := Lib.hid (clip_any y.A m y.c (by have := HU.out.2.2.2.2.2.2; omega) wc.drew)
  have hcS : ∀ (a : Array Value) (w : World), (callFunc 38 a).run Try.prog w = .ok (.enter 38 a) w := fun a w => by simp [go_sem]
  have hcC : ∀ (a : Array Value) (w : World), (callFunc 45 a).run Try.prog w = .ok (.enter 45 a) w := fun a w => by simp [go_sem]
  have e6 : (clipF m y).A = y.A ∧ (clipF m y).c = m := ⟨rfl, rfl⟩
  rw [e6.1, e6.2] at H2
  have c1 := (D2.cell 0).trans rfl
  have c2 := (N2.cell 0).trans rfl
  have c3 := (hbx.out.1.cell 0).trans rfl
  have c4 : wc.drew.cell? ⟨bd, 0, none⟩ = some (hd db) := c1
  have c5 : wc.drew.cell? ⟨bn, 0, none⟩ = some (.string s) := c2
  have c6 : wc.drew.cell? ⟨bw, 0, none⟩ = some (.slice y.A k y.c) := c3
  have HC := Lib.hid (And.intro bwc (And.intro D2 (And.intro N2 (And.intro C2 hbx.out))))
  clear xa0 xa1 xb0 xb1 xc0 xc1 xd0 xd1 bwc D2 N2 C2 hbx k2 hml e6
  obtain ⟨wa, hwa⟩ : ∃ V, V = wc := ⟨_, rfl⟩
  subst hwa
  go_wp2_with fail
  go_cut [37] (fun _ V => Hid (Cor V db mb room A n c (wit es s (clipF m y)) ∧ Chg (Two db mb) wa.drew V))
  case first =>
    go_region_law (first
      | (refine step_call (by rfl) 45 _ _ (by rfl) (hcC _ _) #[.slice y.A m y.c] (by first | rfl | simp [Act.eval, Act.put]) H3.out (fun e w' h => ⟨_, h.1⟩) ?_; rintro v3 w3 ⟨hv3, rfl⟩; injection hv3 with hv3; subst hv3)
      | (refine step_call (by rfl) 38 _ _ (by rfl) (hcS _ _) #[hd db, .string s, .slice y.A m m] (by first | rfl | simp [Act.eval]) H2.out (fun e w' h => ⟨_, h.1⟩) ?_; rintro v4 w4 ⟨hv4, h4⟩))
    all_goals
      go_wp2_with fail
      go_meet
      exact h4
  case rest =>
  have h3 := hcut
  obtain ⟨w3, hw3⟩ : ∃ V, V = wc := ⟨_, rfl⟩
  subst hw3
  have C3 := h3.out.1
  have T3 := chg_drew h3.out.2
  have D3 := bn_two HC.out.2.2.2.1 HC.out.2.1 (by decide) T3
  have N3 := bn_two HC.out.2.2.2.1 HC.out.2.2.1 (by decide) T3
  have W3 := bn_two HC.out.2.2.2.1 HC.out.2.2.2.2.1 (by decide) T3
  have hr3 := HU.out.1.row3 HC.out.1 T3
  have hfin : ∀ (g7 cap7 : Nat) (w7 : World), w7.ownsRow 0 76 1 (.slice (some ⟨g7, 0, none⟩) (n + 1) cap7) (n + 1) (r.reverse.map Un.v ++ [(Value.func (Fn.func 46) #[] #[pt bd, pt bn, pt bw])]) → (w3.alloc (.cells #[(Value.func (Fn.func 46) #[] #[pt bd, pt bn, pt bw])] 76)).grownBy w7 (Value.slice A n c).ownBlock → ((Value.slice A n c).ownBlock = some g7 ∨ w3.heap.size ≤ g7) → g7 < w7.heap.size → DoneP F N w db room (wit es s (clipF m y)) r (Undone es (wit es s (clipF m y))) (w7.setCell ⟨db, 3, none⟩ (.slice (some ⟨g7, 0, none⟩) (n + 1) cap7)) := fun g7 cap7 w7 o7 gr7 at7 hl7 => by
    have hy := HU.out.2.2.2.2.2.1
    have hkk := HU.out.2.2.2.2.2.2.1
    have hmk := HU.out.2.2.2.2.2.2.2.1
    have hyk : ROK F own w y := HU.out.1.2.2.1.1 _ (find_some hy)
    have hX : xsE (wit es s (clipF m y)) = wit (xsE es) s (y.d.take m, y.i) := map_wit _ _ _ _
    have hXf : fsE (wit es s (clipF m y)) = wit (fsE es) s (y.d.take m) := map_wit _ _ _ _
    have hsX := HU.out.1.good.1
    have hsF := HU.out.1.1.srt.map Fl.d
    have hm0 : (s, y.x) ∈ xsE es := List.mem_map.2 ⟨_, find_some hy, rfl⟩
    have hu : undoX (.put true bd bn bw s y) 0 (xsE (wit es s (clipF m y))) = xsE es := by
      rw [hX]
      exact undo_put_X hsX (hsX.wit _ _) (by rw [show xsE es = mapV Fl.x es from rfl, find_map, hy]; rfl) (fun z hz => by rw [find_wit, if_neg hz]) true bd bn bw 0
    refine HU.out.1.tail hN HC.out.1 T3 C3 (e := .put true bd bn bw s y) ⟨hu, fun t => ?exF⟩ (fun x hx => ?hrok) ?he (fun x hx hc => ?hcap) ?hgood trivial hu ?hused ((Below.refl _ w3).alloc (Nat.le_refl _) _) o7 gr7 at7 hl7
    case exF =>
      rw [hXf]
      exact undo_put_F hsF (hsF.wit _ _) (by rw [find_map, hy]; rfl) (fun z hz => by rw [find_wit, if_neg hz]) true bd bn bw t
    case hrok =>
      rcases mem_wit.1 hx with rfl | ⟨hx, _⟩
      · exact rok_clip hyk (by omega)
      · exact HU.out.1.2.2.1.1 x hx
    case he =>
      refine ⟨⟨D3, .inr ⟨?_, D3.lt⟩⟩, ⟨N3, .inr ⟨HS.out, N3.lt⟩⟩, ⟨by rw [show y.v = .slice y.A k y.c by rw [← hkk]; rfl]; exact W3, .inr ⟨?_, W3.lt⟩⟩, hs.2, HU.out.1.lift HC.out.1 T3 hyk⟩
      · rw [← hbd]; exact Nat.le_refl _
      · have := HU.out.2.1.size; have := HC.out.2.2.2.2.2.2; omega
    case hcap =>
      rcases mem_wit.1 hx with rfl | ⟨hxm, hne⟩
      · exfalso
        apply hc
        show m = (y.d.take m).length
        rw [List.length_take]
        omega
      · refine ⟨fun y' hy' q1 q2 => ?_, x, hxm, rfl, hc, Nat.le_refl _⟩
        simp [Un.caps] at hy'
        subst hy'
        exfalso
        have hi := rok_own hyk (HU.out.1.2.2.1.1 x hxm) q1 q2
        have := nodup_id HU.out.1.good.2.1 (x := (s, y'.x)) (y := (x.1, x.2.x)) hm0 (List.mem_map.2 ⟨x, hxm, rfl⟩) hi
        exact hne (congrArg Prod.fst this).symm
    case hgood =>
      obtain ⟨g1, g2, g3, g4, g5, g6⟩ := HU.out.1.good
      rw [hX]
      refine ⟨g1.wit _ _, nodup_wit g2 fun x hx hne he => hne (congrArg Prod.fst (nodup_id g2 hx hm0 he)), fun x hx => ?_, fun x hx => ?_, ?_, ?_⟩
      · rcases mem_wit.1 hx with rfl | ⟨hx, _⟩
        · have := g3 _ hm0
          have e : (s, y.x).2.2 = y.i := rfl
          simp only
          omega
        · have := g3 x hx
          omega
      · rcases mem_wit.1 hx with rfl | ⟨hx, _⟩
        · exact hs
        · exact g4 x hx
      · rw [show fsX (wit (xsE es) s (y.d.take m, y.i)) = wit (fsX (xsE es)) s (y.d.take m) from map_wit _ _ _ _]
        have h2 := used_wit (g1.map Prod.fst) s (y.d.take m)
        have h5 : used (mapV Prod.fst (xsE es)) ≤ 1073741824 := g5
        have h6 : ((find (mapV Prod.fst (xsE es)) s).getD []).length = y.d.length := by rw [find_map, show xsE es = mapV Fl.x es from rfl, find_map, hy]; rfl
        rw [h6, List.length_take] at h2
        show used (wit (mapV Prod.fst (xsE es)) s (y.d.take m)) ≤ _
        omega
      · rw [wit, len_ins]
        have : (wout (xsE es) s).length ≤ (xsE es).length := List.length_filter_le _ _
        omega
    case hused =>
      have h1 := HU.out.1.2.2.2.2.1.2.1.head
      have h2 := used_wit hsF s (y.d.take m)
      have h6 : ((find (mapV Fl.d es) s).getD []).length = y.d.length := by rw [find_map, hy]; rfl
      rw [h6, List.length_take] at h2
      rw [hXf]
      have h3 : used (mapV Fl.d es) = used (fsE es) := rfl
      have h4 : used (wit (mapV Fl.d es) s (y.d.take m)) = used (wit (fsE es) s (y.d.take m)) := rfl
      omega
  have HFIN := Lib.hid hfin
  have HR3 := Lib.hid (And.intro hr3 (And.intro C3 D3))
  clear hfin hr3 C3 T3 D3 N3 W3 h3 H2 H3 c1 c2 c3 c4 c5 c6 hcut1 hcS hcC
  obtain ⟨i0, hi0, hz0, hz1, hz2⟩ := info_parts info_undo
  have bV : Below w3.heap.size w3 (w3.alloc (.cells #[(Value.func (Fn.func 46) #[] #[pt bd, pt bn, pt bw])] 76)) := (Below.refl _ w3).alloc (Nat.le_refl _) _
  have hrV := own_below HR3.out.1 bV (Nat.le_refl _)
  have CV := HR3.out.2.1.below bV
  have DV := HR3.out.2.2.same (bV.block bd HR3.out.2.2.lt)
  have q1 : w3.drew.cell? ⟨bd, 0, none⟩ = some (hd db) := (HR3.out.2.2.cell 0).trans rfl
  have q2 : w3.drew.cell? ⟨db, 3, none⟩ = some (.slice A n c) := (HR3.out.2.1.1.cell 3).trans rfl
  have q3 : (w3.alloc (.cells #[(Value.func (Fn.func 46) #[] #[pt bd, pt bn, pt bw])] 76)).drew.cell? ⟨bd, 0, none⟩ = some (hd db) := (DV.cell 0).trans rfl
  have q4 : (w3.alloc (.cells #[(Value.func (Fn.func 46) #[] #[pt bd, pt bn, pt bw])] 76)).drew.cell? ⟨db, 3, none⟩ = some (.slice A n c) := (CV.1.cell 3).trans rfl
  have HV := Lib.hid (And.intro hrV (And.intro CV DV))
  clear hrV CV DV bV
  go_wp2_with fail
  go_region_law (first
    | (refine step_append_lies _ (by rfl) _ _ _ (by rfl) 0 76 i0 _ 1 8 Try.underlying58 hi0 hz0 hz1 hz2 (by rfl) (by omega) (.slice A n c) n (r.reverse.map Un.v) (by rfl) HV.out.1 ⟨w3.heap.size, 0, none⟩ 1 1 [(Value.func (Fn.func 46) #[] #[pt bd, pt bn, pt bw])] (by rfl) (by rfl) (World.news_of_block (heap_alloc_new w3 _)) (by simp [Value.oneCell']) (by omega) (by unfold maxLen; omega) (by omega) (Nat.zero_le _) (w3.heap.size + 1) (by simp) ?_; intro g7 cap7 w7 o7 gr6 at7 hl7; have gr7 : (w3.alloc (.cells #[(Value.func (Fn.func 46) #[] #[pt bd, pt bn, pt bw])] 76)).grownBy w7 (Value.slice A n c).ownBlock := ⟨gr6.os, gr6.tape, gr6.output, gr6.size, gr6.block⟩; clear gr6; have r0 := (HV.out.2.1.1.kept gr7 (fun q => own_ne HV.out.1 HV.out.2.1.1 (by decide) q.symm)).cell 3; have r1 := (HV.out.2.1.1.kept gr7 (fun q => own_ne HV.out.1 HV.out.2.1.1 (by decide) q.symm)).frozen 3; have r2 := (HV.out.2.2.kept gr7 (fun q => own_ne HV.out.1 HV.out.2.2 (by decide) q.symm)).cell 0; simp only [List.getElem?_cons_zero, List.getElem?_cons_succ] at r0 r2))
  all_goals
    have HE := Lib.hid (HFIN.out g7 cap7 w7 o7 gr7 (at7.imp id fun q => by omega) hl7)
    clear o7 gr7 at7 hl7
    go_wp2_with fail
    go_ret
    exact ⟨rfl, HE⟩
end
end Disk
end Go.Proofs.Ytdcppjpjlhbanaa
