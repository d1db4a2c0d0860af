/-
  disk: Remove (layer 7).
-/
import Derived.Test.YtdcppjpjlhbanaaDiskTail
import Derived.Test.YtdcppjpjlhbanaaDiskAppend
namespace Go.Proofs.Ytdcppjpjlhbanaa
namespace Disk
open Go.RowKit Blk Go.Maps
attribute [local go_sem ↓] Go.wp_at_zero Go.wp_at_succ
section
variable {F : Nat → Prop} {own : Nat → Nat} {w : World} {db N : Nat} {room : Int} {es : Es} {r : List Un}
/-- The undo brings back what was. -/
def Undone (es es' : Es) (e : Un) : Prop := undoX e 0 (xsE es') = xsE es ∧ ∀ t, undoF e t (fsE es') = fsE es
theorem good_wout {N : Nat} {X : Xs} (h : Good N X) (s : Nm) : Good N (wout X s) := by
  obtain ⟨h1, h2, h3, h4, h5, h6⟩ := h
  refine ⟨h1.wout s, nodup_wout h2 s, fun x hx => h3 x (mem_wout.1 hx).1, fun x hx => h4 x (mem_wout.1 hx).1, ?_, Nat.le_trans (List.length_filter_le _ _) h6⟩
  have := used_wout (h1.map Prod.fst) s
  rw [show fsX (wout X s) = wout (fsX X) s from map_wout _ _ _]
  have e : used (mapV Prod.fst X) ≤ 1073741824 := h5
  show used (wout (mapV Prod.fst X) s) ≤ _
  omega
set_option maxRecDepth 100000 in
set_option maxHeartbeats 4000000 in
theorem remove_ok (h : DK F own N w db room es r) (hN : N < 10000000000000) (s : Nm) (hs : 1 ≤ s.size ∧ s.size ≤ 16) (y : Fl) (hy : find es s = some y) :
    Calls Try.prog 25 #[hd db, .string s] w (fun e w' => e = .returned (.int .i64 0) ∧ Hid (DoneP F N w db room (wout es s) r (Undone es (wout es s)) w')) := by
  obtain ⟨mb, A, n, c, hp⟩ := h.parts
  obtain ⟨k, hk⟩ : ∃ k, y.d.length = k := ⟨_, rfl⟩
  obtain ⟨bd, hbd⟩ : ∃ b, w.heap.size = b := ⟨_, rfl⟩
  obtain ⟨U0, hU0⟩ : ∃ V, w.alloc (.cells #[hd db] 24) = V := ⟨_, rfl⟩
  have bU0 : Below w.heap.size w U0 := by rw [← hU0]; exact (Below.refl _ w).alloc (Nat.le_refl _) _
  have D0 : Bn bd 24 [hd db] U0 := by rw [← hU0, ← hbd]; exact heap_alloc_new w _
  obtain ⟨bn, hbn⟩ : ∃ b, U0.heap.size = b := ⟨_, rfl⟩
  obtain ⟨U1, hU1⟩ : ∃ V, U0.alloc (.cells #[.string s] 9) = V := ⟨_, rfl⟩
  have eU1 : Below U0.heap.size U0 U1 := by rw [← hU1]; exact (Below.refl _ U0).alloc (Nat.le_refl _) _
  have bU1 : Below w.heap.size w U1 := bU0.trans (eU1.mono bU0.size)
  have N0 : Bn bn 9 [.string s] U1 := by rw [← hU1, ← hbn]; exact heap_alloc_new U0 _
  have D0_U1 := D0.same (eU1.block bd D0.lt)
  have H1 := right_any s U1
  rw [decide_eq_true hs] at H1
  have H1 := Lib.hid H1
  have hC := hp.1.below bU1
  have c1 := (D0_U1.cell 0).trans rfl
  have c2 := (N0.cell 0).trans rfl
  have k2 := (hC.1.cell 2).trans rfl
  have hall : ∀ V, Below U1.heap.size U1 V → V.cell? ⟨bd, 0, none⟩ = some (hd db) ∧ V.cell? ⟨bn, 0, none⟩ = some (.string s) ∧ V.cell? ⟨db, 2, none⟩ = some (.map (some mb)) ∧ (Instr.lookup 57 (.map (some mb)) (.string s) true).run Try.prog V = .ok (.tuple #[.slice y.A k y.c, .bool true]) V := fun V hV =>
    ⟨(hV.cell D0_U1.lt).trans c1, (hV.cell N0.lt).trans c2, (hV.cell hC.1.lt).trans k2, by
      have q := MI.look_ok (w := V) (hC.below hV).2 s (ok_of hs.2)
      rw [find_map, hy] at q
      rw [← hk]
      exact q⟩
  obtain ⟨xa0, xb0, xc0, xd0⟩ := hall U1.drew (show Below U1.heap.size U1 U1.drew from (Below.refl _ U1).drew)
  obtain ⟨xa1, xb1, xc1, xd1⟩ := hall (U1.alloc (.cells #[.slice none 0 0] 29)).drew (show Below U1.heap.size U1 (U1.alloc (.cells #[.slice none 0 0] 29)).drew from ((Below.refl _ U1).alloc (Nat.le_refl _) _).drew)
  have HU := Lib.hid (And.intro hp (And.intro bU1 (And.intro D0_U1 (And.intro N0 (And.intro hC (And.intro hy hk))))))
  have HS : Hid (w.heap.size ≤ bn) := Lib.hid (by rw [← hbn]; exact bU0.size)
  have hn13 : n ≤ 10000000000000 := by have := hp.2.1.1; have := hp.2.2.2.2.1.2.2.2.1; omega
  clear hp bU1 D0_U1 N0 hC hy hk D0 bU0 eU1 hall h
  go_enter Try.func25, Try.ntmps25
  go_wp2_with fail
  refine H1.out.mono ?_
  rintro e w2 ⟨rfl, rfl⟩
  go_wp2_with fail
  go_cut [5, 6] (fun v5 v6 V => ∃ bw, v5 = pt bw ∧ v6 = .bool true ∧ Hid (Bn bw 29 [.slice y.A k y.c] V ∧ Below w2.heap.size w2 V ∧ w2.heap.size ≤ bw))
  case first =>
    go_region
    all_goals
      go_wp2_with fail
      go_meet
      exact ⟨_, rfl, rfl, Lib.hid (by have q := one_new w2 29 (.slice y.A k y.c); exact ⟨q.1, q.2.drew, Nat.le_refl _⟩)⟩
  case rest =>
  obtain ⟨bw, rfl, rfl, hbx⟩ := hcut
  have bwc : Below w.heap.size w wc := HU.out.2.1.trans (hbx.out.2.1.mono HU.out.2.1.size)
  have D2 := HU.out.2.2.1.same (hbx.out.2.1.block bd HU.out.2.2.1.lt)
  have N2 := HU.out.2.2.2.1.same (hbx.out.2.1.block bn HU.out.2.2.2.1.lt)
  have C2 := HU.out.2.2.2.2.1.below hbx.out.2.1
  have H2 := Lib.hid (drop_any C2 s (ok_of hs.2) (by have := HU.out.1.good.2.2.2.2.1; rw [fs_xs] at this; omega))
  have c1 := (D2.cell 0).trans rfl
  have c2 := (N2.cell 0).trans rfl
  have HC := Lib.hid (And.intro bwc (And.intro D2 (And.intro N2 (And.intro C2 hbx.out))))
  clear xa0 xa1 xb0 xb1 xc0 xc1 xd0 xd1 bwc D2 N2 C2 hbx k2
  go_wp2_with fail
  refine H2.out.mono ?_
  rintro e w3 ⟨rfl, h3⟩
  have C3 := h3.out.1
  have T3 := h3.out.2
  have D3 := bn_two HC.out.2.2.2.1 HC.out.2.1 (by decide) T3
  have N3 := bn_two HC.out.2.2.2.1 HC.out.2.2.1 (by decide) T3
  have W3 := bn_two HC.out.2.2.2.1 HC.out.2.2.2.2.1 (by decide) T3
  have hr3 := HU.out.1.row3 HC.out.1 T3
  have hfin : ∀ (g7 cap7 : Nat) (w7 : World), w7.ownsRow 0 76 1 (.slice (some ⟨g7, 0, none⟩) (n + 1) cap7) (n + 1) (r.reverse.map Un.v ++ [(Value.func (Fn.func 43) #[] #[pt bd, pt bn, pt bw])]) → (w3.alloc (.cells #[(Value.func (Fn.func 43) #[] #[pt bd, pt bn, pt bw])] 76)).grownBy w7 (Value.slice A n c).ownBlock → ((Value.slice A n c).ownBlock = some g7 ∨ w3.heap.size ≤ g7) → g7 < w7.heap.size → DoneP F N w db room (wout es s) r (Undone es (wout es s)) (w7.setCell ⟨db, 3, none⟩ (.slice (some ⟨g7, 0, none⟩) (n + 1) cap7)) := fun g7 cap7 w7 o7 gr7 at7 hl7 => by
    have hy := HU.out.2.2.2.2.2.1
    have hkk := HU.out.2.2.2.2.2.2
    have hyk : ROK F own w y := HU.out.1.2.2.1.1 _ (find_some hy)
    have hX : xsE (wout es s) = wout (xsE es) s := map_wout _ _ _
    have hXf : fsE (wout es s) = wout (fsE es) s := map_wout _ _ _
    have hsX := HU.out.1.good.1
    have hsF := HU.out.1.1.srt.map Fl.d
    have hu : undoX (.put false bd bn bw s y) 0 (xsE (wout es s)) = xsE es := by
      rw [hX]
      exact undo_put_X hsX (hsX.wout s) (by rw [show xsE es = mapV Fl.x es from rfl, find_map, hy]; rfl) (fun z hz => by rw [find_wout, if_neg hz]) false bd bn bw 0
    refine HU.out.1.tail hN HC.out.1 T3 C3 (e := .put false bd bn bw s y) ⟨hu, fun t => ?exF⟩ (fun x hx => HU.out.1.2.2.1.1 x (mem_wout.1 hx).1) ?he (fun x hx hc => ⟨fun y' hy' q1 q2 => ?hcap, x, (mem_wout.1 hx).1, rfl, hc, Nat.le_refl _⟩) ?hgood trivial hu ?hused ((Below.refl _ w3).alloc (Nat.le_refl _) _) o7 gr7 at7 hl7
    case exF =>
      rw [hXf]
      exact undo_put_F hsF (hsF.wout s) (by rw [find_map, hy]; rfl) (fun z hz => by rw [find_wout, if_neg hz]) false bd bn bw t
    case he =>
      refine ⟨⟨D3, .inr ⟨?_, D3.lt⟩⟩, ⟨N3, .inr ⟨HS.out, N3.lt⟩⟩, ⟨by rw [show y.v = .slice y.A k y.c by rw [← hkk]; rfl]; exact W3, .inr ⟨?_, W3.lt⟩⟩, hs.2, HU.out.1.lift HC.out.1 T3 hyk⟩
      · rw [← hbd]; exact Nat.le_refl _
      · have := HU.out.2.1.size; have := HC.out.2.2.2.2.2.2; omega
    case hcap =>
      simp [Un.caps] at hy'
      subst hy'
      exfalso
      obtain ⟨hxm, hne⟩ := mem_wout.1 hx
      have hi := rok_own hyk (HU.out.1.2.2.1.1 x hxm) q1 q2
      have := nodup_id HU.out.1.good.2.1 (x := (s, y'.x)) (y := (x.1, x.2.x)) (List.mem_map.2 ⟨_, find_some hy, rfl⟩) (List.mem_map.2 ⟨x, hxm, rfl⟩) hi
      exact hne (congrArg Prod.fst this).symm
    case hgood =>
      rw [hX]
      exact (good_wout HU.out.1.good s).mono (by omega)
    case hused =>
      have h1 := HU.out.1.2.2.2.2.1.2.1.head
      have h2 := used_wout hsF s
      rw [hXf]
      have h3 : used (mapV Fl.d es) = used (fsE es) := rfl
      have h4 : used (wout (mapV Fl.d es) s) = used (wout (fsE es) s) := rfl
      omega
  have HFIN := Lib.hid hfin
  have HR3 := Lib.hid (And.intro hr3 (And.intro C3 D3))
  clear hfin hr3 C3 T3 D3 N3 W3 h3 H2 c1 c2
  obtain ⟨i0, hi0, hz0, hz1, hz2⟩ := info_parts info_undo
  have bV : Below w3.heap.size w3 (w3.alloc (.cells #[(Value.func (Fn.func 43) #[] #[pt bd, pt bn, pt bw])] 76)) := (Below.refl _ w3).alloc (Nat.le_refl _) _
  have hrV := own_below HR3.out.1 bV (Nat.le_refl _)
  have CV := HR3.out.2.1.below bV
  have DV := HR3.out.2.2.same (bV.block bd HR3.out.2.2.lt)
  have q1 : w3.drew.cell? ⟨bd, 0, none⟩ = some (hd db) := (HR3.out.2.2.cell 0).trans rfl
  have q2 : w3.drew.cell? ⟨db, 3, none⟩ = some (.slice A n c) := (HR3.out.2.1.1.cell 3).trans rfl
  have q3 : (w3.alloc (.cells #[(Value.func (Fn.func 43) #[] #[pt bd, pt bn, pt bw])] 76)).drew.cell? ⟨bd, 0, none⟩ = some (hd db) := (DV.cell 0).trans rfl
  have q4 : (w3.alloc (.cells #[(Value.func (Fn.func 43) #[] #[pt bd, pt bn, pt bw])] 76)).drew.cell? ⟨db, 3, none⟩ = some (.slice A n c) := (CV.1.cell 3).trans rfl
  have HV := Lib.hid (And.intro hrV (And.intro CV DV))
  clear hrV CV DV bV
  go_wp2_with fail
  go_region_law (first
    | (refine step_append_lies _ (by rfl) _ _ _ (by rfl) 0 76 i0 _ 1 8 Try.underlying58 hi0 hz0 hz1 hz2 (by rfl) (by omega) (.slice A n c) n (r.reverse.map Un.v) (by rfl) HV.out.1 ⟨w3.heap.size, 0, none⟩ 1 1 [(Value.func (Fn.func 43) #[] #[pt bd, pt bn, pt bw])] (by rfl) (by rfl) (World.news_of_block (heap_alloc_new w3 _)) (by simp [Value.oneCell']) (by omega) (by unfold maxLen; omega) (by omega) (Nat.zero_le _) (w3.heap.size + 1) (by simp) ?_; intro g7 cap7 w7 o7 gr6 at7 hl7; have gr7 : (w3.alloc (.cells #[(Value.func (Fn.func 43) #[] #[pt bd, pt bn, pt bw])] 76)).grownBy w7 (Value.slice A n c).ownBlock := ⟨gr6.os, gr6.tape, gr6.output, gr6.size, gr6.block⟩; clear gr6; have r0 := (HV.out.2.1.1.kept gr7 (fun q => own_ne HV.out.1 HV.out.2.1.1 (by decide) q.symm)).cell 3; have r1 := (HV.out.2.1.1.kept gr7 (fun q => own_ne HV.out.1 HV.out.2.1.1 (by decide) q.symm)).frozen 3; have r2 := (HV.out.2.2.kept gr7 (fun q => own_ne HV.out.1 HV.out.2.2 (by decide) q.symm)).cell 0; simp only [List.getElem?_cons_zero, List.getElem?_cons_succ] at r0 r2))
  all_goals
    have HE := Lib.hid (HFIN.out g7 cap7 w7 o7 gr7 (at7.imp id fun q => by omega) hl7)
    clear o7 gr7 at7 hl7
    go_wp2_with fail
    go_ret
    exact ⟨rfl, HE⟩
end
end Disk
end Go.Proofs.Ytdcppjpjlhbanaa
