/-
  The document's Clean.
-/
import Derived.Test.YtiempgabamheiaaInboxRefReady
namespace Go.Proofs.Ytiempgabamheiaa
namespace Inbox
open Go.RowKit Vers Span Blk
attribute [local go_sem ↓] Go.wp_at_zero Go.wp_at_succ

theorem rdrop_data {F : Nat → Prop} {w w' : World} {nb n c : Nat} {room : Int} {A : Option Addr} {l : List FE} (h : IO 29 41 F w nb room A c n l) (hc : Chg (fun k => k = nb) w w') : ∀ x ∈ l, SzF x.1 ∧ ∃ L B, Hd w' L B x ∧ B ≤ w'.heap.size ∧ ∀ k, L ≤ k → k < B → F k := fun x hx => by
  obtain ⟨s, L, B, g1, g2, g3⟩ := h.2.1.2 x hx
  have g4 := g1.heap fun k a b => hc.block k (by omega) (g3 k a b).2.1
  have := hc.size
  exact ⟨s, L, B, g4, by omega, fun k a b => (g3 k a b).1⟩
/-- The loop of the document's Clean. -/
def Cleaning (v : List Int) (l : List FE) (n : Nat) (w : World) (vo vs q : Value) (wr : World) : Prop :=
  ∃ (j no ns : Nat) (Ao : Option Addr) (co : Nat) (As : Option Addr) (cs : Nat), vo = .slice Ao no co ∧ vs = .slice As ns cs ∧ q = .int .i64 j ∧ j ≤ n ∧ no ≤ j ∧ ns ≤ j ∧
    Hid (((l.take j).filter fun x => decide (covF v x.1)).length = no ∧ ((l.take j).filter fun x => !decide (covF v x.1)).length = ns ∧ Two 41 w.heap.size wr (.slice Ao no co) (.slice As ns cs) ((l.take j).filter fun x => decide (covF v x.1)) ((l.take j).filter fun x => !decide (covF v x.1)) ∧ Below w.heap.size w wr)
set_option maxRecDepth 100000 in
set_option maxHeartbeats 2000000 in
theorem rclean_any {F : Nat → Prop} {w : World} {nb : Nat} {room : Int} {P : List Fr} (h : IN 29 41 F w nb room P) (hP : ∀ y ∈ P, okF y) (hPl : P.length ≤ 1759218604390)
    (A : Option Addr) (c n : Nat) (v : List Int) (hn : v.length = n) (hbig : n ≤ 140737488355328) (hvv : Ns .i64 w w.heap.size A v) (k : Nat) (hk : (P.filter fun x => decide (covF v x)).length = k) :
    Calls Try.prog 18 #[hd nb, .slice A n c] w (CleanPost 29 41 F nb room P v k w) := by
  obtain ⟨i0, hi0, hz0, hz1, hz2⟩ := info_parts info_rfar
  have HI := Lib.hid (And.intro hi0 (And.intro hz0 (And.intro hz1 hz2)))
  obtain ⟨Aw, cw, nw, l, e, hS⟩ := h
  have hlP : l.length = P.length := by rw [← e, List.length_map]
  have hnw : nw ≤ 1759218604390 := by rw [← hS.2.1.1, hlP]; exact hPl
  have HS := Lib.hid hS
  have HX := Lib.hid (And.intro hP (And.intro hn (And.intro hvv (And.intro e (And.intro hS.2.1.1 hk)))))
  have HI0 : Hid (Cleaning v l nw w (.slice none 0 0) (.slice none 0 0) (.int .i64 0) w) := Lib.hid ⟨0, 0, 0, none, 0, none, 0, rfl, rfl, rfl, by omega, by omega, by omega, Lib.hid ⟨rfl, rfl, Two.nil, Below.refl _ _⟩⟩
  clear hP e hS hlP hvv hn hi0 hz0 hz1 hz2 hk
  go_enter Try.func18, Try.ntmps18
  go_wp2_with fail
  go_loopw [5, 6, 7] (fun vo vs q wr => Cleaning v l nw w vo vs q wr) (fun _ _ q _ => nw - (intOf q).toNat)
  case atStart => exact HI0.out
  case round =>
    clear HI0
    obtain ⟨j, no, ns, Ao, co, As, cs, rfl, rfl, rfl, hj, hno, hns, hst⟩ := hrel
    have hSr := HS.out.below hst.out.2.2.2
    have y1 := (hSr.1.1.cell 1).trans rfl
    by_cases hlt : j < nw
    · obtain ⟨x, hx⟩ : ∃ x, l[j]? = some x := ⟨l[j]'(by have := HX.out.2.2.2.2.1; omega), by simp⟩
      have hxm : x ∈ l := List.mem_of_getElem? hx
      have hxo := HX.out.1 x.1 (by rw [← HX.out.2.2.2.1]; exact List.mem_map_of_mem hxm)
      obtain ⟨g, rfl, hgl, hcl, hsz1, hv1, _⟩ := hSr.at hx
      obtain ⟨hv11, hov⟩ := ok_one hxo
      obtain ⟨q, hq⟩ : ∃ q, decide (covF v x.1) = q := ⟨_, rfl⟩
      have htk : l.take (j + 1) = l.take j ++ [x] := by
        obtain ⟨hjl, hje⟩ := List.getElem?_eq_some_iff.1 hx
        rw [List.take_succ_eq_append_getElem hjl, hje]
      have hf1 : q = true → ((l.take (j + 1)).filter fun x => decide (covF v x.1)) = ((l.take j).filter fun x => decide (covF v x.1)) ++ [x] ∧ ((l.take (j + 1)).filter fun x => !decide (covF v x.1)) = ((l.take j).filter fun x => !decide (covF v x.1)) := fun h => by
        rw [htk, List.filter_append, List.filter_append]
        simp [hq, h]
      have hf2 : q = false → ((l.take (j + 1)).filter fun x => decide (covF v x.1)) = ((l.take j).filter fun x => decide (covF v x.1)) ∧ ((l.take (j + 1)).filter fun x => !decide (covF v x.1)) = ((l.take j).filter fun x => !decide (covF v x.1)) ++ [x] := fun h => by
        rw [htk, List.filter_append, List.filter_append]
        simp [hq, h]
      obtain ⟨⟨⟨f1, f2⟩, ⟨k1, v1⟩, rr⟩, ⟨a1, c1⟩, ⟨a2, c2⟩⟩ := x
      obtain ⟨r1, hr1⟩ : ∃ r, rr.length = r := ⟨_, rfl⟩
      have q0 : wr.cell? ⟨g, j * 5, none⟩ = some (.int .i64 f1) := hcl 0 _ rfl
      have q1 : wr.cell? ⟨g, j * 5 + 1, none⟩ = some (.int .i64 f2) := hcl 1 _ rfl
      have q2 : wr.cell? ⟨g, j * 5 + 2, none⟩ = some (.string k1) := hcl 2 _ rfl
      have q3 : wr.cell? ⟨g, j * 5 + 3, none⟩ = some (.slice a1 1 c1) := by rw [← hv11]; exact hcl 3 _ rfl
      have q4 : wr.cell? ⟨g, j * 5 + 4, none⟩ = some (.slice a2 r1 c2) := by rw [← hr1]; exact hcl 4 _ rfl
      have d1 : (0 : Int) ≤ (j : Int) := by omega
      have d2 : (j : Int) < (nw : Int) := by omega
      obtain ⟨s, hs⟩ : ∃ s, (v1.getD 0 v0).s = s := ⟨_, rfl⟩
      obtain ⟨vn, hvn⟩ : ∃ s, (v1.getD 0 v0).n = s := ⟨_, rfl⟩
      have hdc := rdot_any f1 f2 k1 a1 c1 1 v1 hv11 (Nat.le_refl _) a2 r1 c2 wr hv1
      rw [hs, hvn] at hdc
      have hcov : ∀ V, Below wr.heap.size wr V → Calls Try.prog 23 #[.slice A n c, .agg #[.int .i64 s, .int .i64 vn]] V (fun e w' => e = .returned (.bool q) ∧ Below V.heap.size V w') := fun V hV => by
        have hb := hst.out.2.2.2.trans (hV.mono hst.out.2.2.2.size)
        have h := Vect.ref_covers_any A c n v HX.out.2.1 s vn (by have := hov.1; rw [hs] at this; unfold okD at this; omega) V ((HX.out.2.2.1.below hb).more hb.size) hbig
        rwa [show decide (Vect.CoversV v s vn) = q by rw [← hq, ← hs, ← hvn]; exact decide_eq_decide.2 Iff.rfl] at h
      have HD := Lib.hid hdc
      have HC := Lib.hid hcov
      have HJ := Lib.hid (And.intro hxm (And.intro hv11 (And.intro hr1 (And.intro hsz1 (And.intro hf1 hf2)))))
      clear hx hxm hxo hcl hsz1 hv1 hv11 hov hq htk hf1 hf2 hr1 hs hvn hdc hcov hSr
      go_wp2_with fail
      refine HD.out.mono ?_
      rintro e w2 ⟨rfl, b2⟩
      have HB2 := Lib.hid b2
      clear b2
      go_wp2_with fail
      refine (HC.out w2 HB2.out).mono ?_
      rintro e w3 ⟨rfl, b3⟩
      have hW : Below wr.heap.size wr w3 := HB2.out.trans (b3.mono HB2.out.size)
      have p0 := (hW.cell (p := ⟨g, j * 5, none⟩) hgl).trans q0
      have p1 := (hW.cell (p := ⟨g, j * 5 + 1, none⟩) hgl).trans q1
      have p2 := (hW.cell (p := ⟨g, j * 5 + 2, none⟩) hgl).trans q2
      have p3 := (hW.cell (p := ⟨g, j * 5 + 3, none⟩) hgl).trans q3
      have p4 := (hW.cell (p := ⟨g, j * 5 + 4, none⟩) hgl).trans q4
      have y3 := ((HS.out.below (hst.out.2.2.2.trans (hW.mono hst.out.2.2.2.size))).1.1.cell 1).trans rfl
      have hsW : w.heap.size ≤ w3.heap.size := Nat.le_trans hst.out.2.2.2.size hW.size
      have HW := Lib.hid hW
      clear b3 hW
      cases q
      · have T2 := (hst.out.2.2.1.below HW.out).swap
        have HT := Lib.hid T2
        clear T2
        go_wp2_with (at_builtin; refine wpList_append_f _ rfl (.tmp 37) (.tmp 45) 27 rfl w.heap.size 41 i0 _ 80 Try.underlying27 HI.out.1 HI.out.2.1 HI.out.2.2.1 HI.out.2.2.2 rfl (.slice As ns cs) ns ((l.take j).filter fun x => !decide (covF v x.1)) rfl (by have h := HT.out.1; rwa [hst.out.2.1] at h) (((f1, f2), (k1, v1), rr), (a1, c1), (a2, c2)) 1 r1 HJ.out.2.1 HJ.out.2.2.1 1 rfl (by omega) (by omega) hsW ?_; intro v5 w5 o5 g5 at5; obtain ⟨A5, c5, rfl⟩ := own_form o5; have H5 := Lib.hid (And.intro o5 (And.intro g5 at5)); clear o5 g5 at5)
        have T5 := (HT.out.add (by rw [hst.out.2.1]; exact H5.out.1) H5.out.2.1 H5.out.2.2).swap
        have hb5 : Below w.heap.size w w5 := (hst.out.2.2.2.trans (HW.out.mono hst.out.2.2.2.size)).grown H5.out.2.1 hsW fun i hi => (HT.out.1.lt i hi).1
        have HN : Hid (((l.take (j + 1)).filter fun x => decide (covF v x.1)).length = no ∧ ((l.take (j + 1)).filter fun x => !decide (covF v x.1)).length = ns + 1 ∧ Two 41 w.heap.size w5 (.slice Ao no co) (.slice A5 (ns + 1) c5) ((l.take (j + 1)).filter fun x => decide (covF v x.1)) ((l.take (j + 1)).filter fun x => !decide (covF v x.1)) ∧ Below w.heap.size w w5) := Lib.hid (by
          rw [(HJ.out.2.2.2.2.2 (by trivial)).1, (HJ.out.2.2.2.2.2 (by trivial)).2]
          exact ⟨hst.out.1, by rw [List.length_append, hst.out.2.1]; rfl, T5, hb5⟩)
        clear T5 hb5
        go_roundw
        case rel => exact ⟨j + 1, no, ns + 1, Ao, co, A5, c5, rfl, rfl, rfl, by omega, by omega, by omega, HN⟩
        case measure => simp only [intOf]; omega
      · have T2 := (hst.out.2.2.1.below HW.out)
        have HT := Lib.hid T2
        clear T2
        go_wp2_with (at_builtin; refine wpList_append_f _ rfl (.tmp 27) (.tmp 35) 27 rfl w.heap.size 41 i0 _ 80 Try.underlying27 HI.out.1 HI.out.2.1 HI.out.2.2.1 HI.out.2.2.2 rfl (.slice Ao no co) no ((l.take j).filter fun x => decide (covF v x.1)) rfl (by have h := HT.out.1; rwa [hst.out.1] at h) (((f1, f2), (k1, v1), rr), (a1, c1), (a2, c2)) 1 r1 HJ.out.2.1 HJ.out.2.2.1 1 rfl (by omega) (by omega) hsW ?_; intro v5 w5 o5 g5 at5; obtain ⟨A5, c5, rfl⟩ := own_form o5; have H5 := Lib.hid (And.intro o5 (And.intro g5 at5)); clear o5 g5 at5)
        have T5 := HT.out.add (by rw [hst.out.1]; exact H5.out.1) H5.out.2.1 H5.out.2.2
        have hb5 : Below w.heap.size w w5 := (hst.out.2.2.2.trans (HW.out.mono hst.out.2.2.2.size)).grown H5.out.2.1 hsW fun i hi => (HT.out.1.lt i hi).1
        have HN : Hid (((l.take (j + 1)).filter fun x => decide (covF v x.1)).length = no + 1 ∧ ((l.take (j + 1)).filter fun x => !decide (covF v x.1)).length = ns ∧ Two 41 w.heap.size w5 (.slice A5 (no + 1) c5) (.slice As ns cs) ((l.take (j + 1)).filter fun x => decide (covF v x.1)) ((l.take (j + 1)).filter fun x => !decide (covF v x.1)) ∧ Below w.heap.size w w5) := Lib.hid (by
          rw [(HJ.out.2.2.2.2.1 (by trivial)).1, (HJ.out.2.2.2.2.1 (by trivial)).2]
          exact ⟨by rw [List.length_append, hst.out.1]; rfl, hst.out.2.1, T5, hb5⟩)
        clear T5 hb5
        go_roundw
        case rel => exact ⟨j + 1, no + 1, ns, A5, c5, As, cs, rfl, rfl, rfl, by omega, by omega, by omega, HN⟩
        case measure => simp only [intOf]; omega
    · obtain rfl : j = nw := by omega
      have zf := hSr.1.1.frozen 1
      have htk : l.take j = l := List.take_of_length_le (by have := HX.out.2.2.2.2.1; omega)
      have HTK := Lib.hid htk
      have HFI := Lib.hid hst.out
      clear htk hst hSr
      go_wp2_with fail
      go_ret
      obtain ⟨h1, h2, h3, h4⟩ := HFI.out
      rw [HTK.out] at h1 h2 h3
      obtain ⟨hP, hn, hvv, e, hln, hk⟩ := HX.out
      have hf1 : (l.filter fun x => decide (covF v x.1)).map Prod.fst = P.filter fun x => decide (covF v x) := by
        rw [← e, List.filter_map]
        rfl
      have hf2 : (l.filter fun x => !decide (covF v x.1)).map Prod.fst = P.filter fun x => !decide (covF v x) := by
        rw [← e, List.filter_map]
        rfl
      have hk1 : no = k := by rw [← h1, ← hk, ← hf1, List.length_map]
      subst hk1
      subst h2
      have hgs := gset wr nb 1 (.slice As (l.filter fun x => !decide (covF v x.1)).length cs)
      have hIO := HS.out.relist h4 h3.2.1 rfl fun x hx => (List.mem_filter.1 hx).1
      have hC : Chg F w (wr.setCell ⟨nb, 1, none⟩ (.slice As (l.filter fun x => !decide (covF v x.1)).length cs)) := (Chg.of_below h4).trans (Chg.of_grown hgs fun g hg => by injection hg with hg; subst hg; exact HS.out.2.2.1) fun i hi => .inl hi
      have hC1 : Chg (fun k => k = nb) w (wr.setCell ⟨nb, 1, none⟩ (.slice As (l.filter fun x => !decide (covF v x.1)).length cs)) := (Chg.of_below h4).trans (Chg.of_grown hgs fun g hg => by injection hg with hg; exact hg.symm) fun i hi => .inl hi
      refine ⟨Ao, co, rfl, Lib.hid ⟨hk, fun i => F i ∨ (w.heap.size ≤ i ∧ i < wr.heap.size), ⟨⟨_, _, _, _, hf2, hIO⟩, hC, fun i hi => hi.imp id fun q => q.1⟩, ?_⟩⟩
      rw [← hf1]
      have h31 := h3.1
      rw [h1] at h31
      refine own_fsP (own_keep h31 fun g hg => hgs.block g (h31.lt g hg).2 fun q => ?_) h1 (fun g hg => .inr (h31.lt g hg)) fun x hx => ?_
      case refine_2 =>
        obtain ⟨s, L, B, h1, h2, h3⟩ := rdrop_data HS.out hC1 x (List.mem_filter.1 hx).1
        exact ⟨s, L, B, h1, h2, fun k a b => .inl (h3 k a b)⟩
      have h5 := (h31.lt g hg).1
      have h6 := HS.out.lt nb HS.out.2.2.1
      injection q with q
      omega
end Inbox
end Go.Proofs.Ytiempgabamheiaa
