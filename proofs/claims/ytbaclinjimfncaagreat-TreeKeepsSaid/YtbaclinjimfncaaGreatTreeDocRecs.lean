/-
  The document's records beneath a path; records with one in the place of its key's.
-/
import Derived.Test.YtbaclinjimfncaaGreatTreeDoc
import Derived.Test.YtbaclinjimfncaaGreatTreeRows
import Derived.WalkLawsBesides
namespace Go.Proofs.YtbaclinjimfncaaGreat
namespace Tree
open Go.RowKit Vers Num Ring Disk Blk
open Go.Proofs.YtbaclinjimfncaaGreat.Code hiding Bn
attribute [local go_sem ↓] Go.wp_at_zero Go.wp_at_succ

theorem info_rec' : (Tryz.prog.info? 45).map (fun i => (i.zero, i.size, i.bytes)) = some (some (.agg #[.string ⟨#[]⟩, .slice none 0 0]), 2, 40) := by kernel_rfl
/-- Records in a row of the call's own; their versions lie below block base. -/
def RowS (base : Nat) (w : World) (v : Value) (ps : List Pr) : Prop :=
  w.ownsRow base 45 2 v ps.length (rcs ps) ∧ ∀ p ∈ ps, Vs w 0 base p.2.1 p.1.2 ∧ p.1.2.length ≤ p.2.2 ∧ p.1.2.length ≤ 140737488355328 ∧ p.1.1.size ≤ 140737488355328
theorem rowS_nil (base : Nat) (w : World) : RowS base w (.slice none 0 0) [] := ⟨World.ownsRow_nil _ _ _ _, fun p hp => by cases hp⟩
theorem RowS.below {base : Nat} {w w' : World} {v : Value} {ps : List Pr} (h : RowS base w v ps) (hb : Below w.heap.size w w') (hB : base ≤ w.heap.size) : RowS base w' v ps :=
  ⟨own_below h.1 hb (Nat.le_refl _), fun p hp => ⟨(h.2 p hp).1.below (hb.mono hB), (h.2 p hp).2⟩⟩
theorem RowS.add {base : Nat} {w w' : World} {v v' : Value} {ps : List Pr} {p : Pr} (h : RowS base w v ps) (ho : w'.ownsRow base 45 2 v' (ps.length + 1) (rcs (ps ++ [p]))) (hg : w.grownBy w' v.ownBlock) (hB : base ≤ w.heap.size) (hp : Vs w 0 base p.2.1 p.1.2 ∧ p.1.2.length ≤ p.2.2 ∧ p.1.2.length ≤ 140737488355328 ∧ p.1.1.size ≤ 140737488355328) : RowS base w' v' (ps ++ [p]) := by
  have hb : Below base w w' := (Below.refl _ _).grown hg hB (fun j hj => (h.1.lt j hj).1)
  refine ⟨by simpa using ho, fun q hq => ?_⟩
  rcases List.mem_append.1 hq with hq | hq
  · exact ⟨(h.2 q hq).1.below hb, (h.2 q hq).2⟩
  · rw [List.mem_singleton.1 hq]
    exact ⟨hp.1.below hb, hp.2⟩
theorem RowS.rs {base n c : Nat} {w : World} {A : Option Addr} {ps : List Pr} (h : RowS base w (.slice A n c) ps) (hB : base ≤ w.heap.size) : Rs w 0 w.heap.size A (ps.map Prod.fst) := fun hp => by
  rw [List.length_map] at hp
  obtain ⟨ho, hpa⟩ := h
  rcases ho.2 with ⟨_, h0⟩ | ⟨g, cap, cur, hv, hbg, hg, rest⟩
  · omega
  · injection hv with h1 h2 h3
    subst h1
    refine ⟨g, 0, rfl, Nat.zero_le _, (Array.getElem?_eq_some_iff.1 hg).1, fun j hj => ?_⟩
    rw [List.length_map] at hj
    have e : (ps.map Prod.fst).getD j r0 = (ps.getD j (r0, none, 0)).1 := by simp [List.getD_eq_getElem?_getD, hj]
    have hm : ps.getD j (r0, none, 0) ∈ ps := by
      rw [List.getD_eq_getElem?_getD, List.getElem?_eq_getElem hj]
      exact List.getElem_mem _
    rw [e]
    have hat : ∀ r, r < 2 → ∀ u, (rcc (ps.getD j (r0, none, 0)))[r]? = some u → w.cell? ⟨g, 0 + j * 2 + r, none⟩ = some u := fun r hr u hu => by
      have hc := ho.cells (g := g) rfl (j * 2 + r) u (by rw [rcs_at ps j hj r hr]; exact hu)
      rw [Vers.add_plain] at hc
      rw [show 0 + j * 2 + r = 0 + (j * 2 + r) by omega]
      exact hc
    obtain ⟨q1, q2, q3, q4⟩ := hpa _ hm
    exact ⟨_, _, hat 0 (by omega) _ (by simp [rcc]), hat 1 (by omega) _ (by simp [rcc]), q1.more hB, q2, q3, q4⟩
/-- Records are told, whose versions were there. -/
def NewS (l : List Rc) (w : World) (e : Ending) (w' : World) : Prop :=
  ∃ A m c ps, e = .returned (.slice A m c) ∧ Hid (ps.map Prod.fst = l ∧ l.length = m ∧ m ≤ c ∧ RowS w.heap.size w' (.slice A m c) ps) ∧ Below w.heap.size w w'

/-- Do the first k digits agree? -/
def inK (key : Nm) (p : List Int) (k : Nat) : Bool := (List.range k).all fun (j : Nat) => decide (([dig0 key, dig1 key].getD j 0 : Int) = p.getD j 0)
theorem inK_succ (key : Nm) (p : List Int) (k : Nat) : inK key p (k + 1) = (inK key p k && decide (([dig0 key, dig1 key].getD k 0 : Int) = p.getD k 0)) := by simp [inK, List.range_succ]
theorem inK_full {p : List Int} (hp : okP p) (key : Nm) : inK key p p.length = inP p key := by
  rcases ok_cases hp with rfl | ⟨a, rfl, _⟩ | ⟨a, b, rfl, _, _⟩
  · rfl
  · simp [inK, inP, List.range_succ]
  · simp [inK, inP, List.range_succ]
theorem take_filter {all : List Rc} {p : List Int} {k : Nat} (hk : k < all.length) : beneath (all.take (k + 1)) p = beneath (all.take k) p ++ (if inP p (all.getD k r0).1 = true then [all.getD k r0] else []) := by
  unfold beneath
  rw [List.take_succ_eq_append_getElem hk, List.filter_append]
  congr 1
  have e : all.getD k r0 = all[k] := by simp [List.getD_eq_getElem?_getD, hk]
  rw [e]
  by_cases h : inP p all[k].1 = true
  · rw [if_pos h, List.filter_cons, if_pos h]; rfl
  · rw [if_neg h, List.filter_cons, if_neg h]; rfl
set_option maxRecDepth 100000 in
set_option maxHeartbeats 2000000 in
theorem ref_recs_no (A A' : Option Addr) (c c' n m : Nat) (all : List Rc) (p : List Int) (_hm : all.length = m) (hm2 : m ≤ 3518437208882) (hn : p.length = n) (hbig : n ≤ 140737488355328) (w : World) (hr : Ns .i64 w w.heap.size A' p) (hp : ¬ okP p) :
    Calls Tryz.prog 18 #[.slice A m c, .slice A' n c'] w (NewS (recsF all p) w) := by
  have hF : recsF all p = [] := by unfold recsF; rw [if_neg hp]
  rw [hF]
  have hP := path_any A' c' n p hn hbig w hr
  rw [decide_eq_false hp] at hP
  have HP := Lib.hid hP
  clear hF hP hp hn hr
  go_enter Tryz.func18, Tryz.ntmps18
  go_wp2_with fail
  refine wp_loop_rounds 1 ?_
  rw [rounds_succ]
  by_cases hm0 : m = 0
  · have e1 : ¬ 0 < m := by omega
    clear hm0
    go_wp2_with fail
    go_ret
    exact ⟨none, 0, 0, [], rfl, Lib.hid ⟨rfl, rfl, Nat.le_refl _, rowS_nil _ _⟩, Below.refl _ _⟩
  · have e1 : 0 < m := by omega
    clear hm0
    go_wp2_with fail
    refine HP.out.mono ?_
    rintro e w1 ⟨rfl, rfl⟩
    go_wp2_with fail
    go_ret
    exact ⟨none, 0, 0, [], rfl, Lib.hid ⟨rfl, rfl, Nat.le_refl _, rowS_nil _ _⟩, Below.refl _ _⟩
set_option maxRecDepth 100000 in
set_option maxHeartbeats 2000000 in
theorem ref_recs_any (A A' : Option Addr) (c c' n m : Nat) (all : List Rc) (p : List Int) (hm : all.length = m) (hm2 : m ≤ 3518437208882) (hn : p.length = n) (hbig : n ≤ 140737488355328) (w : World) (hv : Rs w 0 w.heap.size A all) (hr : Ns .i64 w w.heap.size A' p) (hp : okP p) :
    Calls Tryz.prog 18 #[.slice A m c, .slice A' n c'] w (NewS (recsF all p) w) := by
  obtain ⟨i0, hi, hz0, hz1, hz2⟩ := info_parts info_rec'
  have hF : recsF all p = beneath all p := by unfold recsF; rw [if_pos hp]
  rw [hF]
  have hn2 : n ≤ 2 := by have := hp.2; omega
  have HP : Hid (∀ W, Below w.heap.size w W → Calls Tryz.prog 32 #[.slice A' n c'] W (fun e w' => e = .returned (.bool true) ∧ W = w')) := Lib.hid fun W hW => by
    have h := path_any A' c' n p hn hbig W ((hr.below hW).more hW.size)
    rwa [decide_eq_true hp] at h
  have HV := Lib.hid (And.intro hv (And.intro hm (And.intro hr (And.intro hn hp))))
  clear hv hm hr hn hp hF
  go_enter Tryz.func18, Tryz.ntmps18
  go_wp2_with fail
  go_loopw [5, 6] (fun v q wr => ∃ (k x : Nat) (A1 : Option Addr) (c1 : Nat) (ps : List Pr), q = .int .i64 k ∧ k ≤ m ∧ v = .slice A1 x c1 ∧ x ≤ k ∧ Hid (ps.map Prod.fst = beneath (all.take k) p ∧ ps.length = x ∧ RowS w.heap.size wr (.slice A1 x c1) ps ∧ Below w.heap.size w wr)) (fun _ q _ => m - (intOf q).toNat)
  case atStart => exact ⟨0, 0, none, 0, [], rfl, by omega, rfl, by omega, Lib.hid ⟨rfl, rfl, rowS_nil _ _, Below.refl _ _⟩⟩
  case round =>
    obtain ⟨k, x, A1, c1, ps, rfl, hk, rfl, hxk, hst⟩ := hrel
    by_cases hlt : k < m
    · have d1 : (0 : Int) ≤ (k : Int) := by omega
      have d2 : (k : Int) < (m : Int) := by omega
      have hb := hst.out.2.2.2
      obtain ⟨pb, off, A4, c4, rfl, _, hbB, k0, k1, k2, k3⟩ := HV.out.1.at HV.out.2.1 hb hlt rfl
      have hkl : k < all.length := by have := HV.out.2.1; omega
      have HTk := Lib.hid (take_filter (p := p) hkl)
      obtain ⟨r, hrr⟩ : ∃ r, all.getD k r0 = r := ⟨_, rfl⟩
      rw [hrr] at k0 k1 k2 k3 HTk
      obtain ⟨key, lv⟩ := r
      simp only at k0 k1 k2 k3
      obtain ⟨ml, hml⟩ : ∃ ml, lv.length = ml := ⟨_, rfl⟩
      rw [hml] at k1 k3
      have hPL := Lib.hid (HP.out wr hb)
      have hsz := hb.size
      have hPC := Lib.hid (ref_place_any key wr k3.2.2)
      have HST := Lib.hid (And.intro hst.out (And.intro k0 (And.intro k1 (And.intro k2 (And.intro k3 (And.intro hml hbB))))))
      clear hst hb hrr hkl k1 k2 k3 hml
      go_wp2_with fail
      refine hPL.out.mono ?_
      rintro e w1 ⟨rfl, rfl⟩
      go_wp2_with fail
      refine hPC.out.mono ?_
      rintro e w2 ⟨g, rfl, hpl, b2⟩
      have hns := hpl.out.1
      have hgl := hpl.out.2
      obtain ⟨dd0, hdd0⟩ : ∃ d, dig0 key = d := ⟨_, rfl⟩
      obtain ⟨dd1, hdd1⟩ : ∃ d, dig1 key = d := ⟨_, rfl⟩
      have HPP : Hid (Ns .i64 w2 w2.heap.size (some ⟨g, 0, none⟩) [dig0 key, dig1 key] ∧ Below wr.heap.size wr w2 ∧ Ns .i64 w2 w2.heap.size A' p) := Lib.hid ⟨hns, b2, by
        have hbw := HST.out.1.2.2.2.trans (b2.mono hsz)
        exact (HV.out.2.2.1.below hbw).more hbw.size⟩
      clear hpl hns b2 hPL hPC k0
      obtain ⟨wo, hwo⟩ : ∃ W, W = wr := ⟨_, rfl⟩
      subst hwo
      go_wp2_with fail
      go_loopw [8, 9] (fun z q wr => ∃ (j : Nat) (b : Bool), q = .int .i64 j ∧ z = .bool b ∧ j ≤ n ∧ Hid (b = inK key p j) ∧ Hid (∃ t, wr = w2.drewN t)) (fun _ q _ => n - (intOf q).toNat)
      case atStart => exact ⟨0, true, rfl, rfl, by omega, Lib.hid rfl, Lib.hid ⟨0, rfl⟩⟩
      case round =>
        obtain ⟨j, b, rfl, rfl, hj, hbj, hwt⟩ := hrel
        by_cases hltj : j < n
        · have j1 : (0 : Int) ≤ (j : Int) := by omega
          have j2 : (j : Int) < (n : Int) := by omega
          have j3 : (j : Int) < 2 := by omega
          obtain ⟨t, rfl⟩ := hwt.out
          obtain ⟨b', off', e9, _, hc9⟩ := HPP.out.1 (by simp)
          injection e9 with e9
          injection e9 with e9 e10
          subst e9 e10
          have c9 := hc9 j (by simp; omega)
          obtain ⟨qb, qo, rfl, _, hc8⟩ := HPP.out.2.2 (by have := HV.out.2.2.2.1; omega)
          have c8 := hc8 j (by have := HV.out.2.2.2.1; omega)
          have hin := inK_succ key p j
          obtain ⟨x9, hx9⟩ : ∃ x9, ([dig0 key, dig1 key].getD j 0 : Int) = x9 := ⟨_, rfl⟩
          obtain ⟨x8, hx8⟩ : ∃ x8, p.getD j 0 = x8 := ⟨_, rfl⟩
          rw [hx9] at c9 hin
          rw [hx8] at c8 hin
          rw [Nat.zero_add] at c9
          have HIN := Lib.hid hin
          clear hin hx9 hx8 hc9 hc8
          cases b
          · have HF : Hid (false = inK key p (j + 1)) := Lib.hid (by rw [HIN.out, ← hbj.out]; rfl)
            clear hbj hwt
            go_wp2_with fail
            go_quiet (fail)
            go_wp2_with fail
            go_roundw
            case rel => exact ⟨j + 1, false, by go_num, rfl, by omega, HF, Lib.hid ⟨_, by first | rfl | (simp only [World.drewN_drewN]; rfl)⟩⟩
            case measure => simp only [intOf]; omega
          · by_cases hxx : x9 = x8
            · subst hxx
              have e1 : (x9 == x9) = true := by simp
              have HF : Hid (true = inK key p (j + 1)) := Lib.hid (by rw [HIN.out, ← hbj.out]; simp)
              clear hbj hwt
              go_wp2_with fail
              go_quiet (fail)
              go_wp2_with fail
              go_roundw
              case rel => exact ⟨j + 1, true, by go_num, rfl, by omega, HF, Lib.hid ⟨_, by first | rfl | (simp only [World.drewN_drewN]; rfl)⟩⟩
              case measure => simp only [intOf]; omega
            · have e1 : (x9 == x8) = false := by simpa using hxx
              have HF : Hid (false = inK key p (j + 1)) := Lib.hid (by rw [HIN.out, ← hbj.out]; simp [hxx])
              clear hbj hwt hxx
              go_wp2_with fail
              go_quiet (fail)
              go_wp2_with fail
              go_roundw
              case rel => exact ⟨j + 1, false, by go_num, rfl, by omega, HF, Lib.hid ⟨_, by first | rfl | (simp only [World.drewN_drewN]; rfl)⟩⟩
              case measure => simp only [intOf]; omega
        · have hjn : j = n := by omega
          subst hjn
          obtain ⟨t, rfl⟩ := hwt.out
          have hbi : b = inP p key := by
            rw [hbj.out, ← inK_full HV.out.2.2.2.2 key, HV.out.2.2.2.1]
          have hbw2 : Below w.heap.size w (w2.drewN t) := (HST.out.1.2.2.2.trans (HPP.out.2.1.mono hsz)).trans ⟨rfl, rfl, rfl, Nat.le_refl _, fun _ _ => rfl⟩
          have hrow : RowS w.heap.size (w2.drewN t) (.slice A1 x c1) ps := (HST.out.1.2.2.1.below HPP.out.2.1 hsz).below ⟨rfl, rfl, rfl, Nat.le_refl _, fun _ _ => rfl⟩ (Nat.le_trans hsz HPP.out.2.1.size)
          obtain ⟨W3, hW3⟩ : ∃ W3, w2.drewN t = W3 := ⟨_, rfl⟩
          rw [hW3] at hbw2 hrow ⊢
          have HR3 := Lib.hid (And.intro hrow hbw2)
          have HW23 : Hid (Below w.heap.size wo W3) := Lib.hid (by rw [← hW3]; exact (HPP.out.2.1.mono hsz).trans ⟨rfl, rfl, rfl, Nat.le_refl _, fun _ _ => rfl⟩)
          have hsz3 := hbw2.size
          cases b
          · have HF : Hid (ps.map Prod.fst = beneath (all.take (k + 1)) p ∧ ps.length = x ∧ RowS w.heap.size W3 (.slice A1 x c1) ps ∧ Below w.heap.size w W3) := Lib.hid ⟨by
              rw [HTk.out, ← hbi, HST.out.1.1]; simp, HST.out.1.2.1, hrow, hbw2⟩
            clear hbj hwt hbi hbw2 hrow hW3
            go_wp2_with fail
            go_roundw
            case rel => exact ⟨k + 1, x, A1, c1, ps, by go_num, by omega, rfl, by omega, HF⟩
            case measure => simp only [intOf]; omega
          · have q0 : W3.cell? ⟨pb, off + k * 2, none⟩ = some (.string key) := by
              rw [← hW3]
              exact (World.cell?_of_block (HPP.out.2.1.block pb (by have := HST.out.2.2.2.2.2.2; omega))).trans HST.out.2.1
            have q1 : W3.cell? ⟨pb, off + k * 2 + 1, none⟩ = some (.slice A4 ml c4) := by
              rw [← hW3]
              exact (World.cell?_of_block (HPP.out.2.1.block pb (by have := HST.out.2.2.2.2.2.2; omega))).trans HST.out.2.2.1
            have hro := hrow.1
            rw [HST.out.1.2.1] at hro
            have HE : Hid (∀ A2 c2, (ps ++ [(((key, lv) : Rc), A2, c2)]).map Prod.fst = beneath (all.take (k + 1)) p) := Lib.hid fun A2 c2 => by rw [List.map_append, HTk.out, ← hbi, HST.out.1.1]; rfl
            have hl1 : x + 1 ≤ 3518437208883 := by omega
            have hl2 : (x + 1) * 40 ≤ 140737488355328 := by omega
            clear hbj hwt hbi hbw2 hrow hW3
            go_wp2_with (at_builtin; refine wpList_append_r _ rfl (.tmp 45) (.tmp 50) 22 rfl w.heap.size 45 i0 _ 40 Tryz.underlying22 hi hz0 hz1 hz2 rfl _ x ps rfl hro ((key, lv), A4, c4) ml HST.out.2.2.2.2.2.1 1 rfl hl2 (by omega) hsz3 ?_; intro v4 w4 o4 g4 at4; obtain ⟨A5, c5, rfl⟩ := own_form o4)
            have HF : Hid ((ps ++ [(((key, lv) : Rc), A4, c4)]).map Prod.fst = beneath (all.take (k + 1)) p ∧ (ps ++ [(((key, lv) : Rc), A4, c4)]).length = x + 1 ∧ RowS w.heap.size w4 (.slice A5 (x + 1) c5) (ps ++ [((key, lv), A4, c4)]) ∧ Below w.heap.size w w4) := Lib.hid ⟨HE.out _ _, by simp [HST.out.1.2.1], by
              refine HR3.out.1.add (v' := .slice A5 (x + 1) c5) (p := ((key, lv), A4, c4)) (by rw [HST.out.1.2.1]; exact o4) g4 hsz3 ⟨?_, ?_, ?_, ?_⟩
              · exact HST.out.2.2.2.1.below HW23.out
              · rw [HST.out.2.2.2.2.2.1]; exact HST.out.2.2.2.2.1.1
              · rw [HST.out.2.2.2.2.2.1]; exact HST.out.2.2.2.2.1.2.1
              · exact HST.out.2.2.2.2.1.2.2, HR3.out.2.grown g4 hsz3 (fun j hj => (hro.lt j hj).1)⟩
            clear o4 g4 at4 hro q0 q1
            go_roundw
            case rel => exact ⟨k + 1, x + 1, A5, c5, _, by go_num, by omega, rfl, by omega, HF⟩
            case measure => simp only [intOf]; omega
    · have hkm : k = m := by omega
      subst hkm
      have hfull : all.take k = all := List.take_of_length_le (by have := HV.out.2.1; omega)
      rw [hfull] at hst
      have HF : Hid (NewS (beneath all p) w (.returned (.slice A1 x c1)) wr) := Lib.hid ⟨A1, x, c1, ps, rfl, Lib.hid ⟨hst.out.1, by rw [← hst.out.1, List.length_map]; exact hst.out.2.1, by have h9 := hst.out.2.2.1.1; rw [hst.out.2.1] at h9; exact (own_low h9).1, hst.out.2.2.1⟩, hst.out.2.2.2⟩
      clear hst hfull
      go_wp2_with fail
      go_ret
      exact HF.out
end Tree
end Go.Proofs.YtbaclinjimfncaaGreat
