/-
  The law's Files; the document's Same, of files that are the same (layer 7).
-/
import Derived.Test.YtdcppjpjlhbanaaDiskProg
import Derived.Test.YtdcppjpjlhbanaaDiskDocOwn
import Derived.Deep.QuietTactic
import Derived.BigQuiet
namespace Go.Proofs.Ytdcppjpjlhbanaa
namespace Disk
open Go.RowKit Blk
attribute [local go_sem ↓] Go.wp_at_zero Go.wp_at_succ
section
variable {F : Nat → Prop} {w : World} {db N : Nat} {P : Pd}
theorem map_take_succ (l : Fs) {i : Nat} {x : Nm × List Int} (hx : l[i]? = some x) : l.take (i + 1) = l.take i ++ [x] := by
  obtain ⟨hi, rfl⟩ := List.getElem?_eq_some_iff.1 hx
  exact List.take_succ_eq_append_getElem hi
set_option maxRecDepth 100000 in
set_option maxHeartbeats 4000000 in
theorem files_any (h : PD F w db N P) (hok : P.ok N) (hN : N ≤ 3000000000000) :
    Calls Try.prog 17 #[hd db] w (fun e w' => ∃ A n c, e = .returned (.slice A n c) ∧ Hid (∃ l, Fr (fun j => w.heap.size ≤ j) w' A n c l ∧ fsR l = P.files ∧ Below w.heap.size w w')) := by
  obtain ⟨i0, hi0, hz0, hz1, hz2⟩ := info_parts info_file
  have H1 := Lib.hid (pd_names h (by omega))
  have HH := Lib.hid (And.intro h hok)
  clear h hok
  go_enter Try.func17, Try.ntmps17
  go_wp2_with fail
  refine H1.out.mono ?_
  rintro e V ⟨gn, cn, n, rfl, hV⟩
  have hnl : n ≤ 3000000000000 := by
    rw [hV.out.1]
    have := HH.out.2.files.2.2.2.1
    omega
  go_wp2_with fail
  go_loopw [3, 5] (fun v iv U => ∃ (i : Nat) (Aq : Option Addr) (cq : Nat), v = .slice Aq i cq ∧ iv = .int .i64 i ∧ i ≤ n ∧ Hid (∃ l, l.length = i ∧ U.ownsRow V.heap.size 67 2 (.slice Aq i cq) i (fcs l) ∧ fsR l = P.files.take i ∧ (∀ x ∈ l, FlOK (fun j => w.heap.size ≤ j) U x.2 ∧ x.1.size ≤ 16) ∧ Below V.heap.size V U)) (fun _ iv _ => n - (intOf iv).toNat)
  case atStart => exact ⟨0, none, 0, rfl, rfl, by omega, Lib.hid ⟨[], rfl, World.ownsRow_nil _ _ _ _, rfl, by simp, Below.refl _ _⟩⟩
  case round =>
    obtain ⟨i, Aq, cq, rfl, rfl, hi, hst⟩ := hrel
    have hst' := hst.out
    obtain ⟨l, hl1, hl2, hl3, hl4, hl5⟩ := hst'
    by_cases hlt : i < n
    · obtain ⟨⟨t, d⟩, hx⟩ : ∃ x, P.files[i]? = some x := ⟨_, List.getElem?_eq_getElem (by have := hV.out.1; omega)⟩
      have hmem := List.mem_of_getElem? hx
      have hfd : find P.files t = some d := find_mem HH.out.2.files.1 hmem
      have hdt : dat P.files t = d := by unfold dat; rw [hfd]; rfl
      have htn := HH.out.2.files.2.1 _ hmem
      have hdb := HH.out.2.files.2.2.2.2 _ hmem
      have hdl : d.length ≤ 1073741824 := by
        have h1 := dat_le HH.out.2.files.1 t
        rw [hdt] at h1
        have := HH.out.2.files.2.2.1
        have := HH.out.2.2.1
        omega
      obtain ⟨k, hk⟩ : ∃ k, d.length = k := ⟨_, rfl⟩
      have hbw : Below w.heap.size w wr := hV.out.2.2.trans (hl5.mono hV.out.2.2.size)
      have H2 := pd_read (HH.out.1.below hbw) t (ok_of htn.2) k (by rw [hdt]; exact hk)
      rw [hdt, hfd] at H2
      have H2 := Lib.hid H2
      have hnr := own_below hV.out.2.1 hl5 (Nat.le_refl _)
      have p0 : wr.cell? ⟨gn, i, none⟩ = some (.string t) := by
        have h1 := hnr.cellAt i (by omega)
        rw [List.getElem?_map, hx] at h1
        exact h1
      have hT : Hid (P.files.take (i + 1) = P.files.take i ++ [(t, d)]) := Lib.hid (map_take_succ _ hx)
      have HS := Lib.hid (And.intro hl1 (And.intro hl2 (And.intro hl3 (And.intro hl4 (And.intro hl5 (And.intro hnr (And.intro htn (And.intro hdb (And.intro hk (And.intro hbw hx))))))))))
      have d1 : (0 : Int) ≤ (i : Int) := by omega
      have d2 : (i : Int) < (n : Int) := by omega
      clear hst hl1 hl2 hl3 hl4 hl5 hmem hfd hdt htn hdb hk hbw hnr hx
      go_wp2_with fail
      refine H2.out.mono ?_
      rintro e w2 ⟨A1, c1, rfl, h2⟩
      have q0 : w2.cell? ⟨gn, i, none⟩ = some (.string t) := by
        have h1 := (own_below HS.out.2.2.2.2.2.1 h2.out.2 (Nat.le_refl _)).cellAt i (by omega)
        rw [List.getElem?_map, HS.out.2.2.2.2.2.2.2.2.2.2] at h1
        exact h1
      have ho2 := Lib.hid (own_below HS.out.2.1 h2.out.2 (Nat.le_refl _))
      have hs2 : Hid (V.heap.size ≤ w2.heap.size) := Lib.hid (Nat.le_trans HS.out.2.2.2.2.1.size h2.out.2.size)
      have hdv : Hid ((⟨d, A1, c1⟩ : Df).v = .slice A1 k c1) := Lib.hid (by rw [← HS.out.2.2.2.2.2.2.2.2.1]; rfl)
      go_wp2_with (at_builtin; rw [← hdv.out]; refine wpList_append_fl rfl _ _ 33 rfl V.heap.size 67 i0 _ 40 Try.underlying33 hi0 hz0 hz1 hz2 rfl (.slice Aq i cq) i l rfl ho2.out (t, ⟨d, A1, c1⟩) 1 rfl (by omega) (by omega) hs2.out ?_; intro v7 w7 o7 g7 at7; obtain ⟨A7, c7, rfl⟩ := own_form o7; have HZ := Lib.hid (And.intro o7 (And.intro g7 at7)); clear o7 g7 at7)
      refine ⟨⟨i + 1, A7, c7, rfl, rfl, by omega, Lib.hid ⟨l ++ [(t, ⟨d, A1, c1⟩)], ?_, HZ.out.1, ?_, ?_, ?_⟩⟩, by simp only [intOf]; omega⟩
      · rw [List.length_append, HS.out.1]
        rfl
      · have e1 : fsR (l ++ [(t, ⟨d, A1, c1⟩)]) = fsR l ++ [(t, d)] := by unfold fsR mapV; rw [List.map_append]; rfl
        rw [e1, HS.out.2.2.1, hT.out]
      · have hk2 : ∀ {y : Df}, FlOK (fun j => w.heap.size ≤ j) w2 y → FlOK (fun j => w.heap.size ≤ j) w7 y := fun {y} hy => ⟨own_keep hy.1 fun g hg => HZ.out.2.1.block g (hy.1.lt g hg).2 fun e => own_ne2 hy.1 ho2.out (by decide) hg e.symm, hy.2⟩
        intro x hx
        rcases List.mem_append.1 hx with hx | hx
        · exact ⟨hk2 ((HS.out.2.2.2.1 x hx).1.keep (fun j _ hj => h2.out.2.block j hj) fun _ => id), (HS.out.2.2.2.1 x hx).2⟩
        · rw [List.mem_singleton] at hx
          subst hx
          exact ⟨hk2 (fl_own h2.out.1 HS.out.2.2.2.2.2.2.2.2.1 (fun j hj => Nat.le_trans HS.out.2.2.2.2.2.2.2.2.2.1.size hj) HS.out.2.2.2.2.2.2.2.1 (by have := HS.out.2.2.2.2.2.2.2.2.1; omega)), HS.out.2.2.2.2.2.2.1.2⟩
      · exact (HS.out.2.2.2.2.1.trans (h2.out.2.mono HS.out.2.2.2.2.1.size)).grown HZ.out.2.1 hs2.out fun g hg => (ho2.out.lt g hg).1
    · obtain rfl : i = n := by omega
      have HE : Hid (∃ l, Fr (fun j => w.heap.size ≤ j) wr Aq i cq l ∧ fsR l = P.files ∧ Below w.heap.size w wr) := Lib.hid ⟨l, ⟨hl1, own_base hl2 (Nat.zero_le _), fun g hg => Nat.le_trans hV.out.2.2.size (hl2.lt g hg).1, fun x hx => (hl4 x hx).1, fun x hx => (hl4 x hx).2⟩, by rw [hl3, List.take_of_length_le (by have := hV.out.1; omega)], hV.out.2.2.trans (hl5.mono hV.out.2.2.size)⟩
      clear hl1 hl2 hl3 hl4 hl5 hst
      go_wp2_with fail
      go_ret
      exact ⟨Aq, i, cq, rfl, HE⟩
end
theorem fs_at {l l' : Rl} (h : fsR l = fsR l') {i : Nat} {x y : Nm × Df} (hx : l[i]? = some x) (hy : l'[i]? = some y) : x.1 = y.1 ∧ x.2.d = y.2.d := by
  have h1 : (fsR l)[i]? = some (x.1, x.2.d) := by unfold fsR mapV; rw [List.getElem?_map, hx]; rfl
  have h2 : (fsR l')[i]? = some (y.1, y.2.d) := by unfold fsR mapV; rw [List.getElem?_map, hy]; rfl
  rw [h, h2] at h1
  injection h1 with h1
  injection h1 with h1 h2
  exact ⟨h1.symm, h2.symm⟩
theorem fs_len {l l' : Rl} (h : fsR l = fsR l') : l.length = l'.length := by
  have h1 := congrArg List.length h
  unfold fsR mapV at h1
  rwa [List.length_map, List.length_map] at h1
section
variable {F G : Nat → Prop} {w : World} {A A' : Option Addr} {n n' c c' : Nat} {l l' : Rl}
set_option maxRecDepth 100000 in
set_option maxHeartbeats 4000000 in
theorem same_yes (h : Fr F w A n c l) (h' : Fr G w A' n' c' l') (hs : fsR l = fsR l') :
    Calls Try.prog 16 #[.slice A n c, .slice A' n' c'] w (fun e w' => e = .returned (.bool true) ∧ Below w.heap.size w w') := by
  obtain rfl : n = n' := by rw [← h.1, ← h'.1]; exact fs_len hs
  have hsm := h.small
  have HH := Lib.hid (And.intro h (And.intro h' hs))
  clear h h' hs
  go_enter Try.func16, Try.ntmps16
  go_wp2_with fail
  go_loopw [5] (fun iv V => ∃ i : Nat, iv = .int .i64 i ∧ i ≤ n ∧ Below w.heap.size w V) (fun iv _ => n - (intOf iv).toNat)
  case atStart => exact ⟨0, rfl, by omega, Below.refl _ _⟩
  case round =>
    obtain ⟨i, rfl, hi, hbw⟩ := hrel
    by_cases hlt : i < n
    · obtain ⟨⟨t, x⟩, hx⟩ : ∃ x, l[i]? = some x := ⟨_, List.getElem?_eq_getElem (by have := HH.out.1.1; omega)⟩
      obtain ⟨⟨t', y⟩, hy⟩ : ∃ x, l'[i]? = some x := ⟨_, List.getElem?_eq_getElem (by have := HH.out.2.1.1; omega)⟩
      obtain ⟨e1, e2⟩ := fs_at HH.out.2.2 hx hy
      simp only at e1 e2
      subst e1
      have hF1 := HH.out.1.below hbw (Nat.le_refl _)
      have hF2 := HH.out.2.1.below hbw (Nat.le_refl _)
      obtain ⟨g, rfl, p0, p1⟩ := hF1.at hx
      obtain ⟨g', rfl, q0, q1⟩ := hF2.at hy
      have n1 := (hF1.2.2.2.1 _ (List.mem_of_getElem? hx)).ns
      have n2 := (hF2.2.2.2.1 _ (List.mem_of_getElem? hy)).ns
      simp only [Df.v] at p0 p1 q0 q1 n1 n2
      rw [← e2] at q1 n2
      have k1 := fun m => run_conv_ns (P := Try.prog) (wr.drewN m) 29 5 9 Try.underlying29 Try.underlying5 Try.underlying9 x.c (n1.drewN m)
      have k2 := fun m => run_conv_ns (P := Try.prog) (wr.drewN m) 29 5 9 Try.underlying29 Try.underlying5 Try.underlying9 y.c (n2.drewN m)
      obtain ⟨kx, hkx⟩ : ∃ k, x.d.length = k := ⟨_, rfl⟩
      obtain ⟨St, hSt⟩ : ∃ S, strOfNums x.d = S := ⟨_, rfl⟩
      rw [hSt, hkx] at k1 k2
      rw [hkx] at p1 q1
      have d1 : (0 : Int) ≤ (i : Int) := by omega
      have d2 : (i : Int) < (n : Int) := by omega
      have HB := Lib.hid hbw
      clear hx hy hF1 hF2 n1 n2 e2 hkx hSt hbw
      go_wp2_with fail
      go_quiet (fail)
      all_goals
        go_wp2_with fail
        exact ⟨⟨i + 1, rfl, by omega, HB.out.trans ⟨rfl, rfl, rfl, Nat.le_refl _, fun _ _ => rfl⟩⟩, by simp only [intOf]; omega⟩
    · obtain rfl : i = n := by omega
      go_wp2_with fail
      go_ret
      exact ⟨rfl, hbw⟩
end
end Disk
end Go.Proofs.Ytdcppjpjlhbanaa
