/-
  Several texts of this family in one: VersSame, VersSames, VersOwn, VersTog, VersPut, VersMergeRef, VersKeep, VersSlice.
-/
import Derived.Test.YtbaclinjimfncaaGreatGRef
import Derived.Test.YtbaclinjimfncaaGreatGBase
import Derived.RangeFuncBox
/-
  Whether two versions, two lists of them, are the same.
-/
namespace Go.Proofs.YtbaclinjimfncaaGreat
namespace Vers
open Go.RowKit Span

theorem str_eq (x y : ByteArray) : (x.toList == y.toList) = decide (x = y) := by
  rw [Lib.toList_data, Lib.toList_data]
  by_cases h : x = y
  · subst h; simp
  · rw [decide_eq_false h]
    have h2 : ¬ x.data.toList = y.data.toList := fun e => h (ByteArray.ext (Array.toList_inj.1 e))
    simpa using h2

set_option maxRecDepth 100000 in
set_option maxHeartbeats 1000000 in
theorem ref_sameone_any (A A' : Option Addr) (c c' k k' : Nat) (s n s' n' : Int) (p p' : List Sp) (g g' : Bool) (x x' : ByteArray) (hk : p.length = k) (hk' : p'.length = k') (w : World) (hp : Ss w w.heap.size A p) (hp' : Ss w w.heap.size A' p') (hb : k ≤ 140737488355328) (hb' : k' ≤ 140737488355328) :
    Calls Tryz.prog 56 #[.agg #[.int .i64 s, .int .i64 n, .slice A k c, .bool g, .string x], .agg #[.int .i64 s', .int .i64 n', .slice A' k' c', .bool g', .string x']] w fun e w' => e = .returned (.bool (decide ((⟨s, n, p, g, x⟩ : Vr) = ⟨s', n', p', g', x'⟩))) ∧ Below w.heap.size w w' := by
  obtain ⟨R, hR⟩ : ∃ R, decide ((⟨s, n, p, g, x⟩ : Vr) = ⟨s', n', p', g', x'⟩) = R := ⟨_, rfl⟩
  rw [hR]
  have hRR : ((⟨s, n, p, g, x⟩ : Vr) = ⟨s', n', p', g', x'⟩) ↔ s = s' ∧ n = n' ∧ p = p' ∧ g = g' ∧ x = x' := by simp
  have h1 := fun W (hbW : Below w.heap.size w W) => same_any A A' c c' k k' p p' hk hk' W ((hp.below hbW).more hbW.size) ((hp'.below hbW).more hbW.size) hb hb'
  have hbb : Below w.heap.size w ((w.alloc (.cells #[.int .i64 s, .int .i64 n, .slice A k c, .bool g, .string x] 58)).alloc (.cells #[.int .i64 s', .int .i64 n', .slice A' k' c', .bool g', .string x'] 58)) := ((Below.refl _ w).alloc (Nat.le_refl _) _).alloc (by simp) _
  have HB := Lib.hid hbb
  clear hp hp' hk hk' hbb
  by_cases cd : s = s' ∧ n = n'
  · by_cases cg : g = g'
    · by_cases cx : x = x'
      · obtain ⟨q, hq⟩ : ∃ q, decide (p = p') = q := ⟨_, rfl⟩
        have HF := Lib.hid (show R = q by
          rw [← hR, ← hq]
          congr 1
          exact propext ⟨fun h => (hRR.1 h).2.2.1, fun h => hRR.2 ⟨cd.1, cd.2, h, cg, cx⟩⟩)
        rw [hq] at h1
        have H1 := Lib.hid h1
        obtain ⟨rfl, rfl⟩ := cd
        subst cg cx
        clear hR hRR h1 hq
        have gg : (g == g) = true := by simp
        go_enter Tryz.func56, Tryz.ntmps56
        go_wp2_with fail
        refine (H1.out _ HB.out).mono ?_
        rintro e w1 ⟨rfl, b1⟩
        have BE := HB.out.trans (b1.mono HB.out.size)
        clear b1 H1
        go_wp2_with fail
        go_ret
        exact ⟨by rw [HF.out]; rfl, BE⟩
      · have HF := Lib.hid (show R = false by rw [← hR]; exact decide_eq_false fun h => cx (hRR.1 h).2.2.2.2)
        have gx : (x.toList == x'.toList) = false := by rw [str_eq]; exact decide_eq_false cx
        have gx' : ¬ x.toList = x'.toList := by simpa using gx
        obtain ⟨rfl, rfl⟩ := cd
        subst cg
        clear hR hRR h1 cx
        have gg : (g == g) = true := by simp
        go_enter Tryz.func56, Tryz.ntmps56
        go_wp2_with fail
        go_ret
        exact ⟨by rw [HF.out]; rfl, HB.out⟩
    · have HF := Lib.hid (show R = false by rw [← hR]; exact decide_eq_false fun h => cg (hRR.1 h).2.2.2.1)
      have gg : (g == g') = false := by simpa using cg
      obtain ⟨rfl, rfl⟩ := cd
      clear hR hRR h1 cg
      go_enter Tryz.func56, Tryz.ntmps56
      go_wp2_with fail
      go_ret
      exact ⟨by rw [HF.out]; rfl, HB.out⟩
  · have HF := Lib.hid (show R = false by rw [← hR]; exact decide_eq_false fun h => cd ⟨(hRR.1 h).1, (hRR.1 h).2.1⟩)
    clear hR hRR h1
    by_cases cs : s = s'
    · have cn : ¬ n = n' := fun h => cd ⟨cs, h⟩
      have gn : (n == n') = false := by simpa using cn
      subst cs
      clear cd cn
      go_enter Tryz.func56, Tryz.ntmps56
      go_wp2_with fail
      go_ret
      exact ⟨by rw [HF.out]; rfl, HB.out⟩
    · have gs : (s == s') = false := by simpa using cs
      clear cd cs
      go_enter Tryz.func56, Tryz.ntmps56
      go_wp2_with fail
      go_ret
      exact ⟨by rw [HF.out]; rfl, HB.out⟩

end Vers
end Go.Proofs.YtbaclinjimfncaaGreat

/-
  Whether two lists of versions are the same.
-/
namespace Go.Proofs.YtbaclinjimfncaaGreat
namespace Vers
open Go.RowKit Span
attribute [local go_sem ↓] Go.wp_at_zero Go.wp_at_succ

theorem takeV_eq {l m : List Vr} {k : Nat} (hl : k < l.length) (hm : k < m.length) (h : l.take k = m.take k) (he : l.getD k v0 = m.getD k v0) : l.take (k + 1) = m.take (k + 1) := by
  rw [take_v hl, take_v hm, h, he]
theorem takeV_ne {l m : List Vr} {k : Nat} (he : l.getD k v0 ≠ m.getD k v0) : ¬ l = m := fun h => he (by rw [h])

set_option maxRecDepth 100000 in
set_option maxHeartbeats 4000000 in
theorem ref_sameV_any (A A' : Option Addr) (c c' n n' : Nat) (l l' : List Vr) (hn : l.length = n) (hn' : l'.length = n') (w : World) (hv : Vs w 0 w.heap.size A l) (hv' : Vs w 0 w.heap.size A' l') (hb : n ≤ 140737488355328) (hb' : n' ≤ 140737488355328) :
    Calls Tryz.prog 37 #[.slice A n c, .slice A' n' c'] w fun e w' => e = .returned (.bool (decide (l = l'))) ∧ Below w.heap.size w w' := by
  obtain ⟨R, hR⟩ : ∃ R, decide (l = l') = R := ⟨_, rfl⟩
  rw [hR]
  by_cases hlen : n = n'
  · subst hlen
    have HV := Lib.hid (And.intro hv (And.intro hv' (And.intro hn (And.intro hn' hR))))
    clear hv hv' hn hn' hR
    go_enter Tryz.func37, Tryz.ntmps37
    go_wp2
    go_loopw [5] (fun q wr => ∃ k : Nat, q = .int .i64 k ∧ k ≤ n ∧ Below w.heap.size w wr ∧ Hid (l.take k = l'.take k)) (fun q _ => n - (intOf q).toNat)
    case atStart => exact ⟨0, rfl, by omega, Below.refl _ _, Lib.hid rfl⟩
    case round =>
      obtain ⟨k, rfl, hk, hb1, hst⟩ := hrel
      have hsz := hb1.size
      by_cases hlt : k < n
      · obtain ⟨b, off, A1, c1, rfl, _, hbB, a0, a1, a2, a3, a4, hpa⟩ := HV.out.1.at HV.out.2.2.1 hb1 hlt rfl
        obtain ⟨b', off', A1', c1', rfl, _, hbB', a0', a1', a2', a3', a4', hpa'⟩ := HV.out.2.1.at HV.out.2.2.2.1 hb1 hlt rfl
        have hy := takeV_eq (l := l) (m := l') (by have := HV.out.2.2.1; omega) (by have := HV.out.2.2.2.1; omega) hst.out
        have hz := takeV_ne (l := l) (m := l') (k := k)
        obtain ⟨v, hvv⟩ : ∃ v, l.getD k v0 = v := ⟨_, rfl⟩
        obtain ⟨v', hvv'⟩ : ∃ v, l'.getD k v0 = v := ⟨_, rfl⟩
        rw [hvv] at a0 a1 a2 a3 a4 hpa
        rw [hvv'] at a0' a1' a2' a3' a4' hpa'
        rw [hvv, hvv'] at hy hz
        clear hvv hvv'
        obtain ⟨s, vn, vp, vg, vx⟩ := v
        obtain ⟨s', vn', vp', vg', vx'⟩ := v'
        simp only at a0 a1 a2 a3 a4 a0' a1' a2' a3' a4'
        obtain ⟨hps, _, hpb, _, _⟩ := hpa
        obtain ⟨hps', _, hpb', _, _⟩ := hpa'
        simp only at hps hpb hps' hpb'
        obtain ⟨kp, hkp⟩ : ∃ kp, vp.length = kp := ⟨_, rfl⟩
        obtain ⟨kp', hkp'⟩ : ∃ kp, vp'.length = kp := ⟨_, rfl⟩
        rw [hkp] at a2 hpb
        rw [hkp'] at a2' hpb'
        have h1 := ref_sameone_any A1 A1' c1 c1' kp kp' s vn s' vn' vp vp' vg vg' vx vx' hkp hkp' wr.drew (hps.more (B' := wr.drew.heap.size) (by exact hsz)) (hps'.more (B' := wr.drew.heap.size) (by exact hsz)) hpb hpb'
        obtain ⟨q, hq⟩ : ∃ q, decide ((⟨s, vn, vp, vg, vx⟩ : Vr) = ⟨s', vn', vp', vg', vx'⟩) = q := ⟨_, rfl⟩
        rw [hq] at h1
        have HN := Lib.hid (show (q = true → l.take (k + 1) = l'.take (k + 1)) ∧ (q = false → R = false) from ⟨fun h => hy (of_decide_eq_true (hq.trans h)), fun h => by
          rw [← HV.out.2.2.2.2]
          exact decide_eq_false (hz (of_decide_eq_false (hq.trans h)))⟩)
        have H1 := Lib.hid h1
        have lb : b < wr.heap.size := by omega
        have lb' : b' < wr.heap.size := by omega
        have d1 : (0 : Int) ≤ (k : Int) := by omega
        have d2 : (k : Int) < (n : Int) := by omega
        clear h1 hy hz hq hkp hkp' hps hps' hst
        go_wp2
        go_region_held3 (fun V => V.cell? ⟨b, off + k * 5, none⟩ = some (.int .i64 s) ∧ V.cell? ⟨b, off + k * 5 + 1, none⟩ = some (.int .i64 vn) ∧ V.cell? ⟨b, off + k * 5 + 2, none⟩ = some (.slice A1 kp c1) ∧ V.cell? ⟨b, off + k * 5 + 3, none⟩ = some (.bool vg) ∧ V.cell? ⟨b, off + k * 5 + 4, none⟩ = some (.string vx) ∧
            V.cell? ⟨b', off' + k * 5, none⟩ = some (.int .i64 s') ∧ V.cell? ⟨b', off' + k * 5 + 1, none⟩ = some (.int .i64 vn') ∧ V.cell? ⟨b', off' + k * 5 + 2, none⟩ = some (.slice A1' kp' c1') ∧ V.cell? ⟨b', off' + k * 5 + 3, none⟩ = some (.bool vg') ∧ V.cell? ⟨b', off' + k * 5 + 4, none⟩ = some (.string vx'))
          (first | exact ⟨a0, a1, a2, a3, a4, a0', a1', a2', a3', a4'⟩ | exact ⟨cell_below b1 lb a0, cell_below b1 lb a1, cell_below b1 lb a2, cell_below b1 lb a3, cell_below b1 lb a4, cell_below b1 lb' a0', cell_below b1 lb' a1', cell_below b1 lb' a2', cell_below b1 lb' a3', cell_below b1 lb' a4'⟩)
          (first | (go_at_call 56; refine H1.out.mono ?_; rintro e w1 ⟨rfl, b1⟩))
        have BE : Below w.heap.size w w1 := hb1.drew.trans (Below.mono b1 (by exact hsz))
        clear b1 H1 hb1
        cases q
        · have HF := Lib.hid (HN.out.2 rfl)
          clear HN
          go_wp2
          go_ret
          exact ⟨by rw [HF.out]; rfl, BE⟩
        · have HF := Lib.hid (HN.out.1 rfl)
          clear HN
          go_wp2
          exact ⟨⟨k + 1, rfl, by omega, BE, HF⟩, by simp only [intOf]; omega⟩
      · have hkn : k = n := by omega
        subst hkn
        have HF := Lib.hid (show R = true by
          rw [← HV.out.2.2.2.2]
          refine decide_eq_true ?_
          have := hst.out
          rwa [List.take_of_length_le (by have := HV.out.2.2.1; omega), List.take_of_length_le (by have := HV.out.2.2.2.1; omega)] at this)
        clear hst
        go_wp2
        go_ret
        exact ⟨by rw [HF.out]; rfl, hb1⟩
  · have HF := Lib.hid (show R = false by rw [← hR]; exact decide_eq_false fun h => hlen (by rw [← hn, ← hn', h]))
    clear hv hv' hn hn' hR
    go_enter Tryz.func37, Tryz.ntmps37
    go_wp2
    go_ret
    exact ⟨by rw [HF.out]; rfl, Below.refl _ _⟩
end Vers
end Go.Proofs.YtbaclinjimfncaaGreat

/-
  Versions in a row of the call's own, five cells to a version; append onto such a row.
-/
namespace Go.Proofs.YtbaclinjimfncaaGreat
namespace Vers
open Go.RowKit Span

/-- A version with the place of its past. -/
abbrev Pv := Vr × Option Addr × Nat
def z0 : Pv := (v0, none, 0)
def vcc (p : Pv) : List Value := [.int .i64 p.1.s, .int .i64 p.1.n, .slice p.2.1 p.1.past.length p.2.2, .bool p.1.gone, .string p.1.val]
def vcs (ps : List Pv) : List Value := ps.flatMap vcc
theorem vcs_cons (p : Pv) (ps : List Pv) : vcs (p :: ps) = vcc p ++ vcs ps := by simp [vcs]
theorem vcs_append (ps qs : List Pv) : vcs (ps ++ qs) = vcs ps ++ vcs qs := by simp [vcs]
theorem vcs_one (p : Pv) : vcs [p] = vcc p := by simp [vcs]
theorem vcs_length (ps : List Pv) : (vcs ps).length = ps.length * 5 := by
  induction ps with
  | nil => rfl
  | cons p ps ih =>
    rw [vcs_cons, List.length_append, ih]
    simp [vcc]
    omega
theorem vcs_at (ps : List Pv) : ∀ j, j < ps.length → ∀ r, r < 5 → (vcs ps)[j * 5 + r]? = (vcc (ps.getD j z0))[r]? := by
  induction ps with
  | nil => intro j h; simp at h
  | cons p ps ih =>
    intro j hj r hr
    rw [vcs_cons]
    rcases j with _ | j
    · rw [List.getElem?_append_left (by simp [vcc]; omega)]
      simp
    · have h := ih j (by simpa using hj) r hr
      rw [List.getElem?_append_right (by simp [vcc]; omega)]
      rw [show (j + 1) * 5 + r - (vcc p).length = j * 5 + r by simp [vcc]; omega, h]
      simp
theorem vcs_cell (ps : List Pv) : ∀ u ∈ vcs ps, u.oneCell' = true := by
  intro u hu
  obtain ⟨p, _, hp⟩ := List.mem_flatMap.1 hu
  simp [vcc] at hp
  rcases hp with rfl | rfl | rfl | rfl | rfl <;> rfl
theorem add_plain (b off k : Nat) : (⟨b, off, none⟩ : Addr).add k = ⟨b, off + k, none⟩ := by unfold Addr.add; split <;> simp_all

/-- What stands in a slice of versions, with the places of their pasts. -/
theorem vs_pick {w : World} {L B b off : Nat} {l : List Vr} (h : Vs w L B (some ⟨b, off, none⟩) l) (hl : 0 < l.length) :
    ∃ ps : List Pv, ps.map Prod.fst = l ∧ (∀ j u, (vcs ps)[j]? = some u → w.cell? ((⟨b, off, none⟩ : Addr).add j) = some u) ∧ ∀ p ∈ ps, Pa w L B p.2.1 p.2.2 p.1 := by
  obtain ⟨b', off', e, _, hb, hc⟩ := h hl
  injection e with e
  injection e with e1 e2
  subst e1 e2
  obtain ⟨f, hf⟩ : ∃ f : Nat → Option Addr × Nat, ∀ j, j < l.length → Vat w L B b (off + j * 5) (l.getD j v0) (f j).1 (f j).2 :=
    ⟨fun j => if h : j < l.length then ((hc j h).choose, (hc j h).choose_spec.choose) else (none, 0), fun j h => by simp only [dif_pos h]; exact (hc j h).choose_spec.choose_spec⟩
  have hlen : ((List.range l.length).map fun j => ((l.getD j v0, f j) : Pv)).length = l.length := by simp
  have hat : ∀ j, j < l.length → ((List.range l.length).map fun j => ((l.getD j v0, f j) : Pv)).getD j z0 = (l.getD j v0, f j) := fun j hj => by simp [List.getD_eq_getElem?_getD, hj]
  refine ⟨(List.range l.length).map fun j => (l.getD j v0, f j), ?_, fun j u hu => ?_, fun p hp => ?_⟩
  · rw [List.map_map]
    apply List.ext_getElem?
    intro j
    by_cases hj : j < l.length
    · simp [hj, List.getD_eq_getElem?_getD]
    · simp [hj]
  · have hj : j < (vcs ((List.range l.length).map fun j => ((l.getD j v0, f j) : Pv))).length := by
      rcases Nat.lt_or_ge j (vcs ((List.range l.length).map fun j => ((l.getD j v0, f j) : Pv))).length with h | h
      · exact h
      · rw [List.getElem?_eq_none h] at hu; cases hu
    rw [vcs_length, hlen] at hj
    have hq : j / 5 < l.length := by omega
    have hj2 : j = j / 5 * 5 + j % 5 := by omega
    have hr : j % 5 < 5 := Nat.mod_lt _ (by omega)
    rw [hj2, vcs_at _ _ (by rw [hlen]; exact hq) _ hr, hat _ hq] at hu
    obtain ⟨h0, h1, h2, h3, h4, _⟩ := hf (j / 5) hq
    rw [add_plain]
    have e0 : off + j = off + j / 5 * 5 + j % 5 := by omega
    rw [e0]
    obtain ⟨r, hrr⟩ : ∃ r, j % 5 = r := ⟨_, rfl⟩
    rw [hrr] at hu hr ⊢
    match r, hr with
    | 0, _ => simp [vcc] at hu; rw [← hu]; exact h0
    | 1, _ => simp [vcc] at hu; rw [← hu]; exact h1
    | 2, _ => simp [vcc] at hu; rw [← hu]; exact h2
    | 3, _ => simp [vcc] at hu; rw [← hu]; exact h3
    | 4, _ => simp [vcc] at hu; rw [← hu]; exact h4
  · obtain ⟨j, hj, rfl⟩ := List.mem_map.1 hp
    exact (hf j (List.mem_range.1 hj)).2.2.2.2.2

/-- A row of versions of the call's own; their pasts lie between L and B. -/
def OwnVs (base L B : Nat) (w : World) (v : Value) (ps : List Pv) : Prop := w.ownsRow base 58 5 v ps.length (vcs ps) ∧ ∀ p ∈ ps, Pa w L B p.2.1 p.2.2 p.1

theorem OwnVs.vs {base L B n c : Nat} {w : World} {A : Option Addr} {ps : List Pv} (h : OwnVs base L B w (.slice A n c) ps) (hL : L ≤ base) (hB : B ≤ w.heap.size) : Vs w L w.heap.size A (ps.map Prod.fst) := by
  intro hp
  rw [List.length_map] at hp
  obtain ⟨ho, hpa⟩ := h
  rcases ho.2 with ⟨_, h0⟩ | ⟨g, cap, cur, hv, hbg, hg, rest⟩
  · omega
  · injection hv with h1 h2 h3
    subst h1
    refine ⟨g, 0, rfl, by omega, (Array.getElem?_eq_some_iff.1 hg).1, fun j hj => ?_⟩
    rw [List.length_map] at hj
    have e : (ps.map Prod.fst).getD j v0 = (ps.getD j z0).1 := by simp [List.getD_eq_getElem?_getD, hj]
    have hm : ps.getD j z0 ∈ ps := by
      rw [List.getD_eq_getElem?_getD, List.getElem?_eq_getElem hj]
      exact List.getElem_mem _
    rw [e]
    have hat : ∀ r, r < 5 → ∀ u, (vcc (ps.getD j z0))[r]? = some u → w.cell? ⟨g, 0 + j * 5 + r, none⟩ = some u := fun r hr u hu => by
      have hc := ho.cells (g := g) rfl (j * 5 + r) u (by rw [vcs_at ps j hj r hr]; exact hu)
      rw [add_plain] at hc
      rw [show 0 + j * 5 + r = 0 + (j * 5 + r) by omega]
      exact hc
    exact ⟨_, _, hat 0 (by omega) _ (by simp [vcc]), hat 1 (by omega) _ (by simp [vcc]), hat 2 (by omega) _ (by simp [vcc]), hat 3 (by omega) _ (by simp [vcc]), hat 4 (by omega) _ (by simp [vcc]), (hpa _ hm).more hB⟩
theorem OwnVs.below {base L B : Nat} {w w' : World} {v : Value} {ps : List Pv} (h : OwnVs base L B w v ps) (hB : B ≤ w.heap.size) (hb : Below w.heap.size w w') : OwnVs base L B w' v ps :=
  ⟨own_below h.1 hb (Nat.le_refl _), fun p hp => (h.2 p hp).below (hb.mono hB)⟩
theorem pa_grown {w w' : World} {L B : Nat} {row : Option Nat} {ps : List Pv} (h : ∀ p ∈ ps, Pa w L B p.2.1 p.2.2 p.1) (hg : w.grownBy w' row) (hB : B ≤ w.heap.size) (hr : ∀ k, row = some k → B ≤ k) : ∀ p ∈ ps, Pa w' L B p.2.1 p.2.2 p.1 :=
  fun p hp => (h p hp).keep fun a _ ha => World.cell?_of_block (hg.block a.block (by omega) (fun e => by have := hr _ e.symm; omega))

theorem info_ver : (Tryz.prog.info? 58).map (fun i => (i.zero, i.size, i.bytes)) = some (some (.agg #[.int .i64 0, .int .i64 0, .slice none 0 0, .bool false, .string ⟨#[]⟩]), 5, 64) := by kernel_rfl

section
variable {P : Program} (w : World)
/-- append of one version that was just laid in a block of its own, onto a row of the call's own. -/
theorem wpList_append_v {ops : Array Oper} {rest : List Oper} {o : Oper} {a : Act} {Q : Exit → Act → World → Prop} (hgd : o.guard = none) (s x : Operand) (t : TypeId)
    (ho : o.op = .call { callee := .builtin .append, args := #[s, x], argTypes := #[t, t] })
    (base : Nat) (e : TypeId) (i : TypeInfo) (z : Value) (bytes : Nat) (ht : P.underlying t = some (.slice e)) (hi : P.info? e = some i) (hz : i.zero = some z)
    (hsize : i.size = 5) (hby : i.bytes = bytes) (hzs : z.cells.size = 5)
    (v : Value) (n : Nat) (ps : List Pv) (hs : a.eval s = v) (hown : w.ownsRow base e 5 v n (vcs ps)) (p : Pv) (k : Nat) (hk : p.1.past.length = k) (c : Nat)
    (hx : a.eval x = .slice (some ⟨w.heap.size, 0, none⟩) 1 c)
    (hbytes : (n + 1) * bytes ≤ 140737488355328) (hn : n + 1 ≤ 140737488355328) (hbase : base ≤ w.heap.size)
    (h : ∀ v' w', w'.ownsRow base e 5 v' (n + 1) (vcs (ps ++ [p])) → w.grownBy w' v.ownBlock → (v'.ownBlock = v.ownBlock ∨ ∃ g, v'.ownBlock = some g ∧ w.heap.size ≤ g) → wpList P ops Q rest (a.put o.dst v') w') :
    wpList P ops Q (o :: rest) a (w.alloc (.cells #[.int .i64 p.1.s, .int .i64 p.1.n, .slice p.2.1 k p.2.2, .bool p.1.gone, .string p.1.val] e)) := by
  subst hk
  refine wpList_append_own_at _ hgd s x t ho base e i z 5 bytes ht hi hz hsize hby hzs (by omega) v n (vcs ps) hs (hown.alloc _) ⟨w.heap.size, 0, none⟩ 1 c (vcc p) hx rfl ?_ ?_ (by unfold maxLen; omega) hbytes (by simp; omega) ?_
  · intro j u' hj
    match j, hj with
    | 0, hj => simp [vcc] at hj; subst hj; simp [Addr.add]
    | 1, hj => simp [vcc] at hj; subst hj; simp [Addr.add]
    | 2, hj => simp [vcc] at hj; subst hj; simp [Addr.add]
    | 3, hj => simp [vcc] at hj; subst hj; simp [Addr.add]
    | 4, hj => simp [vcc] at hj; subst hj; simp [Addr.add]
  · intro u' hu
    exact vcs_cell [p] u' (by rw [vcs_one]; exact hu)
  · intro v' w' hown' hg _ hat
    refine h v' w' ?_ ?_ ?_
    · rw [vcs_append, vcs_one]; exact hown'
    · exact ⟨hg.os, hg.tape, hg.output, Nat.le_trans (by simp) hg.size, fun k hk hne => (hg.block k (by simp; omega) hne).trans (Below.heap_alloc w _ k hk)⟩
    · rcases hat with h1 | h1
      · exact .inl h1
      · exact .inr ⟨_, h1, by simp⟩

/-- append of a slice of versions, nil and empty ones too, onto a row of the call's own. -/
theorem wpList_append_vs {ops : Array Oper} {rest : List Oper} {o : Oper} {a : Act} {Q : Exit → Act → World → Prop} (hgd : o.guard = none) (s x : Operand) (t : TypeId)
    (ho : o.op = .call { callee := .builtin .append, args := #[s, x], argTypes := #[t, t] })
    (base : Nat) (e : TypeId) (i : TypeInfo) (z : Value) (bytes : Nat) (ht : P.underlying t = some (.slice e)) (hi : P.info? e = some i) (hz : i.zero = some z)
    (hsize : i.size = 5) (hby : i.bytes = bytes) (hzs : z.cells.size = 5)
    (v : Value) (n : Nat) (ps : List Pv) (hs : a.eval s = v) (hown : w.ownsRow base e 5 v n (vcs ps)) (L B : Nat) (A : Option Addr) (m c : Nat) (ys : List Vr) (hm : ys.length = m)
    (hx : a.eval x = .slice A m c) (hr : Vs w L B A ys)
    (hbytes : (n + m) * bytes ≤ 140737488355328) (hn : n + m ≤ 140737488355328) (hbase : base ≤ w.heap.size)
    (h : ∀ v' w' qs, qs.map Prod.fst = ys → (∀ p ∈ qs, Pa w L B p.2.1 p.2.2 p.1) → w'.ownsRow base e 5 v' (n + m) (vcs (ps ++ qs)) → w.grownBy w' v.ownBlock → (v'.ownBlock = v.ownBlock ∨ v'.ownBlock = some w.heap.size) → wpList P ops Q rest (a.put o.dst v') w') :
    wpList P ops Q (o :: rest) a w := by
  subst hm
  rcases A with _ | ad
  · have h0 : ys = [] := by
      rcases Nat.eq_zero_or_pos ys.length with h0 | h0
      · exact List.eq_nil_of_length_eq_zero h0
      · obtain ⟨b, off, he, _⟩ := hr h0
        cases he
    subst h0
    refine wpList_plain hgd fun K hK => ?_
    have hrun : (Builtin.append_ #[t, t] o.type #[v, .slice none 0 c]).run P w = .ok v w := by
      rcases hown.2 with ⟨rfl, rfl⟩ | ⟨g, cap, cur, rfl, _, _, hnc, _⟩
      · simp [Builtin.append_, run_underlying ht, sizeOf, typeInfo, hi, Builtin.lenOf, Builtin.firstCells]
      · simp [Builtin.append_, run_underlying ht, sizeOf, typeInfo, hi, Builtin.lenOf, Builtin.firstCells, hnc, storeCells]
    unfold Oper.wp execOp
    simp only [ho, resolve, invoke, builtin, Sem.run_bind, Sem.run_pure, Result.andThen_ok, List.map_toArray, List.map_cons, List.map_nil, hs, hx, List.length_nil, hrun]
    exact hK _ _ (h v w [] rfl (by simp) (by simpa using hown) (World.grownBy.refl w _) (.inl rfl))
  · rcases ys with _ | ⟨y, ys⟩
    · refine wpList_append_own_at w hgd s x t ho base e i z 5 bytes ht hi hz hsize hby hzs (by omega) v n (vcs ps) hs hown ad 0 c [] hx (by simp) (by simp) (by simp) (by unfold maxLen; simp at hn; omega) hbytes hbase
        fun v' w' h1 h2 _ h4 => h v' w' [] rfl (by simp) (by simpa using h1) h2 h4
    · obtain ⟨b, off, he, _⟩ := hr (by simp)
      injection he with he
      subst he
      obtain ⟨qs, hq1, hq2, hq3⟩ := vs_pick hr (by simp)
      have hql : qs.length = (y :: ys).length := by rw [← hq1, List.length_map]
      exact wpList_append_own_at w hgd s x t ho base e i z 5 bytes ht hi hz hsize hby hzs (by omega) v n (vcs ps) hs hown ⟨b, off, none⟩ _ c (vcs qs) hx (by rw [vcs_length, hql]) hq2 (vcs_cell qs) (by unfold maxLen; omega) hbytes hbase
        fun v' w' h1 h2 _ h4 => h v' w' qs hq1 hq3 (by rw [vcs_append]; exact h1) h2 h4
end
end Vers
end Go.Proofs.YtbaclinjimfncaaGreat

/-
  Plain words of layer 5: two sets gone through side by side.
-/
namespace Go.Proofs.YtbaclinjimfncaaGreat
namespace Vers
open Go.RowKit Span

/-- i of a and j of b have been gone through, and us is kept of them. -/
structure Tog (a b : List Vr) (i j : Nat) (us : List Vr) : Prop where
  ri : i ≤ a.length
  rj : j ≤ b.length
  rise : us.Pairwise dlt
  mem : ∀ v, v ∈ us ↔ v ∈ a.take i ∨ v ∈ b.take j
  la : ∀ u ∈ us, ∀ x ∈ a.drop i, dlt u x
  lb : ∀ u ∈ us, ∀ y ∈ b.drop j, dlt u y ∨ same u y
  twin : ∀ x ∈ a.take i, ∀ y ∈ b.take j, same x y → x = y

theorem tog_start (a b : List Vr) : Tog a b 0 0 [] := ⟨by omega, by omega, List.Pairwise.nil, by simp, by simp, by simp, by simp⟩
theorem drop_split {a : List Vr} {i : Nat} {x : Vr} {l : List Vr} (h : a.drop i = x :: l) : i < a.length ∧ a.take (i + 1) = a.take i ++ [x] ∧ a.drop (i + 1) = l := by
  have hi : i < a.length := by
    rcases Nat.lt_or_ge i a.length with h1 | h1
    · exact h1
    · rw [List.drop_of_length_le h1] at h; cases h
  rw [List.drop_eq_getElem_cons hi] at h
  injection h with h1 h2
  exact ⟨hi, by rw [List.take_succ_eq_append_getElem hi, h1], h2⟩
theorem rise_drop {a : List Vr} (h : a.Pairwise dlt) (i : Nat) : (a.drop i).Pairwise dlt := h.sublist (List.drop_sublist _ _)
theorem rise_across {a : List Vr} (h : a.Pairwise dlt) (i : Nat) {u x : Vr} (hu : u ∈ a.take i) (hx : x ∈ a.drop i) : dlt u x := by
  rw [← List.take_append_drop i a] at h
  exact (List.pairwise_append.1 h).2.2 u hu x hx

theorem tog_a {a b us : List Vr} {i j : Nat} {x : Vr} {l : List Vr} (h : Tog a b i j us) (ha : a.Pairwise dlt) (_hb : b.Pairwise dlt) (hx : a.drop i = x :: l) (hle : ∀ y ∈ b.drop j, dlt x y ∨ same x y) : Tog a b (i + 1) j (us ++ [x]) := by
  obtain ⟨hi, ht, hd⟩ := drop_split hx
  have hxl : ∀ z ∈ l, dlt x z := by have := rise_drop ha i; rw [hx, List.pairwise_cons] at this; exact this.1
  have hux : ∀ u ∈ us, dlt u x := fun u hu => h.la u hu x (by rw [hx]; simp)
  refine ⟨hi, h.rj, ?_, ?_, ?_, ?_, ?_⟩
  · exact List.pairwise_append.2 ⟨h.rise, by simp, fun u hu z hz => by rw [List.mem_singleton.1 hz]; exact hux u hu⟩
  · intro v
    rw [ht, List.mem_append, List.mem_append, h.mem v]
    constructor
    · rintro ((h1 | h1) | h1)
      · exact .inl (.inl h1)
      · exact .inr h1
      · exact .inl (.inr h1)
    · rintro ((h1 | h1) | h1)
      · exact .inl (.inl h1)
      · exact .inr h1
      · exact .inl (.inr h1)
  · intro u hu z hz
    rw [hd] at hz
    rcases List.mem_append.1 hu with hu | hu
    · exact h.la u hu z (by rw [hx]; simp [hz])
    · rw [List.mem_singleton.1 hu]; exact hxl z hz
  · intro u hu y hy
    rcases List.mem_append.1 hu with hu | hu
    · exact h.lb u hu y hy
    · rw [List.mem_singleton.1 hu]; exact hle y hy
  · intro z hz y hy hs
    rw [ht] at hz
    rcases List.mem_append.1 hz with hz | hz
    · exact h.twin z hz y hy hs
    · rw [List.mem_singleton.1 hz] at hs ⊢
      exact (dlt_irrefl (hux y ((h.mem y).2 (.inr hy))) (same_symm hs)).elim

theorem tog_b {a b us : List Vr} {i j : Nat} {y : Vr} {l : List Vr} (h : Tog a b i j us) (hb : b.Pairwise dlt) (hy : b.drop j = y :: l) (hlt : ∀ x ∈ a.drop i, dlt y x) (hnew : ∀ u ∈ us, dlt u y) : Tog a b i (j + 1) (us ++ [y]) := by
  obtain ⟨hj, ht, hd⟩ := drop_split hy
  have hyl : ∀ z ∈ l, dlt y z := by have := rise_drop hb j; rw [hy, List.pairwise_cons] at this; exact this.1
  refine ⟨h.ri, hj, ?_, ?_, ?_, ?_, ?_⟩
  · exact List.pairwise_append.2 ⟨h.rise, by simp, fun u hu z hz => by rw [List.mem_singleton.1 hz]; exact hnew u hu⟩
  · intro v
    rw [ht, List.mem_append, List.mem_append, h.mem v, or_assoc]
  · intro u hu x hx
    rcases List.mem_append.1 hu with hu | hu
    · exact h.la u hu x hx
    · rw [List.mem_singleton.1 hu]; exact hlt x hx
  · intro u hu z hz
    rw [hd] at hz
    rcases List.mem_append.1 hu with hu | hu
    · exact .inl (dlt_trans (hnew u hu) (hyl z hz))
    · rw [List.mem_singleton.1 hu]; exact .inl (hyl z hz)
  · intro x hx z hz hs
    rw [ht] at hz
    rcases List.mem_append.1 hz with hz | hz
    · exact h.twin x hx z hz hs
    · rw [List.mem_singleton.1 hz] at hs ⊢
      exact (dlt_irrefl (hnew x ((h.mem x).2 (.inl hx))) hs).elim

/-- It was there. -/
theorem tog_again {a b us : List Vr} {i j : Nat} {y : Vr} {l : List Vr} (h : Tog a b i j us) (hb : b.Pairwise dlt) (hy : b.drop j = y :: l) (hu : y ∈ us) : Tog a b i (j + 1) us := by
  obtain ⟨hj, ht, hd⟩ := drop_split hy
  have hyl : ∀ z ∈ l, dlt y z := by have := rise_drop hb j; rw [hy, List.pairwise_cons] at this; exact this.1
  refine ⟨h.ri, hj, h.rise, ?_, h.la, ?_, ?_⟩
  · intro v
    rw [ht, List.mem_append, h.mem v]
    constructor
    · rintro (h1 | h1)
      · exact .inl h1
      · exact .inr (.inl h1)
    · rintro (h1 | h1 | h1)
      · exact .inl h1
      · exact .inr h1
      · rw [List.mem_singleton.1 h1]; exact (h.mem y).1 hu
  · intro u hu' z hz
    rw [hd] at hz
    rcases h.lb u hu' y (by rw [hy]; simp) with h1 | h1
    · exact .inl (dlt_trans h1 (hyl z hz))
    · rw [rising_same h.rise hu' hu h1]; exact .inl (hyl z hz)
  · intro x hx z hz hs
    rw [ht] at hz
    rcases List.mem_append.1 hz with hz | hz
    · exact h.twin x hx z hz hs
    · rw [List.mem_singleton.1 hz] at hs ⊢
      exact rising_same h.rise ((h.mem x).2 (.inl hx)) hu hs

/-- Another one with its dot was there. -/
theorem tog_twin {a b us : List Vr} {i j : Nat} {y u : Vr} {l : List Vr} (h : Tog a b i j us) (hb : b.Pairwise dlt) (hy : b.drop j = y :: l) (hu : u ∈ us) (hs : same u y) (hne : u ≠ y) : Twin a b := by
  have hyb : y ∈ b := List.mem_of_mem_drop (i := j) (by rw [hy]; simp)
  rcases (h.mem u).1 hu with h1 | h1
  · exact ⟨u, List.mem_of_mem_take h1, y, hyb, hs, hne⟩
  · exact (dlt_irrefl (rise_across hb j h1 (by rw [hy]; simp)) hs).elim

theorem tog_new {a b us : List Vr} {i j : Nat} {y : Vr} {l : List Vr} (h : Tog a b i j us) (hy : b.drop j = y :: l) (hne : ∀ _hp : 0 < us.length, ¬ same (us.getD (us.length - 1) v0) y) : ∀ u ∈ us, dlt u y := by
  intro u hu
  obtain ⟨p, hp, rfl⟩ := List.getElem_of_mem hu
  have hpos : 0 < us.length := by omega
  have hlast : us.getD (us.length - 1) v0 ∈ us := by
    rw [List.getD_eq_getElem?_getD, List.getElem?_eq_getElem (by omega)]
    exact List.getElem_mem _
  have hl : dlt (us.getD (us.length - 1) v0) y := by
    rcases h.lb _ hlast y (by rw [hy]; simp) with h1 | h1
    · exact h1
    · exact absurd h1 (hne hpos)
  rcases Nat.eq_or_lt_of_le (show p ≤ us.length - 1 by omega) with h1 | h1
  · have e : us.getD (us.length - 1) v0 = us[p] := by simp [List.getD_eq_getElem?_getD, ← h1, hp]
    rwa [e] at hl
  · have h2 := rising_at h.rise (p := p) (q := us.length - 1) (by omega) h1
    have e : us.getD p v0 = us[p] := by simp [List.getD_eq_getElem?_getD, hp]
    rw [e] at h2
    exact dlt_trans h2 hl

theorem tog_end {a b us : List Vr} (h : Tog a b a.length b.length us) : us.Pairwise dlt ∧ (∀ v, v ∈ us ↔ v ∈ a ∨ v ∈ b) ∧ ¬ Twin a b := by
  refine ⟨h.rise, fun v => by rw [h.mem v, List.take_length, List.take_length], ?_⟩
  rintro ⟨x, hx, y, hy, hs, hn⟩
  exact hn (h.twin x (by rw [List.take_length]; exact hx) y (by rw [List.take_length]; exact hy) hs)

/-- Those of a rising union behind which none of both came. -/
theorem union_stay {a b us : List Vr} (hr : us.Pairwise dlt) (hm : ∀ v, v ∈ us ↔ v ∈ a ∨ v ∈ b) : IsStay a b (us.filter fun v => !decide (behind us v.s v.n)) := by
  have hb : ∀ s n, behind us s n ↔ behind a s n ∨ behind b s n := by
    intro s n
    constructor
    · rintro ⟨v, hv, h⟩
      rcases (hm v).1 hv with h1 | h1
      · exact .inl ⟨v, h1, h⟩
      · exact .inr ⟨v, h1, h⟩
    · rintro (⟨v, hv, h⟩ | ⟨v, hv, h⟩)
      · exact ⟨v, (hm v).2 (.inl hv), h⟩
      · exact ⟨v, (hm v).2 (.inr hv), h⟩
  refine ⟨hr.sublist List.filter_sublist, fun v => ?_⟩
  rw [List.mem_filter, hm v]
  simp only [Bool.not_eq_true', decide_eq_false_iff_not]
  rw [hb]
  constructor
  · rintro ⟨h1, h2⟩
    exact ⟨h1, fun h => h2 (.inl h), fun h => h2 (.inr h)⟩
  · rintro ⟨h1, h2, h3⟩
    exact ⟨h1, fun h => h.elim h2 h3⟩
end Vers
end Go.Proofs.YtbaclinjimfncaaGreat

/-
  firthref05.put lays a version where its dot belongs.
-/
namespace Go.Proofs.YtbaclinjimfncaaGreat
namespace Vers
open Go.RowKit Span
attribute [local go_sem ↓] Go.wp_at_zero Go.wp_at_succ

theorem putV_index {l : List Vr} {v : Vr} {k : Nat} (hk : k ≤ l.length) (hb : ∀ j, j < k → dlt (l.getD j v0) v) (hs : k < l.length → ¬ dlt (l.getD k v0) v) :
    putV l v = if k < l.length ∧ same (l.getD k v0) v then l else l.take k ++ v :: l.drop k := by
  induction l generalizing k with
  | nil =>
    obtain rfl : k = 0 := by simpa using hk
    simp [putV]
  | cons x l ih =>
    unfold putV
    rcases k with _ | k
    · have h0 := hs (by simp)
      simp only [List.getD_cons_zero] at h0
      rw [if_neg h0]
      by_cases hx : same x v
      · rw [if_pos hx, if_pos ⟨by simp, by simpa using hx⟩]
      · rw [if_neg hx, if_neg (fun h => hx (by simpa using h.2))]
        rfl
    · have h0 := hb 0 (by omega)
      simp only [List.getD_cons_zero] at h0
      rw [if_pos h0]
      have h1 := ih (k := k) (by simpa using hk) (fun j hj => by simpa using hb (j + 1) (by omega)) (fun h => by simpa using hs (by simpa using h))
      rw [h1]
      simp only [List.getD_cons_succ, List.length_cons, Nat.add_lt_add_iff_right, List.take_succ_cons, List.drop_succ_cons, List.cons_append]
      split <;> rfl
theorem putV_len (l : List Vr) (v : Vr) : (putV l v).length ≤ l.length + 1 := by
  induction l with
  | nil => simp [putV]
  | cons x l ih =>
    unfold putV
    split
    · simp; omega
    · split <;> simp

theorem Vs.take {w : World} {L B : Nat} {A : Option Addr} {l : List Vr} (h : Vs w L B A l) (k : Nat) : Vs w L B A (l.take k) := fun hp => by
  rw [List.length_take] at hp
  obtain ⟨b, off, e, hL, hb, hc⟩ := h (by omega)
  refine ⟨b, off, e, hL, hb, fun j hj => ?_⟩
  rw [List.length_take] at hj
  have e1 : (l.take k).getD j v0 = l.getD j v0 := by simp [List.getD_eq_getElem?_getD, show j < k by omega]
  rw [e1]
  exact hc j (by omega)
theorem Vs.drop {w : World} {L B b off : Nat} {l : List Vr} (h : Vs w L B (some ⟨b, off, none⟩) l) (k : Nat) : Vs w L B (some ⟨b, off + k * 5, none⟩) (l.drop k) := fun hp => by
  rw [List.length_drop] at hp
  obtain ⟨b', off', e, hL, hb, hc⟩ := h (by omega)
  injection e with e
  injection e with e1 e2
  subst e1 e2
  refine ⟨b, off + k * 5, rfl, hL, hb, fun j hj => ?_⟩
  rw [List.length_drop] at hj
  have e1 : (l.drop k).getD j v0 = l.getD (k + j) v0 := by simp [List.getD_eq_getElem?_getD, List.getElem?_drop]
  rw [e1, show off + k * 5 + j * 5 = off + (k + j) * 5 by omega]
  exact hc (k + j) (by omega)

theorem Vs.grown {w w' : World} {L B : Nat} {A : Option Addr} {l : List Vr} {row : Option Nat} (h : Vs w L B A l) (hg : w.grownBy w' row) (hB : B ≤ w.heap.size) (hr : ∀ k, row = some k → B ≤ k) : Vs w' L B A l :=
  h.keep fun a _ ha => World.cell?_of_block (hg.block a.block (by omega) (fun e => by have := hr _ e.symm; omega))

/-- A list that a call tells: it reads as l. -/
def Reads (L : Nat) (l : List Vr) (w : World) (e : Ending) (w' : World) : Prop := ∃ A c, e = .returned (.slice A l.length c) ∧ l.length ≤ c ∧ Vs w' L w'.heap.size A l ∧ Below w.heap.size w w'

end Vers
end Go.Proofs.YtbaclinjimfncaaGreat

/-
  firthref05.Merge tells what mergeF tells.
-/
namespace Go.Proofs.YtbaclinjimfncaaGreat
namespace Vers
open Go.RowKit Span
attribute [local go_sem ↓] Go.wp_at_zero Go.wp_at_succ

/-- What a merging tells: a list, an error. -/
def Merged (L : Nat) (r : List Vr × Int) (w : World) (e : Ending) (w' : World) : Prop :=
  ∃ A c, e = .returned (.tuple #[.slice A r.1.length c, .int .i64 r.2]) ∧ r.1.length ≤ c ∧ Vs w' L w'.heap.size A r.1 ∧ Below w.heap.size w w'
theorem merged_none (L : Nat) (k : Int) (w w' : World) (hb : Below w.heap.size w w') : Merged L ([], k) w (.returned (.tuple #[.slice none 0 0, .int .i64 k])) w' := ⟨none, 0, rfl, by simp, Vs.nil _, hb⟩

/-- No twins among the first i of a, and none of a's next one among the first k of b. -/
def NoTwin (a b : List Vr) (i k : Nat) : Prop := (∀ p, p < i → ∀ y ∈ b, ¬ (same (a.getD p v0) y ∧ a.getD p v0 ≠ y)) ∧ ∀ q, q < k → ¬ (same (a.getD i v0) (b.getD q v0) ∧ a.getD i v0 ≠ b.getD q v0)
theorem noTwin_end {a b : List Vr} {i : Nat} (h : NoTwin a b i b.length) : NoTwin a b (i + 1) 0 := ⟨fun p hp y hy => by
  rcases Nat.lt_or_ge p i with h1 | h1
  · exact h.1 p h1 y hy
  · obtain rfl : p = i := by omega
    obtain ⟨q, hq, rfl⟩ := List.getElem_of_mem hy
    have := h.2 q hq
    have e : b.getD q v0 = b[q] := by simp [List.getD_eq_getElem?_getD, hq]
    rwa [e] at this, fun q hq => absurd hq (by omega)⟩
theorem noTwin_all {a b : List Vr} (h : NoTwin a b a.length 0) : ¬ Twin a b := by
  rintro ⟨x, hx, y, hy, hs, hn⟩
  obtain ⟨p, hp, rfl⟩ := List.getElem_of_mem hx
  have e : a.getD p v0 = a[p] := by simp [List.getD_eq_getElem?_getD, hp]
  have := h.1 p hp y hy
  rw [e] at this
  exact this ⟨hs, hn⟩
theorem laidV_take {d l out : List Vr} {i : Nat} (h : i < l.length) : laidV d (l.take (i + 1)) out = if behind d (l.getD i v0).s (l.getD i v0).n then laidV d (l.take i) out else putV (laidV d (l.take i) out) (l.getD i v0) := by
  rw [take_v h, laidV_snoc]
theorem laidV_len (d l : List Vr) : ∀ (out : List Vr), (laidV d l out).length ≤ out.length + l.length := by
  unfold laidV
  have h1 : (l.filter fun v => !decide (behind d v.s v.n)).length ≤ l.length := List.length_filter_le _ _
  have h2 : ∀ (m out : List Vr), (m.foldl putV out).length ≤ out.length + m.length := by
    intro m
    induction m with
    | nil => intro out; simp
    | cons v m ih =>
      intro out
      have := ih (putV out v)
      have := putV_len out v
      simp only [List.foldl_cons, List.length_cons]
      omega
  intro out
  have := h2 (l.filter fun v => !decide (behind d v.s v.n)) out
  omega

/-- How far the laying of one of the sets is. -/
def Laying (d l start : List Vr) (n : Nat) (w : World) (ov iv : Value) (wr : World) : Prop :=
  ∃ (i : Nat) (A : Option Addr) (c : Nat), iv = .int .i64 i ∧ i ≤ n ∧ ov = .slice A (laidV d (l.take i) start).length c ∧ Hid ((laidV d (l.take i) start).length ≤ c ∧ Vs wr 0 wr.heap.size A (laidV d (l.take i) start)) ∧ Below w.heap.size w wr

end Vers
end Go.Proofs.YtbaclinjimfncaaGreat

/-
  The closure of vers.together: a version is kept behind those that are kept, unless the last one has its dot.
-/
namespace Go.Proofs.YtbaclinjimfncaaGreat
namespace Vers
open Go.RowKit Span
attribute [local go_sem ↓] Go.wp_at_zero Go.wp_at_succ

/-- The box ab holds a row of versions of the call's own. -/
def Box (base B ab : Nat) (w : World) (ps : List Pv) : Prop := ∃ v, Boxed w ab 43 v ∧ OwnVs base 0 B w v ps

theorem Box.below {base B ab : Nat} {w w' : World} {ps : List Pv} (h : Box base B ab w ps) (hB : B ≤ w.heap.size) (hb : Below w.heap.size w w') : Box base B ab w' ps := by
  obtain ⟨v, h1, h2⟩ := h
  exact ⟨v, (hb.block ab h1.lt).trans h1, h2.below hB hb⟩

theorem vcc_last {w : World} {base g n cap : Nat} {ps : List Pv} (ho : w.ownsRow base 58 5 (.slice (some ⟨g, 0, none⟩) n cap) n (vcs ps)) (hn : ps.length = n) {k : Nat} (hk : k < n) :
    w.cell? ⟨g, k * 5, none⟩ = some (.int .i64 (ps.getD k z0).1.s) ∧ w.cell? ⟨g, k * 5 + 1, none⟩ = some (.int .i64 (ps.getD k z0).1.n) ∧ w.cell? ⟨g, k * 5 + 2, none⟩ = some (.slice (ps.getD k z0).2.1 (ps.getD k z0).1.past.length (ps.getD k z0).2.2) ∧
      w.cell? ⟨g, k * 5 + 3, none⟩ = some (.bool (ps.getD k z0).1.gone) ∧ w.cell? ⟨g, k * 5 + 4, none⟩ = some (.string (ps.getD k z0).1.val) := by
  have h := fun r (hr : r < 5) => (World.ownsRow.cellAt ho (k * 5 + r) (by omega)).trans (vcs_at ps k (by omega) r hr)
  exact ⟨by simpa [vcc] using h 0 (by omega), by simpa [vcc] using h 1 (by omega), by simpa [vcc] using h 2 (by omega), by simpa [vcc] using h 3 (by omega), by simpa [vcc] using h 4 (by omega)⟩

end Vers
end Go.Proofs.YtbaclinjimfncaaGreat

/-
  A slice of versions without its first one.
-/
namespace Go.Proofs.YtbaclinjimfncaaGreat
namespace Vers
open Go.RowKit Span

theorem vs_head {w : World} {L B : Nat} {A : Option Addr} {x : Vr} {l : List Vr} (h : Vs w L B A (x :: l)) : ∃ b off A1 c1, A = some ⟨b, off, none⟩ ∧ b < B ∧ Vat w L B b off x A1 c1 := by
  obtain ⟨b, off, rfl, _, hb, hc⟩ := h (by simp)
  obtain ⟨A1, c1, h1⟩ := hc 0 (by simp)
  exact ⟨b, off, A1, c1, rfl, hb, by simpa using h1⟩
theorem vs_tail {w : World} {L B b off : Nat} {x : Vr} {l : List Vr} (h : Vs w L B (some ⟨b, off, none⟩) (x :: l)) : Vs w L B (some ⟨b, off + 5, none⟩) l := by
  have := h.drop 1
  simpa using this

theorem elem_vers : Tryz.prog.underlying 43 = some (.slice (Tryz.prog.elem 43)) := by kernel_rfl
theorem slice_tail (b off k c : Nat) (h : k + 1 ≤ c) : ∃ Ax cx, (∀ V, (Instr.slice 43 (.slice (some ⟨b, off, none⟩) (k + 1) c) (some (.int .i64 1)) none none).run Tryz.prog V = .ok (.slice Ax k cx) V) ∧ k ≤ cx ∧
    ∀ w L B x l, l.length = k → Vs w L B (some ⟨b, off, none⟩) (x :: l) → Vs w L B Ax l := by
  obtain ⟨i0, hi0, hz0, hz1, hz2⟩ := info_parts info_ver
  refine ⟨if c = 1 then some ⟨b, off, none⟩ else some ⟨b, off + 5, none⟩, c - 1, fun V => ?_, by omega, fun w L B x l hl hv => ?_⟩
  · have hs := run_slice_l (P := Tryz.prog) V 43 (some ⟨b, off, none⟩) (k + 1) c elem_vers .i64 1 (by omega) (by omega)
    rw [hs]
    have he : Tryz.prog.elem 43 = 58 := by kernel_rfl
    have ha : (⟨b, off, none⟩ : Addr).add 5 = ⟨b, off + 5, none⟩ := add_plain _ _ _
    rw [he]
    simp only [sizeOf, typeInfo, Sem.run_bind, Sem.run_pure, sliced, Option.map_some, Int.toNat_one, Nat.one_mul, Nat.add_sub_cancel]
    simp [go_sem, hi0, hz1]
  · split
    · have : l = [] := List.eq_nil_of_length_eq_zero (by omega)
      subst this
      exact Vs.nil _
    · exact vs_tail hv

section
variable {V : World} {m b o : Nat} {u0 u1 u2 u3 u4 : Value}
/-- Five cells written. -/
def put5 (V : World) (m : Nat) (u0 u1 u2 u3 u4 : Value) : World := (((((V.setCell ⟨m, 0, none⟩ u0).setCell ⟨m, 1, none⟩ u1).setCell ⟨m, 2, none⟩ u2).setCell ⟨m, 3, none⟩ u3).setCell ⟨m, 4, none⟩ u4).drew
theorem drew_heap (X : World) : X.drew.heap = X.heap := rfl
theorem drew_cell (X : World) (a : Addr) : X.drew.cell? a = X.cell? a := rfl
theorem setCell_size (X : World) (a : Addr) (v : Value) : (X.setCell a v).heap.size = X.heap.size := by simp [World.setCell]
theorem below_set (X : World) (k r : Nat) (v : Value) : Below k X (X.setCell ⟨k, r, none⟩ v) := (Below.refl k X).setCell (Nat.le_refl _) v
theorem off_ne (X : World) (m i j : Nat) (v : Value) (h : i ≠ j) : (X.setCell ⟨m, i, none⟩ v).cell? ⟨m, j, none⟩ = X.cell? ⟨m, j, none⟩ := by apply World.cell?_setCell_other; intro e; apply h; injection e
theorem put5_heap {k : Nat} (h : k ≠ m) : (put5 V m u0 u1 u2 u3 u4).heap[k]? = V.heap[k]? := by
  unfold put5
  rw [drew_heap, Below.heap_setCell _ _ _ _ h, Below.heap_setCell _ _ _ _ h, Below.heap_setCell _ _ _ _ h, Below.heap_setCell _ _ _ _ h, Below.heap_setCell _ _ _ _ h]
theorem put5_size : (put5 V m u0 u1 u2 u3 u4).heap.size = V.heap.size := by
  unfold put5
  rw [drew_heap, setCell_size, setCell_size, setCell_size, setCell_size, setCell_size]
theorem put5_below : Below m V (put5 V m u0 u1 u2 u3 u4) := by
  unfold put5
  exact (((((below_set V m 0 u0).trans (below_set _ m 1 u1)).trans (below_set _ m 2 u2)).trans (below_set _ m 3 u3)).trans (below_set _ m 4 u4)).drew
theorem put5_far {x0 x1 x2 x3 x4 : Option Value} (hne : b ≠ m)
    (h : V.cell? ⟨b, o, none⟩ = x0 ∧ V.cell? ⟨b, o + 1, none⟩ = x1 ∧ V.cell? ⟨b, o + 2, none⟩ = x2 ∧ V.cell? ⟨b, o + 3, none⟩ = x3 ∧ V.cell? ⟨b, o + 4, none⟩ = x4) :
    (put5 V m u0 u1 u2 u3 u4).cell? ⟨b, o, none⟩ = x0 ∧ (put5 V m u0 u1 u2 u3 u4).cell? ⟨b, o + 1, none⟩ = x1 ∧ (put5 V m u0 u1 u2 u3 u4).cell? ⟨b, o + 2, none⟩ = x2 ∧ (put5 V m u0 u1 u2 u3 u4).cell? ⟨b, o + 3, none⟩ = x3 ∧ (put5 V m u0 u1 u2 u3 u4).cell? ⟨b, o + 4, none⟩ = x4 := by
  have key : ∀ k, (put5 V m u0 u1 u2 u3 u4).cell? ⟨b, k, none⟩ = V.cell? ⟨b, k, none⟩ := fun k => World.cell?_of_block (put5_heap hne)
  exact ⟨(key _).trans h.1, (key _).trans h.2.1, (key _).trans h.2.2.1, (key _).trans h.2.2.2.1, (key _).trans h.2.2.2.2⟩
theorem put5_new {z0 z1 z2 z3 z4 : Value} (h : V.cell? ⟨m, 0, none⟩ = some z0 ∧ V.cell? ⟨m, 1, none⟩ = some z1 ∧ V.cell? ⟨m, 2, none⟩ = some z2 ∧ V.cell? ⟨m, 3, none⟩ = some z3 ∧ V.cell? ⟨m, 4, none⟩ = some z4) :
    (put5 V m u0 u1 u2 u3 u4).cell? ⟨m, 0, none⟩ = some u0 ∧ (put5 V m u0 u1 u2 u3 u4).cell? ⟨m, 1, none⟩ = some u1 ∧ (put5 V m u0 u1 u2 u3 u4).cell? ⟨m, 2, none⟩ = some u2 ∧ (put5 V m u0 u1 u2 u3 u4).cell? ⟨m, 3, none⟩ = some u3 ∧ (put5 V m u0 u1 u2 u3 u4).cell? ⟨m, 4, none⟩ = some u4 := by
  have e : ∀ a, (put5 V m u0 u1 u2 u3 u4).cell? a = (((((V.setCell ⟨m, 0, none⟩ u0).setCell ⟨m, 1, none⟩ u1).setCell ⟨m, 2, none⟩ u2).setCell ⟨m, 3, none⟩ u3).setCell ⟨m, 4, none⟩ u4).cell? a := fun a => by unfold put5; rw [drew_cell]
  obtain ⟨h0, h1, h2, h3, h4⟩ := h
  have s0 : (V.setCell ⟨m, 0, none⟩ u0).cell? ⟨m, 0, none⟩ = some u0 := World.cell?_setCell_same' _ _ _ (by rw [h0]; rfl)
  have s1 : ((V.setCell ⟨m, 0, none⟩ u0).setCell ⟨m, 1, none⟩ u1).cell? ⟨m, 1, none⟩ = some u1 := World.cell?_setCell_same' _ _ _ (by rw [off_ne _ _ _ _ _ (by omega), h1]; rfl)
  have s2 : (((V.setCell ⟨m, 0, none⟩ u0).setCell ⟨m, 1, none⟩ u1).setCell ⟨m, 2, none⟩ u2).cell? ⟨m, 2, none⟩ = some u2 := World.cell?_setCell_same' _ _ _ (by rw [off_ne _ _ _ _ _ (by omega), off_ne _ _ _ _ _ (by omega), h2]; rfl)
  have s3 : ((((V.setCell ⟨m, 0, none⟩ u0).setCell ⟨m, 1, none⟩ u1).setCell ⟨m, 2, none⟩ u2).setCell ⟨m, 3, none⟩ u3).cell? ⟨m, 3, none⟩ = some u3 := World.cell?_setCell_same' _ _ _ (by rw [off_ne _ _ _ _ _ (by omega), off_ne _ _ _ _ _ (by omega), off_ne _ _ _ _ _ (by omega), h3]; rfl)
  have s4 : (((((V.setCell ⟨m, 0, none⟩ u0).setCell ⟨m, 1, none⟩ u1).setCell ⟨m, 2, none⟩ u2).setCell ⟨m, 3, none⟩ u3).setCell ⟨m, 4, none⟩ u4).cell? ⟨m, 4, none⟩ = some u4 := World.cell?_setCell_same' _ _ _ (by rw [off_ne _ _ _ _ _ (by omega), off_ne _ _ _ _ _ (by omega), off_ne _ _ _ _ _ (by omega), off_ne _ _ _ _ _ (by omega), h4]; rfl)
  refine ⟨?_, ?_, ?_, ?_, ?_⟩
  · rw [e, off_ne _ _ _ _ _ (by omega), off_ne _ _ _ _ _ (by omega), off_ne _ _ _ _ _ (by omega), off_ne _ _ _ _ _ (by omega), s0]
  · rw [e, off_ne _ _ _ _ _ (by omega), off_ne _ _ _ _ _ (by omega), off_ne _ _ _ _ _ (by omega), s1]
  · rw [e, off_ne _ _ _ _ _ (by omega), off_ne _ _ _ _ _ (by omega), s2]
  · rw [e, off_ne _ _ _ _ _ (by omega), s3]
  · rw [e, s4]
theorem put5_far_lit {x0 x1 x2 x3 x4 : Option Value} (hne : b ≠ m)
    (h : V.cell? ⟨b, o, none⟩ = x0 ∧ V.cell? ⟨b, o + 1, none⟩ = x1 ∧ V.cell? ⟨b, o + 2, none⟩ = x2 ∧ V.cell? ⟨b, o + 3, none⟩ = x3 ∧ V.cell? ⟨b, o + 4, none⟩ = x4) :
    ((((((V.setCell ⟨m, 0, none⟩ u0).setCell ⟨m, 1, none⟩ u1).setCell ⟨m, 2, none⟩ u2).setCell ⟨m, 3, none⟩ u3).setCell ⟨m, 4, none⟩ u4).drew).cell? ⟨b, o, none⟩ = x0 ∧ ((((((V.setCell ⟨m, 0, none⟩ u0).setCell ⟨m, 1, none⟩ u1).setCell ⟨m, 2, none⟩ u2).setCell ⟨m, 3, none⟩ u3).setCell ⟨m, 4, none⟩ u4).drew).cell? ⟨b, o + 1, none⟩ = x1 ∧ ((((((V.setCell ⟨m, 0, none⟩ u0).setCell ⟨m, 1, none⟩ u1).setCell ⟨m, 2, none⟩ u2).setCell ⟨m, 3, none⟩ u3).setCell ⟨m, 4, none⟩ u4).drew).cell? ⟨b, o + 2, none⟩ = x2 ∧ ((((((V.setCell ⟨m, 0, none⟩ u0).setCell ⟨m, 1, none⟩ u1).setCell ⟨m, 2, none⟩ u2).setCell ⟨m, 3, none⟩ u3).setCell ⟨m, 4, none⟩ u4).drew).cell? ⟨b, o + 3, none⟩ = x3 ∧ ((((((V.setCell ⟨m, 0, none⟩ u0).setCell ⟨m, 1, none⟩ u1).setCell ⟨m, 2, none⟩ u2).setCell ⟨m, 3, none⟩ u3).setCell ⟨m, 4, none⟩ u4).drew).cell? ⟨b, o + 4, none⟩ = x4 := put5_far hne h
theorem five_drew {x0 x1 x2 x3 x4 : Option Value}
    (h : V.cell? ⟨b, o, none⟩ = x0 ∧ V.cell? ⟨b, o + 1, none⟩ = x1 ∧ V.cell? ⟨b, o + 2, none⟩ = x2 ∧ V.cell? ⟨b, o + 3, none⟩ = x3 ∧ V.cell? ⟨b, o + 4, none⟩ = x4) :
    V.drew.cell? ⟨b, o, none⟩ = x0 ∧ V.drew.cell? ⟨b, o + 1, none⟩ = x1 ∧ V.drew.cell? ⟨b, o + 2, none⟩ = x2 ∧ V.drew.cell? ⟨b, o + 3, none⟩ = x3 ∧ V.drew.cell? ⟨b, o + 4, none⟩ = x4 := h
theorem put5_lit : (((((V.setCell ⟨m, 0, none⟩ u0).setCell ⟨m, 1, none⟩ u1).setCell ⟨m, 2, none⟩ u2).setCell ⟨m, 3, none⟩ u3).setCell ⟨m, 4, none⟩ u4).drew = put5 V m u0 u1 u2 u3 u4 := rfl
end
end Vers
end Go.Proofs.YtbaclinjimfncaaGreat
