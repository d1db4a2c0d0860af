/-
  Shown of both: those of a set that aren't taken away.
-/
import Derived.Test.YthiiganfoecmnaaVersMerge
namespace Go.Proofs.Ythiiganfoecmnaa
namespace Vers
open Go.RowKit Span
attribute [local go_sem ↓] Go.wp_at_zero Go.wp_at_succ

def shownF (l : List Vr) : List Vr := l.filter fun v => !v.gone
/-- What tells versions tells these, in blocks from L on. -/
def Shows (L : Nat) (r : List Vr) (w : World) (e : Ending) (w' : World) : Prop :=
  ∃ A c, e = .returned (.slice A r.length c) ∧ r.length ≤ c ∧ Vs w' L w'.heap.size A r ∧ Below w.heap.size w w'
theorem shown_yes {l : List Vr} {k : Nat} (hk : k < l.length) (h : (l.getD k v0).gone = false) : shownF (l.take (k + 1)) = shownF (l.take k) ++ [l.getD k v0] := by
  have e : l.getD k v0 = l[k] := by simp [List.getD_eq_getElem?_getD, hk]
  rw [e] at h ⊢
  unfold shownF
  rw [List.take_succ_eq_append_getElem hk, List.filter_append]
  simp [h]
theorem shown_no {l : List Vr} {k : Nat} (hk : k < l.length) (h : (l.getD k v0).gone = true) : shownF (l.take (k + 1)) = shownF (l.take k) := by
  have e : l.getD k v0 = l[k] := by simp [List.getD_eq_getElem?_getD, hk]
  rw [e] at h
  unfold shownF
  rw [List.take_succ_eq_append_getElem hk, List.filter_append]
  simp [h]

/-- The past of a version lies apart from a row. -/
def Apart (v : Value) (p : Pv) : Prop := 0 < p.1.past.length → ∀ a, p.2.1 = some a → v.ownBlock ≠ some a.block
theorem Pa.apart {w w' : World} {L : Nat} {p : Pv} {row : Option Nat} (h : Pa w L w.heap.size p.2.1 p.2.2 p.1) (hg : w.grownBy w' row) (ha : 0 < p.1.past.length → ∀ a, p.2.1 = some a → row ≠ some a.block) : Pa w' L w'.heap.size p.2.1 p.2.2 p.1 := by
  refine ⟨fun hp => ?_, h.2⟩
  obtain ⟨b, off, e, hb, hc⟩ := h.1 hp
  have hne := ha hp _ e
  have hk : ∀ o, w'.cell? ⟨b, o, none⟩ = w.cell? ⟨b, o, none⟩ := fun o => World.cell?_of_block (hg.block b hb (fun e' => hne e'.symm))
  exact ⟨b, off, e, Nat.lt_of_lt_of_le hb hg.size, fun j hj => ⟨(hk _).trans (hc j hj).1, (hk _).trans (hc j hj).2.1, (hk _).trans (hc j hj).2.2⟩⟩
theorem apart_more {base : Nat} {w w' : World} {v v' : Value} {qs : List Pv} (hq : ∀ q ∈ qs, Pa w base w.heap.size q.2.1 q.2.2 q.1 ∧ Apart v q) (hg : w.grownBy w' v.ownBlock) (hat : v'.ownBlock = v.ownBlock ∨ ∃ g, v'.ownBlock = some g ∧ w.heap.size ≤ g) :
    ∀ q ∈ qs, Pa w' base w'.heap.size q.2.1 q.2.2 q.1 ∧ Apart v' q := by
  intro q hm
  obtain ⟨h1, h2⟩ := hq q hm
  refine ⟨h1.apart hg h2, fun hp a ha => ?_⟩
  rcases hat with e | ⟨g, e, hge⟩
  · rw [e]; exact h2 hp a ha
  · rw [e]
    intro e2
    injection e2 with e2
    obtain ⟨b, off, e3, hb, _⟩ := h1.1 hp
    rw [ha] at e3
    injection e3 with e3
    subst e3
    simp only at e2
    omega
theorem apart_later {base : Nat} {w w' : World} {v : Value} {qs : List Pv} (hq : ∀ q ∈ qs, Pa w base w.heap.size q.2.1 q.2.2 q.1 ∧ Apart v q) (hb : Below w.heap.size w w') :
    ∀ q ∈ qs, Pa w' base w'.heap.size q.2.1 q.2.2 q.1 ∧ Apart v q := fun q hm => ⟨((hq q hm).1.below hb).more hb.size, (hq q hm).2⟩
/-- What was made just now lies apart from what was there. -/
theorem apart_new {base m : Nat} {w w' : World} {v : Value} {p : Pv} (hp : Pa w' m w'.heap.size p.2.1 p.2.2 p.1) (hm : w.heap.size ≤ m) (hbase : base ≤ w.heap.size) (hv : ∀ g, v.ownBlock = some g → g < w.heap.size) : Pa w' base w'.heap.size p.2.1 p.2.2 p.1 ∧ Apart v p :=
  ⟨hp.less (by omega), fun h0 a ha e => by have := hp.2.2.2.2 h0 a ha; have := hv _ e; omega⟩

/-- k of them have been looked at. -/
def Showing (l : List Vr) (n base : Nat) (w : World) (sv iv : Value) (wr : World) : Prop :=
  ∃ (k m : Nat) (A4 : Option Addr) (c4 : Nat) (qs : List Pv), iv = .int .i64 (k : Int) ∧ sv = .slice A4 m c4 ∧ k ≤ n ∧ m ≤ k ∧
    Hid (qs.length = m ∧ wr.ownsRow base 28 5 (.slice A4 m c4) m (vcs qs) ∧ (∀ p ∈ qs, Pa wr base wr.heap.size p.2.1 p.2.2 p.1 ∧ Apart (.slice A4 m c4) p) ∧ qs.map Prod.fst = shownF (l.take k) ∧ base ≤ w.heap.size ∧ w.heap.size = base) ∧
    Below w.heap.size w wr

set_option maxRecDepth 100000 in
set_option maxHeartbeats 2000000 in
theorem shown_any (A : Option Addr) (c n : Nat) (l : List Vr) (hn : l.length = n) (L B : Nat) (w : World) (hB : B ≤ w.heap.size) (hv : Vs w L B A l) (hbig : n ≤ 1024) (hp : ∀ v ∈ l, v.past.length ≤ 4294967296) :
    Calls Try.prog 25 #[.slice A n c] w (Shows w.heap.size (shownF l) w) := by
  obtain ⟨i0, hi0, hz0, hz1, hz2⟩ := info_parts info_ver
  obtain ⟨base, hbase⟩ : ∃ base, w.heap.size = base := ⟨_, rfl⟩
  have HV := Lib.hid (And.intro hv (And.intro hn (And.intro hp hbase)))
  have HI : Hid (Showing l n base w (.slice none 0 0) (.int .i64 0) w) := Lib.hid ⟨0, 0, none, 0, [], rfl, rfl, by omega, by omega, Lib.hid ⟨rfl, World.ownsRow_nil _ _ _ _, by simp, by simp [shownF], by omega, hbase⟩, Below.refl _ _⟩
  clear hv hn hp hbase
  go_enter Try.func25, Try.ntmps25
  go_wp2_with fail
  go_loopw [3, 8] (fun sv iv wr => Showing l n base w sv iv wr) (fun _ iv _ => n - (intOf iv).toNat)
  case atStart => exact HI.out
  case round =>
    obtain ⟨k, m, A4, c4, qs, rfl, rfl, hk, hm, hH, hb⟩ := hrel
    clear HI
    by_cases hlt : k < n
    · obtain ⟨b, off, A1, c1, rfl, _, hbB, a0, a1, a2, a3, a4, hpv⟩ := HV.out.1.at HV.out.2.1 (hb.mono hB) hlt rfl
      have hkl : k < l.length := by have := HV.out.2.1; omega
      have hmem : l.getD k v0 ∈ l := by
        rw [List.getD_eq_getElem?_getD, List.getElem?_eq_getElem hkl]
        exact List.getElem_mem _
      have hbp := HV.out.2.2.1 _ hmem
      have HTy := Lib.hid (shown_yes (l := l) hkl)
      have HTn := Lib.hid (shown_no (l := l) hkl)
      obtain ⟨v, hvv⟩ : ∃ v, l.getD k v0 = v := ⟨_, rfl⟩
      rw [hvv] at a0 a1 a2 a3 a4 hpv hbp HTy HTn
      clear hvv hmem
      obtain ⟨s, vn, vp, vg, vx⟩ := v
      simp only at a0 a1 a2 a3 a4 hbp
      obtain ⟨kp, hkp⟩ : ∃ kp, vp.length = kp := ⟨_, rfl⟩
      rw [hkp] at a2 hbp
      have hsz := hb.size
      have d1 : (0 : Int) ≤ (k : Int) := by omega
      have d2 : (k : Int) < (n : Int) := by omega
      have HO := Lib.hid (And.intro hb (And.intro hkp hpv))
      have hK : Hid (∀ W, Below wr.heap.size wr W → Calls Try.prog 42 #[.agg #[.int .i64 s, .int .i64 vn, .slice A1 kp c1, .bool vg, .string vx]] W (NewVer ⟨s, vn, vp, vg, vx⟩ W)) := Lib.hid fun W hW =>
        ver_any A1 c1 kp s vn vp vg vx hkp (by omega) L B W (by have := hW.size; omega) (hpv.below (hW.mono (by omega)))
      clear hb hkp hpv
      rcases vg with _ | _
      · go_wp2_with fail
        have hW : Below wr.heap.size wr (wr.alloc (.cells #[.int .i64 s, .int .i64 vn, .slice A1 kp c1, .bool false, .string vx] 28)) := (Below.refl _ wr).alloc (Nat.le_refl _) _
        refine Calls.mono (hK.out _ hW) ?_
        rintro e w2 ⟨A2, c2, rfl, hp2, b2⟩
        rw [HO.out.2.1]
        have hs2 := hW.size
        have b3 : Below wr.heap.size wr w2 := hW.trans (b2.mono hs2)
        have o2 := own_below hH.out.2.1 b3 (Nat.le_refl _)
        have hnew := apart_new (base := base) (v := .slice A4 m c4) (p := (⟨s, vn, vp, false, vx⟩, A2, c2)) hp2.out hs2 (by have := hH.out.2.2.2.2.2; omega) (fun g hg => (hH.out.2.1.lt g hg).2)
        have hall : ∀ q ∈ qs ++ [((⟨s, vn, vp, false, vx⟩, A2, c2) : Pv)], Pa w2 base w2.heap.size q.2.1 q.2.2 q.1 ∧ Apart (.slice A4 m c4) q := fun q hq => by
          rcases List.mem_append.1 hq with hq | hq
          · exact apart_later hH.out.2.2.1 b3 q hq
          · rw [List.mem_singleton.1 hq]; exact hnew
        have hb2s : base ≤ w2.heap.size := by have := hH.out.2.2.2.2.2; have := b3.size; omega
        have HA := Lib.hid (And.intro hall (And.intro o2 b3))
        clear hall hnew o2 b2 hp2 hK hW hs2 b3
        go_wp2_with (at_builtin; refine wpList_append_v _ rfl (.tmp 15) (.tmp 18) 22 rfl base 28 i0 _ 64 Try.underlying22 hi0 hz0 hz1 hz2 rfl (.slice A4 m c4) m qs rfl HA.out.2.1 (⟨s, vn, vp, false, vx⟩, A2, c2) kp HO.out.2.1 1 rfl (by omega) (by omega) hb2s ?_; intro v3 w6 o6 g6 at6)
        obtain ⟨A6, c6, rfl⟩ := own_form o6
        have hl6 : qs.length = m := hH.out.1
        have hq6 := apart_more HA.out.1 g6 at6
        have hnb : ∀ q, (Value.slice A4 m c4).ownBlock = some q → base ≤ q := fun q hq => (hH.out.2.1.lt q hq).1
        have hbe : Below w.heap.size w w6 := by
          have e := hH.out.2.2.2.2.2
          exact (HO.out.1.trans (HA.out.2.2.mono hsz)).grown g6 (by omega) (fun q hq => by have := hnb q hq; omega)
        exact ⟨⟨k + 1, m + 1, A6, c6, qs ++ [(⟨s, vn, vp, false, vx⟩, A2, c2)], rfl, rfl, by omega, by omega, Lib.hid ⟨by simp [hl6], o6, hq6, by rw [List.map_append, hH.out.2.2.2.1, HTy.out (by trivial)]; rfl, hH.out.2.2.2.2⟩, hbe⟩, by simp only [intOf]; omega⟩
      · clear hK
        have HS := Lib.hid (show Hid (Showing l n base w (.slice A4 m c4) (.int .i64 ((k : Int) + 1)) (wr.alloc (.cells #[.int .i64 s, .int .i64 vn, .slice A1 kp c1, .bool true, .string vx] 28))) from by
          have hW : Below wr.heap.size wr (wr.alloc (.cells #[.int .i64 s, .int .i64 vn, .slice A1 kp c1, .bool true, .string vx] 28)) := (Below.refl _ wr).alloc (Nat.le_refl _) _
          exact Lib.hid ⟨k + 1, m, A4, c4, qs, rfl, rfl, by omega, by omega, Lib.hid ⟨hH.out.1, own_below hH.out.2.1 hW (Nat.le_refl _), apart_later hH.out.2.2.1 hW, by rw [HTn.out rfl]; exact hH.out.2.2.2.1, hH.out.2.2.2.2⟩, HO.out.1.trans (hW.mono hsz)⟩)
        go_wp2_with fail
        exact ⟨HS.out.out, by simp only [intOf]; omega⟩
    · obtain rfl : k = n := by omega
      have hfin : Shows w.heap.size (shownF l) w (.returned (.slice A4 m c4)) wr := by
        have hq : qs.map Prod.fst = shownF l := by rw [hH.out.2.2.2.1, List.take_of_length_le (by have := HV.out.2.1; omega)]
        have hlm : (shownF l).length = m := by rw [← hq, List.length_map]; exact hH.out.1
        refine ⟨A4, c4, by rw [hlm], by rw [hlm]; exact (own_low hH.out.2.1).1, ?_, hb⟩
        rw [hH.out.2.2.2.2.2, ← hq]
        exact OwnVs.vs (base := base) (B := wr.heap.size) (n := m) (c := c4) ⟨by rw [hH.out.1]; exact hH.out.2.1, fun p hp => (hH.out.2.2.1 p hp).1⟩ (Nat.le_refl _) (Nat.le_refl _)
      have HF := Lib.hid hfin
      clear hfin hb hH
      go_wp2_with fail
      go_ret
      exact HF.out

/-- k of them have been looked at, and none copied. -/
def ShowingR (l : List Vr) (n base : Nat) (w : World) (sv iv : Value) (wr : World) : Prop :=
  ∃ (k m : Nat) (A4 : Option Addr) (c4 : Nat) (qs : List Pv), iv = .int .i64 (k : Int) ∧ sv = .slice A4 m c4 ∧ k ≤ n ∧ m ≤ k ∧
    Hid (qs.length = m ∧ wr.ownsRow base 28 5 (.slice A4 m c4) m (vcs qs) ∧ (∀ p ∈ qs, Pa wr 0 base p.2.1 p.2.2 p.1) ∧ qs.map Prod.fst = shownF (l.take k) ∧ w.heap.size = base) ∧
    Below w.heap.size w wr

set_option maxRecDepth 100000 in
set_option maxHeartbeats 2000000 in
theorem ref_shown_any (A : Option Addr) (c n : Nat) (l : List Vr) (hn : l.length = n) (w : World) (hv : Vs w 0 w.heap.size A l) (hbig : n ≤ 1024) :
    Calls Try.prog 26 #[.slice A n c] w (Shows 0 (shownF l) w) := by
  obtain ⟨i0, hi0, hz0, hz1, hz2⟩ := info_parts info_ver
  obtain ⟨base, hbase⟩ : ∃ base, w.heap.size = base := ⟨_, rfl⟩
  have HV := Lib.hid (And.intro hv (And.intro hn hbase))
  have HI : Hid (ShowingR l n base w (.slice none 0 0) (.int .i64 0) w) := Lib.hid ⟨0, 0, none, 0, [], rfl, rfl, by omega, by omega, Lib.hid ⟨rfl, World.ownsRow_nil _ _ _ _, by simp, by simp [shownF], hbase⟩, Below.refl _ _⟩
  clear hv hn hbase
  go_enter Try.func26, Try.ntmps26
  go_wp2_with fail
  go_loopw [3, 4] (fun sv iv wr => ShowingR l n base w sv iv wr) (fun _ iv _ => n - (intOf iv).toNat)
  case atStart => exact HI.out
  case round =>
    obtain ⟨k, m, A4, c4, qs, rfl, rfl, hk, hm, hH, hb⟩ := hrel
    clear HI
    by_cases hlt : k < n
    · obtain ⟨b, off, A1, c1, rfl, _, hbB, a0, a1, a2, a3, a4, hpv⟩ := HV.out.1.at HV.out.2.1 hb hlt rfl
      have hkl : k < l.length := by have := HV.out.2.1; omega
      have HTy := Lib.hid (shown_yes (l := l) hkl)
      have HTn := Lib.hid (shown_no (l := l) hkl)
      obtain ⟨v, hvv⟩ : ∃ v, l.getD k v0 = v := ⟨_, rfl⟩
      rw [hvv] at a0 a1 a2 a3 a4 hpv HTy HTn
      clear hvv
      obtain ⟨s, vn, vp, vg, vx⟩ := v
      simp only at a0 a1 a2 a3 a4
      obtain ⟨kp, hkp⟩ : ∃ kp, vp.length = kp := ⟨_, rfl⟩
      rw [hkp] at a2
      have hsz := hb.size
      have d1 : (0 : Int) ≤ (k : Int) := by omega
      have d2 : (k : Int) < (n : Int) := by omega
      have hbs : base ≤ wr.heap.size := by have := hH.out.2.2.2.2; omega
      have HO := Lib.hid (And.intro hb (And.intro hkp hpv))
      clear hb hkp hpv
      rcases vg with _ | _
      · go_wp2_with (at_builtin; refine wpList_append_v _ rfl (.tmp 17) (.tmp 22) 22 rfl base 28 i0 _ 64 Try.underlying22 hi0 hz0 hz1 hz2 rfl (.slice A4 m c4) m qs rfl hH.out.2.1 (⟨s, vn, vp, false, vx⟩, A1, c1) kp HO.out.2.1 1 rfl (by omega) (by omega) hbs ?_; intro v3 w6 o6 g6 at6)
        obtain ⟨A6, c6, rfl⟩ := own_form o6
        have hl6 : qs.length = m := hH.out.1
        have hnb : ∀ q, (Value.slice A4 m c4).ownBlock = some q → base ≤ q := fun q hq => (hH.out.2.1.lt q hq).1
        have hall : ∀ q ∈ qs ++ [((⟨s, vn, vp, false, vx⟩, A1, c1) : Pv)], Pa wr 0 base q.2.1 q.2.2 q.1 := fun q hq => by
          rcases List.mem_append.1 hq with hq | hq
          · exact hH.out.2.2.1 q hq
          · rw [List.mem_singleton.1 hq]
            have h := HO.out.2.2
            rwa [hH.out.2.2.2.2] at h
        have hq6 := pa_grown hall g6 hbs hnb
        have hbe : Below w.heap.size w w6 := HO.out.1.grown g6 hsz (fun q hq => by have := hnb q hq; have := hH.out.2.2.2.2; omega)
        exact ⟨⟨k + 1, m + 1, A6, c6, qs ++ [(⟨s, vn, vp, false, vx⟩, A1, c1)], rfl, rfl, by omega, by omega, Lib.hid ⟨by simp [hl6], o6, hq6, by rw [List.map_append, hH.out.2.2.2.1, HTy.out (by trivial)]; rfl, hH.out.2.2.2.2⟩, hbe⟩, by simp only [intOf]; omega⟩
      · have HS := Lib.hid (show Hid (ShowingR l n base w (.slice A4 m c4) (.int .i64 ((k : Int) + 1)) wr) from
          Lib.hid ⟨k + 1, m, A4, c4, qs, rfl, rfl, by omega, by omega, Lib.hid ⟨hH.out.1, hH.out.2.1, hH.out.2.2.1, by rw [HTn.out rfl]; exact hH.out.2.2.2.1, hH.out.2.2.2.2⟩, HO.out.1⟩)
        go_wp2_with fail
        exact ⟨HS.out.out, by simp only [intOf]; omega⟩
    · obtain rfl : k = n := by omega
      have hfin : Shows 0 (shownF l) w (.returned (.slice A4 m c4)) wr := by
        have hq : qs.map Prod.fst = shownF l := by rw [hH.out.2.2.2.1, List.take_of_length_le (by have := HV.out.2.1; omega)]
        have hlm : (shownF l).length = m := by rw [← hq, List.length_map]; exact hH.out.1
        refine ⟨A4, c4, by rw [hlm], by rw [hlm]; exact (own_low hH.out.2.1).1, ?_, hb⟩
        rw [← hq]
        exact OwnVs.vs (base := base) (B := base) (n := m) (c := c4) ⟨by rw [hH.out.1]; exact hH.out.2.1, hH.out.2.2.1⟩ (Nat.zero_le _) (by have := hH.out.2.2.2.2; have := hb.size; omega)
      have HF := Lib.hid hfin
      clear hfin hb hH
      go_wp2_with fail
      go_ret
      exact HF.out
end Vers
end Go.Proofs.Ythiiganfoecmnaa
