/-
 vers.Merge tells what mergeF tells, in memory of the call's own.
-/
import Derived.Test.YtekhaejhmlebbaaGreatRGFill
import Derived.Test.YtekhaejhmlebbaaGreatRGRef
namespace Go.Proofs.YtekhaejhmlebbaaGreat
namespace Vers
open Go.RowKit Span
attribute [local go_sem ↓] Go.wp_at_zero Go.wp_at_succ

theorem apart_rows {w : World} {b b' : Nat} {e e' : TypeId} {s s' n n' : Nat} {v v' : Value} {xs xs' : List Value} (h : w.ownsRow b e s v n xs) (h' : w.ownsRow b' e' s' v' n' xs') (hne : e ≠ e') : ∀ g, v.ownBlock = some g → v'.ownBlock ≠ some g := by
 intro g hg hg'
 rcases h.2 with ⟨rfl, _⟩ | ⟨g1, cap, cur, rfl, _, h1, _⟩
 ·cases hg
 ·rcases h'.2 with ⟨rfl, _⟩ | ⟨g2, cap', cur', rfl, _, h2, _⟩
  ·cases hg'
  ·cases hg
   cases hg'
   rw [h1] at h2
   injection h2 with h2
   injection h2 with _ h2
   exact hne h2

def stayOf (us : List Vr) (k : Nat) : List Vr := (us.take k).filter fun v => !decide (behind us v.s v.n)
theorem stayOf_yes {us : List Vr} {k : Nat} (hk : k < us.length) (h : decide (behind us (us.getD k v0).s (us.getD k v0).n) = false) : stayOf us (k + 1) = stayOf us k ++ [us.getD k v0] := by
 have e : us.getD k v0 = us[k] := by simp [List.getD_eq_getElem?_getD, hk]
 rw [e] at h ⊢
 unfold stayOf
 rw [List.take_succ_eq_append_getElem hk, List.filter_append]
 simp [h]
theorem stayOf_no {us : List Vr} {k : Nat} (hk : k < us.length) (h : decide (behind us (us.getD k v0).s (us.getD k v0).n) = true) : stayOf us (k + 1) = stayOf us k := by
 have e : us.getD k v0 = us[k] := by simp [List.getD_eq_getElem?_getD, hk]
 rw [e] at h
 unfold stayOf
 rw [List.take_succ_eq_append_getElem hk, List.filter_append]
 simp [h]
def OwnMerged (B : Nat) (r : List Vr × Int) (w : World) (e : Ending) (w' : World) : Prop :=
 ∃ A c ps, e = .returned (.tuple #[.slice A r.1.length c, .int .i64 r.2]) ∧ r.1.length ≤ c ∧ OwnVs B B w'.heap.size w' (.slice A r.1.length c) ps ∧ ps.map Prod.fst = r.1 ∧ (∀ p ∈ ps, Tg w' p.1.past.length p.2.1) ∧ Below w.heap.size w w'
theorem own_merged_none (B : Nat) (k : Int) (w w' : World) (hb : Below w.heap.size w w') : OwnMerged B ([], k) w (.returned (.tuple #[.slice none 0 0, .int .i64 k])) w' := ⟨none, 0, [], rfl, by simp, ⟨World.ownsRow_nil _ _ _ _, by simp⟩, rfl, by simp, hb⟩

def Staying (us : List Vr) (N S gbase gb cap : Nat) (As : Option Addr) (ys : List Bool) (w : World) (iv sv : Value) (wr : World) : Prop :=
 ∃ (k m : Nat) (A4 : Option Addr) (c4 : Nat) (qs : List Pv), iv = .int .i64 (k : Int) ∧ sv = .slice A4 m c4 ∧ k ≤ N ∧ m ≤ k ∧ m ≤ c4 ∧
  Hid (qs.length = m ∧ wr.ownsRow S 59 5 (.slice A4 m c4) m (vcs qs) ∧ (∀ p ∈ qs, Pa wr 0 S p.2.1 p.2.2 p.1) ∧ qs.map Prod.fst = stayOf us k ∧ Vs wr 0 S As us ∧ wr.ownsRow gbase 4 1 (.slice (some ⟨gb, 0, none⟩) N cap) N (bools ys)) ∧
  Below w.heap.size w wr ∧ S ≤ wr.heap.size

set_option maxRecDepth 100000 in
set_option maxHeartbeats 2000000 in
theorem merge_own (A A' : Option Addr) (c c' n n' : Nat) (a b : List Vr) (hn : a.length = n) (hn' : b.length = n') (hnc : n ≤ c) (hnc' : n' ≤ c') (w : World) (hv : Vs w 0 w.heap.size A a) (hv' : Vs w 0 w.heap.size A' b) (hb2 : n ≤ 140737488355328) (hb2' : n' ≤ 140737488355328) :
  Calls Tryz.prog 48 #[.slice A n c, .slice A' n' c'] w (OwnMerged w.heap.size (mergeF a b) w) := by
 have h1 := rightV_any A c n a hn w hv hb2
 have h2 := fun W (hbW : Below w.heap.size w W) => rightV_any A' c' n' b hn' W ((hv'.below hbW).more hbW.size) hb2'
 by_cases ra : RightV a
 ·rw [decide_eq_true ra] at h1
  by_cases rb : RightV b
  ·obtain ⟨i0, hi0, hz0, hz1, hz2⟩ := info_parts info_ver
   have H1 := Lib.hid h1
   have H2 := Lib.hid (fun W hbW => (decide_eq_true rb) ▸ h2 W hbW)
   have hn5 : n ≤ 512 := by have := ra.1; omega
   have hn5' : n' ≤ 512 := by have := rb.1; omega
   have H3 := Lib.hid (fun W (hbW : Below w.heap.size w W) => together_any A A' c c' n n' a b hn hn' hnc hnc' W ((hv.below hbW).more hbW.size) ((hv'.below hbW).more hbW.size) ra.2.1.2 rb.2.1.2 hn5 hn5')
   have HR := Lib.hid (And.intro ra (And.intro rb (And.intro hn hn')))
   obtain ⟨R, hR⟩ : ∃ R, mergeF a b = R := ⟨_, rfl⟩
   have HM := Lib.hid hR
   rw [hR]
   clear h1 h2 hv hv' hn hn' ra rb hR
   go_enter Tryz.func48, Tryz.ntmps48
   go_wp2_with fail
   refine H1.out.mono ?_
   rintro e w1 ⟨rfl, b1⟩
   have H2' := Lib.hid (H2.out _ b1)
   have B1 := Lib.hid b1
   have s1 := b1.size
   clear b1 H1 H2
   go_wp2_with fail
   refine H2'.out.mono ?_
   rintro e w2 ⟨rfl, b2⟩
   have B2 := Lib.hid (B1.out.trans (b2.mono s1))
   have s2 := B2.out.size
   clear b2 H2' B1 s1
   go_wp2_with fail
   refine (H3.out _ B2.out).mono ?_
   rintro e w3 (⟨A3, c3, ps, rfl, hown, hlen, b3, hset⟩ | ⟨rfl, b3, ht⟩)
   ·obtain ⟨N, hN⟩ : ∃ N, ps.length = N := ⟨_, rfl⟩
    obtain ⟨us, hus⟩ : ∃ us, ps.map Prod.fst = us := ⟨_, rfl⟩
    have hvs := OwnVs.vs hown (Nat.zero_le _) b3.size
    have hNc := (own_low hown.1).1
    rw [hus] at hvs hset
    rw [hN] at hlen hNc ⊢
    have hlu : us.length = N := by rw [← hus, List.length_map, hN]
    have hN4 : N ≤ 1024 := by have := HR.out.2.2.1; have := HR.out.2.2.2; omega
    have hfine : FineV us := ⟨fun v hv => ((hset.out.2.1 v).1 hv).elim (HR.out.1.2.1.1 v) (HR.out.2.1.2.1.1 v), hset.out.1⟩
    have B3 := Lib.hid (B2.out.trans (b3.mono s2))
    have s3 := B3.out.size
    have HU := Lib.hid (And.intro hvs (And.intro hlu (And.intro hfine hset.out)))
    obtain ⟨S, hS⟩ : ∃ S, w3.heap.size = S := ⟨_, rfl⟩
    have HS := Lib.hid hS
    clear hown hlen b3 hset hvs hfine hus hN hlu H3 hS
    go_wp2_with (at_make; refine wpList_make_own _ rfl _ _ 50 rfl w3.heap.size 59 i0 _ 5 Tryz.underlying50 hi0 hz0 hz1 _ _ _ N rfl rfl rfl (by rw [hz2]; omega) (by unfold maxLen; omega) (Nat.le_refl _) ?_; intro w4 o4 g4)
    have b4 : Below w3.heap.size w3 w4 := (Below.refl _ _).grown g4 (Nat.le_refl _) (fun k hk => by cases hk)
    have s4 := b4.size
    have H4 := Lib.hid (passed_any A3 c3 N us HU.out.2.1 HU.out.2.2.1 w4 ((HU.out.1.below b4).more s4) hN4)
    rw [HS.out] at o4 b4 s4 s3 ⊢
    have K4 := Lib.hid (And.intro o4 b4)
    clear o4 b4 g4
    go_wp2_with fail
    refine H4.out.mono ?_
    rintro e w5 ⟨gb, cap, ys, rfl, hy, ho, b5, hd⟩
    have hNcap := (own_low ho).1
    have hU5 : Vs w5 0 S A3 us := by
     have h := HU.out.1
     rw [HS.out] at h
     exact (h.below K4.out.2).below (b5.mono s4)
    have B5 : Hid (Below w.heap.size w w5) := Lib.hid ((B3.out.trans (K4.out.2.mono s3)).trans (b5.mono (Nat.le_trans s3 s4)))
    have HI : Hid (Staying us N S w4.heap.size gb cap A3 ys w (.int .i64 0) (.slice (some ⟨S, 0, none⟩) 0 N) w5) := Lib.hid ⟨0, 0, some ⟨S, 0, none⟩, N, [], rfl, rfl, by omega, by omega, by omega, Lib.hid ⟨rfl, own_below K4.out.1 b5 (Nat.le_refl _), by simp, by simp [stayOf], hU5, ho⟩, B5.out, Nat.le_trans s4 b5.size⟩
    have HD := Lib.hid (And.intro hy hd)
    clear hU5 ho b5 hy hd H4
    go_wp2_with fail
    go_loopw [8, 34] (fun sv iv wr => Staying us N S w4.heap.size gb cap A3 ys w iv sv wr) (fun _ iv _ => N - (intOf iv).toNat)
    case atStart => exact HI.out
    case round =>
     obtain ⟨k, m, A4, c4, qs, rfl, rfl, hk, hm, hmc, hH, hb, hSs⟩ := hrel
     clear HI
     by_cases hlt : k < N
     ·have hkl : k < us.length := by have := HU.out.2.1; omega
      have hyl : k < ys.length := by have := HD.out.1; omega
      have hbool := World.ownsRow.cellAt hH.out.2.2.2.2.2 k (by omega)
      rw [show (bools ys)[k]? = some (.bool (ys.getD k false)) by simp [bools, List.getD_eq_getElem?_getD, hyl]] at hbool
      have hdk := HD.out.2 k hlt
      have d1 : (0 : Int) ≤ (k : Int) := by omega
      have d2 : (k : Int) < (N : Int) := by omega
      obtain ⟨y, hy⟩ : ∃ y, ys.getD k false = y := ⟨_, rfl⟩
      rw [hy] at hbool hdk
      clear hy
      rcases y with _ | _
      ·obtain ⟨pb, off, A1, c1, rfl, _, hbB, a0, a1, a2, a3, a4, hpv⟩ := hH.out.2.2.2.2.1.at HU.out.2.1 (Below.refl _ _) hlt rfl
       have HT := Lib.hid (stayOf_yes hkl hdk.symm)
       obtain ⟨v, hvv⟩ : ∃ v, us.getD k v0 = v := ⟨_, rfl⟩
       rw [hvv] at a0 a1 a2 a3 a4 hpv
       have HVV := Lib.hid hvv
       obtain ⟨s, vn, vp, vg, vx⟩ := v
       simp only at a0 a1 a2 a3 a4
       obtain ⟨kp, hkp⟩ : ∃ kp, vp.length = kp := ⟨_, rfl⟩
       rw [hkp] at a2
       have HO := Lib.hid (And.intro hb (And.intro hkp hpv))
       clear hb hdk hvv hkp hpv
       go_wp2_with (at_builtin; refine wpList_append_v _ rfl (.tmp 41) (.tmp 46) 50 rfl S 59 i0 _ 64 Tryz.underlying50 hi0 hz0 hz1 hz2 rfl (.slice A4 m c4) m qs rfl hH.out.2.1 (⟨s, vn, vp, vg, vx⟩, A1, c1) kp HO.out.2.1 1 rfl (by omega) (by omega) hSs ?_; intro v3 w6 o6 g6 at6)
       obtain ⟨A6, c6, rfl⟩ := own_form o6
       have hl6 : qs.length = m := hH.out.1
       have hap := hH.out.2.2.2.2.2
       have hnb : ∀ q, (Value.slice A4 m c4).ownBlock = some q → S ≤ q := fun q hq => (hH.out.2.1.lt q hq).1
       have g6' : ∀ o, o.block < S → w6.cell? o = wr.cell? o := fun o ho => World.cell?_of_block (g6.block o.block (by omega) (fun e => by have := hnb _ e.symm; omega))
       have hb6 : w6.ownsRow w4.heap.size 4 1 (.slice (some ⟨gb, 0, none⟩) N cap) N (bools ys) := hap.kept g6 (by
        refine .inr fun e => ?_
        exact apart_rows hap hH.out.2.1 (by decide) gb rfl e.symm)
       have hS6 : w.heap.size ≤ S := s3
       have HN6 := Lib.hid (show Below w.heap.size w w6 from HO.out.1.grown g6 (Nat.le_trans hS6 hSs) (fun q hq => Nat.le_trans hS6 (hnb q hq)))
       refine ⟨⟨k + 1, m + 1, A6, c6, qs ++ [(⟨s, vn, vp, vg, vx⟩, A1, c1)], rfl, rfl, by omega, by omega, (own_low o6).1, Lib.hid ⟨by simp [hl6], o6, fun q hq => ?_, by rw [List.map_append, hH.out.2.2.2.1, HT.out, HVV.out]; rfl, hH.out.2.2.2.2.1.keep fun o _ ho => g6' o ho, hb6⟩, HN6.out, Nat.le_trans hSs g6.size⟩, by simp only [intOf]; omega⟩
       rcases List.mem_append.1 hq with hq | hq
       ·exact (hH.out.2.2.1 q hq).keep fun o _ ho => g6' o ho
       ·rw [List.mem_singleton.1 hq]
        exact HO.out.2.2.keep fun o _ ho => g6' o ho
      ·have HT := Lib.hid (stayOf_no hkl hdk.symm)
       have HO := Lib.hid hb
       clear hdk hb
       go_wp2_with fail
       exact ⟨⟨k + 1, m, A4, c4, qs, rfl, rfl, by omega, by omega, hmc, Lib.hid ⟨hH.out.1, hH.out.2.1, hH.out.2.2.1, by rw [HT.out]; exact hH.out.2.2.2.1, hH.out.2.2.2.2⟩, HO.out, hSs⟩, by simp only [intOf]; omega⟩
     ·obtain rfl : k = N := by omega
      have hr : qs.map Prod.fst = us.filter (fun v => !decide (behind us v.s v.n)) := by
       rw [hH.out.2.2.2.1]
       unfold stayOf
       rw [List.take_of_length_le (by have := HU.out.2.1; omega)]
      have hst : qs.map Prod.fst = stayF a b := stay_one HR.out.1 HR.out.2.1 HU.out.2.2.2.2.2 (by rw [hr]; exact union_stay HU.out.2.2.2.1 HU.out.2.2.2.2.1)
      have hlm : (qs.map Prod.fst).length = m := by rw [List.length_map]; exact hH.out.1
      have hpb : ∀ v ∈ qs.map Prod.fst, v.past.length ≤ 4294967296 := fun v hv => by
       rw [hr] at hv
       have := (HU.out.2.2.1.1 v (List.mem_filter.1 hv).1).2.1.1
       omega
      have hqv : Vs wr 0 wr.heap.size A4 (qs.map Prod.fst) := OwnVs.vs (base := S) (B := S) (n := m) (c := c4) ⟨by rw [hH.out.1]; exact hH.out.2.1, hH.out.2.2.1⟩ (Nat.zero_le _) hSs
      have HL := Lib.hid (list_own A4 c4 m (qs.map Prod.fst) hlm 0 wr.heap.size wr (Nat.le_refl _) hqv (by omega) hpb)
      have HF := Lib.hid (And.intro hst (And.intro hlm hb))
      clear hr hst hlm hpb hqv hH hb
      by_cases hlong : 512 < m
      ·have HT := Lib.hid (HM.out.symm.trans (merge_long HR.out.1 HR.out.2.1 HU.out.2.2.2.2.2 (by rw [← HF.out.1, HF.out.2.1]; exact hlong)))
       have e1 : decide ((512 : Int) < (m : Int)) = true := decide_eq_true (by omega)
       have e2 : (512 : Int) < (m : Int) := by omega
       go_wp2_with fail
       go_ret2
       rw [HT.out]
       exact own_merged_none _ _ _ _ HF.out.2.2
      ·have HT := Lib.hid (HM.out.symm.trans (merge_ok HR.out.1 HR.out.2.1 HU.out.2.2.2.2.2 (by rw [← HF.out.1, HF.out.2.1]; exact hlong)))
       have e1 : decide ((512 : Int) < (m : Int)) = false := decide_eq_false (by omega)
       have e2 : ¬ (512 : Int) < (m : Int) := by omega
       have hsr := HF.out.2.2.size
       go_wp2_with fail
       refine HL.out.mono ?_
       rintro e w7 ⟨A7, c7, ts, rfl, ht, b7⟩
       have hls : (stayF a b).length = m := by rw [← HF.out.1]; exact HF.out.2.1
       have hts : ts.length = m := by have h := congrArg List.length ht.out.2.1; rw [List.length_map] at h; exact h.trans HF.out.2.1
       have hvt : OwnVs w.heap.size w.heap.size w7.heap.size w7 (.slice A7 m c7) ts := by
        have h := ht.out.1
        rw [HF.out.2.1] at h
        exact ⟨own_base h.1 hsr, fun p hp => (h.2 p hp).less hsr⟩
       have K := ht.out.1.1
       rw [HF.out.2.1, hts] at K
       have hfin : OwnMerged w.heap.size (stayF a b, 0) w (.returned (.tuple #[.slice A7 m c7, .int .i64 0])) w7 := ⟨A7, c7, ts, by simp only [hls], by simp only [hls]; exact (own_low K).1, by simp only [hls]; exact hvt, by rw [ht.out.2.1, HF.out.1], ht.out.2.2, HF.out.2.2.trans (b7.mono hsr)⟩
       have H7 := Lib.hid hfin
       rw [HF.out.2.1]
       clear ht b7 HL hls hts hvt K hfin
       go_wp2_with fail
       go_ret2
       rw [HT.out]
       exact H7.out
   ·have B3 := Lib.hid (B2.out.trans (b3.mono s2))
    have HT := Lib.hid (HM.out.symm.trans (merge_twin HR.out.1 HR.out.2.1 ht.out))
    clear b3 ht H3
    go_wp2_with fail
    go_ret2
    rw [HT.out]
    exact own_merged_none _ _ _ _ B3.out
  ·rw [merge_arg (.inr rb)]
   have H1 := Lib.hid h1
   have H2 := Lib.hid (fun W hbW => (decide_eq_false rb) ▸ h2 W hbW)
   clear h1 h2 hv hv' hn hn' ra rb
   go_enter Tryz.func48, Tryz.ntmps48
   go_wp2_with fail
   refine H1.out.mono ?_
   rintro e w1 ⟨rfl, b1⟩
   have H2' := Lib.hid (H2.out _ b1)
   have B1 := Lib.hid b1
   have s1 := b1.size
   clear b1 H1 H2
   go_wp2_with fail
   refine H2'.out.mono ?_
   rintro e w2 ⟨rfl, b2⟩
   have B2 := Lib.hid (B1.out.trans (b2.mono s1))
   clear b2 H2' B1 s1
   go_wp2_with fail
   go_ret2
   exact own_merged_none _ _ _ _ B2.out
 ·rw [decide_eq_false ra] at h1
  rw [merge_arg (.inl ra)]
  have H1 := Lib.hid h1
  clear h1 h2 hv hv' hn hn' ra
  go_enter Tryz.func48, Tryz.ntmps48
  go_wp2_with fail
  refine H1.out.mono ?_
  rintro e w1 ⟨rfl, b1⟩
  have B1 := Lib.hid b1
  clear b1 H1
  go_wp2_with fail
  go_ret2
  exact own_merged_none _ _ _ _ B1.out
theorem merge_any (A A' : Option Addr) (c c' n n' : Nat) (a b : List Vr) (hn : a.length = n) (hn' : b.length = n') (hnc : n ≤ c) (hnc' : n' ≤ c') (w : World) (hv : Vs w 0 w.heap.size A a) (hv' : Vs w 0 w.heap.size A' b) (hb2 : n ≤ 140737488355328) (hb2' : n' ≤ 140737488355328) :
  Calls Tryz.prog 48 #[.slice A n c, .slice A' n' c'] w (Merged w.heap.size (mergeF a b) w) :=
 (merge_own A A' c c' n n' a b hn hn' hnc hnc' w hv hv' hb2 hb2').mono fun _ _ ⟨A', c', ps, h1, h2, h3, h4, _, h6⟩ => ⟨A', c', h1, h2, by
  have h := OwnVs.vs h3 (Nat.le_refl _) (Nat.le_refl _)
  rwa [h4] at h, h6⟩
end Vers
end Go.Proofs.YtekhaejhmlebbaaGreat
