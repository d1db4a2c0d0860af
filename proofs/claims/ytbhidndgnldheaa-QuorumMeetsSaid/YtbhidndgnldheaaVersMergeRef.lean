/-
  firthref05.Merge tells what mergeF tells.
-/
import Derived.Test.YtbhidndgnldheaaVersPut
namespace Go.Proofs.Ytbhidndgnldheaa
namespace Vers
open Go.RowKit Span
attribute [local go_sem ↓] Go.wp_at_zero Go.wp_at_succ

/-- What a merging tells: a list, an error. -/
def Merged (L : Nat) (r : List Vr × Int) (w : World) (e : Ending) (w' : World) : Prop :=
  ∃ A c, e = .returned (.tuple #[.slice A r.1.length c, .int .i64 r.2]) ∧ r.1.length ≤ c ∧ Vs w' L w'.heap.size A r.1 ∧ Below w.heap.size w w'
theorem merged_none (L : Nat) (k : Int) (w w' : World) (hb : Below w.heap.size w w') : Merged L ([], k) w (.returned (.tuple #[.slice none 0 0, .int .i64 k])) w' := ⟨none, 0, rfl, by simp, Vs.nil _, hb⟩

/-- No twins among the first i of a, and none of a's next one among the first k of b. -/
def NoTwin (a b : List Vr) (i k : Nat) : Prop := (∀ p, p < i → ∀ y ∈ b, ¬ (same (a.getD p v0) y ∧ a.getD p v0 ≠ y)) ∧ ∀ q, q < k → ¬ (same (a.getD i v0) (b.getD q v0) ∧ a.getD i v0 ≠ b.getD q v0)
theorem noTwin_end {a b : List Vr} {i : Nat} (h : NoTwin a b i b.length) : NoTwin a b (i + 1) 0 := ⟨fun p hp y hy => by
  rcases Nat.lt_or_ge p i with h1 | h1
  · exact h.1 p h1 y hy
  · obtain rfl : p = i := by omega
    obtain ⟨q, hq, rfl⟩ := List.getElem_of_mem hy
    have := h.2 q hq
    have e : b.getD q v0 = b[q] := by simp [List.getD_eq_getElem?_getD, hq]
    rwa [e] at this, fun q hq => absurd hq (by omega)⟩
theorem noTwin_all {a b : List Vr} (h : NoTwin a b a.length 0) : ¬ Twin a b := by
  rintro ⟨x, hx, y, hy, hs, hn⟩
  obtain ⟨p, hp, rfl⟩ := List.getElem_of_mem hx
  have e : a.getD p v0 = a[p] := by simp [List.getD_eq_getElem?_getD, hp]
  have := h.1 p hp y hy
  rw [e] at this
  exact this ⟨hs, hn⟩
theorem laidV_take {d l out : List Vr} {i : Nat} (h : i < l.length) : laidV d (l.take (i + 1)) out = if behind d (l.getD i v0).s (l.getD i v0).n then laidV d (l.take i) out else putV (laidV d (l.take i) out) (l.getD i v0) := by
  rw [take_v h, laidV_snoc]
theorem laidV_len (d l : List Vr) : ∀ (out : List Vr), (laidV d l out).length ≤ out.length + l.length := by
  unfold laidV
  have h1 : (l.filter fun v => !decide (behind d v.s v.n)).length ≤ l.length := List.length_filter_le _ _
  have h2 : ∀ (m out : List Vr), (m.foldl putV out).length ≤ out.length + m.length := by
    intro m
    induction m with
    | nil => intro out; simp
    | cons v m ih =>
      intro out
      have := ih (putV out v)
      have := putV_len out v
      simp only [List.foldl_cons, List.length_cons]
      omega
  intro out
  have := h2 (l.filter fun v => !decide (behind d v.s v.n)) out
  omega

/-- How far the laying of one of the sets is. -/
def Laying (d l start : List Vr) (n : Nat) (w : World) (ov iv : Value) (wr : World) : Prop :=
  ∃ (i : Nat) (A : Option Addr) (c : Nat), iv = .int .i64 i ∧ i ≤ n ∧ ov = .slice A (laidV d (l.take i) start).length c ∧ Hid ((laidV d (l.take i) start).length ≤ c ∧ Vs wr 0 wr.heap.size A (laidV d (l.take i) start)) ∧ Below w.heap.size w wr

set_option maxRecDepth 100000 in
set_option maxHeartbeats 1000000 in
theorem ref_merge_any (A A' : Option Addr) (c c' n n' : Nat) (a b : List Vr) (hn : a.length = n) (hn' : b.length = n') (w : World) (hv : Vs w 0 w.heap.size A a) (hv' : Vs w 0 w.heap.size A' b) (hb2 : n ≤ 140737488355328) (hb2' : n' ≤ 140737488355328) :
    Calls Try.prog 31 #[.slice A n c, .slice A' n' c'] w (Merged 0 (mergeF a b) w) := by
  have h1 := ref_rightV_any A c n a hn w hv hb2
  have h2 := fun W (hbW : Below w.heap.size w W) => ref_rightV_any A' c' n' b hn' W ((hv'.below hbW).more hbW.size) hb2'
  by_cases ra : RightV a
  · rw [decide_eq_true ra] at h1
    by_cases rb : RightV b
    · have H1 := Lib.hid h1
      have H2 := Lib.hid (fun W hbW => (decide_eq_true rb) ▸ h2 W hbW)
      have HV := Lib.hid (And.intro hv (And.intro hv' (And.intro hn (And.intro hn' (And.intro ra rb)))))
      have hn5 : n ≤ 512 := by have := ra.1; omega
      have hn5' : n' ≤ 512 := by have := rb.1; omega
      obtain ⟨r, hr⟩ : ∃ r, mergeF a b = r := ⟨_, rfl⟩
      rw [hr]
      have HR := Lib.hid hr
      clear h1 h2 hv hv' hn hn' ra rb hr
      go_enter Try.func31, Try.ntmps31
      go_wp2_with fail
      refine H1.out.mono ?_
      rintro e w1 ⟨rfl, b1⟩
      have H2' := Lib.hid (H2.out _ b1)
      have B1 := Lib.hid b1
      have s1 := b1.size
      clear b1 H1 H2
      go_wp2_with fail
      refine H2'.out.mono ?_
      rintro e w2 ⟨rfl, b2⟩
      have B2 := Lib.hid (B1.out.trans (b2.mono s1))
      have s2 := B2.out.size
      clear b2 H2' B1 s1
      go_upto_block 0 with fail
      go_cut [6] (fun _ V => Hid (¬ Twin a b) ∧ Below w.heap.size w V)
      case first =>
        go_wp2_with fail
        go_loopw [6] (fun iv V => ∃ i : Nat, iv = .int .i64 i ∧ i ≤ n ∧ Hid (NoTwin a b i 0) ∧ Below w.heap.size w V) (fun iv _ => n - (intOf iv).toNat)
        case atStart => exact ⟨0, rfl, by omega, Lib.hid ⟨fun p hp => absurd hp (by omega), fun q hq => absurd hq (by omega)⟩, B2.out⟩
        case round =>
          obtain ⟨i, rfl, hi, ht, hb⟩ := hrel
          have hsz := hb.size
          by_cases hlt : i < n
          · go_wp2_with fail
            go_loopw [7] (fun kv V => ∃ k : Nat, kv = .int .i64 k ∧ k ≤ n' ∧ Hid (NoTwin a b i k) ∧ Below w.heap.size w V) (fun kv _ => n' - (intOf kv).toNat)
            case atStart => exact ⟨0, rfl, by omega, ht, hb⟩
            case round =>
              obtain ⟨k, rfl, hk, htk, hbk⟩ := hrel
              have hszk := hbk.size
              by_cases hlk : k < n'
              · obtain ⟨p, off, A1, c1, rfl, _, hpB, a0, a1, a2, a3, a4, hpa⟩ := HV.out.1.at HV.out.2.2.1 hbk hlt rfl
                obtain ⟨p', off', A1', c1', rfl, _, hpB', a0', a1', a2', a3', a4', hpa'⟩ := HV.out.2.1.at HV.out.2.2.2.1 hbk hlk rfl
                have hma := mem_v (l := a) (k := i) (by have := HV.out.2.2.1; omega)
                have hmb := mem_v (l := b) (k := k) (by have := HV.out.2.2.2.1; omega)
                have hmore : ¬ (same (a.getD i v0) (b.getD k v0) ∧ a.getD i v0 ≠ b.getD k v0) → NoTwin a b i (k + 1) := fun h => ⟨htk.out.1, fun q hq => by
                  rcases Nat.lt_or_ge q k with h1 | h1
                  · exact htk.out.2 q h1
                  · obtain rfl : q = k := by omega
                    exact h⟩
                have htw : (same (a.getD i v0) (b.getD k v0) ∧ a.getD i v0 ≠ b.getD k v0) → r = ([], 50) := fun h => by
                  rw [← HR.out]
                  exact merge_twin HV.out.2.2.2.2.1 HV.out.2.2.2.2.2 ⟨_, hma, _, hmb, h.1, h.2⟩
                obtain ⟨v, hvv⟩ : ∃ v, a.getD i v0 = v := ⟨_, rfl⟩
                obtain ⟨v', hvv'⟩ : ∃ v, b.getD k v0 = v := ⟨_, rfl⟩
                rw [hvv] at a0 a1 a2 a3 a4 hpa
                rw [hvv'] at a0' a1' a2' a3' a4' hpa'
                rw [hvv, hvv'] at hmore htw
                clear hvv hvv' hma hmb
                obtain ⟨s, vn, vp, vg, vx⟩ := v
                obtain ⟨s', vn', vp', vg', vx'⟩ := v'
                simp only at a0 a1 a2 a3 a4 a0' a1' a2' a3' a4'
                obtain ⟨hps, _, hpb, _, _⟩ := hpa
                obtain ⟨hps', _, hpb', _, _⟩ := hpa'
                simp only at hps hpb hps' hpb'
                obtain ⟨kp, hkp⟩ : ∃ kp, vp.length = kp := ⟨_, rfl⟩
                obtain ⟨kp', hkp'⟩ : ∃ kp, vp'.length = kp := ⟨_, rfl⟩
                rw [hkp] at a2 hpb
                rw [hkp'] at a2' hpb'
                have d1 : (0 : Int) ≤ (k : Int) := by omega
                have d2 : (k : Int) < (n' : Int) := by omega
                have d3 : (0 : Int) ≤ (i : Int) := by omega
                have d4 : (i : Int) < (n : Int) := by omega
                by_cases cd : s = s' ∧ vn = vn'
                · have h3 := ref_sameone_any A1 A1' c1 c1' kp kp' s vn s' vn' vp vp' vg vg' vx vx' hkp hkp' wr.drew (hps.more (B' := wr.drew.heap.size) (by exact hszk)) (hps'.more (B' := wr.drew.heap.size) (by exact hszk)) hpb hpb'
                  obtain ⟨q, hq⟩ : ∃ q, decide ((⟨s, vn, vp, vg, vx⟩ : Vr) = ⟨s', vn', vp', vg', vx'⟩) = q := ⟨_, rfl⟩
                  rw [hq] at h3
                  have HN := Lib.hid (show (q = true → NoTwin a b i (k + 1)) ∧ (q = false → r = ([], 50)) from ⟨fun h => hmore fun hh => hh.2 (of_decide_eq_true (hq.trans h)), fun h => htw ⟨cd, of_decide_eq_false (hq.trans h)⟩⟩)
                  obtain ⟨rfl, rfl⟩ := cd
                  have H3 := Lib.hid h3
                  have lb : p < wr.heap.size := by omega
                  have lb' : p' < wr.heap.size := by omega
                  clear h3 hq hmore htw hps hps' hkp hkp' htk
                  go_wp2_with fail
                  go_region_held3 (fun V => V.cell? ⟨p, off + i * 5, none⟩ = some (.int .i64 s) ∧ V.cell? ⟨p, off + i * 5 + 1, none⟩ = some (.int .i64 vn) ∧ V.cell? ⟨p, off + i * 5 + 2, none⟩ = some (.slice A1 kp c1) ∧ V.cell? ⟨p, off + i * 5 + 3, none⟩ = some (.bool vg) ∧ V.cell? ⟨p, off + i * 5 + 4, none⟩ = some (.string vx) ∧
                      V.cell? ⟨p', off' + k * 5, none⟩ = some (.int .i64 s) ∧ V.cell? ⟨p', off' + k * 5 + 1, none⟩ = some (.int .i64 vn) ∧ V.cell? ⟨p', off' + k * 5 + 2, none⟩ = some (.slice A1' kp' c1') ∧ V.cell? ⟨p', off' + k * 5 + 3, none⟩ = some (.bool vg') ∧ V.cell? ⟨p', off' + k * 5 + 4, none⟩ = some (.string vx'))
                    (first | exact ⟨a0, a1, a2, a3, a4, a0', a1', a2', a3', a4'⟩ | exact ⟨cell_below b3 lb a0, cell_below b3 lb a1, cell_below b3 lb a2, cell_below b3 lb a3, cell_below b3 lb a4, cell_below b3 lb' a0', cell_below b3 lb' a1', cell_below b3 lb' a2', cell_below b3 lb' a3', cell_below b3 lb' a4'⟩)
                    (first | (go_at_call 43; refine H3.out.mono ?_; rintro e w3 ⟨rfl, b3⟩))
                  have BE : Below w.heap.size w w3 := hbk.drew.trans (Below.mono b3 (by exact hszk))
                  clear b3 H3 hbk
                  cases q
                  · have HF := Lib.hid (HN.out.2 rfl)
                    clear HN
                    go_wp2_with fail
                    go_ret2
                    rw [HF.out]
                    exact merged_none 0 50 w w3 BE
                  · have HF := Lib.hid (HN.out.1 rfl)
                    clear HN
                    go_wp2_with fail
                    exact ⟨⟨k + 1, rfl, by omega, HF, BE⟩, by simp only [intOf]; omega⟩
                · have HF := Lib.hid (hmore fun h => cd h.1)
                  have hx : ¬ (s = s') ∨ (s = s' ∧ ¬ vn = vn') := by
                    by_cases h1 : s = s'
                    · exact .inr ⟨h1, fun h2 => cd ⟨h1, h2⟩⟩
                    · exact .inl h1
                  clear hmore htw hps hps' hkp hkp' htk cd
                  rcases hx with h1 | ⟨rfl, h1⟩
                  · have g1 : (s == s') = false := by simpa using h1
                    clear h1
                    go_wp2_with fail
                    go_quiet (fail)
                    go_wp2_with fail
                    exact ⟨⟨k + 1, rfl, by omega, HF, hbk.trans (below_drewN _ _ _)⟩, by simp only [intOf]; omega⟩
                  · have g1 : (vn == vn') = false := by simpa using h1
                    have g2 : (s == s) = true := by simp
                    clear h1
                    go_wp2_with fail
                    go_quiet (fail)
                    go_wp2_with fail
                    exact ⟨⟨k + 1, rfl, by omega, HF, hbk.trans (below_drewN _ _ _)⟩, by simp only [intOf]; omega⟩
              · have hkn : k = n' := by omega
                subst hkn
                have HF := Lib.hid (noTwin_end (by have := htk.out; rwa [← HV.out.2.2.2.1] at this))
                clear htk
                go_wp2_with fail
                go_roundw
                case rel => exact ⟨i + 1, rfl, by omega, HF, hbk⟩
                case measure => simp only [intOf]; omega
          · have hin : i = n := by omega
            subst hin
            have HF := Lib.hid (noTwin_all (by have := ht.out; rwa [← HV.out.2.2.1] at this))
            clear ht
            go_wp2_with fail
            go_meet
            exact ⟨HF, hb⟩
      case rest =>
        obtain ⟨ht, hb⟩ := hcut
        have HT := Lib.hid ht.out
        have HSL : Hid (([] : List Vr).length ≤ 512) := Lib.hid (by simp)
        clear ht
        go_wp2_with fail
        go_loopw [8, 9] (fun ov iv wr => Laying b a [] n w ov iv wr) (fun _ iv _ => n - (intOf iv).toNat)
        case atStart => exact ⟨0, none, 0, rfl, by omega, rfl, Lib.hid ⟨by simp [laidV], Vs.nil _⟩, hb⟩
        case round =>
          obtain ⟨i, Ao, co, rfl, hi, rfl, ho, hb⟩ := hrel
          have hsz := hb.size
          by_cases hlt : i < n
          · obtain ⟨p, off, A1, c1, rfl, _, hpB, a0, a1, a2, a3, a4, hpa⟩ := HV.out.1.at HV.out.2.2.1 hb hlt rfl
            have htk := laidV_take (d := b) (l := a) (out := []) (i := i) (by have := HV.out.2.2.1; omega)
            have hlen := laidV_len b (a.take i) []
            have hsl : ([]).length ≤ 512 := HSL.out
            rw [List.length_take] at hlen
            have hcells : ∀ V, Below w.heap.size w V → ∃ A1 c1, Vat V 0 w.heap.size p (off + i * 5) (a.getD i v0) A1 c1 := fun V hV => by
              obtain ⟨p', off', A1', c1', e, _, _, hvat⟩ := HV.out.1.at HV.out.2.2.1 hV hlt rfl
              injection e with e
              injection e with e1 e2
              subst e1 e2
              exact ⟨A1', c1', hvat⟩
            have hbhd := behind_any A' c' n' b HV.out.2.2.2.1 (a.getD i v0).s (a.getD i v0).n wr ((HV.out.2.1.below hb).more hsz) (by omega)
            obtain ⟨v, hvv⟩ : ∃ v, a.getD i v0 = v := ⟨_, rfl⟩
            rw [hvv] at a0 a1 htk hcells hbhd
            clear hvv hpa a2 a3 a4
            obtain ⟨X, hX⟩ : ∃ X, laidV b (a.take i) [] = X := ⟨_, rfl⟩
            rw [hX] at ho htk hlen ⊢
            have hXl : X.length ≤ 1024 := by omega
            obtain ⟨s, vn, vp, vg, vx⟩ := v
            simp only at a0 a1 hbhd htk
            have HX := Lib.hid hX
            have HB := Lib.hid hb
            have HC := Lib.hid hcells
            have HT := Lib.hid htk
            have d3 : (0 : Int) ≤ (i : Int) := by omega
            have d4 : (i : Int) < (n : Int) := by omega
            obtain ⟨nx, hnx⟩ : ∃ nx, X.length = nx := ⟨_, rfl⟩
            have HNX := Lib.hid hnx
            rw [hnx] at hXl ⊢
            clear hX hcells htk hlen hnx hb
            by_cases hbh : behind b s vn
            · rw [decide_eq_true hbh] at hbhd
              have HF := Lib.hid (show laidV b (a.take (i + 1)) [] = X by rw [HT.out, if_pos hbh])
              have HBH := Lib.hid hbhd
              clear HT hbh hbhd
              go_wp2_with fail
              refine HBH.out.mono ?_
              rintro e w3 ⟨rfl, b3⟩
              have BE := HB.out.trans (b3.mono hsz)
              have HO3 : Hid (X.length ≤ co ∧ Vs w3 0 w3.heap.size Ao X) := Lib.hid ⟨ho.out.1, (ho.out.2.below b3).more b3.size⟩
              clear b3 HBH
              go_wp2_with fail
              exact ⟨⟨i + 1, Ao, co, rfl, by omega, by rw [HF.out, HNX.out], by rw [HF.out]; exact HO3, BE⟩, by simp only [intOf]; omega⟩
            · rw [decide_eq_false hbh] at hbhd
              have HF := Lib.hid (show laidV b (a.take (i + 1)) [] = putV X ⟨s, vn, vp, vg, vx⟩ by rw [HT.out, if_neg hbh])
              have HBH := Lib.hid hbhd
              clear HT hbh hbhd
              go_wp2_with fail
              refine HBH.out.mono ?_
              rintro e w3 ⟨rfl, b3⟩
              have BE := HB.out.trans (b3.mono hsz)
              obtain ⟨A2, c2, z0, z1, z2, z3, z4, zp⟩ := HC.out w3 BE
              simp only at z0 z1 z2 z3 z4
              obtain ⟨kp, hkp⟩ : ∃ kp, vp.length = kp := ⟨_, rfl⟩
              rw [hkp] at z2
              have hput := put_any Ao A2 co c2 nx kp X HNX.out (by have := ho.out.1; have := HNX.out; omega) s vn vp vg vx hkp 0 w3 (Nat.zero_le _) ((ho.out.2.below b3).more b3.size) (zp.more BE.size) (by omega)
              have HP := Lib.hid hput
              have HBE := Lib.hid BE
              have s3 := BE.size
              clear hput b3 HBH hkp BE zp
              go_wp2_with fail
              refine HP.out.mono ?_
              rintro e w4 ⟨A4, c4, rfl, l4, v4, b4⟩
              have BE4 := HBE.out.trans (b4.mono s3)
              have HO4 := Lib.hid (And.intro l4 v4)
              clear HP b4 l4 v4
              go_wp2_with fail
              exact ⟨⟨i + 1, A4, c4, rfl, by omega, by rw [HF.out], by rw [HF.out]; exact HO4, BE4⟩, by simp only [intOf]; omega⟩
          · have hin : n = i := by omega
            subst hin
            have HO1 : Hid ((laidV b a []).length ≤ co ∧ Vs wr 0 wr.heap.size Ao (laidV b a [])) := by
              have h := ho
              rwa [List.take_of_length_le (by have := HV.out.2.2.1; omega)] at h
            have HE1 : Hid (laidV b (a.take n) [] = laidV b a []) := Lib.hid (by rw [List.take_of_length_le (by have := HV.out.2.2.1; omega)])
            have hsl1 := laidV_len b a []
            have HSL : Hid ((laidV b a []).length ≤ 512) := Lib.hid (by have := HV.out.2.2.1; simp at hsl1; omega)
            rw [HE1.out]
            obtain ⟨n1, hn1⟩ : ∃ n1, (laidV b a []).length = n1 := ⟨_, rfl⟩
            have HN1 := Lib.hid hn1
            rw [hn1]
            clear ho HE1 hsl1 hn1
            go_wp2_with fail
            go_loopw [8, 10] (fun ov iv wr => Laying a b (laidV b a []) n' w ov iv wr) (fun _ iv _ => n' - (intOf iv).toNat)
            case atStart => exact ⟨0, Ao, co, rfl, by omega, by rw [List.take_zero, laidV_nil, HN1.out], by rw [List.take_zero, laidV_nil]; exact HO1, hb⟩
            case round =>
              obtain ⟨i, Ao, co, rfl, hi, rfl, ho, hb⟩ := hrel
              have hsz := hb.size
              by_cases hlt : i < n'
              · obtain ⟨p, off, A1, c1, rfl, _, hpB, a0, a1, a2, a3, a4, hpa⟩ := HV.out.2.1.at HV.out.2.2.2.1 hb hlt rfl
                have htk := laidV_take (d := a) (l := b) (out := (laidV b a [])) (i := i) (by have := HV.out.2.2.2.1; omega)
                have hlen := laidV_len a (b.take i) (laidV b a [])
                have hsl : ((laidV b a [])).length ≤ 512 := HSL.out
                rw [List.length_take] at hlen
                have hcells : ∀ V, Below w.heap.size w V → ∃ A1 c1, Vat V 0 w.heap.size p (off + i * 5) (b.getD i v0) A1 c1 := fun V hV => by
                  obtain ⟨p', off', A1', c1', e, _, _, hvat⟩ := HV.out.2.1.at HV.out.2.2.2.1 hV hlt rfl
                  injection e with e
                  injection e with e1 e2
                  subst e1 e2
                  exact ⟨A1', c1', hvat⟩
                have hbhd := behind_any A c n a HV.out.2.2.1 (b.getD i v0).s (b.getD i v0).n wr ((HV.out.1.below hb).more hsz) (by omega)
                obtain ⟨v, hvv⟩ : ∃ v, b.getD i v0 = v := ⟨_, rfl⟩
                rw [hvv] at a0 a1 htk hcells hbhd
                clear hvv hpa a2 a3 a4
                obtain ⟨X, hX⟩ : ∃ X, laidV a (b.take i) (laidV b a []) = X := ⟨_, rfl⟩
                rw [hX] at ho htk hlen ⊢
                have hXl : X.length ≤ 1024 := by omega
                obtain ⟨s, vn, vp, vg, vx⟩ := v
                simp only at a0 a1 hbhd htk
                have HX := Lib.hid hX
                have HB := Lib.hid hb
                have HC := Lib.hid hcells
                have HT := Lib.hid htk
                have d3 : (0 : Int) ≤ (i : Int) := by omega
                have d4 : (i : Int) < (n' : Int) := by omega
                obtain ⟨nx, hnx⟩ : ∃ nx, X.length = nx := ⟨_, rfl⟩
                have HNX := Lib.hid hnx
                rw [hnx] at hXl ⊢
                clear hX hcells htk hlen hnx hb
                by_cases hbh : behind a s vn
                · rw [decide_eq_true hbh] at hbhd
                  have HF := Lib.hid (show laidV a (b.take (i + 1)) (laidV b a []) = X by rw [HT.out, if_pos hbh])
                  have HBH := Lib.hid hbhd
                  clear HT hbh hbhd
                  go_wp2_with fail
                  refine HBH.out.mono ?_
                  rintro e w3 ⟨rfl, b3⟩
                  have BE := HB.out.trans (b3.mono hsz)
                  have HO3 : Hid (X.length ≤ co ∧ Vs w3 0 w3.heap.size Ao X) := Lib.hid ⟨ho.out.1, (ho.out.2.below b3).more b3.size⟩
                  clear b3 HBH
                  go_wp2_with fail
                  exact ⟨⟨i + 1, Ao, co, rfl, by omega, by rw [HF.out, HNX.out], by rw [HF.out]; exact HO3, BE⟩, by simp only [intOf]; omega⟩
                · rw [decide_eq_false hbh] at hbhd
                  have HF := Lib.hid (show laidV a (b.take (i + 1)) (laidV b a []) = putV X ⟨s, vn, vp, vg, vx⟩ by rw [HT.out, if_neg hbh])
                  have HBH := Lib.hid hbhd
                  clear HT hbh hbhd
                  go_wp2_with fail
                  refine HBH.out.mono ?_
                  rintro e w3 ⟨rfl, b3⟩
                  have BE := HB.out.trans (b3.mono hsz)
                  obtain ⟨A2, c2, z0, z1, z2, z3, z4, zp⟩ := HC.out w3 BE
                  simp only at z0 z1 z2 z3 z4
                  obtain ⟨kp, hkp⟩ : ∃ kp, vp.length = kp := ⟨_, rfl⟩
                  rw [hkp] at z2
                  have hput := put_any Ao A2 co c2 nx kp X HNX.out (by have := ho.out.1; have := HNX.out; omega) s vn vp vg vx hkp 0 w3 (Nat.zero_le _) ((ho.out.2.below b3).more b3.size) (zp.more BE.size) (by omega)
                  have HP := Lib.hid hput
                  have HBE := Lib.hid BE
                  have s3 := BE.size
                  clear hput b3 HBH hkp BE zp
                  go_wp2_with fail
                  refine HP.out.mono ?_
                  rintro e w4 ⟨A4, c4, rfl, l4, v4, b4⟩
                  have BE4 := HBE.out.trans (b4.mono s3)
                  have HO4 := Lib.hid (And.intro l4 v4)
                  clear HP b4 l4 v4
                  go_wp2_with fail
                  exact ⟨⟨i + 1, A4, c4, rfl, by omega, by rw [HF.out], by rw [HF.out]; exact HO4, BE4⟩, by simp only [intOf]; omega⟩
              · have hin : n' = i := by omega
                subst hin
                have hfull : laidV a (b.take n') (laidV b a []) = stayF a b := by rw [List.take_of_length_le (by have := HV.out.2.2.2.1; omega)]; rfl
                rw [hfull] at ho ⊢
                have hm1 := merge_long HV.out.2.2.2.2.1 HV.out.2.2.2.2.2 HT.out
                have hm2 := merge_ok HV.out.2.2.2.2.1 HV.out.2.2.2.2.2 HT.out
                rw [HR.out] at hm1 hm2
                have hfl := laidV_len a b (laidV b a [])
                have hfl2 : (stayF a b).length ≤ 1024 := by have h7 := HSL.out; have h8 := HV.out.2.2.2.1; have h9 : (stayF a b).length = (laidV a b (laidV b a [])).length := rfl; omega
                obtain ⟨Z, hZ⟩ : ∃ Z, stayF a b = Z := ⟨_, rfl⟩
                rw [hZ] at ho hm1 hm2 hfl2 ⊢
                obtain ⟨nz, hnz⟩ : ∃ nz, Z.length = nz := ⟨_, rfl⟩
                have HNZ := Lib.hid hnz
                rw [hnz] at hm1 hm2 hfl2 ⊢
                have HM := Lib.hid (And.intro hm1 hm2)
                have HBB := Lib.hid hb
                clear hm1 hm2 hfl hfull hZ hnz hb
                by_cases hlong : 512 < nz
                · have HF := Lib.hid (HM.out.1 hlong)
                  clear HM
                  go_wp2_with fail
                  go_ret2
                  rw [HF.out]
                  exact merged_none 0 3 w _ HBB.out
                · have HF := Lib.hid (HM.out.2 hlong)
                  clear HM
                  go_wp2_with fail
                  go_ret2
                  rw [HF.out]
                  exact ⟨Ao, co, by simp only; rw [HNZ.out]; rfl, ho.out.1, ho.out.2, HBB.out⟩
    · have H1 := Lib.hid h1
      have H2 := Lib.hid (fun W hbW => (decide_eq_false rb) ▸ h2 W hbW)
      have HR := Lib.hid (merge_arg (a := a) (b := b) (.inr rb))
      obtain ⟨r, hr⟩ : ∃ r, mergeF a b = r := ⟨_, rfl⟩
      have HR2 := Lib.hid (hr.symm.trans HR.out)
      rw [hr]
      clear h1 h2 hv hv' hn hn' ra rb hr HR
      go_enter Try.func31, Try.ntmps31
      go_wp2_with fail
      refine H1.out.mono ?_
      rintro e w1 ⟨rfl, b1⟩
      have H2' := Lib.hid (H2.out _ b1)
      have B1 := Lib.hid b1
      have s1 := b1.size
      clear b1 H1 H2
      go_wp2_with fail
      refine H2'.out.mono ?_
      rintro e w2 ⟨rfl, b2⟩
      have BE := B1.out.trans (b2.mono s1)
      clear b2 H2' B1
      go_wp2_with fail
      go_ret2
      rw [HR2.out]
      exact merged_none 0 1 w w2 BE
  · rw [decide_eq_false ra] at h1
    have H1 := Lib.hid h1
    obtain ⟨r, hr⟩ : ∃ r, mergeF a b = r := ⟨_, rfl⟩
    have HR2 := Lib.hid (hr.symm.trans (merge_arg (a := a) (b := b) (.inl ra)))
    rw [hr]
    clear h1 h2 hv hv' hn hn' ra hr
    go_enter Try.func31, Try.ntmps31
    go_wp2_with fail
    refine H1.out.mono ?_
    rintro e w1 ⟨rfl, b1⟩
    have BE := Lib.hid b1
    clear b1 H1
    go_wp2_with fail
    go_ret2
    rw [HR2.out]
    exact merged_none 0 1 w w1 BE.out
end Vers
end Go.Proofs.Ytbhidndgnldheaa
