/-
 firthlaw14.plain: are these versions such as writes make them? Written by gen14/plain.py.
-/
import Derived.Test.YtekhaejhmlebbaaGreatQMendUnder
import Derived.Test.YtekhaejhmlebbaaGreatQVersLawRow
namespace Go.Proofs.YtekhaejhmlebbaaGreat
namespace Mend
open Go.RowKit Vers Span Blk
attribute [local go_sem ↓] Go.wp_at_zero Go.wp_at_succ
def plP (x y : Vr) : Bool := !decide (behind [x] y.s y.n) || (!decide (behind [y] x.s x.n) && underF y.past x.past)
def plB (l : List Vr) : Bool := l.all fun x => l.all fun y => plP x y
def OkP (l : List Vr) (i k : Nat) : Prop := (∀ p, p < i → ∀ y ∈ l, plP (l.getD p v0) y = true) ∧ ∀ q, q < k → plP (l.getD i v0) (l.getD q v0) = true
theorem okp_step {l : List Vr} {i k : Nat} (h : OkP l i k) (hp : plP (l.getD i v0) (l.getD k v0) = true) : OkP l i (k + 1) := ⟨h.1, fun q hq => by
 rcases Nat.lt_or_ge q k with h1 | h1
 ·exact h.2 q h1
 ·obtain rfl : q = k := by omega
  exact hp⟩
theorem okp_end {l : List Vr} {i : Nat} (h : OkP l i l.length) : OkP l (i + 1) 0 := ⟨fun p hp y hy => by
 rcases Nat.lt_or_ge p i with h1 | h1
 ·exact h.1 p h1 y hy
 ·obtain rfl : p = i := by omega
  obtain ⟨q, hq, rfl⟩ := List.getElem_of_mem hy
  have := h.2 q hq
  have e : l.getD q v0 = l[q] := by simp [List.getD_eq_getElem?_getD, hq]
  rwa [e] at this, fun q hq => absurd hq (by omega)⟩
theorem okp_all {l : List Vr} (h : OkP l l.length 0) : plB l = true := List.all_eq_true.2 fun x hx => List.all_eq_true.2 fun y hy => by
 obtain ⟨p, hp, rfl⟩ := List.getElem_of_mem hx
 have e : l.getD p v0 = l[p] := by simp [List.getD_eq_getElem?_getD, hp]
 have := h.1 p hp y hy
 rwa [e] at this
theorem pl_no {l : List Vr} {x y : Vr} (hx : x ∈ l) (hy : y ∈ l) (h : plP x y = false) : plB l = false := by
 unfold plB
 rw [List.all_eq_false]
 exact ⟨x, hx, fun h1 => by rw [List.all_eq_true.1 h1 y hy] at h; cases h⟩
theorem slice_one (b off n c : Nat) (i : Nat) (hi : i < n) (hc : n ≤ c) : ∀ V, (Instr.slice 50 (.slice (some ⟨b, off, none⟩) n c) (some (.int .i64 (i : Int))) (some (.int .i64 ((i : Int) + 1))) none).run Tryz.prog V = .ok (.slice (some ⟨b, off + i * 5, none⟩) 1 (c - i)) V := fun V => by
 obtain ⟨i0, hi0, hz0, hz1, hz2⟩ := info_parts info_ver
 have hs := run_slice_lh (P := Tryz.prog) V 50 (some ⟨b, off, none⟩) n c elem_vers .i64 .i64 (i : Int) ((i : Int) + 1) (by omega) (by omega) (by omega)
 rw [hs]
 have he : Tryz.prog.elem 50 = 59 := by kernel_rfl
 have ha : (⟨b, off, none⟩ : Addr).add (i * 5) = ⟨b, off + i * 5, none⟩ := add_plain _ _ _
 have h1 : ((i : Int) + 1).toNat = i + 1 := by omega
 have h2 : ¬ c = i := by omega
 rw [he, h1]
 simp only [sizeOf, typeInfo, Sem.run_bind, Sem.run_pure, sliced, Int.toNat_natCast]
 simp [go_sem, hi0, hz1, h2]
def Trio (W : World) (pb o o' : Nat) (s vn : Int) (A1 : Option Addr) (kp c1 : Nat) (vg : Bool) (vx : ByteArray) (s' vn' : Int) (A2 : Option Addr) (kp' c2 : Nat) (vg' : Bool) (vx' : ByteArray) (V : World) : Prop :=
 V.cell? ⟨pb, o, none⟩ = some (.int .i64 s) ∧ V.cell? ⟨pb, o + 1, none⟩ = some (.int .i64 vn) ∧ V.cell? ⟨pb, o + 2, none⟩ = some (.slice A1 kp c1) ∧ V.cell? ⟨pb, o + 3, none⟩ = some (.bool vg) ∧ V.cell? ⟨pb, o + 4, none⟩ = some (.string vx) ∧ V.cell? ⟨pb, o', none⟩ = some (.int .i64 s') ∧ V.cell? ⟨pb, o' + 1, none⟩ = some (.int .i64 vn') ∧ V.cell? ⟨pb, o' + 2, none⟩ = some (.slice A2 kp' c2) ∧ V.cell? ⟨pb, o' + 3, none⟩ = some (.bool vg') ∧ V.cell? ⟨pb, o' + 4, none⟩ = some (.string vx') ∧ Below W.heap.size W V ∧ pb < V.heap.size
theorem trio_keep {W V V' : World} {pb o o' : Nat} {s vn : Int} {A1 : Option Addr} {kp c1 : Nat} {vg : Bool} {vx : ByteArray} {s' vn' : Int} {A2 : Option Addr} {kp' c2 : Nat} {vg' : Bool} {vx' : ByteArray} (h : Trio W pb o o' s vn A1 kp c1 vg vx s' vn' A2 kp' c2 vg' vx' V) (b : Below V.heap.size V V') : Trio W pb o o' s vn A1 kp c1 vg vx s' vn' A2 kp' c2 vg' vx' V' := by
 obtain ⟨h0, h1, h2, h3, h4, k0, k1, k2, k3, k4, h6, h7⟩ := h
 exact ⟨cell_below b h7 h0, cell_below b h7 h1, cell_below b h7 h2, cell_below b h7 h3, cell_below b h7 h4, cell_below b h7 k0, cell_below b h7 k1, cell_below b h7 k2, cell_below b h7 k3, cell_below b h7 k4, h6.trans (b.mono h6.size), Nat.lt_of_lt_of_le h7 b.size⟩
theorem trio_below {W V : World} {pb o o' : Nat} {s vn : Int} {A1 : Option Addr} {kp c1 : Nat} {vg : Bool} {vx : ByteArray} {s' vn' : Int} {A2 : Option Addr} {kp' c2 : Nat} {vg' : Bool} {vx' : ByteArray} (h : Trio W pb o o' s vn A1 kp c1 vg vx s' vn' A2 kp' c2 vg' vx' V) : Below W.heap.size W V := h.2.2.2.2.2.2.2.2.2.2.1
set_option maxRecDepth 100000 in
set_option maxHeartbeats 4000000 in
theorem plain_any (A A' : Option Addr) (c c' n n' : Nat) (a b : List Vr) (hn : a.length = n) (hn' : b.length = n') (w : World) (hv : Vs w 0 w.heap.size A a) (hv' : Vs w 0 w.heap.size A' b) (hb2 : n ≤ 512) (hb2' : n' ≤ 512) :
  Calls Tryz.prog 29 #[.slice A n c, .slice A' n' c'] w fun e w' => e = .returned (.bool (plB (a ++ b))) ∧ Below w.heap.size w w' := by
 obtain ⟨R, hR⟩ : ∃ R, plB (a ++ b) = R := ⟨_, rfl⟩
 rw [hR]
 obtain ⟨i0, hi0, hz0, hz1, hz2⟩ := info_parts info_ver
 obtain ⟨base, hbase⟩ : ∃ base, w.heap.size = base := ⟨_, rfl⟩
 have HB := Lib.hid hbase
 rw [hbase] at hv hv'
 have HV := Lib.hid (And.intro hv (And.intro hv' (And.intro hn (And.intro hn' hR))))
 have le0 : base ≤ w.heap.size := by omega
 have HG0 : Hid (Gath w base 0 [] [] (.slice none 0 0) w) := Lib.hid ⟨World.ownsRow_nil _ _ _ _, Below.refl _ _, by simp, rfl, le0⟩
 clear hv hv' hn hn' hR hbase
 go_enter Tryz.func29, Tryz.ntmps29
 go_wp2_with (first
  | (at_builtin; refine wpList_append_vs_wide _ rfl (.tmp 8) (.tmp 9) 50 rfl base 59 i0 _ 64 Tryz.underlying50 hi0 hz0 hz1 hz2 rfl (.slice none 0 0) 0 [] rfl HG0.out.1 0 base A n c a HV.out.2.2.1 rfl (HV.out.1.below HG0.out.2.1) (by omega) (by omega) HG0.out.2.2.2.2 ?_; intro v1 w1 qs1 hq1 hpa1 o1 g1; have HG1 := Lib.hid (gath_next HG0.out hq1 hpa1 o1 g1); clear hq1 hpa1 o1 g1 HG0)
  | (at_builtin; refine wpList_append_vs_wide _ rfl (.tmp 11) (.tmp 12) 50 rfl base 59 i0 _ 64 Tryz.underlying50 hi0 hz0 hz1 hz2 rfl v1 (0 + n) ([] ++ qs1) rfl HG1.out.1 0 base A' n' c' b HV.out.2.2.2.1 rfl (HV.out.2.1.below HG1.out.2.1) (by omega) (by omega) HG1.out.2.2.2.2 ?_; intro v2 W qs2 hq2 hpa2 o2 g2; obtain ⟨Ao, co, rfl⟩ := own_form o2; have HGf := Lib.hid (gath_next HG1.out hq2 hpa2 o2 g2); clear hq2 hpa2 o2 g2 HG1))
 have HG3 : Hid (Below base w W ∧ Vs W 0 W.heap.size Ao (a ++ b) ∧ (a ++ b).length = 0 + n + n' ∧ 0 + n + n' ≤ co) := Lib.hid (by
  have hlen : (a ++ b).length = 0 + n + n' := by
   have e1 := HV.out.2.2.1
   have e2 := HV.out.2.2.2.1
   simp only [List.length_append]
   omega
  have hmap : ([] ++ qs1 ++ qs2).map Prod.fst = a ++ b := by rw [HGf.out.2.2.2.1]; rfl
  have hql : ([] ++ qs1 ++ qs2).length = 0 + n + n' := by rw [← hlen, ← hmap, List.length_map]
  refine ⟨HGf.out.2.1, ?_, hlen, (own_len HGf.out.1).2⟩
  have h := OwnVs.vs (base := base) (L := 0) (B := base) (n := 0 + n + n') (c := co) (A := Ao) (w := W) (ps := [] ++ qs1 ++ qs2) ⟨by rw [hql]; exact HGf.out.1, HGf.out.2.2.1⟩ (Nat.zero_le _) HGf.out.2.2.2.2
  rw [hmap] at h
  exact h)
 obtain ⟨j, hN⟩ : ∃ N, n + n' = N := ⟨_, rfl⟩
 have hjb : j ≤ 1024 := by omega
 have HW : Hid (Below w.heap.size w W) := Lib.hid (by rw [HB.out]; exact HG3.out.1)
 obtain ⟨L, hl⟩ : ∃ l, a ++ b = l := ⟨_, rfl⟩
 have HX : Hid (Vs W 0 W.heap.size Ao L ∧ L.length = j ∧ plB L = R) := Lib.hid (by
  rw [← hl, ← hN]
  exact ⟨HG3.out.2.1, HG3.out.2.2.1.trans (by omega), HV.out.2.2.2.2⟩)
 have hjc : j ≤ co := by have := HG3.out.2.2.2; omega
 have sW := HW.out.size
 rw [hN]
 clear hl hN HGf HG3 HV HB hi0 hz0 hz1 hz2 hb2 hb2' le0
 obtain ⟨W', hW'⟩ : ∃ W', W' = W := ⟨_, rfl⟩
 subst hW'
 go_wp2_with fail
 go_loopw [6] (fun iv V => ∃ i : Nat, iv = .int .i64 i ∧ i ≤ j ∧ Hid (OkP L i 0) ∧ Below W'.heap.size W' V) (fun iv _ => j - (intOf iv).toNat)
 case atStart => exact ⟨0, rfl, by omega, Lib.hid ⟨fun p hp => absurd hp (by omega), fun q hq => absurd hq (by omega)⟩, Below.refl _ _⟩
 case round =>
  obtain ⟨i, rfl, hi, ht, hb⟩ := hrel
  have hsz := hb.size
  by_cases hlt : i < j
  ·go_wp2_with fail
   go_loopw [7] (fun kv V => ∃ k : Nat, kv = .int .i64 k ∧ k ≤ j ∧ Hid (OkP L i k) ∧ Below W'.heap.size W' V) (fun kv _ => j - (intOf kv).toNat)
   case atStart => exact ⟨0, rfl, by omega, ht, hb⟩
   case round =>
    obtain ⟨k, rfl, hk, htk, hbk⟩ := hrel
    have hszk := hbk.size
    by_cases hlk : k < j
    ·obtain ⟨pb, off, A1, c1, rfl, _, hpB, a0, a1, a2, a3, a4, hpa⟩ := HX.out.1.at HX.out.2.1 hbk hlt rfl
     obtain ⟨p', off', A2, c2, e', _, hpB', a0', a1', a2', a3', a4', hpa'⟩ := HX.out.1.at HX.out.2.1 hbk hlk rfl
     injection e' with e'
     injection e' with e1 e2
     subst e1 e2
     have hma := mem_v (l := L) (k := i) (by have := HX.out.2.1; omega)
     have hmb := mem_v (l := L) (k := k) (by have := HX.out.2.1; omega)
     have hmore : plP (L.getD i v0) (L.getD k v0) = true → OkP L i (k + 1) := okp_step htk.out
     have htw : plP (L.getD i v0) (L.getD k v0) = false → R = false := fun h => by
      rw [← HX.out.2.2]
      exact pl_no hma hmb h
     obtain ⟨v, hvv⟩ : ∃ v, L.getD i v0 = v := ⟨_, rfl⟩
     obtain ⟨v', hvv'⟩ : ∃ v, L.getD k v0 = v := ⟨_, rfl⟩
     rw [hvv] at a0 a1 a2 a3 a4 hpa
     rw [hvv'] at a0' a1' a2' a3' a4' hpa'
     rw [hvv, hvv'] at hmore htw
     clear hvv hvv' hma hmb
     obtain ⟨s, vn, vp, vg, vx⟩ := v
     obtain ⟨s', vn', vp', vg', vx'⟩ := v'
     simp only at a0 a1 a2 a3 a4 a0' a1' a2' a3' a4'
     obtain ⟨hps, hpc, hpb, hpx, _⟩ := hpa
     obtain ⟨hps', hpc', hpb', hpx', _⟩ := hpa'
     simp only at hps hpb hps' hpb' hpc hpc' hpx hpx'
     obtain ⟨kp, hkp⟩ : ∃ kp, vp.length = kp := ⟨_, rfl⟩
     obtain ⟨kp', hkp'⟩ : ∃ kp, vp'.length = kp := ⟨_, rfl⟩
     rw [hkp] at a2 hpb hpc
     rw [hkp'] at a2' hpb' hpc'
     have d1 : (0 : Int) ≤ (k : Int) := by omega
     have d2 : (k : Int) < (j : Int) := by omega
     have d3 : (0 : Int) ≤ (i : Int) := by omega
     have d4 : (i : Int) < (j : Int) := by omega
     have lb : pb < wr.heap.size := by omega
     have hpl : ∀ V, Below wr.heap.size wr V → Ss V V.heap.size A1 vp ∧ Ss V V.heap.size A2 vp' := fun V h => by
      exact ⟨((hps.more hszk).below h).more h.size, ((hps'.more hszk).below h).more h.size⟩
     have g1 : ∀ V, Trio wr pb (off + i * 5) (off + k * 5) s vn A1 kp c1 vg vx s' vn' A2 kp' c2 vg' vx' V → Calls Tryz.prog 58 #[.slice (some ⟨pb, off + i * 5, none⟩) 1 (co - i), .agg #[.int .i64 s', .int .i64 vn']] V (fun e w' => e = .returned (.bool (decide (behind [⟨s, vn, vp, vg, vx⟩] s' vn'))) ∧ Below V.heap.size V w') := fun V h => Vers.behind_any (some ⟨pb, off + i * 5, none⟩) (co - i) 1 [⟨s, vn, vp, vg, vx⟩] rfl s' vn' V (fun _ => ⟨pb, off + i * 5, rfl, Nat.zero_le _, h.2.2.2.2.2.2.2.2.2.2.2, fun q hq => by
      obtain rfl : q = 0 := by simpa using hq
      refine ⟨A1, c1, h.1, h.2.1, ?_, h.2.2.2.1, h.2.2.2.2.1, (hpl V (trio_below h)).1, by simp only [List.getD_cons_zero]; omega, by simp only [List.getD_cons_zero]; omega, hpx, fun _ _ _ => Nat.zero_le _⟩
      simp only [List.getD_cons_zero]
      rw [hkp]
      exact h.2.2.1⟩) (by omega)
     have g2 : ∀ V, Trio wr pb (off + i * 5) (off + k * 5) s vn A1 kp c1 vg vx s' vn' A2 kp' c2 vg' vx' V → Calls Tryz.prog 58 #[.slice (some ⟨pb, off + k * 5, none⟩) 1 (co - k), .agg #[.int .i64 s, .int .i64 vn]] V (fun e w' => e = .returned (.bool (decide (behind [⟨s', vn', vp', vg', vx'⟩] s vn))) ∧ Below V.heap.size V w') := fun V h => Vers.behind_any (some ⟨pb, off + k * 5, none⟩) (co - k) 1 [⟨s', vn', vp', vg', vx'⟩] rfl s vn V (fun _ => ⟨pb, off + k * 5, rfl, Nat.zero_le _, h.2.2.2.2.2.2.2.2.2.2.2, fun q hq => by
      obtain rfl : q = 0 := by simpa using hq
      refine ⟨A2, c2, h.2.2.2.2.2.1, h.2.2.2.2.2.2.1, ?_, h.2.2.2.2.2.2.2.2.1, h.2.2.2.2.2.2.2.2.2.1, (hpl V (trio_below h)).2, by simp only [List.getD_cons_zero]; omega, by simp only [List.getD_cons_zero]; omega, hpx', fun _ _ _ => Nat.zero_le _⟩
      simp only [List.getD_cons_zero]
      rw [hkp']
      exact h.2.2.2.2.2.2.2.1⟩) (by omega)
     have g3 := fun V (h : Trio wr pb (off + i * 5) (off + k * 5) s vn A1 kp c1 vg vx s' vn' A2 kp' c2 vg' vx' V) => under_any s' vn' A2 kp' c2 vg' vx' s vn A1 kp c1 vg vx vp' vp hkp' hkp V (hpl V (trio_below h)).2 (hpl V (trio_below h)).1 hpb' hpb
     have hduo : Trio wr pb (off + i * 5) (off + k * 5) s vn A1 kp c1 vg vx s' vn' A2 kp' c2 vg' vx' wr := ⟨a0, a1, a2, a3, a4, a0', a1', a2', a3', a4', Below.refl _ wr, lb⟩
     obtain ⟨q1, hq1⟩ : ∃ q, decide (behind [⟨s, vn, vp, vg, vx⟩] s' vn') = q := ⟨_, rfl⟩
     obtain ⟨q2, hq2⟩ : ∃ q, decide (behind [⟨s', vn', vp', vg', vx'⟩] s vn) = q := ⟨_, rfl⟩
     obtain ⟨q3, hq3⟩ : ∃ q, underF vp' vp = q := ⟨_, rfl⟩
     rw [hq1] at g1
     rw [hq2] at g2
     rw [hq3] at g3
     have HN2 := Lib.hid (show ((!q1 || (!q2 && q3)) = true → OkP L i (k + 1)) ∧ ((!q1 || (!q2 && q3)) = false → R = false) from by
      unfold plP at hmore htw
      simp only [hq1, hq2, hq3] at hmore htw
      exact ⟨hmore, htw⟩)
     have G1 := Lib.hid g1
     have G2 := Lib.hid g2
     have G3 := Lib.hid g3
     have HBK := Lib.hid hbk
     have hst : Trio wr pb (off + i * 5) (off + k * 5) s vn A1 kp c1 vg vx s' vn' A2 kp' c2 vg' vx' wr.drew := trio_keep hduo (Below.refl _ wr).drew
     have hs1 := slice_one pb off j co i hlt hjc
     have hs2 := slice_one pb off j co k hlk hjc
     have e1 : IntKind.i64.wrap ((i : Int) + 1) = (i : Int) + 1 := Go.IntWalk.i64_in _ (by omega)
     have e2 : IntKind.i64.wrap ((k : Int) + 1) = (k : Int) + 1 := Go.IntWalk.i64_in _ (by omega)
     clear g1 g2 g3 hq1 hq2 hq3 hmore htw hps hps' hkp hkp' hpl htk hbk hduo a0 a1 a2 a3 a4 a0' a1' a2' a3' a4' hpc hpc' hpx hpx'
     go_wp2_with fail
     cases q1
     ·refine wp_region_held_drew (S := (fun V => V.cell? ⟨pb, off + i * 5, none⟩ = some (.int .i64 s) ∧ V.cell? ⟨pb, off + i * 5 + 1, none⟩ = some (.int .i64 vn) ∧ V.cell? ⟨pb, off + i * 5 + 2, none⟩ = some (.slice A1 kp c1) ∧ V.cell? ⟨pb, off + i * 5 + 3, none⟩ = some (.bool vg) ∧ V.cell? ⟨pb, off + i * 5 + 4, none⟩ = some (.string vx) ∧ V.cell? ⟨pb, off + k * 5, none⟩ = some (.int .i64 s') ∧ V.cell? ⟨pb, off + k * 5 + 1, none⟩ = some (.int .i64 vn') ∧ V.cell? ⟨pb, off + k * 5 + 2, none⟩ = some (.slice A2 kp' c2) ∧ V.cell? ⟨pb, off + k * 5 + 3, none⟩ = some (.bool vg') ∧ V.cell? ⟨pb, off + k * 5 + 4, none⟩ = some (.string vx') ∧ Below wr.heap.size wr V ∧ pb < V.heap.size)) (by kernel_rfl) hst (fun hHeld => ?_)
      refine wpAnyH_take (i := 0) (oi := { dst := some 26, op := Op.move (Operand.tmp 5), type := 50, pos := "law.go:191", after := #[], guard := none }) (v := ?va1) rfl (by kernel_rfl) (by kernel_rfl) (by kernel_rfl) (fun _ _ _ h => h) (Or.inl ⟨by rfl, ?hya1⟩) (by assumption) ?resta1
      case hya1 =>
       intro w hSw
       (try dsimp only at hSw)
       go_simp
       (try with_reducible rfl)
      (try simp only [Act.put, List.setIfInBounds_toArray, List.set_cons_zero, List.set_cons_succ])
      refine wpAnyH_take (i := 1) (oi := { dst := some 27, op := Op.move (Operand.tmp 6), type := 3, pos := "law.go:191", after := #[], guard := none }) (v := ?va2) rfl (by kernel_rfl) (by kernel_rfl) (by kernel_rfl) (fun _ _ _ h => h) (Or.inl ⟨by rfl, ?hya2⟩) (by assumption) ?resta2
      case hya2 =>
       intro w hSw
       (try dsimp only at hSw)
       go_simp
       (try with_reducible rfl)
      (try simp only [Act.put, List.setIfInBounds_toArray, List.set_cons_zero, List.set_cons_succ])
      refine wpAnyH_take (i := 2) (oi := { dst := some 28, op := Op.move (Operand.tmp 6), type := 3, pos := "law.go:191", after := #[], guard := none }) (v := ?va3) rfl (by kernel_rfl) (by kernel_rfl) (by kernel_rfl) (fun _ _ _ h => h) (Or.inl ⟨by rfl, ?hya3⟩) (by assumption) ?resta3
      case hya3 =>
       intro w hSw
       (try dsimp only at hSw)
       go_simp
       (try with_reducible rfl)
      (try simp only [Act.put, List.setIfInBounds_toArray, List.set_cons_zero, List.set_cons_succ])
      refine wpAnyH_take (i := 3) (oi := { dst := some 29, op := Op.binOp BinOp.add 3 (Operand.tmp 28) (Operand.const (Value.int IntKind.i64 1)) 3, type := 3, pos := "law.go:191", after := #[{ on := 2, ground := Ground.data }], guard := none }) (v := ?va4) rfl (by kernel_rfl) (by kernel_rfl) (by kernel_rfl) (fun _ _ _ h => h) (Or.inl ⟨by rfl, ?hya4⟩) (by assumption) ?resta4
      case hya4 =>
       intro w hSw
       (try dsimp only at hSw)
       go_simp
       (try with_reducible rfl)
      (try simp only [Act.put, List.setIfInBounds_toArray, List.set_cons_zero, List.set_cons_succ])
      refine wpAnyH_take (i := 4) (oi := { dst := some 30, op := Op.slice 50 (Operand.tmp 26) (some (Operand.tmp 27)) (some (Operand.tmp 29)) none, type := 50, pos := "law.go:191", after := #[{ on := 0, ground := Ground.data }, { on := 1, ground := Ground.data }, { on := 3, ground := Ground.data }], guard := none }) (v := ?va5) rfl (by kernel_rfl) (by kernel_rfl) (by kernel_rfl) (fun _ _ _ h => h) (Or.inl ⟨by rfl, ?hya5⟩) (by assumption) ?resta5
      case hya5 =>
       intro w hSw
       (try dsimp only at hSw)
       go_simp
       (try with_reducible rfl)
      (try simp only [Act.put, List.setIfInBounds_toArray, List.set_cons_zero, List.set_cons_succ])
      refine wpAnyH_take (i := 5) (oi := { dst := some 31, op := Op.move (Operand.tmp 5), type := 50, pos := "law.go:191", after := #[], guard := none }) (v := ?va6) rfl (by kernel_rfl) (by kernel_rfl) (by kernel_rfl) (fun _ _ _ h => h) (Or.inl ⟨by rfl, ?hya6⟩) (by assumption) ?resta6
      case hya6 =>
       intro w hSw
       (try dsimp only at hSw)
       go_simp
       (try with_reducible rfl)
      (try simp only [Act.put, List.setIfInBounds_toArray, List.set_cons_zero, List.set_cons_succ])
      refine wpAnyH_take (i := 6) (oi := { dst := some 32, op := Op.move (Operand.tmp 7), type := 3, pos := "law.go:191", after := #[], guard := none }) (v := ?va7) rfl (by kernel_rfl) (by kernel_rfl) (by kernel_rfl) (fun _ _ _ h => h) (Or.inl ⟨by rfl, ?hya7⟩) (by assumption) ?resta7
      case hya7 =>
       intro w hSw
       (try dsimp only at hSw)
       go_simp
       (try with_reducible rfl)
      (try simp only [Act.put, List.setIfInBounds_toArray, List.set_cons_zero, List.set_cons_succ])
      refine wpAnyH_take (i := 7) (oi := { dst := some 33, op := Op.indexAddr 50 (Operand.tmp 31) (Operand.tmp 32), type := 0, pos := "law.go:191", after := #[{ on := 5, ground := Ground.data }, { on := 6, ground := Ground.data }], guard := none }) (v := ?va8) rfl (by kernel_rfl) (by kernel_rfl) (by kernel_rfl) (fun _ _ _ h => h) (Or.inl ⟨by rfl, ?hya8⟩) (by assumption) ?resta8
      case hya8 =>
       intro w hSw
       (try dsimp only at hSw)
       go_simp
       (try with_reducible rfl)
      (try simp only [Act.put, List.setIfInBounds_toArray, List.set_cons_zero, List.set_cons_succ])
      refine wpAnyH_take (i := 8) (oi := { dst := some 34, op := Op.fieldAddr 59 (Operand.tmp 33) 0, type := 0, pos := "law.go:191", after := #[{ on := 7, ground := Ground.data }], guard := none }) (v := ?va9) rfl (by kernel_rfl) (by kernel_rfl) (by kernel_rfl) (fun _ _ _ h => h) (Or.inl ⟨by rfl, ?hya9⟩) (by assumption) ?resta9
      case hya9 =>
       intro w hSw
       (try dsimp only at hSw)
       go_simp
       (try with_reducible rfl)
      (try simp only [Act.put, List.setIfInBounds_toArray, List.set_cons_zero, List.set_cons_succ])
      refine wpAnyH_take (i := 9) (oi := { dst := some 35, op := Op.load 56 (Operand.tmp 34), type := 56, pos := "law.go:191", after := #[{ on := 8, ground := Ground.data }], guard := none }) (v := ?va10) rfl (by kernel_rfl) (by kernel_rfl) (by kernel_rfl) (fun _ _ _ h => h) (Or.inl ⟨by rfl, ?hya10⟩) (by assumption) ?resta10
      case hya10 =>
       intro w hSw
       (try dsimp only at hSw)
       go_simp
       (try with_reducible rfl)
      (try simp only [Act.put, List.setIfInBounds_toArray, List.set_cons_zero, List.set_cons_succ])
      refine wpAnyH_ready (rs := [10]) (by kernel_rfl) (by simp) ?_
      refine AllReadyH.cons (o := { dst := some 36, op := Op.call { callee := Callee.value (Operand.func 58), args := #[Operand.tmp 30, Operand.tmp 35], argTypes := #[50, 56] }, type := 4, pos := "law.go:191", after := #[{ on := 4, ground := Ground.data }, { on := 9, ground := Ground.data }], guard := none }) rfl (fun K hK => ?_) AllReadyH.nil
      go_simp
      (go_at_call 58; refine (G1.out _ (by exact hHeld)).mono ?_; rintro e v1 ⟨rfl, b1⟩)
      go_wp2_with fail
      refine hK.out _ _ (trio_keep hHeld b1) (fun hHeld => ?_)
      clear hK K
      (try simp only [Act.put, List.setIfInBounds_toArray, List.set_cons_zero, List.set_cons_succ])
      refine wpAnyH_take (i := 11) (oi := { dst := some 37, op := Op.move (Operand.tmp 36), type := 4, pos := "law.go:191", after := #[{ on := 10, ground := Ground.data }, { on := 10, ground := Ground.chain }], guard := none }) (v := ?va11) rfl (by kernel_rfl) (by kernel_rfl) (by kernel_rfl) (fun _ _ _ h => h) (Or.inl ⟨by rfl, ?hya11⟩) (by assumption) ?resta11
      case hya11 =>
       intro w hSw
       (try dsimp only at hSw)
       go_simp
       (try with_reducible rfl)
      (try simp only [Act.put, List.setIfInBounds_toArray, List.set_cons_zero, List.set_cons_succ])
      refine wpAnyH_take (i := 12) (oi := { dst := some 38, op := Op.move (Operand.tmp 5), type := 50, pos := "law.go:191", after := #[{ on := 11, ground := Ground.guard }], guard := some (11, true) }) (v := undef) rfl (by kernel_rfl) (by kernel_rfl) (by kernel_rfl) (fun _ _ _ h => h) (Or.inr ⟨by rfl, rfl⟩) (by assumption) ?_
      (try simp only [Act.put, List.setIfInBounds_toArray, List.set_cons_zero, List.set_cons_succ])
      refine wpAnyH_take (i := 13) (oi := { dst := some 39, op := Op.move (Operand.tmp 7), type := 3, pos := "law.go:191", after := #[{ on := 11, ground := Ground.guard }], guard := some (11, true) }) (v := undef) rfl (by kernel_rfl) (by kernel_rfl) (by kernel_rfl) (fun _ _ _ h => h) (Or.inr ⟨by rfl, rfl⟩) (by assumption) ?_
      (try simp only [Act.put, List.setIfInBounds_toArray, List.set_cons_zero, List.set_cons_succ])
      refine wpAnyH_take (i := 14) (oi := { dst := some 40, op := Op.move (Operand.tmp 7), type := 3, pos := "law.go:191", after := #[{ on := 11, ground := Ground.guard }], guard := some (11, true) }) (v := undef) rfl (by kernel_rfl) (by kernel_rfl) (by kernel_rfl) (fun _ _ _ h => h) (Or.inr ⟨by rfl, rfl⟩) (by assumption) ?_
      (try simp only [Act.put, List.setIfInBounds_toArray, List.set_cons_zero, List.set_cons_succ])
      refine wpAnyH_take (i := 15) (oi := { dst := some 41, op := Op.binOp BinOp.add 3 (Operand.tmp 40) (Operand.const (Value.int IntKind.i64 1)) 3, type := 3, pos := "law.go:191", after := #[{ on := 14, ground := Ground.data }, { on := 11, ground := Ground.guard }], guard := some (11, true) }) (v := undef) rfl (by kernel_rfl) (by kernel_rfl) (by kernel_rfl) (fun _ _ _ h => h) (Or.inr ⟨by rfl, rfl⟩) (by assumption) ?_
      (try simp only [Act.put, List.setIfInBounds_toArray, List.set_cons_zero, List.set_cons_succ])
      refine wpAnyH_take (i := 16) (oi := { dst := some 42, op := Op.slice 50 (Operand.tmp 38) (some (Operand.tmp 39)) (some (Operand.tmp 41)) none, type := 50, pos := "law.go:191", after := #[{ on := 12, ground := Ground.data }, { on := 13, ground := Ground.data }, { on := 15, ground := Ground.data }, { on := 11, ground := Ground.guard }], guard := some (11, true) }) (v := undef) rfl (by kernel_rfl) (by kernel_rfl) (by kernel_rfl) (fun _ _ _ h => h) (Or.inr ⟨by rfl, rfl⟩) (by assumption) ?_
      (try simp only [Act.put, List.setIfInBounds_toArray, List.set_cons_zero, List.set_cons_succ])
      refine wpAnyH_take (i := 17) (oi := { dst := some 43, op := Op.move (Operand.tmp 5), type := 50, pos := "law.go:191", after := #[{ on := 11, ground := Ground.guard }], guard := some (11, true) }) (v := undef) rfl (by kernel_rfl) (by kernel_rfl) (by kernel_rfl) (fun _ _ _ h => h) (Or.inr ⟨by rfl, rfl⟩) (by assumption) ?_
      (try simp only [Act.put, List.setIfInBounds_toArray, List.set_cons_zero, List.set_cons_succ])
      refine wpAnyH_take (i := 18) (oi := { dst := some 44, op := Op.move (Operand.tmp 6), type := 3, pos := "law.go:191", after := #[{ on := 11, ground := Ground.guard }], guard := some (11, true) }) (v := undef) rfl (by kernel_rfl) (by kernel_rfl) (by kernel_rfl) (fun _ _ _ h => h) (Or.inr ⟨by rfl, rfl⟩) (by assumption) ?_
      (try simp only [Act.put, List.setIfInBounds_toArray, List.set_cons_zero, List.set_cons_succ])
      refine wpAnyH_take (i := 19) (oi := { dst := some 45, op := Op.indexAddr 50 (Operand.tmp 43) (Operand.tmp 44), type := 0, pos := "law.go:191", after := #[{ on := 17, ground := Ground.data }, { on := 18, ground := Ground.data }, { on := 11, ground := Ground.guard }], guard := some (11, true) }) (v := undef) rfl (by kernel_rfl) (by kernel_rfl) (by kernel_rfl) (fun _ _ _ h => h) (Or.inr ⟨by rfl, rfl⟩) (by assumption) ?_
      (try simp only [Act.put, List.setIfInBounds_toArray, List.set_cons_zero, List.set_cons_succ])
      refine wpAnyH_take (i := 20) (oi := { dst := some 46, op := Op.fieldAddr 59 (Operand.tmp 45) 0, type := 0, pos := "law.go:191", after := #[{ on := 19, ground := Ground.data }, { on := 11, ground := Ground.guard }], guard := some (11, true) }) (v := undef) rfl (by kernel_rfl) (by kernel_rfl) (by kernel_rfl) (fun _ _ _ h => h) (Or.inr ⟨by rfl, rfl⟩) (by assumption) ?_
      (try simp only [Act.put, List.setIfInBounds_toArray, List.set_cons_zero, List.set_cons_succ])
      refine wpAnyH_take (i := 21) (oi := { dst := some 47, op := Op.load 56 (Operand.tmp 46), type := 56, pos := "law.go:191", after := #[{ on := 20, ground := Ground.data }, { on := 11, ground := Ground.guard }], guard := some (11, true) }) (v := undef) rfl (by kernel_rfl) (by kernel_rfl) (by kernel_rfl) (fun _ _ _ h => h) (Or.inr ⟨by rfl, rfl⟩) (by assumption) ?_
      (try simp only [Act.put, List.setIfInBounds_toArray, List.set_cons_zero, List.set_cons_succ])
      refine wpAnyH_take (i := 22) (oi := { dst := some 48, op := Op.call { callee := Callee.value (Operand.func 58), args := #[Operand.tmp 42, Operand.tmp 47], argTypes := #[50, 56] }, type := 4, pos := "law.go:191", after := #[{ on := 16, ground := Ground.data }, { on := 21, ground := Ground.data }, { on := 11, ground := Ground.chain }, { on := 11, ground := Ground.guard }], guard := some (11, true) }) (v := undef) rfl (by kernel_rfl) (by kernel_rfl) (by kernel_rfl) (fun _ _ _ h => h) (Or.inr ⟨by rfl, rfl⟩) (by assumption) ?_
      (try simp only [Act.put, List.setIfInBounds_toArray, List.set_cons_zero, List.set_cons_succ])
      refine wpAnyH_take (i := 23) (oi := { dst := some 49, op := Op.move (Operand.tmp 48), type := 4, pos := "law.go:191", after := #[{ on := 22, ground := Ground.data }, { on := 22, ground := Ground.chain }, { on := 11, ground := Ground.guard }], guard := some (11, true) }) (v := undef) rfl (by kernel_rfl) (by kernel_rfl) (by kernel_rfl) (fun _ _ _ h => h) (Or.inr ⟨by rfl, rfl⟩) (by assumption) ?_
      (try simp only [Act.put, List.setIfInBounds_toArray, List.set_cons_zero, List.set_cons_succ])
      refine wpAnyH_take (i := 24) (oi := { dst := some 50, op := Op.move (Operand.tmp 5), type := 50, pos := "law.go:191", after := #[{ on := 23, ground := Ground.guard }], guard := some (23, false) }) (v := undef) rfl (by kernel_rfl) (by kernel_rfl) (by kernel_rfl) (fun _ _ _ h => h) (Or.inr ⟨by rfl, rfl⟩) (by assumption) ?_
      (try simp only [Act.put, List.setIfInBounds_toArray, List.set_cons_zero, List.set_cons_succ])
      refine wpAnyH_take (i := 25) (oi := { dst := some 51, op := Op.move (Operand.tmp 7), type := 3, pos := "law.go:191", after := #[{ on := 23, ground := Ground.guard }], guard := some (23, false) }) (v := undef) rfl (by kernel_rfl) (by kernel_rfl) (by kernel_rfl) (fun _ _ _ h => h) (Or.inr ⟨by rfl, rfl⟩) (by assumption) ?_
      (try simp only [Act.put, List.setIfInBounds_toArray, List.set_cons_zero, List.set_cons_succ])
      refine wpAnyH_take (i := 26) (oi := { dst := some 52, op := Op.indexAddr 50 (Operand.tmp 50) (Operand.tmp 51), type := 0, pos := "law.go:191", after := #[{ on := 24, ground := Ground.data }, { on := 25, ground := Ground.data }, { on := 23, ground := Ground.guard }], guard := some (23, false) }) (v := undef) rfl (by kernel_rfl) (by kernel_rfl) (by kernel_rfl) (fun _ _ _ h => h) (Or.inr ⟨by rfl, rfl⟩) (by assumption) ?_
      (try simp only [Act.put, List.setIfInBounds_toArray, List.set_cons_zero, List.set_cons_succ])
      refine wpAnyH_take (i := 27) (oi := { dst := some 53, op := Op.load 59 (Operand.tmp 52), type := 59, pos := "law.go:191", after := #[{ on := 26, ground := Ground.data }, { on := 23, ground := Ground.guard }], guard := some (23, false) }) (v := undef) rfl (by kernel_rfl) (by kernel_rfl) (by kernel_rfl) (fun _ _ _ h => h) (Or.inr ⟨by rfl, rfl⟩) (by assumption) ?_
      (try simp only [Act.put, List.setIfInBounds_toArray, List.set_cons_zero, List.set_cons_succ])
      refine wpAnyH_take (i := 28) (oi := { dst := some 54, op := Op.move (Operand.tmp 5), type := 50, pos := "law.go:191", after := #[{ on := 23, ground := Ground.guard }], guard := some (23, false) }) (v := undef) rfl (by kernel_rfl) (by kernel_rfl) (by kernel_rfl) (fun _ _ _ h => h) (Or.inr ⟨by rfl, rfl⟩) (by assumption) ?_
      (try simp only [Act.put, List.setIfInBounds_toArray, List.set_cons_zero, List.set_cons_succ])
      refine wpAnyH_take (i := 29) (oi := { dst := some 55, op := Op.move (Operand.tmp 6), type := 3, pos := "law.go:191", after := #[{ on := 23, ground := Ground.guard }], guard := some (23, false) }) (v := undef) rfl (by kernel_rfl) (by kernel_rfl) (by kernel_rfl) (fun _ _ _ h => h) (Or.inr ⟨by rfl, rfl⟩) (by assumption) ?_
      (try simp only [Act.put, List.setIfInBounds_toArray, List.set_cons_zero, List.set_cons_succ])
      refine wpAnyH_take (i := 30) (oi := { dst := some 56, op := Op.indexAddr 50 (Operand.tmp 54) (Operand.tmp 55), type := 0, pos := "law.go:191", after := #[{ on := 28, ground := Ground.data }, { on := 29, ground := Ground.data }, { on := 23, ground := Ground.guard }], guard := some (23, false) }) (v := undef) rfl (by kernel_rfl) (by kernel_rfl) (by kernel_rfl) (fun _ _ _ h => h) (Or.inr ⟨by rfl, rfl⟩) (by assumption) ?_
      (try simp only [Act.put, List.setIfInBounds_toArray, List.set_cons_zero, List.set_cons_succ])
      refine wpAnyH_take (i := 31) (oi := { dst := some 57, op := Op.load 59 (Operand.tmp 56), type := 59, pos := "law.go:191", after := #[{ on := 30, ground := Ground.data }, { on := 23, ground := Ground.guard }], guard := some (23, false) }) (v := undef) rfl (by kernel_rfl) (by kernel_rfl) (by kernel_rfl) (fun _ _ _ h => h) (Or.inr ⟨by rfl, rfl⟩) (by assumption) ?_
      (try simp only [Act.put, List.setIfInBounds_toArray, List.set_cons_zero, List.set_cons_succ])
      refine wpAnyH_take (i := 32) (oi := { dst := some 58, op := Op.call { callee := Callee.value (Operand.func 59), args := #[Operand.tmp 53, Operand.tmp 57], argTypes := #[59, 59] }, type := 4, pos := "law.go:191", after := #[{ on := 27, ground := Ground.data }, { on := 31, ground := Ground.data }, { on := 23, ground := Ground.chain }, { on := 23, ground := Ground.guard }], guard := some (23, false) }) (v := undef) rfl (by kernel_rfl) (by kernel_rfl) (by kernel_rfl) (fun _ _ _ h => h) (Or.inr ⟨by rfl, rfl⟩) (by assumption) ?_
      (try simp only [Act.put, List.setIfInBounds_toArray, List.set_cons_zero, List.set_cons_succ])
      refine wpAnyH_take (i := 33) (oi := { dst := some 59, op := Op.unOp UnOp.not 4 (Operand.tmp 58), type := 4, pos := "law.go:191", after := #[{ on := 32, ground := Ground.data }, { on := 23, ground := Ground.guard }], guard := some (23, false) }) (v := undef) rfl (by kernel_rfl) (by kernel_rfl) (by kernel_rfl) (fun _ _ _ h => h) (Or.inr ⟨by rfl, rfl⟩) (by assumption) ?_
      (try simp only [Act.put, List.setIfInBounds_toArray, List.set_cons_zero, List.set_cons_succ])
      refine wpAnyH_take (i := 34) (oi := { dst := some 60, op := Op.pick (Operand.tmp 49) (Operand.const (Value.bool true)) (Operand.tmp 59), type := 4, pos := "law.go:191", after := #[{ on := 23, ground := Ground.data }, { on := 33, ground := Ground.data }, { on := 11, ground := Ground.guard }], guard := some (11, true) }) (v := undef) rfl (by kernel_rfl) (by kernel_rfl) (by kernel_rfl) (fun _ _ _ h => h) (Or.inr ⟨by rfl, rfl⟩) (by assumption) ?_
      (try simp only [Act.put, List.setIfInBounds_toArray, List.set_cons_zero, List.set_cons_succ])
      refine wpAnyH_take (i := 35) (oi := { dst := some 61, op := Op.pick (Operand.tmp 37) (Operand.tmp 60) (Operand.const (Value.bool false)), type := 4, pos := "law.go:191", after := #[{ on := 11, ground := Ground.data }, { on := 34, ground := Ground.data }], guard := none }) (v := ?va35) rfl (by kernel_rfl) (by kernel_rfl) (by kernel_rfl) (fun _ _ _ h => h) (Or.inl ⟨by rfl, ?hya35⟩) (by assumption) ?resta35
      case hya35 =>
       intro w hSw
       (try dsimp only at hSw)
       go_simp
       (try with_reducible rfl)
      (try simp only [Act.put, List.setIfInBounds_toArray, List.set_cons_zero, List.set_cons_succ])
      refine wpAnyH_done (by kernel_rfl) ?_ _
      have BE : Below W'.heap.size W' v1 := HBK.out.trans ((trio_below (show Trio wr pb (off + i * 5) (off + k * 5) s vn A1 kp c1 vg vx s' vn' A2 kp' c2 vg' vx' v1 from hHeld)).mono hszk)
      have HF := Lib.hid (HN2.out.1 (by simp))
      clear HN2 G1 G2 G3 hHeld
      go_wp2_with fail
      exact ⟨⟨k + 1, rfl, by omega, HF, BE⟩, by simp only [intOf]; omega⟩
     ·cases q2
      rotate_left
      ·refine wp_region_held_drew (S := (fun V => V.cell? ⟨pb, off + i * 5, none⟩ = some (.int .i64 s) ∧ V.cell? ⟨pb, off + i * 5 + 1, none⟩ = some (.int .i64 vn) ∧ V.cell? ⟨pb, off + i * 5 + 2, none⟩ = some (.slice A1 kp c1) ∧ V.cell? ⟨pb, off + i * 5 + 3, none⟩ = some (.bool vg) ∧ V.cell? ⟨pb, off + i * 5 + 4, none⟩ = some (.string vx) ∧ V.cell? ⟨pb, off + k * 5, none⟩ = some (.int .i64 s') ∧ V.cell? ⟨pb, off + k * 5 + 1, none⟩ = some (.int .i64 vn') ∧ V.cell? ⟨pb, off + k * 5 + 2, none⟩ = some (.slice A2 kp' c2) ∧ V.cell? ⟨pb, off + k * 5 + 3, none⟩ = some (.bool vg') ∧ V.cell? ⟨pb, off + k * 5 + 4, none⟩ = some (.string vx') ∧ Below wr.heap.size wr V ∧ pb < V.heap.size)) (by kernel_rfl) hst (fun hHeld => ?_)
       refine wpAnyH_take (i := 0) (oi := { dst := some 26, op := Op.move (Operand.tmp 5), type := 50, pos := "law.go:191", after := #[], guard := none }) (v := ?vb1) rfl (by kernel_rfl) (by kernel_rfl) (by kernel_rfl) (fun _ _ _ h => h) (Or.inl ⟨by rfl, ?hyb1⟩) (by assumption) ?restb1
       case hyb1 =>
        intro w hSw
        (try dsimp only at hSw)
        go_simp
        (try with_reducible rfl)
       (try simp only [Act.put, List.setIfInBounds_toArray, List.set_cons_zero, List.set_cons_succ])
       refine wpAnyH_take (i := 1) (oi := { dst := some 27, op := Op.move (Operand.tmp 6), type := 3, pos := "law.go:191", after := #[], guard := none }) (v := ?vb2) rfl (by kernel_rfl) (by kernel_rfl) (by kernel_rfl) (fun _ _ _ h => h) (Or.inl ⟨by rfl, ?hyb2⟩) (by assumption) ?restb2
       case hyb2 =>
        intro w hSw
        (try dsimp only at hSw)
        go_simp
        (try with_reducible rfl)
       (try simp only [Act.put, List.setIfInBounds_toArray, List.set_cons_zero, List.set_cons_succ])
       refine wpAnyH_take (i := 2) (oi := { dst := some 28, op := Op.move (Operand.tmp 6), type := 3, pos := "law.go:191", after := #[], guard := none }) (v := ?vb3) rfl (by kernel_rfl) (by kernel_rfl) (by kernel_rfl) (fun _ _ _ h => h) (Or.inl ⟨by rfl, ?hyb3⟩) (by assumption) ?restb3
       case hyb3 =>
        intro w hSw
        (try dsimp only at hSw)
        go_simp
        (try with_reducible rfl)
       (try simp only [Act.put, List.setIfInBounds_toArray, List.set_cons_zero, List.set_cons_succ])
       refine wpAnyH_take (i := 3) (oi := { dst := some 29, op := Op.binOp BinOp.add 3 (Operand.tmp 28) (Operand.const (Value.int IntKind.i64 1)) 3, type := 3, pos := "law.go:191", after := #[{ on := 2, ground := Ground.data }], guard := none }) (v := ?vb4) rfl (by kernel_rfl) (by kernel_rfl) (by kernel_rfl) (fun _ _ _ h => h) (Or.inl ⟨by rfl, ?hyb4⟩) (by assumption) ?restb4
       case hyb4 =>
        intro w hSw
        (try dsimp only at hSw)
        go_simp
        (try with_reducible rfl)
       (try simp only [Act.put, List.setIfInBounds_toArray, List.set_cons_zero, List.set_cons_succ])
       refine wpAnyH_take (i := 4) (oi := { dst := some 30, op := Op.slice 50 (Operand.tmp 26) (some (Operand.tmp 27)) (some (Operand.tmp 29)) none, type := 50, pos := "law.go:191", after := #[{ on := 0, ground := Ground.data }, { on := 1, ground := Ground.data }, { on := 3, ground := Ground.data }], guard := none }) (v := ?vb5) rfl (by kernel_rfl) (by kernel_rfl) (by kernel_rfl) (fun _ _ _ h => h) (Or.inl ⟨by rfl, ?hyb5⟩) (by assumption) ?restb5
       case hyb5 =>
        intro w hSw
        (try dsimp only at hSw)
        go_simp
        (try with_reducible rfl)
       (try simp only [Act.put, List.setIfInBounds_toArray, List.set_cons_zero, List.set_cons_succ])
       refine wpAnyH_take (i := 5) (oi := { dst := some 31, op := Op.move (Operand.tmp 5), type := 50, pos := "law.go:191", after := #[], guard := none }) (v := ?vb6) rfl (by kernel_rfl) (by kernel_rfl) (by kernel_rfl) (fun _ _ _ h => h) (Or.inl ⟨by rfl, ?hyb6⟩) (by assumption) ?restb6
       case hyb6 =>
        intro w hSw
        (try dsimp only at hSw)
        go_simp
        (try with_reducible rfl)
       (try simp only [Act.put, List.setIfInBounds_toArray, List.set_cons_zero, List.set_cons_succ])
       refine wpAnyH_take (i := 6) (oi := { dst := some 32, op := Op.move (Operand.tmp 7), type := 3, pos := "law.go:191", after := #[], guard := none }) (v := ?vb7) rfl (by kernel_rfl) (by kernel_rfl) (by kernel_rfl) (fun _ _ _ h => h) (Or.inl ⟨by rfl, ?hyb7⟩) (by assumption) ?restb7
       case hyb7 =>
        intro w hSw
        (try dsimp only at hSw)
        go_simp
        (try with_reducible rfl)
       (try simp only [Act.put, List.setIfInBounds_toArray, List.set_cons_zero, List.set_cons_succ])
       refine wpAnyH_take (i := 7) (oi := { dst := some 33, op := Op.indexAddr 50 (Operand.tmp 31) (Operand.tmp 32), type := 0, pos := "law.go:191", after := #[{ on := 5, ground := Ground.data }, { on := 6, ground := Ground.data }], guard := none }) (v := ?vb8) rfl (by kernel_rfl) (by kernel_rfl) (by kernel_rfl) (fun _ _ _ h => h) (Or.inl ⟨by rfl, ?hyb8⟩) (by assumption) ?restb8
       case hyb8 =>
        intro w hSw
        (try dsimp only at hSw)
        go_simp
        (try with_reducible rfl)
       (try simp only [Act.put, List.setIfInBounds_toArray, List.set_cons_zero, List.set_cons_succ])
       refine wpAnyH_take (i := 8) (oi := { dst := some 34, op := Op.fieldAddr 59 (Operand.tmp 33) 0, type := 0, pos := "law.go:191", after := #[{ on := 7, ground := Ground.data }], guard := none }) (v := ?vb9) rfl (by kernel_rfl) (by kernel_rfl) (by kernel_rfl) (fun _ _ _ h => h) (Or.inl ⟨by rfl, ?hyb9⟩) (by assumption) ?restb9
       case hyb9 =>
        intro w hSw
        (try dsimp only at hSw)
        go_simp
        (try with_reducible rfl)
       (try simp only [Act.put, List.setIfInBounds_toArray, List.set_cons_zero, List.set_cons_succ])
       refine wpAnyH_take (i := 9) (oi := { dst := some 35, op := Op.load 56 (Operand.tmp 34), type := 56, pos := "law.go:191", after := #[{ on := 8, ground := Ground.data }], guard := none }) (v := ?vb10) rfl (by kernel_rfl) (by kernel_rfl) (by kernel_rfl) (fun _ _ _ h => h) (Or.inl ⟨by rfl, ?hyb10⟩) (by assumption) ?restb10
       case hyb10 =>
        intro w hSw
        (try dsimp only at hSw)
        go_simp
        (try with_reducible rfl)
       (try simp only [Act.put, List.setIfInBounds_toArray, List.set_cons_zero, List.set_cons_succ])
       refine wpAnyH_ready (rs := [10]) (by kernel_rfl) (by simp) ?_
       refine AllReadyH.cons (o := { dst := some 36, op := Op.call { callee := Callee.value (Operand.func 58), args := #[Operand.tmp 30, Operand.tmp 35], argTypes := #[50, 56] }, type := 4, pos := "law.go:191", after := #[{ on := 4, ground := Ground.data }, { on := 9, ground := Ground.data }], guard := none }) rfl (fun K hK => ?_) AllReadyH.nil
       go_simp
       (go_at_call 58; refine (G1.out _ (by exact hHeld)).mono ?_; rintro e v1 ⟨rfl, b1⟩)
       go_wp2_with fail
       refine hK.out _ _ (trio_keep hHeld b1) (fun hHeld => ?_)
       clear hK K
       (try simp only [Act.put, List.setIfInBounds_toArray, List.set_cons_zero, List.set_cons_succ])
       refine wpAnyH_take (i := 11) (oi := { dst := some 37, op := Op.move (Operand.tmp 36), type := 4, pos := "law.go:191", after := #[{ on := 10, ground := Ground.data }, { on := 10, ground := Ground.chain }], guard := none }) (v := ?vb11) rfl (by kernel_rfl) (by kernel_rfl) (by kernel_rfl) (fun _ _ _ h => h) (Or.inl ⟨by rfl, ?hyb11⟩) (by assumption) ?restb11
       case hyb11 =>
        intro w hSw
        (try dsimp only at hSw)
        go_simp
        (try with_reducible rfl)
       (try simp only [Act.put, List.setIfInBounds_toArray, List.set_cons_zero, List.set_cons_succ])
       refine wpAnyH_take (i := 12) (oi := { dst := some 38, op := Op.move (Operand.tmp 5), type := 50, pos := "law.go:191", after := #[{ on := 11, ground := Ground.guard }], guard := some (11, true) }) (v := ?vb12) rfl (by kernel_rfl) (by kernel_rfl) (by kernel_rfl) (fun _ _ _ h => h) (Or.inl ⟨by rfl, ?hyb12⟩) (by assumption) ?restb12
       case hyb12 =>
        intro w hSw
        (try dsimp only at hSw)
        go_simp
        (try with_reducible rfl)
       (try simp only [Act.put, List.setIfInBounds_toArray, List.set_cons_zero, List.set_cons_succ])
       refine wpAnyH_take (i := 13) (oi := { dst := some 39, op := Op.move (Operand.tmp 7), type := 3, pos := "law.go:191", after := #[{ on := 11, ground := Ground.guard }], guard := some (11, true) }) (v := ?vb13) rfl (by kernel_rfl) (by kernel_rfl) (by kernel_rfl) (fun _ _ _ h => h) (Or.inl ⟨by rfl, ?hyb13⟩) (by assumption) ?restb13
       case hyb13 =>
        intro w hSw
        (try dsimp only at hSw)
        go_simp
        (try with_reducible rfl)
       (try simp only [Act.put, List.setIfInBounds_toArray, List.set_cons_zero, List.set_cons_succ])
       refine wpAnyH_take (i := 14) (oi := { dst := some 40, op := Op.move (Operand.tmp 7), type := 3, pos := "law.go:191", after := #[{ on := 11, ground := Ground.guard }], guard := some (11, true) }) (v := ?vb14) rfl (by kernel_rfl) (by kernel_rfl) (by kernel_rfl) (fun _ _ _ h => h) (Or.inl ⟨by rfl, ?hyb14⟩) (by assumption) ?restb14
       case hyb14 =>
        intro w hSw
        (try dsimp only at hSw)
        go_simp
        (try with_reducible rfl)
       (try simp only [Act.put, List.setIfInBounds_toArray, List.set_cons_zero, List.set_cons_succ])
       refine wpAnyH_take (i := 15) (oi := { dst := some 41, op := Op.binOp BinOp.add 3 (Operand.tmp 40) (Operand.const (Value.int IntKind.i64 1)) 3, type := 3, pos := "law.go:191", after := #[{ on := 14, ground := Ground.data }, { on := 11, ground := Ground.guard }], guard := some (11, true) }) (v := ?vb15) rfl (by kernel_rfl) (by kernel_rfl) (by kernel_rfl) (fun _ _ _ h => h) (Or.inl ⟨by rfl, ?hyb15⟩) (by assumption) ?restb15
       case hyb15 =>
        intro w hSw
        (try dsimp only at hSw)
        go_simp
        (try with_reducible rfl)
       (try simp only [Act.put, List.setIfInBounds_toArray, List.set_cons_zero, List.set_cons_succ])
       refine wpAnyH_take (i := 16) (oi := { dst := some 42, op := Op.slice 50 (Operand.tmp 38) (some (Operand.tmp 39)) (some (Operand.tmp 41)) none, type := 50, pos := "law.go:191", after := #[{ on := 12, ground := Ground.data }, { on := 13, ground := Ground.data }, { on := 15, ground := Ground.data }, { on := 11, ground := Ground.guard }], guard := some (11, true) }) (v := ?vb16) rfl (by kernel_rfl) (by kernel_rfl) (by kernel_rfl) (fun _ _ _ h => h) (Or.inl ⟨by rfl, ?hyb16⟩) (by assumption) ?restb16
       case hyb16 =>
        intro w hSw
        (try dsimp only at hSw)
        go_simp
        (try with_reducible rfl)
       (try simp only [Act.put, List.setIfInBounds_toArray, List.set_cons_zero, List.set_cons_succ])
       refine wpAnyH_take (i := 17) (oi := { dst := some 43, op := Op.move (Operand.tmp 5), type := 50, pos := "law.go:191", after := #[{ on := 11, ground := Ground.guard }], guard := some (11, true) }) (v := ?vb17) rfl (by kernel_rfl) (by kernel_rfl) (by kernel_rfl) (fun _ _ _ h => h) (Or.inl ⟨by rfl, ?hyb17⟩) (by assumption) ?restb17
       case hyb17 =>
        intro w hSw
        (try dsimp only at hSw)
        go_simp
        (try with_reducible rfl)
       (try simp only [Act.put, List.setIfInBounds_toArray, List.set_cons_zero, List.set_cons_succ])
       refine wpAnyH_take (i := 18) (oi := { dst := some 44, op := Op.move (Operand.tmp 6), type := 3, pos := "law.go:191", after := #[{ on := 11, ground := Ground.guard }], guard := some (11, true) }) (v := ?vb18) rfl (by kernel_rfl) (by kernel_rfl) (by kernel_rfl) (fun _ _ _ h => h) (Or.inl ⟨by rfl, ?hyb18⟩) (by assumption) ?restb18
       case hyb18 =>
        intro w hSw
        (try dsimp only at hSw)
        go_simp
        (try with_reducible rfl)
       (try simp only [Act.put, List.setIfInBounds_toArray, List.set_cons_zero, List.set_cons_succ])
       refine wpAnyH_take (i := 19) (oi := { dst := some 45, op := Op.indexAddr 50 (Operand.tmp 43) (Operand.tmp 44), type := 0, pos := "law.go:191", after := #[{ on := 17, ground := Ground.data }, { on := 18, ground := Ground.data }, { on := 11, ground := Ground.guard }], guard := some (11, true) }) (v := ?vb19) rfl (by kernel_rfl) (by kernel_rfl) (by kernel_rfl) (fun _ _ _ h => h) (Or.inl ⟨by rfl, ?hyb19⟩) (by assumption) ?restb19
       case hyb19 =>
        intro w hSw
        (try dsimp only at hSw)
        go_simp
        (try with_reducible rfl)
       (try simp only [Act.put, List.setIfInBounds_toArray, List.set_cons_zero, List.set_cons_succ])
       refine wpAnyH_take (i := 20) (oi := { dst := some 46, op := Op.fieldAddr 59 (Operand.tmp 45) 0, type := 0, pos := "law.go:191", after := #[{ on := 19, ground := Ground.data }, { on := 11, ground := Ground.guard }], guard := some (11, true) }) (v := ?vb20) rfl (by kernel_rfl) (by kernel_rfl) (by kernel_rfl) (fun _ _ _ h => h) (Or.inl ⟨by rfl, ?hyb20⟩) (by assumption) ?restb20
       case hyb20 =>
        intro w hSw
        (try dsimp only at hSw)
        go_simp
        (try with_reducible rfl)
       (try simp only [Act.put, List.setIfInBounds_toArray, List.set_cons_zero, List.set_cons_succ])
       refine wpAnyH_take (i := 21) (oi := { dst := some 47, op := Op.load 56 (Operand.tmp 46), type := 56, pos := "law.go:191", after := #[{ on := 20, ground := Ground.data }, { on := 11, ground := Ground.guard }], guard := some (11, true) }) (v := ?vb21) rfl (by kernel_rfl) (by kernel_rfl) (by kernel_rfl) (fun _ _ _ h => h) (Or.inl ⟨by rfl, ?hyb21⟩) (by assumption) ?restb21
       case hyb21 =>
        intro w hSw
        (try dsimp only at hSw)
        go_simp
        (try with_reducible rfl)
       (try simp only [Act.put, List.setIfInBounds_toArray, List.set_cons_zero, List.set_cons_succ])
       refine wpAnyH_ready (rs := [22]) (by kernel_rfl) (by simp) ?_
       refine AllReadyH.cons (o := { dst := some 48, op := Op.call { callee := Callee.value (Operand.func 58), args := #[Operand.tmp 42, Operand.tmp 47], argTypes := #[50, 56] }, type := 4, pos := "law.go:191", after := #[{ on := 16, ground := Ground.data }, { on := 21, ground := Ground.data }, { on := 11, ground := Ground.chain }, { on := 11, ground := Ground.guard }], guard := some (11, true) }) rfl (fun K hK => ?_) AllReadyH.nil
       go_simp
       (go_at_call 58; refine (G2.out _ (by exact hHeld)).mono ?_; rintro e v2 ⟨rfl, b2⟩)
       go_wp2_with fail
       refine hK.out _ _ (trio_keep hHeld b2) (fun hHeld => ?_)
       clear hK K
       (try simp only [Act.put, List.setIfInBounds_toArray, List.set_cons_zero, List.set_cons_succ])
       refine wpAnyH_take (i := 23) (oi := { dst := some 49, op := Op.move (Operand.tmp 48), type := 4, pos := "law.go:191", after := #[{ on := 22, ground := Ground.data }, { on := 22, ground := Ground.chain }, { on := 11, ground := Ground.guard }], guard := some (11, true) }) (v := ?vb22) rfl (by kernel_rfl) (by kernel_rfl) (by kernel_rfl) (fun _ _ _ h => h) (Or.inl ⟨by rfl, ?hyb22⟩) (by assumption) ?restb22
       case hyb22 =>
        intro w hSw
        (try dsimp only at hSw)
        go_simp
        (try with_reducible rfl)
       (try simp only [Act.put, List.setIfInBounds_toArray, List.set_cons_zero, List.set_cons_succ])
       refine wpAnyH_take (i := 24) (oi := { dst := some 50, op := Op.move (Operand.tmp 5), type := 50, pos := "law.go:191", after := #[{ on := 23, ground := Ground.guard }], guard := some (23, false) }) (v := undef) rfl (by kernel_rfl) (by kernel_rfl) (by kernel_rfl) (fun _ _ _ h => h) (Or.inr ⟨by rfl, rfl⟩) (by assumption) ?_
       (try simp only [Act.put, List.setIfInBounds_toArray, List.set_cons_zero, List.set_cons_succ])
       refine wpAnyH_take (i := 25) (oi := { dst := some 51, op := Op.move (Operand.tmp 7), type := 3, pos := "law.go:191", after := #[{ on := 23, ground := Ground.guard }], guard := some (23, false) }) (v := undef) rfl (by kernel_rfl) (by kernel_rfl) (by kernel_rfl) (fun _ _ _ h => h) (Or.inr ⟨by rfl, rfl⟩) (by assumption) ?_
       (try simp only [Act.put, List.setIfInBounds_toArray, List.set_cons_zero, List.set_cons_succ])
       refine wpAnyH_take (i := 26) (oi := { dst := some 52, op := Op.indexAddr 50 (Operand.tmp 50) (Operand.tmp 51), type := 0, pos := "law.go:191", after := #[{ on := 24, ground := Ground.data }, { on := 25, ground := Ground.data }, { on := 23, ground := Ground.guard }], guard := some (23, false) }) (v := undef) rfl (by kernel_rfl) (by kernel_rfl) (by kernel_rfl) (fun _ _ _ h => h) (Or.inr ⟨by rfl, rfl⟩) (by assumption) ?_
       (try simp only [Act.put, List.setIfInBounds_toArray, List.set_cons_zero, List.set_cons_succ])
       refine wpAnyH_take (i := 27) (oi := { dst := some 53, op := Op.load 59 (Operand.tmp 52), type := 59, pos := "law.go:191", after := #[{ on := 26, ground := Ground.data }, { on := 23, ground := Ground.guard }], guard := some (23, false) }) (v := undef) rfl (by kernel_rfl) (by kernel_rfl) (by kernel_rfl) (fun _ _ _ h => h) (Or.inr ⟨by rfl, rfl⟩) (by assumption) ?_
       (try simp only [Act.put, List.setIfInBounds_toArray, List.set_cons_zero, List.set_cons_succ])
       refine wpAnyH_take (i := 28) (oi := { dst := some 54, op := Op.move (Operand.tmp 5), type := 50, pos := "law.go:191", after := #[{ on := 23, ground := Ground.guard }], guard := some (23, false) }) (v := undef) rfl (by kernel_rfl) (by kernel_rfl) (by kernel_rfl) (fun _ _ _ h => h) (Or.inr ⟨by rfl, rfl⟩) (by assumption) ?_
       (try simp only [Act.put, List.setIfInBounds_toArray, List.set_cons_zero, List.set_cons_succ])
       refine wpAnyH_take (i := 29) (oi := { dst := some 55, op := Op.move (Operand.tmp 6), type := 3, pos := "law.go:191", after := #[{ on := 23, ground := Ground.guard }], guard := some (23, false) }) (v := undef) rfl (by kernel_rfl) (by kernel_rfl) (by kernel_rfl) (fun _ _ _ h => h) (Or.inr ⟨by rfl, rfl⟩) (by assumption) ?_
       (try simp only [Act.put, List.setIfInBounds_toArray, List.set_cons_zero, List.set_cons_succ])
       refine wpAnyH_take (i := 30) (oi := { dst := some 56, op := Op.indexAddr 50 (Operand.tmp 54) (Operand.tmp 55), type := 0, pos := "law.go:191", after := #[{ on := 28, ground := Ground.data }, { on := 29, ground := Ground.data }, { on := 23, ground := Ground.guard }], guard := some (23, false) }) (v := undef) rfl (by kernel_rfl) (by kernel_rfl) (by kernel_rfl) (fun _ _ _ h => h) (Or.inr ⟨by rfl, rfl⟩) (by assumption) ?_
       (try simp only [Act.put, List.setIfInBounds_toArray, List.set_cons_zero, List.set_cons_succ])
       refine wpAnyH_take (i := 31) (oi := { dst := some 57, op := Op.load 59 (Operand.tmp 56), type := 59, pos := "law.go:191", after := #[{ on := 30, ground := Ground.data }, { on := 23, ground := Ground.guard }], guard := some (23, false) }) (v := undef) rfl (by kernel_rfl) (by kernel_rfl) (by kernel_rfl) (fun _ _ _ h => h) (Or.inr ⟨by rfl, rfl⟩) (by assumption) ?_
       (try simp only [Act.put, List.setIfInBounds_toArray, List.set_cons_zero, List.set_cons_succ])
       refine wpAnyH_take (i := 32) (oi := { dst := some 58, op := Op.call { callee := Callee.value (Operand.func 59), args := #[Operand.tmp 53, Operand.tmp 57], argTypes := #[59, 59] }, type := 4, pos := "law.go:191", after := #[{ on := 27, ground := Ground.data }, { on := 31, ground := Ground.data }, { on := 23, ground := Ground.chain }, { on := 23, ground := Ground.guard }], guard := some (23, false) }) (v := undef) rfl (by kernel_rfl) (by kernel_rfl) (by kernel_rfl) (fun _ _ _ h => h) (Or.inr ⟨by rfl, rfl⟩) (by assumption) ?_
       (try simp only [Act.put, List.setIfInBounds_toArray, List.set_cons_zero, List.set_cons_succ])
       refine wpAnyH_take (i := 33) (oi := { dst := some 59, op := Op.unOp UnOp.not 4 (Operand.tmp 58), type := 4, pos := "law.go:191", after := #[{ on := 32, ground := Ground.data }, { on := 23, ground := Ground.guard }], guard := some (23, false) }) (v := undef) rfl (by kernel_rfl) (by kernel_rfl) (by kernel_rfl) (fun _ _ _ h => h) (Or.inr ⟨by rfl, rfl⟩) (by assumption) ?_
       (try simp only [Act.put, List.setIfInBounds_toArray, List.set_cons_zero, List.set_cons_succ])
       refine wpAnyH_take (i := 34) (oi := { dst := some 60, op := Op.pick (Operand.tmp 49) (Operand.const (Value.bool true)) (Operand.tmp 59), type := 4, pos := "law.go:191", after := #[{ on := 23, ground := Ground.data }, { on := 33, ground := Ground.data }, { on := 11, ground := Ground.guard }], guard := some (11, true) }) (v := ?vb33) rfl (by kernel_rfl) (by kernel_rfl) (by kernel_rfl) (fun _ _ _ h => h) (Or.inl ⟨by rfl, ?hyb33⟩) (by assumption) ?restb33
       case hyb33 =>
        intro w hSw
        (try dsimp only at hSw)
        go_simp
        (try with_reducible rfl)
       (try simp only [Act.put, List.setIfInBounds_toArray, List.set_cons_zero, List.set_cons_succ])
       refine wpAnyH_take (i := 35) (oi := { dst := some 61, op := Op.pick (Operand.tmp 37) (Operand.tmp 60) (Operand.const (Value.bool false)), type := 4, pos := "law.go:191", after := #[{ on := 11, ground := Ground.data }, { on := 34, ground := Ground.data }], guard := none }) (v := ?vb34) rfl (by kernel_rfl) (by kernel_rfl) (by kernel_rfl) (fun _ _ _ h => h) (Or.inl ⟨by rfl, ?hyb34⟩) (by assumption) ?restb34
       case hyb34 =>
        intro w hSw
        (try dsimp only at hSw)
        go_simp
        (try with_reducible rfl)
       (try simp only [Act.put, List.setIfInBounds_toArray, List.set_cons_zero, List.set_cons_succ])
       refine wpAnyH_done (by kernel_rfl) ?_ _
       have BE : Below w.heap.size w v2 := HW.out.trans ((HBK.out.trans ((trio_below (show Trio wr pb (off + i * 5) (off + k * 5) s vn A1 kp c1 vg vx s' vn' A2 kp' c2 vg' vx' v2 from hHeld)).mono hszk)).mono sW)
       have HF := Lib.hid (HN2.out.2 (by simp))
       clear HN2 G1 G2 G3 hHeld
       go_wp2_with fail
       go_ret
       exact ⟨by rw [HF.out]; rfl, BE⟩
      ·refine wp_region_held_drew (S := (fun V => V.cell? ⟨pb, off + i * 5, none⟩ = some (.int .i64 s) ∧ V.cell? ⟨pb, off + i * 5 + 1, none⟩ = some (.int .i64 vn) ∧ V.cell? ⟨pb, off + i * 5 + 2, none⟩ = some (.slice A1 kp c1) ∧ V.cell? ⟨pb, off + i * 5 + 3, none⟩ = some (.bool vg) ∧ V.cell? ⟨pb, off + i * 5 + 4, none⟩ = some (.string vx) ∧ V.cell? ⟨pb, off + k * 5, none⟩ = some (.int .i64 s') ∧ V.cell? ⟨pb, off + k * 5 + 1, none⟩ = some (.int .i64 vn') ∧ V.cell? ⟨pb, off + k * 5 + 2, none⟩ = some (.slice A2 kp' c2) ∧ V.cell? ⟨pb, off + k * 5 + 3, none⟩ = some (.bool vg') ∧ V.cell? ⟨pb, off + k * 5 + 4, none⟩ = some (.string vx') ∧ Below wr.heap.size wr V ∧ pb < V.heap.size)) (by kernel_rfl) hst (fun hHeld => ?_)
       refine wpAnyH_take (i := 0) (oi := { dst := some 26, op := Op.move (Operand.tmp 5), type := 50, pos := "law.go:191", after := #[], guard := none }) (v := ?vc1) rfl (by kernel_rfl) (by kernel_rfl) (by kernel_rfl) (fun _ _ _ h => h) (Or.inl ⟨by rfl, ?hyc1⟩) (by assumption) ?restc1
       case hyc1 =>
        intro w hSw
        (try dsimp only at hSw)
        go_simp
        (try with_reducible rfl)
       (try simp only [Act.put, List.setIfInBounds_toArray, List.set_cons_zero, List.set_cons_succ])
       refine wpAnyH_take (i := 1) (oi := { dst := some 27, op := Op.move (Operand.tmp 6), type := 3, pos := "law.go:191", after := #[], guard := none }) (v := ?vc2) rfl (by kernel_rfl) (by kernel_rfl) (by kernel_rfl) (fun _ _ _ h => h) (Or.inl ⟨by rfl, ?hyc2⟩) (by assumption) ?restc2
       case hyc2 =>
        intro w hSw
        (try dsimp only at hSw)
        go_simp
        (try with_reducible rfl)
       (try simp only [Act.put, List.setIfInBounds_toArray, List.set_cons_zero, List.set_cons_succ])
       refine wpAnyH_take (i := 2) (oi := { dst := some 28, op := Op.move (Operand.tmp 6), type := 3, pos := "law.go:191", after := #[], guard := none }) (v := ?vc3) rfl (by kernel_rfl) (by kernel_rfl) (by kernel_rfl) (fun _ _ _ h => h) (Or.inl ⟨by rfl, ?hyc3⟩) (by assumption) ?restc3
       case hyc3 =>
        intro w hSw
        (try dsimp only at hSw)
        go_simp
        (try with_reducible rfl)
       (try simp only [Act.put, List.setIfInBounds_toArray, List.set_cons_zero, List.set_cons_succ])
       refine wpAnyH_take (i := 3) (oi := { dst := some 29, op := Op.binOp BinOp.add 3 (Operand.tmp 28) (Operand.const (Value.int IntKind.i64 1)) 3, type := 3, pos := "law.go:191", after := #[{ on := 2, ground := Ground.data }], guard := none }) (v := ?vc4) rfl (by kernel_rfl) (by kernel_rfl) (by kernel_rfl) (fun _ _ _ h => h) (Or.inl ⟨by rfl, ?hyc4⟩) (by assumption) ?restc4
       case hyc4 =>
        intro w hSw
        (try dsimp only at hSw)
        go_simp
        (try with_reducible rfl)
       (try simp only [Act.put, List.setIfInBounds_toArray, List.set_cons_zero, List.set_cons_succ])
       refine wpAnyH_take (i := 4) (oi := { dst := some 30, op := Op.slice 50 (Operand.tmp 26) (some (Operand.tmp 27)) (some (Operand.tmp 29)) none, type := 50, pos := "law.go:191", after := #[{ on := 0, ground := Ground.data }, { on := 1, ground := Ground.data }, { on := 3, ground := Ground.data }], guard := none }) (v := ?vc5) rfl (by kernel_rfl) (by kernel_rfl) (by kernel_rfl) (fun _ _ _ h => h) (Or.inl ⟨by rfl, ?hyc5⟩) (by assumption) ?restc5
       case hyc5 =>
        intro w hSw
        (try dsimp only at hSw)
        go_simp
        (try with_reducible rfl)
       (try simp only [Act.put, List.setIfInBounds_toArray, List.set_cons_zero, List.set_cons_succ])
       refine wpAnyH_take (i := 5) (oi := { dst := some 31, op := Op.move (Operand.tmp 5), type := 50, pos := "law.go:191", after := #[], guard := none }) (v := ?vc6) rfl (by kernel_rfl) (by kernel_rfl) (by kernel_rfl) (fun _ _ _ h => h) (Or.inl ⟨by rfl, ?hyc6⟩) (by assumption) ?restc6
       case hyc6 =>
        intro w hSw
        (try dsimp only at hSw)
        go_simp
        (try with_reducible rfl)
       (try simp only [Act.put, List.setIfInBounds_toArray, List.set_cons_zero, List.set_cons_succ])
       refine wpAnyH_take (i := 6) (oi := { dst := some 32, op := Op.move (Operand.tmp 7), type := 3, pos := "law.go:191", after := #[], guard := none }) (v := ?vc7) rfl (by kernel_rfl) (by kernel_rfl) (by kernel_rfl) (fun _ _ _ h => h) (Or.inl ⟨by rfl, ?hyc7⟩) (by assumption) ?restc7
       case hyc7 =>
        intro w hSw
        (try dsimp only at hSw)
        go_simp
        (try with_reducible rfl)
       (try simp only [Act.put, List.setIfInBounds_toArray, List.set_cons_zero, List.set_cons_succ])
       refine wpAnyH_take (i := 7) (oi := { dst := some 33, op := Op.indexAddr 50 (Operand.tmp 31) (Operand.tmp 32), type := 0, pos := "law.go:191", after := #[{ on := 5, ground := Ground.data }, { on := 6, ground := Ground.data }], guard := none }) (v := ?vc8) rfl (by kernel_rfl) (by kernel_rfl) (by kernel_rfl) (fun _ _ _ h => h) (Or.inl ⟨by rfl, ?hyc8⟩) (by assumption) ?restc8
       case hyc8 =>
        intro w hSw
        (try dsimp only at hSw)
        go_simp
        (try with_reducible rfl)
       (try simp only [Act.put, List.setIfInBounds_toArray, List.set_cons_zero, List.set_cons_succ])
       refine wpAnyH_take (i := 8) (oi := { dst := some 34, op := Op.fieldAddr 59 (Operand.tmp 33) 0, type := 0, pos := "law.go:191", after := #[{ on := 7, ground := Ground.data }], guard := none }) (v := ?vc9) rfl (by kernel_rfl) (by kernel_rfl) (by kernel_rfl) (fun _ _ _ h => h) (Or.inl ⟨by rfl, ?hyc9⟩) (by assumption) ?restc9
       case hyc9 =>
        intro w hSw
        (try dsimp only at hSw)
        go_simp
        (try with_reducible rfl)
       (try simp only [Act.put, List.setIfInBounds_toArray, List.set_cons_zero, List.set_cons_succ])
       refine wpAnyH_take (i := 9) (oi := { dst := some 35, op := Op.load 56 (Operand.tmp 34), type := 56, pos := "law.go:191", after := #[{ on := 8, ground := Ground.data }], guard := none }) (v := ?vc10) rfl (by kernel_rfl) (by kernel_rfl) (by kernel_rfl) (fun _ _ _ h => h) (Or.inl ⟨by rfl, ?hyc10⟩) (by assumption) ?restc10
       case hyc10 =>
        intro w hSw
        (try dsimp only at hSw)
        go_simp
        (try with_reducible rfl)
       (try simp only [Act.put, List.setIfInBounds_toArray, List.set_cons_zero, List.set_cons_succ])
       refine wpAnyH_ready (rs := [10]) (by kernel_rfl) (by simp) ?_
       refine AllReadyH.cons (o := { dst := some 36, op := Op.call { callee := Callee.value (Operand.func 58), args := #[Operand.tmp 30, Operand.tmp 35], argTypes := #[50, 56] }, type := 4, pos := "law.go:191", after := #[{ on := 4, ground := Ground.data }, { on := 9, ground := Ground.data }], guard := none }) rfl (fun K hK => ?_) AllReadyH.nil
       go_simp
       (go_at_call 58; refine (G1.out _ (by exact hHeld)).mono ?_; rintro e v1 ⟨rfl, b1⟩)
       go_wp2_with fail
       refine hK.out _ _ (trio_keep hHeld b1) (fun hHeld => ?_)
       clear hK K
       (try simp only [Act.put, List.setIfInBounds_toArray, List.set_cons_zero, List.set_cons_succ])
       refine wpAnyH_take (i := 11) (oi := { dst := some 37, op := Op.move (Operand.tmp 36), type := 4, pos := "law.go:191", after := #[{ on := 10, ground := Ground.data }, { on := 10, ground := Ground.chain }], guard := none }) (v := ?vc11) rfl (by kernel_rfl) (by kernel_rfl) (by kernel_rfl) (fun _ _ _ h => h) (Or.inl ⟨by rfl, ?hyc11⟩) (by assumption) ?restc11
       case hyc11 =>
        intro w hSw
        (try dsimp only at hSw)
        go_simp
        (try with_reducible rfl)
       (try simp only [Act.put, List.setIfInBounds_toArray, List.set_cons_zero, List.set_cons_succ])
       refine wpAnyH_take (i := 12) (oi := { dst := some 38, op := Op.move (Operand.tmp 5), type := 50, pos := "law.go:191", after := #[{ on := 11, ground := Ground.guard }], guard := some (11, true) }) (v := ?vc12) rfl (by kernel_rfl) (by kernel_rfl) (by kernel_rfl) (fun _ _ _ h => h) (Or.inl ⟨by rfl, ?hyc12⟩) (by assumption) ?restc12
       case hyc12 =>
        intro w hSw
        (try dsimp only at hSw)
        go_simp
        (try with_reducible rfl)
       (try simp only [Act.put, List.setIfInBounds_toArray, List.set_cons_zero, List.set_cons_succ])
       refine wpAnyH_take (i := 13) (oi := { dst := some 39, op := Op.move (Operand.tmp 7), type := 3, pos := "law.go:191", after := #[{ on := 11, ground := Ground.guard }], guard := some (11, true) }) (v := ?vc13) rfl (by kernel_rfl) (by kernel_rfl) (by kernel_rfl) (fun _ _ _ h => h) (Or.inl ⟨by rfl, ?hyc13⟩) (by assumption) ?restc13
       case hyc13 =>
        intro w hSw
        (try dsimp only at hSw)
        go_simp
        (try with_reducible rfl)
       (try simp only [Act.put, List.setIfInBounds_toArray, List.set_cons_zero, List.set_cons_succ])
       refine wpAnyH_take (i := 14) (oi := { dst := some 40, op := Op.move (Operand.tmp 7), type := 3, pos := "law.go:191", after := #[{ on := 11, ground := Ground.guard }], guard := some (11, true) }) (v := ?vc14) rfl (by kernel_rfl) (by kernel_rfl) (by kernel_rfl) (fun _ _ _ h => h) (Or.inl ⟨by rfl, ?hyc14⟩) (by assumption) ?restc14
       case hyc14 =>
        intro w hSw
        (try dsimp only at hSw)
        go_simp
        (try with_reducible rfl)
       (try simp only [Act.put, List.setIfInBounds_toArray, List.set_cons_zero, List.set_cons_succ])
       refine wpAnyH_take (i := 15) (oi := { dst := some 41, op := Op.binOp BinOp.add 3 (Operand.tmp 40) (Operand.const (Value.int IntKind.i64 1)) 3, type := 3, pos := "law.go:191", after := #[{ on := 14, ground := Ground.data }, { on := 11, ground := Ground.guard }], guard := some (11, true) }) (v := ?vc15) rfl (by kernel_rfl) (by kernel_rfl) (by kernel_rfl) (fun _ _ _ h => h) (Or.inl ⟨by rfl, ?hyc15⟩) (by assumption) ?restc15
       case hyc15 =>
        intro w hSw
        (try dsimp only at hSw)
        go_simp
        (try with_reducible rfl)
       (try simp only [Act.put, List.setIfInBounds_toArray, List.set_cons_zero, List.set_cons_succ])
       refine wpAnyH_take (i := 16) (oi := { dst := some 42, op := Op.slice 50 (Operand.tmp 38) (some (Operand.tmp 39)) (some (Operand.tmp 41)) none, type := 50, pos := "law.go:191", after := #[{ on := 12, ground := Ground.data }, { on := 13, ground := Ground.data }, { on := 15, ground := Ground.data }, { on := 11, ground := Ground.guard }], guard := some (11, true) }) (v := ?vc16) rfl (by kernel_rfl) (by kernel_rfl) (by kernel_rfl) (fun _ _ _ h => h) (Or.inl ⟨by rfl, ?hyc16⟩) (by assumption) ?restc16
       case hyc16 =>
        intro w hSw
        (try dsimp only at hSw)
        go_simp
        (try with_reducible rfl)
       (try simp only [Act.put, List.setIfInBounds_toArray, List.set_cons_zero, List.set_cons_succ])
       refine wpAnyH_take (i := 17) (oi := { dst := some 43, op := Op.move (Operand.tmp 5), type := 50, pos := "law.go:191", after := #[{ on := 11, ground := Ground.guard }], guard := some (11, true) }) (v := ?vc17) rfl (by kernel_rfl) (by kernel_rfl) (by kernel_rfl) (fun _ _ _ h => h) (Or.inl ⟨by rfl, ?hyc17⟩) (by assumption) ?restc17
       case hyc17 =>
        intro w hSw
        (try dsimp only at hSw)
        go_simp
        (try with_reducible rfl)
       (try simp only [Act.put, List.setIfInBounds_toArray, List.set_cons_zero, List.set_cons_succ])
       refine wpAnyH_take (i := 18) (oi := { dst := some 44, op := Op.move (Operand.tmp 6), type := 3, pos := "law.go:191", after := #[{ on := 11, ground := Ground.guard }], guard := some (11, true) }) (v := ?vc18) rfl (by kernel_rfl) (by kernel_rfl) (by kernel_rfl) (fun _ _ _ h => h) (Or.inl ⟨by rfl, ?hyc18⟩) (by assumption) ?restc18
       case hyc18 =>
        intro w hSw
        (try dsimp only at hSw)
        go_simp
        (try with_reducible rfl)
       (try simp only [Act.put, List.setIfInBounds_toArray, List.set_cons_zero, List.set_cons_succ])
       refine wpAnyH_take (i := 19) (oi := { dst := some 45, op := Op.indexAddr 50 (Operand.tmp 43) (Operand.tmp 44), type := 0, pos := "law.go:191", after := #[{ on := 17, ground := Ground.data }, { on := 18, ground := Ground.data }, { on := 11, ground := Ground.guard }], guard := some (11, true) }) (v := ?vc19) rfl (by kernel_rfl) (by kernel_rfl) (by kernel_rfl) (fun _ _ _ h => h) (Or.inl ⟨by rfl, ?hyc19⟩) (by assumption) ?restc19
       case hyc19 =>
        intro w hSw
        (try dsimp only at hSw)
        go_simp
        (try with_reducible rfl)
       (try simp only [Act.put, List.setIfInBounds_toArray, List.set_cons_zero, List.set_cons_succ])
       refine wpAnyH_take (i := 20) (oi := { dst := some 46, op := Op.fieldAddr 59 (Operand.tmp 45) 0, type := 0, pos := "law.go:191", after := #[{ on := 19, ground := Ground.data }, { on := 11, ground := Ground.guard }], guard := some (11, true) }) (v := ?vc20) rfl (by kernel_rfl) (by kernel_rfl) (by kernel_rfl) (fun _ _ _ h => h) (Or.inl ⟨by rfl, ?hyc20⟩) (by assumption) ?restc20
       case hyc20 =>
        intro w hSw
        (try dsimp only at hSw)
        go_simp
        (try with_reducible rfl)
       (try simp only [Act.put, List.setIfInBounds_toArray, List.set_cons_zero, List.set_cons_succ])
       refine wpAnyH_take (i := 21) (oi := { dst := some 47, op := Op.load 56 (Operand.tmp 46), type := 56, pos := "law.go:191", after := #[{ on := 20, ground := Ground.data }, { on := 11, ground := Ground.guard }], guard := some (11, true) }) (v := ?vc21) rfl (by kernel_rfl) (by kernel_rfl) (by kernel_rfl) (fun _ _ _ h => h) (Or.inl ⟨by rfl, ?hyc21⟩) (by assumption) ?restc21
       case hyc21 =>
        intro w hSw
        (try dsimp only at hSw)
        go_simp
        (try with_reducible rfl)
       (try simp only [Act.put, List.setIfInBounds_toArray, List.set_cons_zero, List.set_cons_succ])
       refine wpAnyH_ready (rs := [22]) (by kernel_rfl) (by simp) ?_
       refine AllReadyH.cons (o := { dst := some 48, op := Op.call { callee := Callee.value (Operand.func 58), args := #[Operand.tmp 42, Operand.tmp 47], argTypes := #[50, 56] }, type := 4, pos := "law.go:191", after := #[{ on := 16, ground := Ground.data }, { on := 21, ground := Ground.data }, { on := 11, ground := Ground.chain }, { on := 11, ground := Ground.guard }], guard := some (11, true) }) rfl (fun K hK => ?_) AllReadyH.nil
       go_simp
       (go_at_call 58; refine (G2.out _ (by exact hHeld)).mono ?_; rintro e v2 ⟨rfl, b2⟩)
       go_wp2_with fail
       refine hK.out _ _ (trio_keep hHeld b2) (fun hHeld => ?_)
       clear hK K
       (try simp only [Act.put, List.setIfInBounds_toArray, List.set_cons_zero, List.set_cons_succ])
       refine wpAnyH_take (i := 23) (oi := { dst := some 49, op := Op.move (Operand.tmp 48), type := 4, pos := "law.go:191", after := #[{ on := 22, ground := Ground.data }, { on := 22, ground := Ground.chain }, { on := 11, ground := Ground.guard }], guard := some (11, true) }) (v := ?vc22) rfl (by kernel_rfl) (by kernel_rfl) (by kernel_rfl) (fun _ _ _ h => h) (Or.inl ⟨by rfl, ?hyc22⟩) (by assumption) ?restc22
       case hyc22 =>
        intro w hSw
        (try dsimp only at hSw)
        go_simp
        (try with_reducible rfl)
       (try simp only [Act.put, List.setIfInBounds_toArray, List.set_cons_zero, List.set_cons_succ])
       refine wpAnyH_take (i := 24) (oi := { dst := some 50, op := Op.move (Operand.tmp 5), type := 50, pos := "law.go:191", after := #[{ on := 23, ground := Ground.guard }], guard := some (23, false) }) (v := ?vc23) rfl (by kernel_rfl) (by kernel_rfl) (by kernel_rfl) (fun _ _ _ h => h) (Or.inl ⟨by rfl, ?hyc23⟩) (by assumption) ?restc23
       case hyc23 =>
        intro w hSw
        (try dsimp only at hSw)
        go_simp
        (try with_reducible rfl)
       (try simp only [Act.put, List.setIfInBounds_toArray, List.set_cons_zero, List.set_cons_succ])
       refine wpAnyH_take (i := 25) (oi := { dst := some 51, op := Op.move (Operand.tmp 7), type := 3, pos := "law.go:191", after := #[{ on := 23, ground := Ground.guard }], guard := some (23, false) }) (v := ?vc24) rfl (by kernel_rfl) (by kernel_rfl) (by kernel_rfl) (fun _ _ _ h => h) (Or.inl ⟨by rfl, ?hyc24⟩) (by assumption) ?restc24
       case hyc24 =>
        intro w hSw
        (try dsimp only at hSw)
        go_simp
        (try with_reducible rfl)
       (try simp only [Act.put, List.setIfInBounds_toArray, List.set_cons_zero, List.set_cons_succ])
       refine wpAnyH_take (i := 26) (oi := { dst := some 52, op := Op.indexAddr 50 (Operand.tmp 50) (Operand.tmp 51), type := 0, pos := "law.go:191", after := #[{ on := 24, ground := Ground.data }, { on := 25, ground := Ground.data }, { on := 23, ground := Ground.guard }], guard := some (23, false) }) (v := ?vc25) rfl (by kernel_rfl) (by kernel_rfl) (by kernel_rfl) (fun _ _ _ h => h) (Or.inl ⟨by rfl, ?hyc25⟩) (by assumption) ?restc25
       case hyc25 =>
        intro w hSw
        (try dsimp only at hSw)
        go_simp
        (try with_reducible rfl)
       (try simp only [Act.put, List.setIfInBounds_toArray, List.set_cons_zero, List.set_cons_succ])
       refine wpAnyH_take (i := 27) (oi := { dst := some 53, op := Op.load 59 (Operand.tmp 52), type := 59, pos := "law.go:191", after := #[{ on := 26, ground := Ground.data }, { on := 23, ground := Ground.guard }], guard := some (23, false) }) (v := ?vc26) rfl (by kernel_rfl) (by kernel_rfl) (by kernel_rfl) (fun _ _ _ h => h) (Or.inl ⟨by rfl, ?hyc26⟩) (by assumption) ?restc26
       case hyc26 =>
        intro w hSw
        (try dsimp only at hSw)
        go_simp
        (try with_reducible rfl)
       (try simp only [Act.put, List.setIfInBounds_toArray, List.set_cons_zero, List.set_cons_succ])
       refine wpAnyH_take (i := 28) (oi := { dst := some 54, op := Op.move (Operand.tmp 5), type := 50, pos := "law.go:191", after := #[{ on := 23, ground := Ground.guard }], guard := some (23, false) }) (v := ?vc27) rfl (by kernel_rfl) (by kernel_rfl) (by kernel_rfl) (fun _ _ _ h => h) (Or.inl ⟨by rfl, ?hyc27⟩) (by assumption) ?restc27
       case hyc27 =>
        intro w hSw
        (try dsimp only at hSw)
        go_simp
        (try with_reducible rfl)
       (try simp only [Act.put, List.setIfInBounds_toArray, List.set_cons_zero, List.set_cons_succ])
       refine wpAnyH_take (i := 29) (oi := { dst := some 55, op := Op.move (Operand.tmp 6), type := 3, pos := "law.go:191", after := #[{ on := 23, ground := Ground.guard }], guard := some (23, false) }) (v := ?vc28) rfl (by kernel_rfl) (by kernel_rfl) (by kernel_rfl) (fun _ _ _ h => h) (Or.inl ⟨by rfl, ?hyc28⟩) (by assumption) ?restc28
       case hyc28 =>
        intro w hSw
        (try dsimp only at hSw)
        go_simp
        (try with_reducible rfl)
       (try simp only [Act.put, List.setIfInBounds_toArray, List.set_cons_zero, List.set_cons_succ])
       refine wpAnyH_take (i := 30) (oi := { dst := some 56, op := Op.indexAddr 50 (Operand.tmp 54) (Operand.tmp 55), type := 0, pos := "law.go:191", after := #[{ on := 28, ground := Ground.data }, { on := 29, ground := Ground.data }, { on := 23, ground := Ground.guard }], guard := some (23, false) }) (v := ?vc29) rfl (by kernel_rfl) (by kernel_rfl) (by kernel_rfl) (fun _ _ _ h => h) (Or.inl ⟨by rfl, ?hyc29⟩) (by assumption) ?restc29
       case hyc29 =>
        intro w hSw
        (try dsimp only at hSw)
        go_simp
        (try with_reducible rfl)
       (try simp only [Act.put, List.setIfInBounds_toArray, List.set_cons_zero, List.set_cons_succ])
       refine wpAnyH_take (i := 31) (oi := { dst := some 57, op := Op.load 59 (Operand.tmp 56), type := 59, pos := "law.go:191", after := #[{ on := 30, ground := Ground.data }, { on := 23, ground := Ground.guard }], guard := some (23, false) }) (v := ?vc30) rfl (by kernel_rfl) (by kernel_rfl) (by kernel_rfl) (fun _ _ _ h => h) (Or.inl ⟨by rfl, ?hyc30⟩) (by assumption) ?restc30
       case hyc30 =>
        intro w hSw
        (try dsimp only at hSw)
        go_simp
        (try with_reducible rfl)
       (try simp only [Act.put, List.setIfInBounds_toArray, List.set_cons_zero, List.set_cons_succ])
       refine wpAnyH_ready (rs := [32]) (by kernel_rfl) (by simp) ?_
       refine AllReadyH.cons (o := { dst := some 58, op := Op.call { callee := Callee.value (Operand.func 59), args := #[Operand.tmp 53, Operand.tmp 57], argTypes := #[59, 59] }, type := 4, pos := "law.go:191", after := #[{ on := 27, ground := Ground.data }, { on := 31, ground := Ground.data }, { on := 23, ground := Ground.chain }, { on := 23, ground := Ground.guard }], guard := some (23, false) }) rfl (fun K hK => ?_) AllReadyH.nil
       go_simp
       (go_at_call 59; refine (G3.out _ (by exact hHeld)).mono ?_; rintro e v3 ⟨rfl, b3⟩)
       go_wp2_with fail
       refine hK.out _ _ (trio_keep hHeld b3) (fun hHeld => ?_)
       clear hK K
       (try simp only [Act.put, List.setIfInBounds_toArray, List.set_cons_zero, List.set_cons_succ])
       refine wpAnyH_take (i := 33) (oi := { dst := some 59, op := Op.unOp UnOp.not 4 (Operand.tmp 58), type := 4, pos := "law.go:191", after := #[{ on := 32, ground := Ground.data }, { on := 23, ground := Ground.guard }], guard := some (23, false) }) (v := ?vc31) rfl (by kernel_rfl) (by kernel_rfl) (by kernel_rfl) (fun _ _ _ h => h) (Or.inl ⟨by rfl, ?hyc31⟩) (by assumption) ?restc31
       case hyc31 =>
        intro w hSw
        (try dsimp only at hSw)
        go_simp
        (try with_reducible rfl)
       (try simp only [Act.put, List.setIfInBounds_toArray, List.set_cons_zero, List.set_cons_succ])
       refine wpAnyH_take (i := 34) (oi := { dst := some 60, op := Op.pick (Operand.tmp 49) (Operand.const (Value.bool true)) (Operand.tmp 59), type := 4, pos := "law.go:191", after := #[{ on := 23, ground := Ground.data }, { on := 33, ground := Ground.data }, { on := 11, ground := Ground.guard }], guard := some (11, true) }) (v := ?vc32) rfl (by kernel_rfl) (by kernel_rfl) (by kernel_rfl) (fun _ _ _ h => h) (Or.inl ⟨by rfl, ?hyc32⟩) (by assumption) ?restc32
       case hyc32 =>
        intro w hSw
        (try dsimp only at hSw)
        go_simp
        (try with_reducible rfl)
       (try simp only [Act.put, List.setIfInBounds_toArray, List.set_cons_zero, List.set_cons_succ])
       refine wpAnyH_take (i := 35) (oi := { dst := some 61, op := Op.pick (Operand.tmp 37) (Operand.tmp 60) (Operand.const (Value.bool false)), type := 4, pos := "law.go:191", after := #[{ on := 11, ground := Ground.data }, { on := 34, ground := Ground.data }], guard := none }) (v := ?vc33) rfl (by kernel_rfl) (by kernel_rfl) (by kernel_rfl) (fun _ _ _ h => h) (Or.inl ⟨by rfl, ?hyc33⟩) (by assumption) ?restc33
       case hyc33 =>
        intro w hSw
        (try dsimp only at hSw)
        go_simp
        (try with_reducible rfl)
       (try simp only [Act.put, List.setIfInBounds_toArray, List.set_cons_zero, List.set_cons_succ])
       refine wpAnyH_done (by kernel_rfl) ?_ _
       cases q3
       ·have BE : Below w.heap.size w v3 := HW.out.trans ((HBK.out.trans ((trio_below (show Trio wr pb (off + i * 5) (off + k * 5) s vn A1 kp c1 vg vx s' vn' A2 kp' c2 vg' vx' v3 from hHeld)).mono hszk)).mono sW)
        have HF := Lib.hid (HN2.out.2 (by simp))
        clear HN2 G1 G2 G3 hHeld
        go_wp2_with fail
        go_ret
        exact ⟨by rw [HF.out]; rfl, BE⟩
       ·have BE : Below W'.heap.size W' v3 := HBK.out.trans ((trio_below (show Trio wr pb (off + i * 5) (off + k * 5) s vn A1 kp c1 vg vx s' vn' A2 kp' c2 vg' vx' v3 from hHeld)).mono hszk)
        have HF := Lib.hid (HN2.out.1 (by simp))
        clear HN2 G1 G2 G3 hHeld
        go_wp2_with fail
        exact ⟨⟨k + 1, rfl, by omega, HF, BE⟩, by simp only [intOf]; omega⟩
    ·have hkn : j = k := by omega
     subst hkn
     have HF := Lib.hid (okp_end (by have := htk.out; rwa [← HX.out.2.1] at this))
     clear htk
     go_wp2_with fail
     go_roundw
     case rel => exact ⟨i + 1, rfl, by omega, HF, hbk⟩
     case measure => simp only [intOf]; omega
  ·have hin : j = i := by omega
   subst hin
   have HF := Lib.hid (show R = true by rw [← HX.out.2.2]; exact okp_all (by have := ht.out; rwa [← HX.out.2.1] at this))
   have BF := Lib.hid (HW.out.trans (hb.mono sW))
   clear ht hb
   go_wp2_with fail
   go_ret
   exact ⟨by rw [HF.out]; rfl, BF.out⟩
end Mend
end Go.Proofs.YtekhaejhmlebbaaGreat
