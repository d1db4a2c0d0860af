/-
  firthlaw05.plain: are these sets such as writes make them?
-/
import Derived.Test.YthiiganfoecmnaaVersMore
import Derived.Test.YthiiganfoecmnaaVersMergeRef
import Derived.Test.YthiiganfoecmnaaVersFresh
import Derived.Deep.DeepAppendWide
namespace Go.Proofs.Ythiiganfoecmnaa
namespace Vers
open Go.RowKit Span
attribute [local go_sem ↓] Go.wp_at_zero Go.wp_at_succ

section
variable {P : Program} (w : World)
/-- append of a slice of versions, nil and empty ones too, onto a row of the call's own, near the longest that there is. -/
theorem wpList_append_vs_wide {ops : Array Oper} {rest : List Oper} {o : Oper} {a : Act} {Q : Exit → Act → World → Prop} (hgd : o.guard = none) (s x : Operand) (t : TypeId)
    (ho : o.op = .call { callee := .builtin .append, args := #[s, x], argTypes := #[t, t] })
    (base : Nat) (e : TypeId) (i : TypeInfo) (z : Value) (bytes : Nat) (ht : P.underlying t = some (.slice e)) (hi : P.info? e = some i) (hz : i.zero = some z)
    (hsize : i.size = 5) (hby : i.bytes = bytes) (hzs : z.cells.size = 5)
    (v : Value) (n : Nat) (ps : List Pv) (hs : a.eval s = v) (hown : w.ownsRow base e 5 v n (vcs ps)) (L B : Nat) (A : Option Addr) (m c : Nat) (ys : List Vr) (hm : ys.length = m)
    (hx : a.eval x = .slice A m c) (hr : Vs w L B A ys)
    (hbytes : ((n + m) + (n + m) / 4 + 192) * bytes ≤ 281474976710656) (hn : n + m ≤ 281474976710656) (hbase : base ≤ w.heap.size)
    (h : ∀ v' w' qs, qs.map Prod.fst = ys → (∀ p ∈ qs, Pa w L B p.2.1 p.2.2 p.1) → w'.ownsRow base e 5 v' (n + m) (vcs (ps ++ qs)) → w.grownBy w' v.ownBlock → wpList P ops Q rest (a.put o.dst v') w') :
    wpList P ops Q (o :: rest) a w := by
  subst hm
  rcases A with _ | ad
  · have h0 : ys = [] := by
      rcases Nat.eq_zero_or_pos ys.length with h0 | h0
      · exact List.eq_nil_of_length_eq_zero h0
      · obtain ⟨b, off, he, _⟩ := hr h0
        cases he
    subst h0
    refine wpList_plain hgd fun K hK => ?_
    have hrun : (Builtin.append_ #[t, t] o.type #[v, .slice none 0 c]).run P w = .ok v w := by
      rcases hown.2 with ⟨rfl, rfl⟩ | ⟨g, cap, cur, rfl, _, _, hnc, _⟩
      · simp [Builtin.append_, run_underlying ht, sizeOf, typeInfo, hi, Builtin.lenOf, Builtin.firstCells]
      · simp [Builtin.append_, run_underlying ht, sizeOf, typeInfo, hi, Builtin.lenOf, Builtin.firstCells, hnc, storeCells]
    unfold Oper.wp execOp
    simp only [ho, resolve, invoke, builtin, Sem.run_bind, Sem.run_pure, Result.andThen_ok, List.map_toArray, List.map_cons, List.map_nil, hs, hx, List.length_nil, hrun]
    exact hK _ _ (h v w [] rfl (by simp) (by simpa using hown) (World.grownBy.refl w _))
  · rcases ys with _ | ⟨y, ys⟩
    · refine wpList_append_own_wide w hgd s x t ho base e i z 5 bytes ht hi hz hsize hby hzs (by omega) v n (vcs ps) hs hown ad 0 c [] hx (by simp) (by simp) (by simp) (by unfold maxLen; simp at hn; omega) hbytes hbase
        fun v' w' h1 h2 _ => h v' w' [] rfl (by simp) (by simpa using h1) h2
    · obtain ⟨b, off, he, _⟩ := hr (by simp)
      injection he with he
      subst he
      obtain ⟨qs, hq1, hq2, hq3⟩ := vs_pick hr (by simp)
      have hql : qs.length = (y :: ys).length := by rw [← hq1, List.length_map]
      exact wpList_append_own_wide w hgd s x t ho base e i z 5 bytes ht hi hz hsize hby hzs (by omega) v n (vcs ps) hs hown ⟨b, off, none⟩ _ c (vcs qs) hx (by rw [vcs_length, hql]) hq2 (vcs_cell qs) (by unfold maxLen; omega) hbytes hbase
        fun v' w' h1 h2 _ => h v' w' qs hq1 hq3 (by rw [vcs_append]; exact h1) h2
end

/-- Versions gathered in a row of the call's own. -/
def Gath (w : World) (base n : Nat) (ps : List Pv) (l : List Vr) (v : Value) (V : World) : Prop :=
  V.ownsRow base 28 5 v n (vcs ps) ∧ Below base w V ∧ (∀ p ∈ ps, Pa V 0 base p.2.1 p.2.2 p.1) ∧ ps.map Prod.fst = l ∧ base ≤ V.heap.size
theorem gath_next {w V V' : World} {base n m : Nat} {ps qs : List Pv} {l ys : List Vr} {v v' : Value} (h : Gath w base n ps l v V) (hq : qs.map Prod.fst = ys) (hpa : ∀ p ∈ qs, Pa V 0 base p.2.1 p.2.2 p.1) (o : V'.ownsRow base 28 5 v' (n + m) (vcs (ps ++ qs))) (g : V.grownBy V' v.ownBlock) :
    Gath w base (n + m) (ps ++ qs) (l ++ ys) v' V' := by
  have hrow : ∀ k, v.ownBlock = some k → base ≤ k := fun k hk => (h.1.lt k hk).1
  refine ⟨o, h.2.1.grown g h.2.2.2.2 hrow, pa_grown (fun p hp => ?_) g h.2.2.2.2 hrow, by rw [List.map_append, h.2.2.2.1, hq], Nat.le_trans h.2.2.2.2 g.size⟩
  rcases List.mem_append.1 hp with hp | hp
  · exact h.2.2.1 p hp
  · exact hpa p hp

/-- What is asked, for the first i against all and for the next one against the first k. -/
def Okay (l : List Vr) (i k : Nat) : Prop := (∀ p, p < i → ∀ y ∈ l, plainP (l.getD p v0) y) ∧ ∀ q, q < k → plainP (l.getD i v0) (l.getD q v0)
theorem okay_step {l : List Vr} {i k : Nat} (h : Okay l i k) (hp : plainP (l.getD i v0) (l.getD k v0)) : Okay l i (k + 1) := ⟨h.1, fun q hq => by
  rcases Nat.lt_or_ge q k with h1 | h1
  · exact h.2 q h1
  · obtain rfl : q = k := by omega
    exact hp⟩
theorem okay_end {l : List Vr} {i : Nat} (h : Okay l i l.length) : Okay l (i + 1) 0 := ⟨fun p hp y hy => by
  rcases Nat.lt_or_ge p i with h1 | h1
  · exact h.1 p h1 y hy
  · obtain rfl : p = i := by omega
    obtain ⟨q, hq, rfl⟩ := List.getElem_of_mem hy
    have := h.2 q hq
    have e : l.getD q v0 = l[q] := by simp [List.getD_eq_getElem?_getD, hq]
    rwa [e] at this, fun q hq => absurd hq (by omega)⟩
theorem okay_all {l : List Vr} (h : Okay l l.length 0) : plainF l := fun x hx y hy => by
  obtain ⟨p, hp, rfl⟩ := List.getElem_of_mem hx
  have e : l.getD p v0 = l[p] := by simp [List.getD_eq_getElem?_getD, hp]
  have := h.1 p hp y hy
  rwa [e] at this
theorem plain_no {l : List Vr} {x y : Vr} (hx : x ∈ l) (hy : y ∈ l) (h : ¬ plainP x y) : decide (plainF l) = false := decide_eq_false fun hf => h (hf x hx y hy)

/-- The cells of two versions, and only new memory since. -/
def Duo (W : World) (pb o o' : Nat) (s vn : Int) (A1 : Option Addr) (kp c1 : Nat) (s' vn' : Int) (A2 : Option Addr) (kp' c2 : Nat) (V : World) : Prop :=
  V.cell? ⟨pb, o, none⟩ = some (.int .i64 s) ∧ V.cell? ⟨pb, o + 1, none⟩ = some (.int .i64 vn) ∧ V.cell? ⟨pb, o + 2, none⟩ = some (.slice A1 kp c1) ∧ V.cell? ⟨pb, o', none⟩ = some (.int .i64 s') ∧ V.cell? ⟨pb, o' + 1, none⟩ = some (.int .i64 vn') ∧ V.cell? ⟨pb, o' + 2, none⟩ = some (.slice A2 kp' c2) ∧ Below W.heap.size W V ∧ pb < V.heap.size
theorem duo_keep {W V V' : World} {pb o o' : Nat} {s vn : Int} {A1 : Option Addr} {kp c1 : Nat} {s' vn' : Int} {A2 : Option Addr} {kp' c2 : Nat} (h : Duo W pb o o' s vn A1 kp c1 s' vn' A2 kp' c2 V) (b : Below V.heap.size V V') : Duo W pb o o' s vn A1 kp c1 s' vn' A2 kp' c2 V' := by
  obtain ⟨h0, h1, h2, h3, h4, h5, h6, h7⟩ := h
  exact ⟨cell_below b h7 h0, cell_below b h7 h1, cell_below b h7 h2, cell_below b h7 h3, cell_below b h7 h4, cell_below b h7 h5, h6.trans (b.mono h6.size), Nat.lt_of_lt_of_le h7 b.size⟩
theorem duo_below {W V : World} {pb o o' : Nat} {s vn : Int} {A1 : Option Addr} {kp c1 : Nat} {s' vn' : Int} {A2 : Option Addr} {kp' c2 : Nat} (h : Duo W pb o o' s vn A1 kp c1 s' vn' A2 kp' c2 V) : Below W.heap.size W V := h.2.2.2.2.2.2.1

set_option maxRecDepth 100000 in
set_option maxHeartbeats 4000000 in
theorem plain_any (A A' A'' : Option Addr) (c c' c'' n n' n'' : Nat) (a b d : List Vr) (hn : a.length = n) (hn' : b.length = n') (hn'' : d.length = n'') (w : World) (hv : Vs w 0 w.heap.size A a) (hv' : Vs w 0 w.heap.size A' b) (hv'' : Vs w 0 w.heap.size A'' d) (hb2 : n ≤ 512) (hb2' : n' ≤ 512) (hb2'' : n'' * 64 ≤ 140737488351232) :
    Calls Try.prog 22 #[.slice A n c, .slice A' n' c', .slice A'' n'' c''] w fun e w' => e = .returned (.bool (decide (plainF (a ++ b ++ d)))) ∧ Below w.heap.size w w' := by
  obtain ⟨R, hR⟩ : ∃ R, decide (plainF (a ++ b ++ d)) = R := ⟨_, rfl⟩
  rw [hR]
  obtain ⟨i0, hi0, hz0, hz1, hz2⟩ := info_parts info_ver
  obtain ⟨base, hbase⟩ : ∃ base, w.heap.size = base := ⟨_, rfl⟩
  have HB := Lib.hid hbase
  rw [hbase] at hv hv' hv''
  have HV := Lib.hid (And.intro hv (And.intro hv' (And.intro hv'' (And.intro hn (And.intro hn' (And.intro hn'' hR))))))
  have le0 : base ≤ w.heap.size := by omega
  have HG0 : Hid (Gath w base 0 [] [] (.slice none 0 0) w) := Lib.hid ⟨World.ownsRow_nil _ _ _ _, Below.refl _ _, by simp, rfl, le0⟩
  clear hv hv' hv'' hn hn' hn'' hR hbase
  go_enter Try.func22, Try.ntmps22
  go_wp2_with (first
    | (at_builtin; refine wpList_append_vs_wide _ rfl (.tmp 10) (.tmp 11) 22 rfl base 28 i0 _ 64 Try.underlying22 hi0 hz0 hz1 hz2 rfl (.slice none 0 0) 0 [] rfl HG0.out.1 0 base A n c a HV.out.2.2.2.1 rfl (HV.out.1.below HG0.out.2.1) (by omega) (by omega) HG0.out.2.2.2.2 ?_; intro v1 w1 qs1 hq1 hpa1 o1 g1; have HG1 := Lib.hid (gath_next HG0.out hq1 hpa1 o1 g1); clear hq1 hpa1 o1 g1 HG0)
    | (at_builtin; refine wpList_append_vs_wide _ rfl (.tmp 13) (.tmp 14) 22 rfl base 28 i0 _ 64 Try.underlying22 hi0 hz0 hz1 hz2 rfl v1 (0 + n) ([] ++ qs1) rfl HG1.out.1 0 base A' n' c' b HV.out.2.2.2.2.1 rfl (HV.out.2.1.below HG1.out.2.1) (by omega) (by omega) HG1.out.2.2.2.2 ?_; intro v2 w2 qs2 hq2 hpa2 o2 g2; have HG2 := Lib.hid (gath_next HG1.out hq2 hpa2 o2 g2); clear hq2 hpa2 o2 g2 HG1)
    | (at_builtin; refine wpList_append_vs_wide _ rfl (.tmp 16) (.tmp 17) 22 rfl base 28 i0 _ 64 Try.underlying22 hi0 hz0 hz1 hz2 rfl v2 (0 + n + n') ([] ++ qs1 ++ qs2) rfl HG2.out.1 0 base A'' n'' c'' d HV.out.2.2.2.2.2.1 rfl (HV.out.2.2.1.below HG2.out.2.1) (by omega) (by omega) HG2.out.2.2.2.2 ?_; intro v3 W qs3 hq3 hpa3 o3 g3; obtain ⟨A3, c3, rfl⟩ := own_form o3; have HGf := Lib.hid (gath_next HG2.out hq3 hpa3 o3 g3); clear hq3 hpa3 o3 g3 HG2))
  have HG3 : Hid (Below base w W ∧ Vs W 0 W.heap.size A3 (a ++ b ++ d) ∧ (a ++ b ++ d).length = 0 + n + n' + n'') := Lib.hid (by
    have hlen : (a ++ b ++ d).length = 0 + n + n' + n'' := by
      have e1 := HV.out.2.2.2.1
      have e2 := HV.out.2.2.2.2.1
      have e3 := HV.out.2.2.2.2.2.1
      simp only [List.length_append]
      omega
    have hmap : ([] ++ qs1 ++ qs2 ++ qs3).map Prod.fst = a ++ b ++ d := by rw [HGf.out.2.2.2.1]; rfl
    have hql : ([] ++ qs1 ++ qs2 ++ qs3).length = 0 + n + n' + n'' := by rw [← hlen, ← hmap, List.length_map]
    refine ⟨HGf.out.2.1, ?_, hlen⟩
    have h := OwnVs.vs (base := base) (L := 0) (B := base) (n := 0 + n + n' + n'') (c := c3) (A := A3) (w := W) (ps := [] ++ qs1 ++ qs2 ++ qs3) ⟨by rw [hql]; exact HGf.out.1, HGf.out.2.2.1⟩ (Nat.zero_le _) HGf.out.2.2.2.2
    rw [hmap] at h
    exact h)
  obtain ⟨N, hN⟩ : ∃ N, n + n' + n'' = N := ⟨_, rfl⟩
  have hNb : N * 64 ≤ 140737488351232 + 65536 := by omega
  have HW : Hid (Below w.heap.size w W) := Lib.hid (by rw [HB.out]; exact HG3.out.1)
  obtain ⟨l, hl⟩ : ∃ l, a ++ b ++ d = l := ⟨_, rfl⟩
  have HX : Hid (Vs W 0 W.heap.size A3 l ∧ l.length = N ∧ decide (plainF l) = R) := Lib.hid (by
    rw [← hl, ← hN]
    exact ⟨HG3.out.2.1, HG3.out.2.2.trans (by omega), HV.out.2.2.2.2.2.2⟩)
  have sW := HW.out.size
  rw [hN]
  clear hl hN HGf HG3 HV HB hi0 hz0 hz1 hz2
  go_wp2_with fail
  go_loopw [8] (fun iv V => ∃ i : Nat, iv = .int .i64 i ∧ i ≤ N ∧ Hid (Okay l i 0) ∧ Below W.heap.size W V) (fun iv _ => N - (intOf iv).toNat)
  case atStart => exact ⟨0, rfl, by omega, Lib.hid ⟨fun p hp => absurd hp (by omega), fun q hq => absurd hq (by omega)⟩, Below.refl _ _⟩
  case round =>
    obtain ⟨i, rfl, hi, ht, hb⟩ := hrel
    have hsz := hb.size
    by_cases hlt : i < N
    · go_wp2_with fail
      go_loopw [9] (fun kv V => ∃ k : Nat, kv = .int .i64 k ∧ k ≤ N ∧ Hid (Okay l i k) ∧ Below W.heap.size W V) (fun kv _ => N - (intOf kv).toNat)
      case atStart => exact ⟨0, rfl, by omega, ht, hb⟩
      case round =>
        obtain ⟨k, rfl, hk, htk, hbk⟩ := hrel
        have hszk := hbk.size
        by_cases hlk : k < N
        · obtain ⟨pb, off, A1, c1, rfl, _, hpB, a0, a1, a2, a3, a4, hpa⟩ := HX.out.1.at HX.out.2.1 hbk hlt rfl
          obtain ⟨p', off', A2, c2, e', _, hpB', a0', a1', a2', a3', a4', hpa'⟩ := HX.out.1.at HX.out.2.1 hbk hlk rfl
          injection e' with e'
          injection e' with e1 e2
          subst e1 e2
          have hma := mem_v (l := l) (k := i) (by have := HX.out.2.1; omega)
          have hmb := mem_v (l := l) (k := k) (by have := HX.out.2.1; omega)
          have hmore : plainP (l.getD i v0) (l.getD k v0) → Okay l i (k + 1) := okay_step htk.out
          have htw : ¬ plainP (l.getD i v0) (l.getD k v0) → R = false := fun h => by
            rw [← HX.out.2.2]
            exact plain_no hma hmb h
          obtain ⟨v, hvv⟩ : ∃ v, l.getD i v0 = v := ⟨_, rfl⟩
          obtain ⟨v', hvv'⟩ : ∃ v, l.getD k v0 = v := ⟨_, rfl⟩
          rw [hvv] at a0 a1 a2 a3 a4 hpa
          rw [hvv'] at a0' a1' a2' a3' a4' hpa'
          rw [hvv, hvv'] at hmore htw
          clear hvv hvv' hma hmb
          obtain ⟨s, vn, vp, vg, vx⟩ := v
          obtain ⟨s', vn', vp', vg', vx'⟩ := v'
          simp only at a0 a1 a2 a3 a4 a0' a1' a2' a3' a4'
          obtain ⟨hps, _, hpb, _, _⟩ := hpa
          obtain ⟨hps', _, hpb', _, _⟩ := hpa'
          simp only at hps hpb hps' hpb'
          obtain ⟨kp, hkp⟩ : ∃ kp, vp.length = kp := ⟨_, rfl⟩
          obtain ⟨kp', hkp'⟩ : ∃ kp, vp'.length = kp := ⟨_, rfl⟩
          rw [hkp] at a2 hpb
          rw [hkp'] at a2' hpb'
          have d1 : (0 : Int) ≤ (k : Int) := by omega
          have d2 : (k : Int) < (N : Int) := by omega
          have d3 : (0 : Int) ≤ (i : Int) := by omega
          have d4 : (i : Int) < (N : Int) := by omega
          have lb : pb < wr.heap.size := by omega
          have hpl : ∀ V, Below wr.heap.size wr V → Ss V V.heap.size A1 vp ∧ Ss V V.heap.size A2 vp' := fun V h => by
            exact ⟨((hps.more hszk).below h).more h.size, ((hps'.more hszk).below h).more h.size⟩
          have g1 := fun V (h : Duo wr pb (off + i * 5) (off + k * 5) s vn A1 kp c1 s' vn' A2 kp' c2 V) => ref_has_any A1 c1 kp vp hkp s' vn' V (hpl V (duo_below h)).1 hpb
          have g2 := fun V (h : Duo wr pb (off + i * 5) (off + k * 5) s vn A1 kp c1 s' vn' A2 kp' c2 V) => ref_within_any A2 A1 c2 c1 kp' kp vp' vp hkp' hkp V (hpl V (duo_below h)).2 (hpl V (duo_below h)).1 hpb' hpb
          have g3 := fun V (h : Duo wr pb (off + i * 5) (off + k * 5) s vn A1 kp c1 s' vn' A2 kp' c2 V) => ref_has_any A2 c2 kp' vp' hkp' s vn V (hpl V (duo_below h)).2 hpb'
          have g4 := fun V (h : Below wr.heap.size wr V) => ref_sameone_any A1 A2 c1 c2 kp kp' s vn s' vn' vp vp' vg vg' vx vx' hkp hkp' V (hpl V h).1 (hpl V h).2 hpb hpb'
          have hst : Duo wr pb (off + i * 5) (off + k * 5) s vn A1 kp c1 s' vn' A2 kp' c2 wr.drew := ⟨a0, a1, a2, a0', a1', a2', (Below.refl _ wr).drew, lb⟩
          have hcells : ∀ V, Below wr.heap.size wr V → V.cell? ⟨pb, off + i * 5 + 3, none⟩ = some (.bool vg) ∧ V.cell? ⟨pb, off + i * 5 + 4, none⟩ = some (.string vx) ∧ V.cell? ⟨pb, off + k * 5 + 3, none⟩ = some (.bool vg') ∧ V.cell? ⟨pb, off + k * 5 + 4, none⟩ = some (.string vx') := fun V h => ⟨cell_below h lb a3, cell_below h lb a4, cell_below h lb a3', cell_below h lb a4'⟩
          obtain ⟨q1, hq1⟩ : ∃ q, hasL vp s' vn' = q := ⟨_, rfl⟩
          obtain ⟨q2, hq2⟩ : ∃ q, withinF vp' vp = q := ⟨_, rfl⟩
          obtain ⟨q3, hq3⟩ : ∃ q, hasL vp' s vn = q := ⟨_, rfl⟩
          obtain ⟨q4, hq4⟩ : ∃ q, decide ((⟨s, vn, vp, vg, vx⟩ : Vr) = ⟨s', vn', vp', vg', vx'⟩) = q := ⟨_, rfl⟩
          rw [hq1] at g1
          rw [hq2] at g2
          rw [hq3] at g3
          rw [hq4] at g4
          have m1 : (mem vp s' vn') ↔ q1 = true := by rw [← hq1, hasL_mem]; simp
          have m3 : (mem vp' s vn) ↔ q3 = true := by rw [← hq3, hasL_mem]; simp
          have m4 : ((⟨s, vn, vp, vg, vx⟩ : Vr) = ⟨s', vn', vp', vg', vx'⟩) ↔ q4 = true := by rw [← hq4]; simp
          have hPP : plainP ⟨s, vn, vp, vg, vx⟩ ⟨s', vn', vp', vg', vx'⟩ ↔ ((q1 = true → q2 = true ∧ ¬ q3 = true) ∧ (s = s' ∧ vn = vn' → q4 = true)) := by
            unfold plainP same
            simp only
            rw [m1, m3, m4, hq2]
          have HN := Lib.hid (show (((q1 = true → q2 = true ∧ ¬ q3 = true) ∧ (s = s' ∧ vn = vn' → q4 = true)) → Okay l i (k + 1)) ∧ (¬ ((q1 = true → q2 = true ∧ ¬ q3 = true) ∧ (s = s' ∧ vn = vn' → q4 = true)) → R = false) from ⟨fun h => hmore (hPP.2 h), fun h => htw fun hh => h (hPP.1 hh)⟩)
          have G1 := Lib.hid g1
          have G2 := Lib.hid g2
          have G3 := Lib.hid g3
          have G4 := Lib.hid g4
          have HC := Lib.hid hcells
          have HBK := Lib.hid hbk
          clear g1 g2 g3 g4 hq1 hq2 hq3 hq4 m1 m3 m4 hPP hmore htw hps hps' hkp hkp' hpl htk hcells hbk a0 a1 a2 a3 a4 a0' a1' a2' a3' a4'
          go_wp2_with fail
          cases q1
          · refine wp_region_held_drew (S := (fun V => V.cell? ⟨pb, off + i * 5, none⟩ = some (.int .i64 s) ∧ V.cell? ⟨pb, off + i * 5 + 1, none⟩ = some (.int .i64 vn) ∧ V.cell? ⟨pb, off + i * 5 + 2, none⟩ = some (.slice A1 kp c1) ∧ V.cell? ⟨pb, off + k * 5, none⟩ = some (.int .i64 s') ∧ V.cell? ⟨pb, off + k * 5 + 1, none⟩ = some (.int .i64 vn') ∧ V.cell? ⟨pb, off + k * 5 + 2, none⟩ = some (.slice A2 kp' c2) ∧ Below wr.heap.size wr V ∧ pb < V.heap.size)) (by kernel_rfl) hst (fun hHeld => ?_)
            refine wpAnyH_take (i := 0) (oi := { dst := some 31, op := Op.move (Operand.tmp 7), type := 22, pos := "law.go:99", after := #[], guard := none }) (v := ?va1) rfl (by kernel_rfl) (by kernel_rfl) (by kernel_rfl) (fun _ _ _ h => h) (Or.inl ⟨by rfl, ?hya1⟩) (by assumption) ?resta1
            case hya1 =>
              intro w hSw
              (try dsimp only at hSw)
              go_simp
              (try with_reducible rfl)
            (try simp only [Act.put, List.setIfInBounds_toArray, List.set_cons_zero, List.set_cons_succ])
            refine wpAnyH_take (i := 1) (oi := { dst := some 32, op := Op.move (Operand.tmp 8), type := 3, pos := "law.go:99", after := #[], guard := none }) (v := ?va2) rfl (by kernel_rfl) (by kernel_rfl) (by kernel_rfl) (fun _ _ _ h => h) (Or.inl ⟨by rfl, ?hya2⟩) (by assumption) ?resta2
            case hya2 =>
              intro w hSw
              (try dsimp only at hSw)
              go_simp
              (try with_reducible rfl)
            (try simp only [Act.put, List.setIfInBounds_toArray, List.set_cons_zero, List.set_cons_succ])
            refine wpAnyH_take (i := 2) (oi := { dst := some 33, op := Op.indexAddr 22 (Operand.tmp 31) (Operand.tmp 32), type := 0, pos := "law.go:99", after := #[{ on := 0, ground := Ground.data }, { on := 1, ground := Ground.data }], guard := none }) (v := ?va3) rfl (by kernel_rfl) (by kernel_rfl) (by kernel_rfl) (fun _ _ _ h => h) (Or.inl ⟨by rfl, ?hya3⟩) (by assumption) ?resta3
            case hya3 =>
              intro w hSw
              (try dsimp only at hSw)
              go_simp
              (try with_reducible rfl)
            (try simp only [Act.put, List.setIfInBounds_toArray, List.set_cons_zero, List.set_cons_succ])
            refine wpAnyH_take (i := 3) (oi := { dst := some 34, op := Op.fieldAddr 28 (Operand.tmp 33) 1, type := 0, pos := "law.go:99", after := #[{ on := 2, ground := Ground.data }], guard := none }) (v := ?va4) rfl (by kernel_rfl) (by kernel_rfl) (by kernel_rfl) (fun _ _ _ h => h) (Or.inl ⟨by rfl, ?hya4⟩) (by assumption) ?resta4
            case hya4 =>
              intro w hSw
              (try dsimp only at hSw)
              go_simp
              (try with_reducible rfl)
            (try simp only [Act.put, List.setIfInBounds_toArray, List.set_cons_zero, List.set_cons_succ])
            refine wpAnyH_take (i := 4) (oi := { dst := some 35, op := Op.load 26 (Operand.tmp 34), type := 26, pos := "law.go:99", after := #[{ on := 3, ground := Ground.data }], guard := none }) (v := ?va5) rfl (by kernel_rfl) (by kernel_rfl) (by kernel_rfl) (fun _ _ _ h => h) (Or.inl ⟨by rfl, ?hya5⟩) (by assumption) ?resta5
            case hya5 =>
              intro w hSw
              (try dsimp only at hSw)
              go_simp
              (try with_reducible rfl)
            (try simp only [Act.put, List.setIfInBounds_toArray, List.set_cons_zero, List.set_cons_succ])
            refine wpAnyH_take (i := 5) (oi := { dst := some 36, op := Op.move (Operand.tmp 7), type := 22, pos := "law.go:99", after := #[], guard := none }) (v := ?va6) rfl (by kernel_rfl) (by kernel_rfl) (by kernel_rfl) (fun _ _ _ h => h) (Or.inl ⟨by rfl, ?hya6⟩) (by assumption) ?resta6
            case hya6 =>
              intro w hSw
              (try dsimp only at hSw)
              go_simp
              (try with_reducible rfl)
            (try simp only [Act.put, List.setIfInBounds_toArray, List.set_cons_zero, List.set_cons_succ])
            refine wpAnyH_take (i := 6) (oi := { dst := some 37, op := Op.move (Operand.tmp 9), type := 3, pos := "law.go:99", after := #[], guard := none }) (v := ?va7) rfl (by kernel_rfl) (by kernel_rfl) (by kernel_rfl) (fun _ _ _ h => h) (Or.inl ⟨by rfl, ?hya7⟩) (by assumption) ?resta7
            case hya7 =>
              intro w hSw
              (try dsimp only at hSw)
              go_simp
              (try with_reducible rfl)
            (try simp only [Act.put, List.setIfInBounds_toArray, List.set_cons_zero, List.set_cons_succ])
            refine wpAnyH_take (i := 7) (oi := { dst := some 38, op := Op.indexAddr 22 (Operand.tmp 36) (Operand.tmp 37), type := 0, pos := "law.go:99", after := #[{ on := 5, ground := Ground.data }, { on := 6, ground := Ground.data }], guard := none }) (v := ?va8) rfl (by kernel_rfl) (by kernel_rfl) (by kernel_rfl) (fun _ _ _ h => h) (Or.inl ⟨by rfl, ?hya8⟩) (by assumption) ?resta8
            case hya8 =>
              intro w hSw
              (try dsimp only at hSw)
              go_simp
              (try with_reducible rfl)
            (try simp only [Act.put, List.setIfInBounds_toArray, List.set_cons_zero, List.set_cons_succ])
            refine wpAnyH_take (i := 8) (oi := { dst := some 39, op := Op.fieldAddr 28 (Operand.tmp 38) 0, type := 0, pos := "law.go:99", after := #[{ on := 7, ground := Ground.data }], guard := none }) (v := ?va9) rfl (by kernel_rfl) (by kernel_rfl) (by kernel_rfl) (fun _ _ _ h => h) (Or.inl ⟨by rfl, ?hya9⟩) (by assumption) ?resta9
            case hya9 =>
              intro w hSw
              (try dsimp only at hSw)
              go_simp
              (try with_reducible rfl)
            (try simp only [Act.put, List.setIfInBounds_toArray, List.set_cons_zero, List.set_cons_succ])
            refine wpAnyH_take (i := 9) (oi := { dst := some 40, op := Op.load 25 (Operand.tmp 39), type := 25, pos := "law.go:99", after := #[{ on := 8, ground := Ground.data }], guard := none }) (v := ?va10) rfl (by kernel_rfl) (by kernel_rfl) (by kernel_rfl) (fun _ _ _ h => h) (Or.inl ⟨by rfl, ?hya10⟩) (by assumption) ?resta10
            case hya10 =>
              intro w hSw
              (try dsimp only at hSw)
              go_simp
              (try with_reducible rfl)
            (try simp only [Act.put, List.setIfInBounds_toArray, List.set_cons_zero, List.set_cons_succ])
            refine wpAnyH_ready (rs := [10]) (by kernel_rfl) (by simp) ?_
            refine AllReadyH.cons (o := { dst := some 41, op := Op.call { callee := Callee.value (Operand.func 44), args := #[Operand.tmp 35, Operand.tmp 40], argTypes := #[26, 25] }, type := 4, pos := "law.go:99", after := #[{ on := 4, ground := Ground.data }, { on := 9, ground := Ground.data }], guard := none }) rfl (fun K hK => ?_) AllReadyH.nil
            go_simp
            (go_at_call 44; refine (G1.out _ (by exact hHeld)).mono ?_; rintro e w1 ⟨rfl, b1⟩)
            go_wp2_with fail
            refine hK.out _ _ (duo_keep hHeld b1) (fun hHeld => ?_)
            clear hK K
            (try simp only [Act.put, List.setIfInBounds_toArray, List.set_cons_zero, List.set_cons_succ])
            refine wpAnyH_take (i := 11) (oi := { dst := some 42, op := Op.move (Operand.tmp 41), type := 4, pos := "law.go:99", after := #[{ on := 10, ground := Ground.data }, { on := 10, ground := Ground.chain }], guard := none }) (v := ?va11) rfl (by kernel_rfl) (by kernel_rfl) (by kernel_rfl) (fun _ _ _ h => h) (Or.inl ⟨by rfl, ?hya11⟩) (by assumption) ?resta11
            case hya11 =>
              intro w hSw
              (try dsimp only at hSw)
              go_simp
              (try with_reducible rfl)
            (try simp only [Act.put, List.setIfInBounds_toArray, List.set_cons_zero, List.set_cons_succ])
            refine wpAnyH_take (i := 12) (oi := { dst := some 43, op := Op.move (Operand.tmp 7), type := 22, pos := "law.go:99", after := #[{ on := 11, ground := Ground.guard }], guard := some (11, true) }) (v := undef) rfl (by kernel_rfl) (by kernel_rfl) (by kernel_rfl) (fun _ _ _ h => h) (Or.inr ⟨by rfl, rfl⟩) (by assumption) ?_
            (try simp only [Act.put, List.setIfInBounds_toArray, List.set_cons_zero, List.set_cons_succ])
            refine wpAnyH_take (i := 13) (oi := { dst := some 44, op := Op.move (Operand.tmp 9), type := 3, pos := "law.go:99", after := #[{ on := 11, ground := Ground.guard }], guard := some (11, true) }) (v := undef) rfl (by kernel_rfl) (by kernel_rfl) (by kernel_rfl) (fun _ _ _ h => h) (Or.inr ⟨by rfl, rfl⟩) (by assumption) ?_
            (try simp only [Act.put, List.setIfInBounds_toArray, List.set_cons_zero, List.set_cons_succ])
            refine wpAnyH_take (i := 14) (oi := { dst := some 45, op := Op.indexAddr 22 (Operand.tmp 43) (Operand.tmp 44), type := 0, pos := "law.go:99", after := #[{ on := 12, ground := Ground.data }, { on := 13, ground := Ground.data }, { on := 11, ground := Ground.guard }], guard := some (11, true) }) (v := undef) rfl (by kernel_rfl) (by kernel_rfl) (by kernel_rfl) (fun _ _ _ h => h) (Or.inr ⟨by rfl, rfl⟩) (by assumption) ?_
            (try simp only [Act.put, List.setIfInBounds_toArray, List.set_cons_zero, List.set_cons_succ])
            refine wpAnyH_take (i := 15) (oi := { dst := some 46, op := Op.fieldAddr 28 (Operand.tmp 45) 1, type := 0, pos := "law.go:99", after := #[{ on := 14, ground := Ground.data }, { on := 11, ground := Ground.guard }], guard := some (11, true) }) (v := undef) rfl (by kernel_rfl) (by kernel_rfl) (by kernel_rfl) (fun _ _ _ h => h) (Or.inr ⟨by rfl, rfl⟩) (by assumption) ?_
            (try simp only [Act.put, List.setIfInBounds_toArray, List.set_cons_zero, List.set_cons_succ])
            refine wpAnyH_take (i := 16) (oi := { dst := some 47, op := Op.load 26 (Operand.tmp 46), type := 26, pos := "law.go:99", after := #[{ on := 15, ground := Ground.data }, { on := 11, ground := Ground.guard }], guard := some (11, true) }) (v := undef) rfl (by kernel_rfl) (by kernel_rfl) (by kernel_rfl) (fun _ _ _ h => h) (Or.inr ⟨by rfl, rfl⟩) (by assumption) ?_
            (try simp only [Act.put, List.setIfInBounds_toArray, List.set_cons_zero, List.set_cons_succ])
            refine wpAnyH_take (i := 17) (oi := { dst := some 48, op := Op.move (Operand.tmp 7), type := 22, pos := "law.go:99", after := #[{ on := 11, ground := Ground.guard }], guard := some (11, true) }) (v := undef) rfl (by kernel_rfl) (by kernel_rfl) (by kernel_rfl) (fun _ _ _ h => h) (Or.inr ⟨by rfl, rfl⟩) (by assumption) ?_
            (try simp only [Act.put, List.setIfInBounds_toArray, List.set_cons_zero, List.set_cons_succ])
            refine wpAnyH_take (i := 18) (oi := { dst := some 49, op := Op.move (Operand.tmp 8), type := 3, pos := "law.go:99", after := #[{ on := 11, ground := Ground.guard }], guard := some (11, true) }) (v := undef) rfl (by kernel_rfl) (by kernel_rfl) (by kernel_rfl) (fun _ _ _ h => h) (Or.inr ⟨by rfl, rfl⟩) (by assumption) ?_
            (try simp only [Act.put, List.setIfInBounds_toArray, List.set_cons_zero, List.set_cons_succ])
            refine wpAnyH_take (i := 19) (oi := { dst := some 50, op := Op.indexAddr 22 (Operand.tmp 48) (Operand.tmp 49), type := 0, pos := "law.go:99", after := #[{ on := 17, ground := Ground.data }, { on := 18, ground := Ground.data }, { on := 11, ground := Ground.guard }], guard := some (11, true) }) (v := undef) rfl (by kernel_rfl) (by kernel_rfl) (by kernel_rfl) (fun _ _ _ h => h) (Or.inr ⟨by rfl, rfl⟩) (by assumption) ?_
            (try simp only [Act.put, List.setIfInBounds_toArray, List.set_cons_zero, List.set_cons_succ])
            refine wpAnyH_take (i := 20) (oi := { dst := some 51, op := Op.fieldAddr 28 (Operand.tmp 50) 1, type := 0, pos := "law.go:99", after := #[{ on := 19, ground := Ground.data }, { on := 11, ground := Ground.guard }], guard := some (11, true) }) (v := undef) rfl (by kernel_rfl) (by kernel_rfl) (by kernel_rfl) (fun _ _ _ h => h) (Or.inr ⟨by rfl, rfl⟩) (by assumption) ?_
            (try simp only [Act.put, List.setIfInBounds_toArray, List.set_cons_zero, List.set_cons_succ])
            refine wpAnyH_take (i := 21) (oi := { dst := some 52, op := Op.load 26 (Operand.tmp 51), type := 26, pos := "law.go:99", after := #[{ on := 20, ground := Ground.data }, { on := 11, ground := Ground.guard }], guard := some (11, true) }) (v := undef) rfl (by kernel_rfl) (by kernel_rfl) (by kernel_rfl) (fun _ _ _ h => h) (Or.inr ⟨by rfl, rfl⟩) (by assumption) ?_
            (try simp only [Act.put, List.setIfInBounds_toArray, List.set_cons_zero, List.set_cons_succ])
            refine wpAnyH_take (i := 22) (oi := { dst := some 53, op := Op.call { callee := Callee.value (Operand.func 45), args := #[Operand.tmp 47, Operand.tmp 52], argTypes := #[26, 26] }, type := 4, pos := "law.go:99", after := #[{ on := 16, ground := Ground.data }, { on := 21, ground := Ground.data }, { on := 11, ground := Ground.chain }, { on := 11, ground := Ground.guard }], guard := some (11, true) }) (v := undef) rfl (by kernel_rfl) (by kernel_rfl) (by kernel_rfl) (fun _ _ _ h => h) (Or.inr ⟨by rfl, rfl⟩) (by assumption) ?_
            (try simp only [Act.put, List.setIfInBounds_toArray, List.set_cons_zero, List.set_cons_succ])
            refine wpAnyH_take (i := 23) (oi := { dst := some 54, op := Op.unOp UnOp.not 4 (Operand.tmp 53), type := 4, pos := "law.go:99", after := #[{ on := 22, ground := Ground.data }, { on := 11, ground := Ground.guard }], guard := some (11, true) }) (v := undef) rfl (by kernel_rfl) (by kernel_rfl) (by kernel_rfl) (fun _ _ _ h => h) (Or.inr ⟨by rfl, rfl⟩) (by assumption) ?_
            (try simp only [Act.put, List.setIfInBounds_toArray, List.set_cons_zero, List.set_cons_succ])
            refine wpAnyH_take (i := 24) (oi := { dst := some 55, op := Op.move (Operand.tmp 54), type := 4, pos := "law.go:99", after := #[{ on := 23, ground := Ground.data }, { on := 22, ground := Ground.chain }, { on := 11, ground := Ground.guard }], guard := some (11, true) }) (v := undef) rfl (by kernel_rfl) (by kernel_rfl) (by kernel_rfl) (fun _ _ _ h => h) (Or.inr ⟨by rfl, rfl⟩) (by assumption) ?_
            (try simp only [Act.put, List.setIfInBounds_toArray, List.set_cons_zero, List.set_cons_succ])
            refine wpAnyH_take (i := 25) (oi := { dst := some 56, op := Op.move (Operand.tmp 7), type := 22, pos := "law.go:99", after := #[{ on := 24, ground := Ground.guard }], guard := some (24, false) }) (v := undef) rfl (by kernel_rfl) (by kernel_rfl) (by kernel_rfl) (fun _ _ _ h => h) (Or.inr ⟨by rfl, rfl⟩) (by assumption) ?_
            (try simp only [Act.put, List.setIfInBounds_toArray, List.set_cons_zero, List.set_cons_succ])
            refine wpAnyH_take (i := 26) (oi := { dst := some 57, op := Op.move (Operand.tmp 9), type := 3, pos := "law.go:99", after := #[{ on := 24, ground := Ground.guard }], guard := some (24, false) }) (v := undef) rfl (by kernel_rfl) (by kernel_rfl) (by kernel_rfl) (fun _ _ _ h => h) (Or.inr ⟨by rfl, rfl⟩) (by assumption) ?_
            (try simp only [Act.put, List.setIfInBounds_toArray, List.set_cons_zero, List.set_cons_succ])
            refine wpAnyH_take (i := 27) (oi := { dst := some 58, op := Op.indexAddr 22 (Operand.tmp 56) (Operand.tmp 57), type := 0, pos := "law.go:99", after := #[{ on := 25, ground := Ground.data }, { on := 26, ground := Ground.data }, { on := 24, ground := Ground.guard }], guard := some (24, false) }) (v := undef) rfl (by kernel_rfl) (by kernel_rfl) (by kernel_rfl) (fun _ _ _ h => h) (Or.inr ⟨by rfl, rfl⟩) (by assumption) ?_
            (try simp only [Act.put, List.setIfInBounds_toArray, List.set_cons_zero, List.set_cons_succ])
            refine wpAnyH_take (i := 28) (oi := { dst := some 59, op := Op.fieldAddr 28 (Operand.tmp 58) 1, type := 0, pos := "law.go:99", after := #[{ on := 27, ground := Ground.data }, { on := 24, ground := Ground.guard }], guard := some (24, false) }) (v := undef) rfl (by kernel_rfl) (by kernel_rfl) (by kernel_rfl) (fun _ _ _ h => h) (Or.inr ⟨by rfl, rfl⟩) (by assumption) ?_
            (try simp only [Act.put, List.setIfInBounds_toArray, List.set_cons_zero, List.set_cons_succ])
            refine wpAnyH_take (i := 29) (oi := { dst := some 60, op := Op.load 26 (Operand.tmp 59), type := 26, pos := "law.go:99", after := #[{ on := 28, ground := Ground.data }, { on := 24, ground := Ground.guard }], guard := some (24, false) }) (v := undef) rfl (by kernel_rfl) (by kernel_rfl) (by kernel_rfl) (fun _ _ _ h => h) (Or.inr ⟨by rfl, rfl⟩) (by assumption) ?_
            (try simp only [Act.put, List.setIfInBounds_toArray, List.set_cons_zero, List.set_cons_succ])
            refine wpAnyH_take (i := 30) (oi := { dst := some 61, op := Op.move (Operand.tmp 7), type := 22, pos := "law.go:99", after := #[{ on := 24, ground := Ground.guard }], guard := some (24, false) }) (v := undef) rfl (by kernel_rfl) (by kernel_rfl) (by kernel_rfl) (fun _ _ _ h => h) (Or.inr ⟨by rfl, rfl⟩) (by assumption) ?_
            (try simp only [Act.put, List.setIfInBounds_toArray, List.set_cons_zero, List.set_cons_succ])
            refine wpAnyH_take (i := 31) (oi := { dst := some 62, op := Op.move (Operand.tmp 8), type := 3, pos := "law.go:99", after := #[{ on := 24, ground := Ground.guard }], guard := some (24, false) }) (v := undef) rfl (by kernel_rfl) (by kernel_rfl) (by kernel_rfl) (fun _ _ _ h => h) (Or.inr ⟨by rfl, rfl⟩) (by assumption) ?_
            (try simp only [Act.put, List.setIfInBounds_toArray, List.set_cons_zero, List.set_cons_succ])
            refine wpAnyH_take (i := 32) (oi := { dst := some 63, op := Op.indexAddr 22 (Operand.tmp 61) (Operand.tmp 62), type := 0, pos := "law.go:99", after := #[{ on := 30, ground := Ground.data }, { on := 31, ground := Ground.data }, { on := 24, ground := Ground.guard }], guard := some (24, false) }) (v := undef) rfl (by kernel_rfl) (by kernel_rfl) (by kernel_rfl) (fun _ _ _ h => h) (Or.inr ⟨by rfl, rfl⟩) (by assumption) ?_
            (try simp only [Act.put, List.setIfInBounds_toArray, List.set_cons_zero, List.set_cons_succ])
            refine wpAnyH_take (i := 33) (oi := { dst := some 64, op := Op.fieldAddr 28 (Operand.tmp 63) 0, type := 0, pos := "law.go:99", after := #[{ on := 32, ground := Ground.data }, { on := 24, ground := Ground.guard }], guard := some (24, false) }) (v := undef) rfl (by kernel_rfl) (by kernel_rfl) (by kernel_rfl) (fun _ _ _ h => h) (Or.inr ⟨by rfl, rfl⟩) (by assumption) ?_
            (try simp only [Act.put, List.setIfInBounds_toArray, List.set_cons_zero, List.set_cons_succ])
            refine wpAnyH_take (i := 34) (oi := { dst := some 65, op := Op.load 25 (Operand.tmp 64), type := 25, pos := "law.go:99", after := #[{ on := 33, ground := Ground.data }, { on := 24, ground := Ground.guard }], guard := some (24, false) }) (v := undef) rfl (by kernel_rfl) (by kernel_rfl) (by kernel_rfl) (fun _ _ _ h => h) (Or.inr ⟨by rfl, rfl⟩) (by assumption) ?_
            (try simp only [Act.put, List.setIfInBounds_toArray, List.set_cons_zero, List.set_cons_succ])
            refine wpAnyH_take (i := 35) (oi := { dst := some 66, op := Op.call { callee := Callee.value (Operand.func 44), args := #[Operand.tmp 60, Operand.tmp 65], argTypes := #[26, 25] }, type := 4, pos := "law.go:99", after := #[{ on := 29, ground := Ground.data }, { on := 34, ground := Ground.data }, { on := 24, ground := Ground.chain }, { on := 24, ground := Ground.guard }], guard := some (24, false) }) (v := undef) rfl (by kernel_rfl) (by kernel_rfl) (by kernel_rfl) (fun _ _ _ h => h) (Or.inr ⟨by rfl, rfl⟩) (by assumption) ?_
            (try simp only [Act.put, List.setIfInBounds_toArray, List.set_cons_zero, List.set_cons_succ])
            refine wpAnyH_take (i := 36) (oi := { dst := some 67, op := Op.pick (Operand.tmp 55) (Operand.const (Value.bool true)) (Operand.tmp 66), type := 4, pos := "law.go:99", after := #[{ on := 24, ground := Ground.data }, { on := 35, ground := Ground.data }, { on := 11, ground := Ground.guard }], guard := some (11, true) }) (v := undef) rfl (by kernel_rfl) (by kernel_rfl) (by kernel_rfl) (fun _ _ _ h => h) (Or.inr ⟨by rfl, rfl⟩) (by assumption) ?_
            (try simp only [Act.put, List.setIfInBounds_toArray, List.set_cons_zero, List.set_cons_succ])
            refine wpAnyH_take (i := 37) (oi := { dst := some 68, op := Op.pick (Operand.tmp 42) (Operand.tmp 67) (Operand.const (Value.bool false)), type := 4, pos := "law.go:99", after := #[{ on := 11, ground := Ground.data }, { on := 36, ground := Ground.data }], guard := none }) (v := ?va37) rfl (by kernel_rfl) (by kernel_rfl) (by kernel_rfl) (fun _ _ _ h => h) (Or.inl ⟨by rfl, ?hya37⟩) (by assumption) ?resta37
            case hya37 =>
              intro w hSw
              (try dsimp only at hSw)
              go_simp
              (try with_reducible rfl)
            (try simp only [Act.put, List.setIfInBounds_toArray, List.set_cons_zero, List.set_cons_succ])
            refine wpAnyH_done (by kernel_rfl) ?_ _
            have hF : Duo wr pb (off + i * 5) (off + k * 5) s vn A1 kp c1 s' vn' A2 kp' c2 w1 := hHeld
            have HQ : Hid (false = true → q2 = true ∧ ¬ q3 = true) := Lib.hid fun h => by cases h
            have BX : Below wr.heap.size wr w1 := (Below.refl _ wr).drew.trans (b1.mono (by exact Nat.le_refl _))
            clear hHeld G1 G2 G3 b1
            obtain ⟨c3', c4', c3'', c4''⟩ := HC.out _ BX
            obtain ⟨f0, f1, f2, f0', f1', f2', fb, fl⟩ := hF
            clear BX
            by_cases cd : s = s' ∧ vn = vn'
            · have HN2 := Lib.hid (show (q4 = true → Okay l i (k + 1)) ∧ (q4 = false → R = false) from ⟨fun h => HN.out.1 ⟨by first | exact HQ.out | simp, fun _ => h⟩, fun h => HN.out.2 fun hh => by rw [hh.2 cd] at h; cases h⟩)
              obtain ⟨rfl, rfl⟩ := cd
              have H4 := Lib.hid (G4.out w1.drew fb.drew)
              clear HN
              go_wp2_with fail
              go_region_held3 (fun V => V.cell? ⟨pb, off + i * 5, none⟩ = some (.int .i64 s) ∧ V.cell? ⟨pb, off + i * 5 + 1, none⟩ = some (.int .i64 vn) ∧ V.cell? ⟨pb, off + i * 5 + 2, none⟩ = some (.slice A1 kp c1) ∧ V.cell? ⟨pb, off + i * 5 + 3, none⟩ = some (.bool vg) ∧ V.cell? ⟨pb, off + i * 5 + 4, none⟩ = some (.string vx) ∧
                  V.cell? ⟨pb, off + k * 5, none⟩ = some (.int .i64 s) ∧ V.cell? ⟨pb, off + k * 5 + 1, none⟩ = some (.int .i64 vn) ∧ V.cell? ⟨pb, off + k * 5 + 2, none⟩ = some (.slice A2 kp' c2) ∧ V.cell? ⟨pb, off + k * 5 + 3, none⟩ = some (.bool vg') ∧ V.cell? ⟨pb, off + k * 5 + 4, none⟩ = some (.string vx'))
                (first | exact ⟨f0, f1, f2, c3', c4', f0', f1', f2', c3'', c4''⟩ | exact ⟨cell_below b9 fl f0, cell_below b9 fl f1, cell_below b9 fl f2, cell_below b9 fl c3', cell_below b9 fl c4', cell_below b9 fl f0', cell_below b9 fl f1', cell_below b9 fl f2', cell_below b9 fl c3'', cell_below b9 fl c4''⟩)
                (first | (go_at_call 39; refine H4.out.mono ?_; rintro e w9 ⟨rfl, b9⟩))
              have BE : Hid (Below W.heap.size W w9) := Lib.hid (HBK.out.trans ((fb.drew.trans (Below.mono b9 (by exact fb.size))).mono hszk))
              clear b9 H4
              cases q4
              · have HF := Lib.hid (HN2.out.2 rfl)
                have BF := Lib.hid (HW.out.trans (BE.out.mono sW))
                clear HN2
                go_wp2_with fail
                go_ret
                exact ⟨by rw [HF.out]; rfl, BF.out⟩
              · have HF := Lib.hid (HN2.out.1 rfl)
                clear HN2
                go_wp2_with fail
                exact ⟨⟨k + 1, rfl, by omega, HF, BE.out⟩, by simp only [intOf]; omega⟩
            · have HF := Lib.hid (HN.out.1 ⟨by first | exact HQ.out | simp, fun h => absurd h cd⟩)
              have hx : ¬ (s = s') ∨ (s = s' ∧ ¬ vn = vn') := by
                by_cases h1 : s = s'
                · exact .inr ⟨h1, fun h2 => cd ⟨h1, h2⟩⟩
                · exact .inl h1
              have BQ : Hid (∀ j, Below W.heap.size W (w1.drewN j)) := Lib.hid fun j => HBK.out.trans ((fb.trans (below_drewN _ _ _)).mono hszk)
              clear cd HN HQ HC G4
              rcases hx with h1 | ⟨rfl, h1⟩
              · have g1 : (s == s') = false := by simpa using h1
                clear h1
                go_wp2_with fail
                go_quiet (fail)
                go_wp2_with fail
                exact ⟨⟨k + 1, rfl, by omega, HF, BQ.out _⟩, by simp only [intOf]; omega⟩
              · have g1 : (vn == vn') = false := by simpa using h1
                have g2 : (s == s) = true := by simp
                clear h1
                go_wp2_with fail
                go_quiet (fail)
                go_wp2_with fail
                exact ⟨⟨k + 1, rfl, by omega, HF, BQ.out _⟩, by simp only [intOf]; omega⟩
          cases q2
          · refine wp_region_held_drew (S := (fun V => V.cell? ⟨pb, off + i * 5, none⟩ = some (.int .i64 s) ∧ V.cell? ⟨pb, off + i * 5 + 1, none⟩ = some (.int .i64 vn) ∧ V.cell? ⟨pb, off + i * 5 + 2, none⟩ = some (.slice A1 kp c1) ∧ V.cell? ⟨pb, off + k * 5, none⟩ = some (.int .i64 s') ∧ V.cell? ⟨pb, off + k * 5 + 1, none⟩ = some (.int .i64 vn') ∧ V.cell? ⟨pb, off + k * 5 + 2, none⟩ = some (.slice A2 kp' c2) ∧ Below wr.heap.size wr V ∧ pb < V.heap.size)) (by kernel_rfl) hst (fun hHeld => ?_)
            refine wpAnyH_take (i := 0) (oi := { dst := some 31, op := Op.move (Operand.tmp 7), type := 22, pos := "law.go:99", after := #[], guard := none }) (v := ?vb1) rfl (by kernel_rfl) (by kernel_rfl) (by kernel_rfl) (fun _ _ _ h => h) (Or.inl ⟨by rfl, ?hyb1⟩) (by assumption) ?restb1
            case hyb1 =>
              intro w hSw
              (try dsimp only at hSw)
              go_simp
              (try with_reducible rfl)
            (try simp only [Act.put, List.setIfInBounds_toArray, List.set_cons_zero, List.set_cons_succ])
            refine wpAnyH_take (i := 1) (oi := { dst := some 32, op := Op.move (Operand.tmp 8), type := 3, pos := "law.go:99", after := #[], guard := none }) (v := ?vb2) rfl (by kernel_rfl) (by kernel_rfl) (by kernel_rfl) (fun _ _ _ h => h) (Or.inl ⟨by rfl, ?hyb2⟩) (by assumption) ?restb2
            case hyb2 =>
              intro w hSw
              (try dsimp only at hSw)
              go_simp
              (try with_reducible rfl)
            (try simp only [Act.put, List.setIfInBounds_toArray, List.set_cons_zero, List.set_cons_succ])
            refine wpAnyH_take (i := 2) (oi := { dst := some 33, op := Op.indexAddr 22 (Operand.tmp 31) (Operand.tmp 32), type := 0, pos := "law.go:99", after := #[{ on := 0, ground := Ground.data }, { on := 1, ground := Ground.data }], guard := none }) (v := ?vb3) rfl (by kernel_rfl) (by kernel_rfl) (by kernel_rfl) (fun _ _ _ h => h) (Or.inl ⟨by rfl, ?hyb3⟩) (by assumption) ?restb3
            case hyb3 =>
              intro w hSw
              (try dsimp only at hSw)
              go_simp
              (try with_reducible rfl)
            (try simp only [Act.put, List.setIfInBounds_toArray, List.set_cons_zero, List.set_cons_succ])
            refine wpAnyH_take (i := 3) (oi := { dst := some 34, op := Op.fieldAddr 28 (Operand.tmp 33) 1, type := 0, pos := "law.go:99", after := #[{ on := 2, ground := Ground.data }], guard := none }) (v := ?vb4) rfl (by kernel_rfl) (by kernel_rfl) (by kernel_rfl) (fun _ _ _ h => h) (Or.inl ⟨by rfl, ?hyb4⟩) (by assumption) ?restb4
            case hyb4 =>
              intro w hSw
              (try dsimp only at hSw)
              go_simp
              (try with_reducible rfl)
            (try simp only [Act.put, List.setIfInBounds_toArray, List.set_cons_zero, List.set_cons_succ])
            refine wpAnyH_take (i := 4) (oi := { dst := some 35, op := Op.load 26 (Operand.tmp 34), type := 26, pos := "law.go:99", after := #[{ on := 3, ground := Ground.data }], guard := none }) (v := ?vb5) rfl (by kernel_rfl) (by kernel_rfl) (by kernel_rfl) (fun _ _ _ h => h) (Or.inl ⟨by rfl, ?hyb5⟩) (by assumption) ?restb5
            case hyb5 =>
              intro w hSw
              (try dsimp only at hSw)
              go_simp
              (try with_reducible rfl)
            (try simp only [Act.put, List.setIfInBounds_toArray, List.set_cons_zero, List.set_cons_succ])
            refine wpAnyH_take (i := 5) (oi := { dst := some 36, op := Op.move (Operand.tmp 7), type := 22, pos := "law.go:99", after := #[], guard := none }) (v := ?vb6) rfl (by kernel_rfl) (by kernel_rfl) (by kernel_rfl) (fun _ _ _ h => h) (Or.inl ⟨by rfl, ?hyb6⟩) (by assumption) ?restb6
            case hyb6 =>
              intro w hSw
              (try dsimp only at hSw)
              go_simp
              (try with_reducible rfl)
            (try simp only [Act.put, List.setIfInBounds_toArray, List.set_cons_zero, List.set_cons_succ])
            refine wpAnyH_take (i := 6) (oi := { dst := some 37, op := Op.move (Operand.tmp 9), type := 3, pos := "law.go:99", after := #[], guard := none }) (v := ?vb7) rfl (by kernel_rfl) (by kernel_rfl) (by kernel_rfl) (fun _ _ _ h => h) (Or.inl ⟨by rfl, ?hyb7⟩) (by assumption) ?restb7
            case hyb7 =>
              intro w hSw
              (try dsimp only at hSw)
              go_simp
              (try with_reducible rfl)
            (try simp only [Act.put, List.setIfInBounds_toArray, List.set_cons_zero, List.set_cons_succ])
            refine wpAnyH_take (i := 7) (oi := { dst := some 38, op := Op.indexAddr 22 (Operand.tmp 36) (Operand.tmp 37), type := 0, pos := "law.go:99", after := #[{ on := 5, ground := Ground.data }, { on := 6, ground := Ground.data }], guard := none }) (v := ?vb8) rfl (by kernel_rfl) (by kernel_rfl) (by kernel_rfl) (fun _ _ _ h => h) (Or.inl ⟨by rfl, ?hyb8⟩) (by assumption) ?restb8
            case hyb8 =>
              intro w hSw
              (try dsimp only at hSw)
              go_simp
              (try with_reducible rfl)
            (try simp only [Act.put, List.setIfInBounds_toArray, List.set_cons_zero, List.set_cons_succ])
            refine wpAnyH_take (i := 8) (oi := { dst := some 39, op := Op.fieldAddr 28 (Operand.tmp 38) 0, type := 0, pos := "law.go:99", after := #[{ on := 7, ground := Ground.data }], guard := none }) (v := ?vb9) rfl (by kernel_rfl) (by kernel_rfl) (by kernel_rfl) (fun _ _ _ h => h) (Or.inl ⟨by rfl, ?hyb9⟩) (by assumption) ?restb9
            case hyb9 =>
              intro w hSw
              (try dsimp only at hSw)
              go_simp
              (try with_reducible rfl)
            (try simp only [Act.put, List.setIfInBounds_toArray, List.set_cons_zero, List.set_cons_succ])
            refine wpAnyH_take (i := 9) (oi := { dst := some 40, op := Op.load 25 (Operand.tmp 39), type := 25, pos := "law.go:99", after := #[{ on := 8, ground := Ground.data }], guard := none }) (v := ?vb10) rfl (by kernel_rfl) (by kernel_rfl) (by kernel_rfl) (fun _ _ _ h => h) (Or.inl ⟨by rfl, ?hyb10⟩) (by assumption) ?restb10
            case hyb10 =>
              intro w hSw
              (try dsimp only at hSw)
              go_simp
              (try with_reducible rfl)
            (try simp only [Act.put, List.setIfInBounds_toArray, List.set_cons_zero, List.set_cons_succ])
            refine wpAnyH_ready (rs := [10]) (by kernel_rfl) (by simp) ?_
            refine AllReadyH.cons (o := { dst := some 41, op := Op.call { callee := Callee.value (Operand.func 44), args := #[Operand.tmp 35, Operand.tmp 40], argTypes := #[26, 25] }, type := 4, pos := "law.go:99", after := #[{ on := 4, ground := Ground.data }, { on := 9, ground := Ground.data }], guard := none }) rfl (fun K hK => ?_) AllReadyH.nil
            go_simp
            (go_at_call 44; refine (G1.out _ (by exact hHeld)).mono ?_; rintro e w1 ⟨rfl, b1⟩)
            go_wp2_with fail
            refine hK.out _ _ (duo_keep hHeld b1) (fun hHeld => ?_)
            clear hK K
            (try simp only [Act.put, List.setIfInBounds_toArray, List.set_cons_zero, List.set_cons_succ])
            refine wpAnyH_take (i := 11) (oi := { dst := some 42, op := Op.move (Operand.tmp 41), type := 4, pos := "law.go:99", after := #[{ on := 10, ground := Ground.data }, { on := 10, ground := Ground.chain }], guard := none }) (v := ?vb11) rfl (by kernel_rfl) (by kernel_rfl) (by kernel_rfl) (fun _ _ _ h => h) (Or.inl ⟨by rfl, ?hyb11⟩) (by assumption) ?restb11
            case hyb11 =>
              intro w hSw
              (try dsimp only at hSw)
              go_simp
              (try with_reducible rfl)
            (try simp only [Act.put, List.setIfInBounds_toArray, List.set_cons_zero, List.set_cons_succ])
            refine wpAnyH_take (i := 12) (oi := { dst := some 43, op := Op.move (Operand.tmp 7), type := 22, pos := "law.go:99", after := #[{ on := 11, ground := Ground.guard }], guard := some (11, true) }) (v := ?vb12) rfl (by kernel_rfl) (by kernel_rfl) (by kernel_rfl) (fun _ _ _ h => h) (Or.inl ⟨by rfl, ?hyb12⟩) (by assumption) ?restb12
            case hyb12 =>
              intro w hSw
              (try dsimp only at hSw)
              go_simp
              (try with_reducible rfl)
            (try simp only [Act.put, List.setIfInBounds_toArray, List.set_cons_zero, List.set_cons_succ])
            refine wpAnyH_take (i := 13) (oi := { dst := some 44, op := Op.move (Operand.tmp 9), type := 3, pos := "law.go:99", after := #[{ on := 11, ground := Ground.guard }], guard := some (11, true) }) (v := ?vb13) rfl (by kernel_rfl) (by kernel_rfl) (by kernel_rfl) (fun _ _ _ h => h) (Or.inl ⟨by rfl, ?hyb13⟩) (by assumption) ?restb13
            case hyb13 =>
              intro w hSw
              (try dsimp only at hSw)
              go_simp
              (try with_reducible rfl)
            (try simp only [Act.put, List.setIfInBounds_toArray, List.set_cons_zero, List.set_cons_succ])
            refine wpAnyH_take (i := 14) (oi := { dst := some 45, op := Op.indexAddr 22 (Operand.tmp 43) (Operand.tmp 44), type := 0, pos := "law.go:99", after := #[{ on := 12, ground := Ground.data }, { on := 13, ground := Ground.data }, { on := 11, ground := Ground.guard }], guard := some (11, true) }) (v := ?vb14) rfl (by kernel_rfl) (by kernel_rfl) (by kernel_rfl) (fun _ _ _ h => h) (Or.inl ⟨by rfl, ?hyb14⟩) (by assumption) ?restb14
            case hyb14 =>
              intro w hSw
              (try dsimp only at hSw)
              go_simp
              (try with_reducible rfl)
            (try simp only [Act.put, List.setIfInBounds_toArray, List.set_cons_zero, List.set_cons_succ])
            refine wpAnyH_take (i := 15) (oi := { dst := some 46, op := Op.fieldAddr 28 (Operand.tmp 45) 1, type := 0, pos := "law.go:99", after := #[{ on := 14, ground := Ground.data }, { on := 11, ground := Ground.guard }], guard := some (11, true) }) (v := ?vb15) rfl (by kernel_rfl) (by kernel_rfl) (by kernel_rfl) (fun _ _ _ h => h) (Or.inl ⟨by rfl, ?hyb15⟩) (by assumption) ?restb15
            case hyb15 =>
              intro w hSw
              (try dsimp only at hSw)
              go_simp
              (try with_reducible rfl)
            (try simp only [Act.put, List.setIfInBounds_toArray, List.set_cons_zero, List.set_cons_succ])
            refine wpAnyH_take (i := 16) (oi := { dst := some 47, op := Op.load 26 (Operand.tmp 46), type := 26, pos := "law.go:99", after := #[{ on := 15, ground := Ground.data }, { on := 11, ground := Ground.guard }], guard := some (11, true) }) (v := ?vb16) rfl (by kernel_rfl) (by kernel_rfl) (by kernel_rfl) (fun _ _ _ h => h) (Or.inl ⟨by rfl, ?hyb16⟩) (by assumption) ?restb16
            case hyb16 =>
              intro w hSw
              (try dsimp only at hSw)
              go_simp
              (try with_reducible rfl)
            (try simp only [Act.put, List.setIfInBounds_toArray, List.set_cons_zero, List.set_cons_succ])
            refine wpAnyH_take (i := 17) (oi := { dst := some 48, op := Op.move (Operand.tmp 7), type := 22, pos := "law.go:99", after := #[{ on := 11, ground := Ground.guard }], guard := some (11, true) }) (v := ?vb17) rfl (by kernel_rfl) (by kernel_rfl) (by kernel_rfl) (fun _ _ _ h => h) (Or.inl ⟨by rfl, ?hyb17⟩) (by assumption) ?restb17
            case hyb17 =>
              intro w hSw
              (try dsimp only at hSw)
              go_simp
              (try with_reducible rfl)
            (try simp only [Act.put, List.setIfInBounds_toArray, List.set_cons_zero, List.set_cons_succ])
            refine wpAnyH_take (i := 18) (oi := { dst := some 49, op := Op.move (Operand.tmp 8), type := 3, pos := "law.go:99", after := #[{ on := 11, ground := Ground.guard }], guard := some (11, true) }) (v := ?vb18) rfl (by kernel_rfl) (by kernel_rfl) (by kernel_rfl) (fun _ _ _ h => h) (Or.inl ⟨by rfl, ?hyb18⟩) (by assumption) ?restb18
            case hyb18 =>
              intro w hSw
              (try dsimp only at hSw)
              go_simp
              (try with_reducible rfl)
            (try simp only [Act.put, List.setIfInBounds_toArray, List.set_cons_zero, List.set_cons_succ])
            refine wpAnyH_take (i := 19) (oi := { dst := some 50, op := Op.indexAddr 22 (Operand.tmp 48) (Operand.tmp 49), type := 0, pos := "law.go:99", after := #[{ on := 17, ground := Ground.data }, { on := 18, ground := Ground.data }, { on := 11, ground := Ground.guard }], guard := some (11, true) }) (v := ?vb19) rfl (by kernel_rfl) (by kernel_rfl) (by kernel_rfl) (fun _ _ _ h => h) (Or.inl ⟨by rfl, ?hyb19⟩) (by assumption) ?restb19
            case hyb19 =>
              intro w hSw
              (try dsimp only at hSw)
              go_simp
              (try with_reducible rfl)
            (try simp only [Act.put, List.setIfInBounds_toArray, List.set_cons_zero, List.set_cons_succ])
            refine wpAnyH_take (i := 20) (oi := { dst := some 51, op := Op.fieldAddr 28 (Operand.tmp 50) 1, type := 0, pos := "law.go:99", after := #[{ on := 19, ground := Ground.data }, { on := 11, ground := Ground.guard }], guard := some (11, true) }) (v := ?vb20) rfl (by kernel_rfl) (by kernel_rfl) (by kernel_rfl) (fun _ _ _ h => h) (Or.inl ⟨by rfl, ?hyb20⟩) (by assumption) ?restb20
            case hyb20 =>
              intro w hSw
              (try dsimp only at hSw)
              go_simp
              (try with_reducible rfl)
            (try simp only [Act.put, List.setIfInBounds_toArray, List.set_cons_zero, List.set_cons_succ])
            refine wpAnyH_take (i := 21) (oi := { dst := some 52, op := Op.load 26 (Operand.tmp 51), type := 26, pos := "law.go:99", after := #[{ on := 20, ground := Ground.data }, { on := 11, ground := Ground.guard }], guard := some (11, true) }) (v := ?vb21) rfl (by kernel_rfl) (by kernel_rfl) (by kernel_rfl) (fun _ _ _ h => h) (Or.inl ⟨by rfl, ?hyb21⟩) (by assumption) ?restb21
            case hyb21 =>
              intro w hSw
              (try dsimp only at hSw)
              go_simp
              (try with_reducible rfl)
            (try simp only [Act.put, List.setIfInBounds_toArray, List.set_cons_zero, List.set_cons_succ])
            refine wpAnyH_ready (rs := [22]) (by kernel_rfl) (by simp) ?_
            refine AllReadyH.cons (o := { dst := some 53, op := Op.call { callee := Callee.value (Operand.func 45), args := #[Operand.tmp 47, Operand.tmp 52], argTypes := #[26, 26] }, type := 4, pos := "law.go:99", after := #[{ on := 16, ground := Ground.data }, { on := 21, ground := Ground.data }, { on := 11, ground := Ground.chain }, { on := 11, ground := Ground.guard }], guard := some (11, true) }) rfl (fun K hK => ?_) AllReadyH.nil
            go_simp
            (go_at_call 45; refine (G2.out _ (by exact hHeld)).mono ?_; rintro e w2 ⟨rfl, b2⟩)
            go_wp2_with fail
            refine hK.out _ _ (duo_keep hHeld b2) (fun hHeld => ?_)
            clear hK K
            (try simp only [Act.put, List.setIfInBounds_toArray, List.set_cons_zero, List.set_cons_succ])
            refine wpAnyH_take (i := 23) (oi := { dst := some 54, op := Op.unOp UnOp.not 4 (Operand.tmp 53), type := 4, pos := "law.go:99", after := #[{ on := 22, ground := Ground.data }, { on := 11, ground := Ground.guard }], guard := some (11, true) }) (v := ?vb22) rfl (by kernel_rfl) (by kernel_rfl) (by kernel_rfl) (fun _ _ _ h => h) (Or.inl ⟨by rfl, ?hyb22⟩) (by assumption) ?restb22
            case hyb22 =>
              intro w hSw
              (try dsimp only at hSw)
              go_simp
              (try with_reducible rfl)
            (try simp only [Act.put, List.setIfInBounds_toArray, List.set_cons_zero, List.set_cons_succ])
            refine wpAnyH_take (i := 24) (oi := { dst := some 55, op := Op.move (Operand.tmp 54), type := 4, pos := "law.go:99", after := #[{ on := 23, ground := Ground.data }, { on := 22, ground := Ground.chain }, { on := 11, ground := Ground.guard }], guard := some (11, true) }) (v := ?vb23) rfl (by kernel_rfl) (by kernel_rfl) (by kernel_rfl) (fun _ _ _ h => h) (Or.inl ⟨by rfl, ?hyb23⟩) (by assumption) ?restb23
            case hyb23 =>
              intro w hSw
              (try dsimp only at hSw)
              go_simp
              (try with_reducible rfl)
            (try simp only [Act.put, List.setIfInBounds_toArray, List.set_cons_zero, List.set_cons_succ])
            refine wpAnyH_take (i := 25) (oi := { dst := some 56, op := Op.move (Operand.tmp 7), type := 22, pos := "law.go:99", after := #[{ on := 24, ground := Ground.guard }], guard := some (24, false) }) (v := undef) rfl (by kernel_rfl) (by kernel_rfl) (by kernel_rfl) (fun _ _ _ h => h) (Or.inr ⟨by rfl, rfl⟩) (by assumption) ?_
            (try simp only [Act.put, List.setIfInBounds_toArray, List.set_cons_zero, List.set_cons_succ])
            refine wpAnyH_take (i := 26) (oi := { dst := some 57, op := Op.move (Operand.tmp 9), type := 3, pos := "law.go:99", after := #[{ on := 24, ground := Ground.guard }], guard := some (24, false) }) (v := undef) rfl (by kernel_rfl) (by kernel_rfl) (by kernel_rfl) (fun _ _ _ h => h) (Or.inr ⟨by rfl, rfl⟩) (by assumption) ?_
            (try simp only [Act.put, List.setIfInBounds_toArray, List.set_cons_zero, List.set_cons_succ])
            refine wpAnyH_take (i := 27) (oi := { dst := some 58, op := Op.indexAddr 22 (Operand.tmp 56) (Operand.tmp 57), type := 0, pos := "law.go:99", after := #[{ on := 25, ground := Ground.data }, { on := 26, ground := Ground.data }, { on := 24, ground := Ground.guard }], guard := some (24, false) }) (v := undef) rfl (by kernel_rfl) (by kernel_rfl) (by kernel_rfl) (fun _ _ _ h => h) (Or.inr ⟨by rfl, rfl⟩) (by assumption) ?_
            (try simp only [Act.put, List.setIfInBounds_toArray, List.set_cons_zero, List.set_cons_succ])
            refine wpAnyH_take (i := 28) (oi := { dst := some 59, op := Op.fieldAddr 28 (Operand.tmp 58) 1, type := 0, pos := "law.go:99", after := #[{ on := 27, ground := Ground.data }, { on := 24, ground := Ground.guard }], guard := some (24, false) }) (v := undef) rfl (by kernel_rfl) (by kernel_rfl) (by kernel_rfl) (fun _ _ _ h => h) (Or.inr ⟨by rfl, rfl⟩) (by assumption) ?_
            (try simp only [Act.put, List.setIfInBounds_toArray, List.set_cons_zero, List.set_cons_succ])
            refine wpAnyH_take (i := 29) (oi := { dst := some 60, op := Op.load 26 (Operand.tmp 59), type := 26, pos := "law.go:99", after := #[{ on := 28, ground := Ground.data }, { on := 24, ground := Ground.guard }], guard := some (24, false) }) (v := undef) rfl (by kernel_rfl) (by kernel_rfl) (by kernel_rfl) (fun _ _ _ h => h) (Or.inr ⟨by rfl, rfl⟩) (by assumption) ?_
            (try simp only [Act.put, List.setIfInBounds_toArray, List.set_cons_zero, List.set_cons_succ])
            refine wpAnyH_take (i := 30) (oi := { dst := some 61, op := Op.move (Operand.tmp 7), type := 22, pos := "law.go:99", after := #[{ on := 24, ground := Ground.guard }], guard := some (24, false) }) (v := undef) rfl (by kernel_rfl) (by kernel_rfl) (by kernel_rfl) (fun _ _ _ h => h) (Or.inr ⟨by rfl, rfl⟩) (by assumption) ?_
            (try simp only [Act.put, List.setIfInBounds_toArray, List.set_cons_zero, List.set_cons_succ])
            refine wpAnyH_take (i := 31) (oi := { dst := some 62, op := Op.move (Operand.tmp 8), type := 3, pos := "law.go:99", after := #[{ on := 24, ground := Ground.guard }], guard := some (24, false) }) (v := undef) rfl (by kernel_rfl) (by kernel_rfl) (by kernel_rfl) (fun _ _ _ h => h) (Or.inr ⟨by rfl, rfl⟩) (by assumption) ?_
            (try simp only [Act.put, List.setIfInBounds_toArray, List.set_cons_zero, List.set_cons_succ])
            refine wpAnyH_take (i := 32) (oi := { dst := some 63, op := Op.indexAddr 22 (Operand.tmp 61) (Operand.tmp 62), type := 0, pos := "law.go:99", after := #[{ on := 30, ground := Ground.data }, { on := 31, ground := Ground.data }, { on := 24, ground := Ground.guard }], guard := some (24, false) }) (v := undef) rfl (by kernel_rfl) (by kernel_rfl) (by kernel_rfl) (fun _ _ _ h => h) (Or.inr ⟨by rfl, rfl⟩) (by assumption) ?_
            (try simp only [Act.put, List.setIfInBounds_toArray, List.set_cons_zero, List.set_cons_succ])
            refine wpAnyH_take (i := 33) (oi := { dst := some 64, op := Op.fieldAddr 28 (Operand.tmp 63) 0, type := 0, pos := "law.go:99", after := #[{ on := 32, ground := Ground.data }, { on := 24, ground := Ground.guard }], guard := some (24, false) }) (v := undef) rfl (by kernel_rfl) (by kernel_rfl) (by kernel_rfl) (fun _ _ _ h => h) (Or.inr ⟨by rfl, rfl⟩) (by assumption) ?_
            (try simp only [Act.put, List.setIfInBounds_toArray, List.set_cons_zero, List.set_cons_succ])
            refine wpAnyH_take (i := 34) (oi := { dst := some 65, op := Op.load 25 (Operand.tmp 64), type := 25, pos := "law.go:99", after := #[{ on := 33, ground := Ground.data }, { on := 24, ground := Ground.guard }], guard := some (24, false) }) (v := undef) rfl (by kernel_rfl) (by kernel_rfl) (by kernel_rfl) (fun _ _ _ h => h) (Or.inr ⟨by rfl, rfl⟩) (by assumption) ?_
            (try simp only [Act.put, List.setIfInBounds_toArray, List.set_cons_zero, List.set_cons_succ])
            refine wpAnyH_take (i := 35) (oi := { dst := some 66, op := Op.call { callee := Callee.value (Operand.func 44), args := #[Operand.tmp 60, Operand.tmp 65], argTypes := #[26, 25] }, type := 4, pos := "law.go:99", after := #[{ on := 29, ground := Ground.data }, { on := 34, ground := Ground.data }, { on := 24, ground := Ground.chain }, { on := 24, ground := Ground.guard }], guard := some (24, false) }) (v := undef) rfl (by kernel_rfl) (by kernel_rfl) (by kernel_rfl) (fun _ _ _ h => h) (Or.inr ⟨by rfl, rfl⟩) (by assumption) ?_
            (try simp only [Act.put, List.setIfInBounds_toArray, List.set_cons_zero, List.set_cons_succ])
            refine wpAnyH_take (i := 36) (oi := { dst := some 67, op := Op.pick (Operand.tmp 55) (Operand.const (Value.bool true)) (Operand.tmp 66), type := 4, pos := "law.go:99", after := #[{ on := 24, ground := Ground.data }, { on := 35, ground := Ground.data }, { on := 11, ground := Ground.guard }], guard := some (11, true) }) (v := ?vb35) rfl (by kernel_rfl) (by kernel_rfl) (by kernel_rfl) (fun _ _ _ h => h) (Or.inl ⟨by rfl, ?hyb35⟩) (by assumption) ?restb35
            case hyb35 =>
              intro w hSw
              (try dsimp only at hSw)
              go_simp
              (try with_reducible rfl)
            (try simp only [Act.put, List.setIfInBounds_toArray, List.set_cons_zero, List.set_cons_succ])
            refine wpAnyH_take (i := 37) (oi := { dst := some 68, op := Op.pick (Operand.tmp 42) (Operand.tmp 67) (Operand.const (Value.bool false)), type := 4, pos := "law.go:99", after := #[{ on := 11, ground := Ground.data }, { on := 36, ground := Ground.data }], guard := none }) (v := ?vb36) rfl (by kernel_rfl) (by kernel_rfl) (by kernel_rfl) (fun _ _ _ h => h) (Or.inl ⟨by rfl, ?hyb36⟩) (by assumption) ?restb36
            case hyb36 =>
              intro w hSw
              (try dsimp only at hSw)
              go_simp
              (try with_reducible rfl)
            (try simp only [Act.put, List.setIfInBounds_toArray, List.set_cons_zero, List.set_cons_succ])
            refine wpAnyH_done (by kernel_rfl) ?_ _
            have HF := Lib.hid (HN.out.2 (fun h => by have := (h.1 (by trivial)).1; cases this))
            have BF := Lib.hid (HW.out.trans ((HBK.out.trans ((duo_below (show Duo wr pb (off + i * 5) (off + k * 5) s vn A1 kp c1 s' vn' A2 kp' c2 _ from hHeld)).mono hszk)).mono sW))
            clear HN
            go_wp2_with fail
            go_ret
            exact ⟨by rw [HF.out]; rfl, BF.out⟩
          cases q3
          rotate_left
          · refine wp_region_held_drew (S := (fun V => V.cell? ⟨pb, off + i * 5, none⟩ = some (.int .i64 s) ∧ V.cell? ⟨pb, off + i * 5 + 1, none⟩ = some (.int .i64 vn) ∧ V.cell? ⟨pb, off + i * 5 + 2, none⟩ = some (.slice A1 kp c1) ∧ V.cell? ⟨pb, off + k * 5, none⟩ = some (.int .i64 s') ∧ V.cell? ⟨pb, off + k * 5 + 1, none⟩ = some (.int .i64 vn') ∧ V.cell? ⟨pb, off + k * 5 + 2, none⟩ = some (.slice A2 kp' c2) ∧ Below wr.heap.size wr V ∧ pb < V.heap.size)) (by kernel_rfl) hst (fun hHeld => ?_)
            refine wpAnyH_take (i := 0) (oi := { dst := some 31, op := Op.move (Operand.tmp 7), type := 22, pos := "law.go:99", after := #[], guard := none }) (v := ?vc1) rfl (by kernel_rfl) (by kernel_rfl) (by kernel_rfl) (fun _ _ _ h => h) (Or.inl ⟨by rfl, ?hyc1⟩) (by assumption) ?restc1
            case hyc1 =>
              intro w hSw
              (try dsimp only at hSw)
              go_simp
              (try with_reducible rfl)
            (try simp only [Act.put, List.setIfInBounds_toArray, List.set_cons_zero, List.set_cons_succ])
            refine wpAnyH_take (i := 1) (oi := { dst := some 32, op := Op.move (Operand.tmp 8), type := 3, pos := "law.go:99", after := #[], guard := none }) (v := ?vc2) rfl (by kernel_rfl) (by kernel_rfl) (by kernel_rfl) (fun _ _ _ h => h) (Or.inl ⟨by rfl, ?hyc2⟩) (by assumption) ?restc2
            case hyc2 =>
              intro w hSw
              (try dsimp only at hSw)
              go_simp
              (try with_reducible rfl)
            (try simp only [Act.put, List.setIfInBounds_toArray, List.set_cons_zero, List.set_cons_succ])
            refine wpAnyH_take (i := 2) (oi := { dst := some 33, op := Op.indexAddr 22 (Operand.tmp 31) (Operand.tmp 32), type := 0, pos := "law.go:99", after := #[{ on := 0, ground := Ground.data }, { on := 1, ground := Ground.data }], guard := none }) (v := ?vc3) rfl (by kernel_rfl) (by kernel_rfl) (by kernel_rfl) (fun _ _ _ h => h) (Or.inl ⟨by rfl, ?hyc3⟩) (by assumption) ?restc3
            case hyc3 =>
              intro w hSw
              (try dsimp only at hSw)
              go_simp
              (try with_reducible rfl)
            (try simp only [Act.put, List.setIfInBounds_toArray, List.set_cons_zero, List.set_cons_succ])
            refine wpAnyH_take (i := 3) (oi := { dst := some 34, op := Op.fieldAddr 28 (Operand.tmp 33) 1, type := 0, pos := "law.go:99", after := #[{ on := 2, ground := Ground.data }], guard := none }) (v := ?vc4) rfl (by kernel_rfl) (by kernel_rfl) (by kernel_rfl) (fun _ _ _ h => h) (Or.inl ⟨by rfl, ?hyc4⟩) (by assumption) ?restc4
            case hyc4 =>
              intro w hSw
              (try dsimp only at hSw)
              go_simp
              (try with_reducible rfl)
            (try simp only [Act.put, List.setIfInBounds_toArray, List.set_cons_zero, List.set_cons_succ])
            refine wpAnyH_take (i := 4) (oi := { dst := some 35, op := Op.load 26 (Operand.tmp 34), type := 26, pos := "law.go:99", after := #[{ on := 3, ground := Ground.data }], guard := none }) (v := ?vc5) rfl (by kernel_rfl) (by kernel_rfl) (by kernel_rfl) (fun _ _ _ h => h) (Or.inl ⟨by rfl, ?hyc5⟩) (by assumption) ?restc5
            case hyc5 =>
              intro w hSw
              (try dsimp only at hSw)
              go_simp
              (try with_reducible rfl)
            (try simp only [Act.put, List.setIfInBounds_toArray, List.set_cons_zero, List.set_cons_succ])
            refine wpAnyH_take (i := 5) (oi := { dst := some 36, op := Op.move (Operand.tmp 7), type := 22, pos := "law.go:99", after := #[], guard := none }) (v := ?vc6) rfl (by kernel_rfl) (by kernel_rfl) (by kernel_rfl) (fun _ _ _ h => h) (Or.inl ⟨by rfl, ?hyc6⟩) (by assumption) ?restc6
            case hyc6 =>
              intro w hSw
              (try dsimp only at hSw)
              go_simp
              (try with_reducible rfl)
            (try simp only [Act.put, List.setIfInBounds_toArray, List.set_cons_zero, List.set_cons_succ])
            refine wpAnyH_take (i := 6) (oi := { dst := some 37, op := Op.move (Operand.tmp 9), type := 3, pos := "law.go:99", after := #[], guard := none }) (v := ?vc7) rfl (by kernel_rfl) (by kernel_rfl) (by kernel_rfl) (fun _ _ _ h => h) (Or.inl ⟨by rfl, ?hyc7⟩) (by assumption) ?restc7
            case hyc7 =>
              intro w hSw
              (try dsimp only at hSw)
              go_simp
              (try with_reducible rfl)
            (try simp only [Act.put, List.setIfInBounds_toArray, List.set_cons_zero, List.set_cons_succ])
            refine wpAnyH_take (i := 7) (oi := { dst := some 38, op := Op.indexAddr 22 (Operand.tmp 36) (Operand.tmp 37), type := 0, pos := "law.go:99", after := #[{ on := 5, ground := Ground.data }, { on := 6, ground := Ground.data }], guard := none }) (v := ?vc8) rfl (by kernel_rfl) (by kernel_rfl) (by kernel_rfl) (fun _ _ _ h => h) (Or.inl ⟨by rfl, ?hyc8⟩) (by assumption) ?restc8
            case hyc8 =>
              intro w hSw
              (try dsimp only at hSw)
              go_simp
              (try with_reducible rfl)
            (try simp only [Act.put, List.setIfInBounds_toArray, List.set_cons_zero, List.set_cons_succ])
            refine wpAnyH_take (i := 8) (oi := { dst := some 39, op := Op.fieldAddr 28 (Operand.tmp 38) 0, type := 0, pos := "law.go:99", after := #[{ on := 7, ground := Ground.data }], guard := none }) (v := ?vc9) rfl (by kernel_rfl) (by kernel_rfl) (by kernel_rfl) (fun _ _ _ h => h) (Or.inl ⟨by rfl, ?hyc9⟩) (by assumption) ?restc9
            case hyc9 =>
              intro w hSw
              (try dsimp only at hSw)
              go_simp
              (try with_reducible rfl)
            (try simp only [Act.put, List.setIfInBounds_toArray, List.set_cons_zero, List.set_cons_succ])
            refine wpAnyH_take (i := 9) (oi := { dst := some 40, op := Op.load 25 (Operand.tmp 39), type := 25, pos := "law.go:99", after := #[{ on := 8, ground := Ground.data }], guard := none }) (v := ?vc10) rfl (by kernel_rfl) (by kernel_rfl) (by kernel_rfl) (fun _ _ _ h => h) (Or.inl ⟨by rfl, ?hyc10⟩) (by assumption) ?restc10
            case hyc10 =>
              intro w hSw
              (try dsimp only at hSw)
              go_simp
              (try with_reducible rfl)
            (try simp only [Act.put, List.setIfInBounds_toArray, List.set_cons_zero, List.set_cons_succ])
            refine wpAnyH_ready (rs := [10]) (by kernel_rfl) (by simp) ?_
            refine AllReadyH.cons (o := { dst := some 41, op := Op.call { callee := Callee.value (Operand.func 44), args := #[Operand.tmp 35, Operand.tmp 40], argTypes := #[26, 25] }, type := 4, pos := "law.go:99", after := #[{ on := 4, ground := Ground.data }, { on := 9, ground := Ground.data }], guard := none }) rfl (fun K hK => ?_) AllReadyH.nil
            go_simp
            (go_at_call 44; refine (G1.out _ (by exact hHeld)).mono ?_; rintro e w1 ⟨rfl, b1⟩)
            go_wp2_with fail
            refine hK.out _ _ (duo_keep hHeld b1) (fun hHeld => ?_)
            clear hK K
            (try simp only [Act.put, List.setIfInBounds_toArray, List.set_cons_zero, List.set_cons_succ])
            refine wpAnyH_take (i := 11) (oi := { dst := some 42, op := Op.move (Operand.tmp 41), type := 4, pos := "law.go:99", after := #[{ on := 10, ground := Ground.data }, { on := 10, ground := Ground.chain }], guard := none }) (v := ?vc11) rfl (by kernel_rfl) (by kernel_rfl) (by kernel_rfl) (fun _ _ _ h => h) (Or.inl ⟨by rfl, ?hyc11⟩) (by assumption) ?restc11
            case hyc11 =>
              intro w hSw
              (try dsimp only at hSw)
              go_simp
              (try with_reducible rfl)
            (try simp only [Act.put, List.setIfInBounds_toArray, List.set_cons_zero, List.set_cons_succ])
            refine wpAnyH_take (i := 12) (oi := { dst := some 43, op := Op.move (Operand.tmp 7), type := 22, pos := "law.go:99", after := #[{ on := 11, ground := Ground.guard }], guard := some (11, true) }) (v := ?vc12) rfl (by kernel_rfl) (by kernel_rfl) (by kernel_rfl) (fun _ _ _ h => h) (Or.inl ⟨by rfl, ?hyc12⟩) (by assumption) ?restc12
            case hyc12 =>
              intro w hSw
              (try dsimp only at hSw)
              go_simp
              (try with_reducible rfl)
            (try simp only [Act.put, List.setIfInBounds_toArray, List.set_cons_zero, List.set_cons_succ])
            refine wpAnyH_take (i := 13) (oi := { dst := some 44, op := Op.move (Operand.tmp 9), type := 3, pos := "law.go:99", after := #[{ on := 11, ground := Ground.guard }], guard := some (11, true) }) (v := ?vc13) rfl (by kernel_rfl) (by kernel_rfl) (by kernel_rfl) (fun _ _ _ h => h) (Or.inl ⟨by rfl, ?hyc13⟩) (by assumption) ?restc13
            case hyc13 =>
              intro w hSw
              (try dsimp only at hSw)
              go_simp
              (try with_reducible rfl)
            (try simp only [Act.put, List.setIfInBounds_toArray, List.set_cons_zero, List.set_cons_succ])
            refine wpAnyH_take (i := 14) (oi := { dst := some 45, op := Op.indexAddr 22 (Operand.tmp 43) (Operand.tmp 44), type := 0, pos := "law.go:99", after := #[{ on := 12, ground := Ground.data }, { on := 13, ground := Ground.data }, { on := 11, ground := Ground.guard }], guard := some (11, true) }) (v := ?vc14) rfl (by kernel_rfl) (by kernel_rfl) (by kernel_rfl) (fun _ _ _ h => h) (Or.inl ⟨by rfl, ?hyc14⟩) (by assumption) ?restc14
            case hyc14 =>
              intro w hSw
              (try dsimp only at hSw)
              go_simp
              (try with_reducible rfl)
            (try simp only [Act.put, List.setIfInBounds_toArray, List.set_cons_zero, List.set_cons_succ])
            refine wpAnyH_take (i := 15) (oi := { dst := some 46, op := Op.fieldAddr 28 (Operand.tmp 45) 1, type := 0, pos := "law.go:99", after := #[{ on := 14, ground := Ground.data }, { on := 11, ground := Ground.guard }], guard := some (11, true) }) (v := ?vc15) rfl (by kernel_rfl) (by kernel_rfl) (by kernel_rfl) (fun _ _ _ h => h) (Or.inl ⟨by rfl, ?hyc15⟩) (by assumption) ?restc15
            case hyc15 =>
              intro w hSw
              (try dsimp only at hSw)
              go_simp
              (try with_reducible rfl)
            (try simp only [Act.put, List.setIfInBounds_toArray, List.set_cons_zero, List.set_cons_succ])
            refine wpAnyH_take (i := 16) (oi := { dst := some 47, op := Op.load 26 (Operand.tmp 46), type := 26, pos := "law.go:99", after := #[{ on := 15, ground := Ground.data }, { on := 11, ground := Ground.guard }], guard := some (11, true) }) (v := ?vc16) rfl (by kernel_rfl) (by kernel_rfl) (by kernel_rfl) (fun _ _ _ h => h) (Or.inl ⟨by rfl, ?hyc16⟩) (by assumption) ?restc16
            case hyc16 =>
              intro w hSw
              (try dsimp only at hSw)
              go_simp
              (try with_reducible rfl)
            (try simp only [Act.put, List.setIfInBounds_toArray, List.set_cons_zero, List.set_cons_succ])
            refine wpAnyH_take (i := 17) (oi := { dst := some 48, op := Op.move (Operand.tmp 7), type := 22, pos := "law.go:99", after := #[{ on := 11, ground := Ground.guard }], guard := some (11, true) }) (v := ?vc17) rfl (by kernel_rfl) (by kernel_rfl) (by kernel_rfl) (fun _ _ _ h => h) (Or.inl ⟨by rfl, ?hyc17⟩) (by assumption) ?restc17
            case hyc17 =>
              intro w hSw
              (try dsimp only at hSw)
              go_simp
              (try with_reducible rfl)
            (try simp only [Act.put, List.setIfInBounds_toArray, List.set_cons_zero, List.set_cons_succ])
            refine wpAnyH_take (i := 18) (oi := { dst := some 49, op := Op.move (Operand.tmp 8), type := 3, pos := "law.go:99", after := #[{ on := 11, ground := Ground.guard }], guard := some (11, true) }) (v := ?vc18) rfl (by kernel_rfl) (by kernel_rfl) (by kernel_rfl) (fun _ _ _ h => h) (Or.inl ⟨by rfl, ?hyc18⟩) (by assumption) ?restc18
            case hyc18 =>
              intro w hSw
              (try dsimp only at hSw)
              go_simp
              (try with_reducible rfl)
            (try simp only [Act.put, List.setIfInBounds_toArray, List.set_cons_zero, List.set_cons_succ])
            refine wpAnyH_take (i := 19) (oi := { dst := some 50, op := Op.indexAddr 22 (Operand.tmp 48) (Operand.tmp 49), type := 0, pos := "law.go:99", after := #[{ on := 17, ground := Ground.data }, { on := 18, ground := Ground.data }, { on := 11, ground := Ground.guard }], guard := some (11, true) }) (v := ?vc19) rfl (by kernel_rfl) (by kernel_rfl) (by kernel_rfl) (fun _ _ _ h => h) (Or.inl ⟨by rfl, ?hyc19⟩) (by assumption) ?restc19
            case hyc19 =>
              intro w hSw
              (try dsimp only at hSw)
              go_simp
              (try with_reducible rfl)
            (try simp only [Act.put, List.setIfInBounds_toArray, List.set_cons_zero, List.set_cons_succ])
            refine wpAnyH_take (i := 20) (oi := { dst := some 51, op := Op.fieldAddr 28 (Operand.tmp 50) 1, type := 0, pos := "law.go:99", after := #[{ on := 19, ground := Ground.data }, { on := 11, ground := Ground.guard }], guard := some (11, true) }) (v := ?vc20) rfl (by kernel_rfl) (by kernel_rfl) (by kernel_rfl) (fun _ _ _ h => h) (Or.inl ⟨by rfl, ?hyc20⟩) (by assumption) ?restc20
            case hyc20 =>
              intro w hSw
              (try dsimp only at hSw)
              go_simp
              (try with_reducible rfl)
            (try simp only [Act.put, List.setIfInBounds_toArray, List.set_cons_zero, List.set_cons_succ])
            refine wpAnyH_take (i := 21) (oi := { dst := some 52, op := Op.load 26 (Operand.tmp 51), type := 26, pos := "law.go:99", after := #[{ on := 20, ground := Ground.data }, { on := 11, ground := Ground.guard }], guard := some (11, true) }) (v := ?vc21) rfl (by kernel_rfl) (by kernel_rfl) (by kernel_rfl) (fun _ _ _ h => h) (Or.inl ⟨by rfl, ?hyc21⟩) (by assumption) ?restc21
            case hyc21 =>
              intro w hSw
              (try dsimp only at hSw)
              go_simp
              (try with_reducible rfl)
            (try simp only [Act.put, List.setIfInBounds_toArray, List.set_cons_zero, List.set_cons_succ])
            refine wpAnyH_ready (rs := [22]) (by kernel_rfl) (by simp) ?_
            refine AllReadyH.cons (o := { dst := some 53, op := Op.call { callee := Callee.value (Operand.func 45), args := #[Operand.tmp 47, Operand.tmp 52], argTypes := #[26, 26] }, type := 4, pos := "law.go:99", after := #[{ on := 16, ground := Ground.data }, { on := 21, ground := Ground.data }, { on := 11, ground := Ground.chain }, { on := 11, ground := Ground.guard }], guard := some (11, true) }) rfl (fun K hK => ?_) AllReadyH.nil
            go_simp
            (go_at_call 45; refine (G2.out _ (by exact hHeld)).mono ?_; rintro e w2 ⟨rfl, b2⟩)
            go_wp2_with fail
            refine hK.out _ _ (duo_keep hHeld b2) (fun hHeld => ?_)
            clear hK K
            (try simp only [Act.put, List.setIfInBounds_toArray, List.set_cons_zero, List.set_cons_succ])
            refine wpAnyH_take (i := 23) (oi := { dst := some 54, op := Op.unOp UnOp.not 4 (Operand.tmp 53), type := 4, pos := "law.go:99", after := #[{ on := 22, ground := Ground.data }, { on := 11, ground := Ground.guard }], guard := some (11, true) }) (v := ?vc22) rfl (by kernel_rfl) (by kernel_rfl) (by kernel_rfl) (fun _ _ _ h => h) (Or.inl ⟨by rfl, ?hyc22⟩) (by assumption) ?restc22
            case hyc22 =>
              intro w hSw
              (try dsimp only at hSw)
              go_simp
              (try with_reducible rfl)
            (try simp only [Act.put, List.setIfInBounds_toArray, List.set_cons_zero, List.set_cons_succ])
            refine wpAnyH_take (i := 24) (oi := { dst := some 55, op := Op.move (Operand.tmp 54), type := 4, pos := "law.go:99", after := #[{ on := 23, ground := Ground.data }, { on := 22, ground := Ground.chain }, { on := 11, ground := Ground.guard }], guard := some (11, true) }) (v := ?vc23) rfl (by kernel_rfl) (by kernel_rfl) (by kernel_rfl) (fun _ _ _ h => h) (Or.inl ⟨by rfl, ?hyc23⟩) (by assumption) ?restc23
            case hyc23 =>
              intro w hSw
              (try dsimp only at hSw)
              go_simp
              (try with_reducible rfl)
            (try simp only [Act.put, List.setIfInBounds_toArray, List.set_cons_zero, List.set_cons_succ])
            refine wpAnyH_take (i := 25) (oi := { dst := some 56, op := Op.move (Operand.tmp 7), type := 22, pos := "law.go:99", after := #[{ on := 24, ground := Ground.guard }], guard := some (24, false) }) (v := ?vc24) rfl (by kernel_rfl) (by kernel_rfl) (by kernel_rfl) (fun _ _ _ h => h) (Or.inl ⟨by rfl, ?hyc24⟩) (by assumption) ?restc24
            case hyc24 =>
              intro w hSw
              (try dsimp only at hSw)
              go_simp
              (try with_reducible rfl)
            (try simp only [Act.put, List.setIfInBounds_toArray, List.set_cons_zero, List.set_cons_succ])
            refine wpAnyH_take (i := 26) (oi := { dst := some 57, op := Op.move (Operand.tmp 9), type := 3, pos := "law.go:99", after := #[{ on := 24, ground := Ground.guard }], guard := some (24, false) }) (v := ?vc25) rfl (by kernel_rfl) (by kernel_rfl) (by kernel_rfl) (fun _ _ _ h => h) (Or.inl ⟨by rfl, ?hyc25⟩) (by assumption) ?restc25
            case hyc25 =>
              intro w hSw
              (try dsimp only at hSw)
              go_simp
              (try with_reducible rfl)
            (try simp only [Act.put, List.setIfInBounds_toArray, List.set_cons_zero, List.set_cons_succ])
            refine wpAnyH_take (i := 27) (oi := { dst := some 58, op := Op.indexAddr 22 (Operand.tmp 56) (Operand.tmp 57), type := 0, pos := "law.go:99", after := #[{ on := 25, ground := Ground.data }, { on := 26, ground := Ground.data }, { on := 24, ground := Ground.guard }], guard := some (24, false) }) (v := ?vc26) rfl (by kernel_rfl) (by kernel_rfl) (by kernel_rfl) (fun _ _ _ h => h) (Or.inl ⟨by rfl, ?hyc26⟩) (by assumption) ?restc26
            case hyc26 =>
              intro w hSw
              (try dsimp only at hSw)
              go_simp
              (try with_reducible rfl)
            (try simp only [Act.put, List.setIfInBounds_toArray, List.set_cons_zero, List.set_cons_succ])
            refine wpAnyH_take (i := 28) (oi := { dst := some 59, op := Op.fieldAddr 28 (Operand.tmp 58) 1, type := 0, pos := "law.go:99", after := #[{ on := 27, ground := Ground.data }, { on := 24, ground := Ground.guard }], guard := some (24, false) }) (v := ?vc27) rfl (by kernel_rfl) (by kernel_rfl) (by kernel_rfl) (fun _ _ _ h => h) (Or.inl ⟨by rfl, ?hyc27⟩) (by assumption) ?restc27
            case hyc27 =>
              intro w hSw
              (try dsimp only at hSw)
              go_simp
              (try with_reducible rfl)
            (try simp only [Act.put, List.setIfInBounds_toArray, List.set_cons_zero, List.set_cons_succ])
            refine wpAnyH_take (i := 29) (oi := { dst := some 60, op := Op.load 26 (Operand.tmp 59), type := 26, pos := "law.go:99", after := #[{ on := 28, ground := Ground.data }, { on := 24, ground := Ground.guard }], guard := some (24, false) }) (v := ?vc28) rfl (by kernel_rfl) (by kernel_rfl) (by kernel_rfl) (fun _ _ _ h => h) (Or.inl ⟨by rfl, ?hyc28⟩) (by assumption) ?restc28
            case hyc28 =>
              intro w hSw
              (try dsimp only at hSw)
              go_simp
              (try with_reducible rfl)
            (try simp only [Act.put, List.setIfInBounds_toArray, List.set_cons_zero, List.set_cons_succ])
            refine wpAnyH_take (i := 30) (oi := { dst := some 61, op := Op.move (Operand.tmp 7), type := 22, pos := "law.go:99", after := #[{ on := 24, ground := Ground.guard }], guard := some (24, false) }) (v := ?vc29) rfl (by kernel_rfl) (by kernel_rfl) (by kernel_rfl) (fun _ _ _ h => h) (Or.inl ⟨by rfl, ?hyc29⟩) (by assumption) ?restc29
            case hyc29 =>
              intro w hSw
              (try dsimp only at hSw)
              go_simp
              (try with_reducible rfl)
            (try simp only [Act.put, List.setIfInBounds_toArray, List.set_cons_zero, List.set_cons_succ])
            refine wpAnyH_take (i := 31) (oi := { dst := some 62, op := Op.move (Operand.tmp 8), type := 3, pos := "law.go:99", after := #[{ on := 24, ground := Ground.guard }], guard := some (24, false) }) (v := ?vc30) rfl (by kernel_rfl) (by kernel_rfl) (by kernel_rfl) (fun _ _ _ h => h) (Or.inl ⟨by rfl, ?hyc30⟩) (by assumption) ?restc30
            case hyc30 =>
              intro w hSw
              (try dsimp only at hSw)
              go_simp
              (try with_reducible rfl)
            (try simp only [Act.put, List.setIfInBounds_toArray, List.set_cons_zero, List.set_cons_succ])
            refine wpAnyH_take (i := 32) (oi := { dst := some 63, op := Op.indexAddr 22 (Operand.tmp 61) (Operand.tmp 62), type := 0, pos := "law.go:99", after := #[{ on := 30, ground := Ground.data }, { on := 31, ground := Ground.data }, { on := 24, ground := Ground.guard }], guard := some (24, false) }) (v := ?vc31) rfl (by kernel_rfl) (by kernel_rfl) (by kernel_rfl) (fun _ _ _ h => h) (Or.inl ⟨by rfl, ?hyc31⟩) (by assumption) ?restc31
            case hyc31 =>
              intro w hSw
              (try dsimp only at hSw)
              go_simp
              (try with_reducible rfl)
            (try simp only [Act.put, List.setIfInBounds_toArray, List.set_cons_zero, List.set_cons_succ])
            refine wpAnyH_take (i := 33) (oi := { dst := some 64, op := Op.fieldAddr 28 (Operand.tmp 63) 0, type := 0, pos := "law.go:99", after := #[{ on := 32, ground := Ground.data }, { on := 24, ground := Ground.guard }], guard := some (24, false) }) (v := ?vc32) rfl (by kernel_rfl) (by kernel_rfl) (by kernel_rfl) (fun _ _ _ h => h) (Or.inl ⟨by rfl, ?hyc32⟩) (by assumption) ?restc32
            case hyc32 =>
              intro w hSw
              (try dsimp only at hSw)
              go_simp
              (try with_reducible rfl)
            (try simp only [Act.put, List.setIfInBounds_toArray, List.set_cons_zero, List.set_cons_succ])
            refine wpAnyH_take (i := 34) (oi := { dst := some 65, op := Op.load 25 (Operand.tmp 64), type := 25, pos := "law.go:99", after := #[{ on := 33, ground := Ground.data }, { on := 24, ground := Ground.guard }], guard := some (24, false) }) (v := ?vc33) rfl (by kernel_rfl) (by kernel_rfl) (by kernel_rfl) (fun _ _ _ h => h) (Or.inl ⟨by rfl, ?hyc33⟩) (by assumption) ?restc33
            case hyc33 =>
              intro w hSw
              (try dsimp only at hSw)
              go_simp
              (try with_reducible rfl)
            (try simp only [Act.put, List.setIfInBounds_toArray, List.set_cons_zero, List.set_cons_succ])
            refine wpAnyH_ready (rs := [35]) (by kernel_rfl) (by simp) ?_
            refine AllReadyH.cons (o := { dst := some 66, op := Op.call { callee := Callee.value (Operand.func 44), args := #[Operand.tmp 60, Operand.tmp 65], argTypes := #[26, 25] }, type := 4, pos := "law.go:99", after := #[{ on := 29, ground := Ground.data }, { on := 34, ground := Ground.data }, { on := 24, ground := Ground.chain }, { on := 24, ground := Ground.guard }], guard := some (24, false) }) rfl (fun K hK => ?_) AllReadyH.nil
            go_simp
            (go_at_call 44; refine (G3.out _ (by exact hHeld)).mono ?_; rintro e w3 ⟨rfl, b3⟩)
            go_wp2_with fail
            refine hK.out _ _ (duo_keep hHeld b3) (fun hHeld => ?_)
            clear hK K
            (try simp only [Act.put, List.setIfInBounds_toArray, List.set_cons_zero, List.set_cons_succ])
            refine wpAnyH_take (i := 36) (oi := { dst := some 67, op := Op.pick (Operand.tmp 55) (Operand.const (Value.bool true)) (Operand.tmp 66), type := 4, pos := "law.go:99", after := #[{ on := 24, ground := Ground.data }, { on := 35, ground := Ground.data }, { on := 11, ground := Ground.guard }], guard := some (11, true) }) (v := ?vc34) rfl (by kernel_rfl) (by kernel_rfl) (by kernel_rfl) (fun _ _ _ h => h) (Or.inl ⟨by rfl, ?hyc34⟩) (by assumption) ?restc34
            case hyc34 =>
              intro w hSw
              (try dsimp only at hSw)
              go_simp
              (try with_reducible rfl)
            (try simp only [Act.put, List.setIfInBounds_toArray, List.set_cons_zero, List.set_cons_succ])
            refine wpAnyH_take (i := 37) (oi := { dst := some 68, op := Op.pick (Operand.tmp 42) (Operand.tmp 67) (Operand.const (Value.bool false)), type := 4, pos := "law.go:99", after := #[{ on := 11, ground := Ground.data }, { on := 36, ground := Ground.data }], guard := none }) (v := ?vc35) rfl (by kernel_rfl) (by kernel_rfl) (by kernel_rfl) (fun _ _ _ h => h) (Or.inl ⟨by rfl, ?hyc35⟩) (by assumption) ?restc35
            case hyc35 =>
              intro w hSw
              (try dsimp only at hSw)
              go_simp
              (try with_reducible rfl)
            (try simp only [Act.put, List.setIfInBounds_toArray, List.set_cons_zero, List.set_cons_succ])
            refine wpAnyH_done (by kernel_rfl) ?_ _
            have HF := Lib.hid (HN.out.2 (fun h => (h.1 (by trivial)).2 (by trivial)))
            have BF := Lib.hid (HW.out.trans ((HBK.out.trans ((duo_below (show Duo wr pb (off + i * 5) (off + k * 5) s vn A1 kp c1 s' vn' A2 kp' c2 _ from hHeld)).mono hszk)).mono sW))
            clear HN
            go_wp2_with fail
            go_ret
            exact ⟨by rw [HF.out]; rfl, BF.out⟩
          · refine wp_region_held_drew (S := (fun V => V.cell? ⟨pb, off + i * 5, none⟩ = some (.int .i64 s) ∧ V.cell? ⟨pb, off + i * 5 + 1, none⟩ = some (.int .i64 vn) ∧ V.cell? ⟨pb, off + i * 5 + 2, none⟩ = some (.slice A1 kp c1) ∧ V.cell? ⟨pb, off + k * 5, none⟩ = some (.int .i64 s') ∧ V.cell? ⟨pb, off + k * 5 + 1, none⟩ = some (.int .i64 vn') ∧ V.cell? ⟨pb, off + k * 5 + 2, none⟩ = some (.slice A2 kp' c2) ∧ Below wr.heap.size wr V ∧ pb < V.heap.size)) (by kernel_rfl) hst (fun hHeld => ?_)
            refine wpAnyH_take (i := 0) (oi := { dst := some 31, op := Op.move (Operand.tmp 7), type := 22, pos := "law.go:99", after := #[], guard := none }) (v := ?vd1) rfl (by kernel_rfl) (by kernel_rfl) (by kernel_rfl) (fun _ _ _ h => h) (Or.inl ⟨by rfl, ?hyd1⟩) (by assumption) ?restd1
            case hyd1 =>
              intro w hSw
              (try dsimp only at hSw)
              go_simp
              (try with_reducible rfl)
            (try simp only [Act.put, List.setIfInBounds_toArray, List.set_cons_zero, List.set_cons_succ])
            refine wpAnyH_take (i := 1) (oi := { dst := some 32, op := Op.move (Operand.tmp 8), type := 3, pos := "law.go:99", after := #[], guard := none }) (v := ?vd2) rfl (by kernel_rfl) (by kernel_rfl) (by kernel_rfl) (fun _ _ _ h => h) (Or.inl ⟨by rfl, ?hyd2⟩) (by assumption) ?restd2
            case hyd2 =>
              intro w hSw
              (try dsimp only at hSw)
              go_simp
              (try with_reducible rfl)
            (try simp only [Act.put, List.setIfInBounds_toArray, List.set_cons_zero, List.set_cons_succ])
            refine wpAnyH_take (i := 2) (oi := { dst := some 33, op := Op.indexAddr 22 (Operand.tmp 31) (Operand.tmp 32), type := 0, pos := "law.go:99", after := #[{ on := 0, ground := Ground.data }, { on := 1, ground := Ground.data }], guard := none }) (v := ?vd3) rfl (by kernel_rfl) (by kernel_rfl) (by kernel_rfl) (fun _ _ _ h => h) (Or.inl ⟨by rfl, ?hyd3⟩) (by assumption) ?restd3
            case hyd3 =>
              intro w hSw
              (try dsimp only at hSw)
              go_simp
              (try with_reducible rfl)
            (try simp only [Act.put, List.setIfInBounds_toArray, List.set_cons_zero, List.set_cons_succ])
            refine wpAnyH_take (i := 3) (oi := { dst := some 34, op := Op.fieldAddr 28 (Operand.tmp 33) 1, type := 0, pos := "law.go:99", after := #[{ on := 2, ground := Ground.data }], guard := none }) (v := ?vd4) rfl (by kernel_rfl) (by kernel_rfl) (by kernel_rfl) (fun _ _ _ h => h) (Or.inl ⟨by rfl, ?hyd4⟩) (by assumption) ?restd4
            case hyd4 =>
              intro w hSw
              (try dsimp only at hSw)
              go_simp
              (try with_reducible rfl)
            (try simp only [Act.put, List.setIfInBounds_toArray, List.set_cons_zero, List.set_cons_succ])
            refine wpAnyH_take (i := 4) (oi := { dst := some 35, op := Op.load 26 (Operand.tmp 34), type := 26, pos := "law.go:99", after := #[{ on := 3, ground := Ground.data }], guard := none }) (v := ?vd5) rfl (by kernel_rfl) (by kernel_rfl) (by kernel_rfl) (fun _ _ _ h => h) (Or.inl ⟨by rfl, ?hyd5⟩) (by assumption) ?restd5
            case hyd5 =>
              intro w hSw
              (try dsimp only at hSw)
              go_simp
              (try with_reducible rfl)
            (try simp only [Act.put, List.setIfInBounds_toArray, List.set_cons_zero, List.set_cons_succ])
            refine wpAnyH_take (i := 5) (oi := { dst := some 36, op := Op.move (Operand.tmp 7), type := 22, pos := "law.go:99", after := #[], guard := none }) (v := ?vd6) rfl (by kernel_rfl) (by kernel_rfl) (by kernel_rfl) (fun _ _ _ h => h) (Or.inl ⟨by rfl, ?hyd6⟩) (by assumption) ?restd6
            case hyd6 =>
              intro w hSw
              (try dsimp only at hSw)
              go_simp
              (try with_reducible rfl)
            (try simp only [Act.put, List.setIfInBounds_toArray, List.set_cons_zero, List.set_cons_succ])
            refine wpAnyH_take (i := 6) (oi := { dst := some 37, op := Op.move (Operand.tmp 9), type := 3, pos := "law.go:99", after := #[], guard := none }) (v := ?vd7) rfl (by kernel_rfl) (by kernel_rfl) (by kernel_rfl) (fun _ _ _ h => h) (Or.inl ⟨by rfl, ?hyd7⟩) (by assumption) ?restd7
            case hyd7 =>
              intro w hSw
              (try dsimp only at hSw)
              go_simp
              (try with_reducible rfl)
            (try simp only [Act.put, List.setIfInBounds_toArray, List.set_cons_zero, List.set_cons_succ])
            refine wpAnyH_take (i := 7) (oi := { dst := some 38, op := Op.indexAddr 22 (Operand.tmp 36) (Operand.tmp 37), type := 0, pos := "law.go:99", after := #[{ on := 5, ground := Ground.data }, { on := 6, ground := Ground.data }], guard := none }) (v := ?vd8) rfl (by kernel_rfl) (by kernel_rfl) (by kernel_rfl) (fun _ _ _ h => h) (Or.inl ⟨by rfl, ?hyd8⟩) (by assumption) ?restd8
            case hyd8 =>
              intro w hSw
              (try dsimp only at hSw)
              go_simp
              (try with_reducible rfl)
            (try simp only [Act.put, List.setIfInBounds_toArray, List.set_cons_zero, List.set_cons_succ])
            refine wpAnyH_take (i := 8) (oi := { dst := some 39, op := Op.fieldAddr 28 (Operand.tmp 38) 0, type := 0, pos := "law.go:99", after := #[{ on := 7, ground := Ground.data }], guard := none }) (v := ?vd9) rfl (by kernel_rfl) (by kernel_rfl) (by kernel_rfl) (fun _ _ _ h => h) (Or.inl ⟨by rfl, ?hyd9⟩) (by assumption) ?restd9
            case hyd9 =>
              intro w hSw
              (try dsimp only at hSw)
              go_simp
              (try with_reducible rfl)
            (try simp only [Act.put, List.setIfInBounds_toArray, List.set_cons_zero, List.set_cons_succ])
            refine wpAnyH_take (i := 9) (oi := { dst := some 40, op := Op.load 25 (Operand.tmp 39), type := 25, pos := "law.go:99", after := #[{ on := 8, ground := Ground.data }], guard := none }) (v := ?vd10) rfl (by kernel_rfl) (by kernel_rfl) (by kernel_rfl) (fun _ _ _ h => h) (Or.inl ⟨by rfl, ?hyd10⟩) (by assumption) ?restd10
            case hyd10 =>
              intro w hSw
              (try dsimp only at hSw)
              go_simp
              (try with_reducible rfl)
            (try simp only [Act.put, List.setIfInBounds_toArray, List.set_cons_zero, List.set_cons_succ])
            refine wpAnyH_ready (rs := [10]) (by kernel_rfl) (by simp) ?_
            refine AllReadyH.cons (o := { dst := some 41, op := Op.call { callee := Callee.value (Operand.func 44), args := #[Operand.tmp 35, Operand.tmp 40], argTypes := #[26, 25] }, type := 4, pos := "law.go:99", after := #[{ on := 4, ground := Ground.data }, { on := 9, ground := Ground.data }], guard := none }) rfl (fun K hK => ?_) AllReadyH.nil
            go_simp
            (go_at_call 44; refine (G1.out _ (by exact hHeld)).mono ?_; rintro e w1 ⟨rfl, b1⟩)
            go_wp2_with fail
            refine hK.out _ _ (duo_keep hHeld b1) (fun hHeld => ?_)
            clear hK K
            (try simp only [Act.put, List.setIfInBounds_toArray, List.set_cons_zero, List.set_cons_succ])
            refine wpAnyH_take (i := 11) (oi := { dst := some 42, op := Op.move (Operand.tmp 41), type := 4, pos := "law.go:99", after := #[{ on := 10, ground := Ground.data }, { on := 10, ground := Ground.chain }], guard := none }) (v := ?vd11) rfl (by kernel_rfl) (by kernel_rfl) (by kernel_rfl) (fun _ _ _ h => h) (Or.inl ⟨by rfl, ?hyd11⟩) (by assumption) ?restd11
            case hyd11 =>
              intro w hSw
              (try dsimp only at hSw)
              go_simp
              (try with_reducible rfl)
            (try simp only [Act.put, List.setIfInBounds_toArray, List.set_cons_zero, List.set_cons_succ])
            refine wpAnyH_take (i := 12) (oi := { dst := some 43, op := Op.move (Operand.tmp 7), type := 22, pos := "law.go:99", after := #[{ on := 11, ground := Ground.guard }], guard := some (11, true) }) (v := ?vd12) rfl (by kernel_rfl) (by kernel_rfl) (by kernel_rfl) (fun _ _ _ h => h) (Or.inl ⟨by rfl, ?hyd12⟩) (by assumption) ?restd12
            case hyd12 =>
              intro w hSw
              (try dsimp only at hSw)
              go_simp
              (try with_reducible rfl)
            (try simp only [Act.put, List.setIfInBounds_toArray, List.set_cons_zero, List.set_cons_succ])
            refine wpAnyH_take (i := 13) (oi := { dst := some 44, op := Op.move (Operand.tmp 9), type := 3, pos := "law.go:99", after := #[{ on := 11, ground := Ground.guard }], guard := some (11, true) }) (v := ?vd13) rfl (by kernel_rfl) (by kernel_rfl) (by kernel_rfl) (fun _ _ _ h => h) (Or.inl ⟨by rfl, ?hyd13⟩) (by assumption) ?restd13
            case hyd13 =>
              intro w hSw
              (try dsimp only at hSw)
              go_simp
              (try with_reducible rfl)
            (try simp only [Act.put, List.setIfInBounds_toArray, List.set_cons_zero, List.set_cons_succ])
            refine wpAnyH_take (i := 14) (oi := { dst := some 45, op := Op.indexAddr 22 (Operand.tmp 43) (Operand.tmp 44), type := 0, pos := "law.go:99", after := #[{ on := 12, ground := Ground.data }, { on := 13, ground := Ground.data }, { on := 11, ground := Ground.guard }], guard := some (11, true) }) (v := ?vd14) rfl (by kernel_rfl) (by kernel_rfl) (by kernel_rfl) (fun _ _ _ h => h) (Or.inl ⟨by rfl, ?hyd14⟩) (by assumption) ?restd14
            case hyd14 =>
              intro w hSw
              (try dsimp only at hSw)
              go_simp
              (try with_reducible rfl)
            (try simp only [Act.put, List.setIfInBounds_toArray, List.set_cons_zero, List.set_cons_succ])
            refine wpAnyH_take (i := 15) (oi := { dst := some 46, op := Op.fieldAddr 28 (Operand.tmp 45) 1, type := 0, pos := "law.go:99", after := #[{ on := 14, ground := Ground.data }, { on := 11, ground := Ground.guard }], guard := some (11, true) }) (v := ?vd15) rfl (by kernel_rfl) (by kernel_rfl) (by kernel_rfl) (fun _ _ _ h => h) (Or.inl ⟨by rfl, ?hyd15⟩) (by assumption) ?restd15
            case hyd15 =>
              intro w hSw
              (try dsimp only at hSw)
              go_simp
              (try with_reducible rfl)
            (try simp only [Act.put, List.setIfInBounds_toArray, List.set_cons_zero, List.set_cons_succ])
            refine wpAnyH_take (i := 16) (oi := { dst := some 47, op := Op.load 26 (Operand.tmp 46), type := 26, pos := "law.go:99", after := #[{ on := 15, ground := Ground.data }, { on := 11, ground := Ground.guard }], guard := some (11, true) }) (v := ?vd16) rfl (by kernel_rfl) (by kernel_rfl) (by kernel_rfl) (fun _ _ _ h => h) (Or.inl ⟨by rfl, ?hyd16⟩) (by assumption) ?restd16
            case hyd16 =>
              intro w hSw
              (try dsimp only at hSw)
              go_simp
              (try with_reducible rfl)
            (try simp only [Act.put, List.setIfInBounds_toArray, List.set_cons_zero, List.set_cons_succ])
            refine wpAnyH_take (i := 17) (oi := { dst := some 48, op := Op.move (Operand.tmp 7), type := 22, pos := "law.go:99", after := #[{ on := 11, ground := Ground.guard }], guard := some (11, true) }) (v := ?vd17) rfl (by kernel_rfl) (by kernel_rfl) (by kernel_rfl) (fun _ _ _ h => h) (Or.inl ⟨by rfl, ?hyd17⟩) (by assumption) ?restd17
            case hyd17 =>
              intro w hSw
              (try dsimp only at hSw)
              go_simp
              (try with_reducible rfl)
            (try simp only [Act.put, List.setIfInBounds_toArray, List.set_cons_zero, List.set_cons_succ])
            refine wpAnyH_take (i := 18) (oi := { dst := some 49, op := Op.move (Operand.tmp 8), type := 3, pos := "law.go:99", after := #[{ on := 11, ground := Ground.guard }], guard := some (11, true) }) (v := ?vd18) rfl (by kernel_rfl) (by kernel_rfl) (by kernel_rfl) (fun _ _ _ h => h) (Or.inl ⟨by rfl, ?hyd18⟩) (by assumption) ?restd18
            case hyd18 =>
              intro w hSw
              (try dsimp only at hSw)
              go_simp
              (try with_reducible rfl)
            (try simp only [Act.put, List.setIfInBounds_toArray, List.set_cons_zero, List.set_cons_succ])
            refine wpAnyH_take (i := 19) (oi := { dst := some 50, op := Op.indexAddr 22 (Operand.tmp 48) (Operand.tmp 49), type := 0, pos := "law.go:99", after := #[{ on := 17, ground := Ground.data }, { on := 18, ground := Ground.data }, { on := 11, ground := Ground.guard }], guard := some (11, true) }) (v := ?vd19) rfl (by kernel_rfl) (by kernel_rfl) (by kernel_rfl) (fun _ _ _ h => h) (Or.inl ⟨by rfl, ?hyd19⟩) (by assumption) ?restd19
            case hyd19 =>
              intro w hSw
              (try dsimp only at hSw)
              go_simp
              (try with_reducible rfl)
            (try simp only [Act.put, List.setIfInBounds_toArray, List.set_cons_zero, List.set_cons_succ])
            refine wpAnyH_take (i := 20) (oi := { dst := some 51, op := Op.fieldAddr 28 (Operand.tmp 50) 1, type := 0, pos := "law.go:99", after := #[{ on := 19, ground := Ground.data }, { on := 11, ground := Ground.guard }], guard := some (11, true) }) (v := ?vd20) rfl (by kernel_rfl) (by kernel_rfl) (by kernel_rfl) (fun _ _ _ h => h) (Or.inl ⟨by rfl, ?hyd20⟩) (by assumption) ?restd20
            case hyd20 =>
              intro w hSw
              (try dsimp only at hSw)
              go_simp
              (try with_reducible rfl)
            (try simp only [Act.put, List.setIfInBounds_toArray, List.set_cons_zero, List.set_cons_succ])
            refine wpAnyH_take (i := 21) (oi := { dst := some 52, op := Op.load 26 (Operand.tmp 51), type := 26, pos := "law.go:99", after := #[{ on := 20, ground := Ground.data }, { on := 11, ground := Ground.guard }], guard := some (11, true) }) (v := ?vd21) rfl (by kernel_rfl) (by kernel_rfl) (by kernel_rfl) (fun _ _ _ h => h) (Or.inl ⟨by rfl, ?hyd21⟩) (by assumption) ?restd21
            case hyd21 =>
              intro w hSw
              (try dsimp only at hSw)
              go_simp
              (try with_reducible rfl)
            (try simp only [Act.put, List.setIfInBounds_toArray, List.set_cons_zero, List.set_cons_succ])
            refine wpAnyH_ready (rs := [22]) (by kernel_rfl) (by simp) ?_
            refine AllReadyH.cons (o := { dst := some 53, op := Op.call { callee := Callee.value (Operand.func 45), args := #[Operand.tmp 47, Operand.tmp 52], argTypes := #[26, 26] }, type := 4, pos := "law.go:99", after := #[{ on := 16, ground := Ground.data }, { on := 21, ground := Ground.data }, { on := 11, ground := Ground.chain }, { on := 11, ground := Ground.guard }], guard := some (11, true) }) rfl (fun K hK => ?_) AllReadyH.nil
            go_simp
            (go_at_call 45; refine (G2.out _ (by exact hHeld)).mono ?_; rintro e w2 ⟨rfl, b2⟩)
            go_wp2_with fail
            refine hK.out _ _ (duo_keep hHeld b2) (fun hHeld => ?_)
            clear hK K
            (try simp only [Act.put, List.setIfInBounds_toArray, List.set_cons_zero, List.set_cons_succ])
            refine wpAnyH_take (i := 23) (oi := { dst := some 54, op := Op.unOp UnOp.not 4 (Operand.tmp 53), type := 4, pos := "law.go:99", after := #[{ on := 22, ground := Ground.data }, { on := 11, ground := Ground.guard }], guard := some (11, true) }) (v := ?vd22) rfl (by kernel_rfl) (by kernel_rfl) (by kernel_rfl) (fun _ _ _ h => h) (Or.inl ⟨by rfl, ?hyd22⟩) (by assumption) ?restd22
            case hyd22 =>
              intro w hSw
              (try dsimp only at hSw)
              go_simp
              (try with_reducible rfl)
            (try simp only [Act.put, List.setIfInBounds_toArray, List.set_cons_zero, List.set_cons_succ])
            refine wpAnyH_take (i := 24) (oi := { dst := some 55, op := Op.move (Operand.tmp 54), type := 4, pos := "law.go:99", after := #[{ on := 23, ground := Ground.data }, { on := 22, ground := Ground.chain }, { on := 11, ground := Ground.guard }], guard := some (11, true) }) (v := ?vd23) rfl (by kernel_rfl) (by kernel_rfl) (by kernel_rfl) (fun _ _ _ h => h) (Or.inl ⟨by rfl, ?hyd23⟩) (by assumption) ?restd23
            case hyd23 =>
              intro w hSw
              (try dsimp only at hSw)
              go_simp
              (try with_reducible rfl)
            (try simp only [Act.put, List.setIfInBounds_toArray, List.set_cons_zero, List.set_cons_succ])
            refine wpAnyH_take (i := 25) (oi := { dst := some 56, op := Op.move (Operand.tmp 7), type := 22, pos := "law.go:99", after := #[{ on := 24, ground := Ground.guard }], guard := some (24, false) }) (v := ?vd24) rfl (by kernel_rfl) (by kernel_rfl) (by kernel_rfl) (fun _ _ _ h => h) (Or.inl ⟨by rfl, ?hyd24⟩) (by assumption) ?restd24
            case hyd24 =>
              intro w hSw
              (try dsimp only at hSw)
              go_simp
              (try with_reducible rfl)
            (try simp only [Act.put, List.setIfInBounds_toArray, List.set_cons_zero, List.set_cons_succ])
            refine wpAnyH_take (i := 26) (oi := { dst := some 57, op := Op.move (Operand.tmp 9), type := 3, pos := "law.go:99", after := #[{ on := 24, ground := Ground.guard }], guard := some (24, false) }) (v := ?vd25) rfl (by kernel_rfl) (by kernel_rfl) (by kernel_rfl) (fun _ _ _ h => h) (Or.inl ⟨by rfl, ?hyd25⟩) (by assumption) ?restd25
            case hyd25 =>
              intro w hSw
              (try dsimp only at hSw)
              go_simp
              (try with_reducible rfl)
            (try simp only [Act.put, List.setIfInBounds_toArray, List.set_cons_zero, List.set_cons_succ])
            refine wpAnyH_take (i := 27) (oi := { dst := some 58, op := Op.indexAddr 22 (Operand.tmp 56) (Operand.tmp 57), type := 0, pos := "law.go:99", after := #[{ on := 25, ground := Ground.data }, { on := 26, ground := Ground.data }, { on := 24, ground := Ground.guard }], guard := some (24, false) }) (v := ?vd26) rfl (by kernel_rfl) (by kernel_rfl) (by kernel_rfl) (fun _ _ _ h => h) (Or.inl ⟨by rfl, ?hyd26⟩) (by assumption) ?restd26
            case hyd26 =>
              intro w hSw
              (try dsimp only at hSw)
              go_simp
              (try with_reducible rfl)
            (try simp only [Act.put, List.setIfInBounds_toArray, List.set_cons_zero, List.set_cons_succ])
            refine wpAnyH_take (i := 28) (oi := { dst := some 59, op := Op.fieldAddr 28 (Operand.tmp 58) 1, type := 0, pos := "law.go:99", after := #[{ on := 27, ground := Ground.data }, { on := 24, ground := Ground.guard }], guard := some (24, false) }) (v := ?vd27) rfl (by kernel_rfl) (by kernel_rfl) (by kernel_rfl) (fun _ _ _ h => h) (Or.inl ⟨by rfl, ?hyd27⟩) (by assumption) ?restd27
            case hyd27 =>
              intro w hSw
              (try dsimp only at hSw)
              go_simp
              (try with_reducible rfl)
            (try simp only [Act.put, List.setIfInBounds_toArray, List.set_cons_zero, List.set_cons_succ])
            refine wpAnyH_take (i := 29) (oi := { dst := some 60, op := Op.load 26 (Operand.tmp 59), type := 26, pos := "law.go:99", after := #[{ on := 28, ground := Ground.data }, { on := 24, ground := Ground.guard }], guard := some (24, false) }) (v := ?vd28) rfl (by kernel_rfl) (by kernel_rfl) (by kernel_rfl) (fun _ _ _ h => h) (Or.inl ⟨by rfl, ?hyd28⟩) (by assumption) ?restd28
            case hyd28 =>
              intro w hSw
              (try dsimp only at hSw)
              go_simp
              (try with_reducible rfl)
            (try simp only [Act.put, List.setIfInBounds_toArray, List.set_cons_zero, List.set_cons_succ])
            refine wpAnyH_take (i := 30) (oi := { dst := some 61, op := Op.move (Operand.tmp 7), type := 22, pos := "law.go:99", after := #[{ on := 24, ground := Ground.guard }], guard := some (24, false) }) (v := ?vd29) rfl (by kernel_rfl) (by kernel_rfl) (by kernel_rfl) (fun _ _ _ h => h) (Or.inl ⟨by rfl, ?hyd29⟩) (by assumption) ?restd29
            case hyd29 =>
              intro w hSw
              (try dsimp only at hSw)
              go_simp
              (try with_reducible rfl)
            (try simp only [Act.put, List.setIfInBounds_toArray, List.set_cons_zero, List.set_cons_succ])
            refine wpAnyH_take (i := 31) (oi := { dst := some 62, op := Op.move (Operand.tmp 8), type := 3, pos := "law.go:99", after := #[{ on := 24, ground := Ground.guard }], guard := some (24, false) }) (v := ?vd30) rfl (by kernel_rfl) (by kernel_rfl) (by kernel_rfl) (fun _ _ _ h => h) (Or.inl ⟨by rfl, ?hyd30⟩) (by assumption) ?restd30
            case hyd30 =>
              intro w hSw
              (try dsimp only at hSw)
              go_simp
              (try with_reducible rfl)
            (try simp only [Act.put, List.setIfInBounds_toArray, List.set_cons_zero, List.set_cons_succ])
            refine wpAnyH_take (i := 32) (oi := { dst := some 63, op := Op.indexAddr 22 (Operand.tmp 61) (Operand.tmp 62), type := 0, pos := "law.go:99", after := #[{ on := 30, ground := Ground.data }, { on := 31, ground := Ground.data }, { on := 24, ground := Ground.guard }], guard := some (24, false) }) (v := ?vd31) rfl (by kernel_rfl) (by kernel_rfl) (by kernel_rfl) (fun _ _ _ h => h) (Or.inl ⟨by rfl, ?hyd31⟩) (by assumption) ?restd31
            case hyd31 =>
              intro w hSw
              (try dsimp only at hSw)
              go_simp
              (try with_reducible rfl)
            (try simp only [Act.put, List.setIfInBounds_toArray, List.set_cons_zero, List.set_cons_succ])
            refine wpAnyH_take (i := 33) (oi := { dst := some 64, op := Op.fieldAddr 28 (Operand.tmp 63) 0, type := 0, pos := "law.go:99", after := #[{ on := 32, ground := Ground.data }, { on := 24, ground := Ground.guard }], guard := some (24, false) }) (v := ?vd32) rfl (by kernel_rfl) (by kernel_rfl) (by kernel_rfl) (fun _ _ _ h => h) (Or.inl ⟨by rfl, ?hyd32⟩) (by assumption) ?restd32
            case hyd32 =>
              intro w hSw
              (try dsimp only at hSw)
              go_simp
              (try with_reducible rfl)
            (try simp only [Act.put, List.setIfInBounds_toArray, List.set_cons_zero, List.set_cons_succ])
            refine wpAnyH_take (i := 34) (oi := { dst := some 65, op := Op.load 25 (Operand.tmp 64), type := 25, pos := "law.go:99", after := #[{ on := 33, ground := Ground.data }, { on := 24, ground := Ground.guard }], guard := some (24, false) }) (v := ?vd33) rfl (by kernel_rfl) (by kernel_rfl) (by kernel_rfl) (fun _ _ _ h => h) (Or.inl ⟨by rfl, ?hyd33⟩) (by assumption) ?restd33
            case hyd33 =>
              intro w hSw
              (try dsimp only at hSw)
              go_simp
              (try with_reducible rfl)
            (try simp only [Act.put, List.setIfInBounds_toArray, List.set_cons_zero, List.set_cons_succ])
            refine wpAnyH_ready (rs := [35]) (by kernel_rfl) (by simp) ?_
            refine AllReadyH.cons (o := { dst := some 66, op := Op.call { callee := Callee.value (Operand.func 44), args := #[Operand.tmp 60, Operand.tmp 65], argTypes := #[26, 25] }, type := 4, pos := "law.go:99", after := #[{ on := 29, ground := Ground.data }, { on := 34, ground := Ground.data }, { on := 24, ground := Ground.chain }, { on := 24, ground := Ground.guard }], guard := some (24, false) }) rfl (fun K hK => ?_) AllReadyH.nil
            go_simp
            (go_at_call 44; refine (G3.out _ (by exact hHeld)).mono ?_; rintro e w3 ⟨rfl, b3⟩)
            go_wp2_with fail
            refine hK.out _ _ (duo_keep hHeld b3) (fun hHeld => ?_)
            clear hK K
            (try simp only [Act.put, List.setIfInBounds_toArray, List.set_cons_zero, List.set_cons_succ])
            refine wpAnyH_take (i := 36) (oi := { dst := some 67, op := Op.pick (Operand.tmp 55) (Operand.const (Value.bool true)) (Operand.tmp 66), type := 4, pos := "law.go:99", after := #[{ on := 24, ground := Ground.data }, { on := 35, ground := Ground.data }, { on := 11, ground := Ground.guard }], guard := some (11, true) }) (v := ?vd34) rfl (by kernel_rfl) (by kernel_rfl) (by kernel_rfl) (fun _ _ _ h => h) (Or.inl ⟨by rfl, ?hyd34⟩) (by assumption) ?restd34
            case hyd34 =>
              intro w hSw
              (try dsimp only at hSw)
              go_simp
              (try with_reducible rfl)
            (try simp only [Act.put, List.setIfInBounds_toArray, List.set_cons_zero, List.set_cons_succ])
            refine wpAnyH_take (i := 37) (oi := { dst := some 68, op := Op.pick (Operand.tmp 42) (Operand.tmp 67) (Operand.const (Value.bool false)), type := 4, pos := "law.go:99", after := #[{ on := 11, ground := Ground.data }, { on := 36, ground := Ground.data }], guard := none }) (v := ?vd35) rfl (by kernel_rfl) (by kernel_rfl) (by kernel_rfl) (fun _ _ _ h => h) (Or.inl ⟨by rfl, ?hyd35⟩) (by assumption) ?restd35
            case hyd35 =>
              intro w hSw
              (try dsimp only at hSw)
              go_simp
              (try with_reducible rfl)
            (try simp only [Act.put, List.setIfInBounds_toArray, List.set_cons_zero, List.set_cons_succ])
            refine wpAnyH_done (by kernel_rfl) ?_ _
            have hF : Duo wr pb (off + i * 5) (off + k * 5) s vn A1 kp c1 s' vn' A2 kp' c2 w3 := hHeld
            have HQ : Hid (true = true → true = true ∧ ¬ false = true) := Lib.hid fun _ => ⟨rfl, by simp⟩
            have BX : Below wr.heap.size wr w3 := ((Below.refl _ wr).drew.trans (b1.mono (by exact Nat.le_refl _))).trans ((b2.trans (b3.mono b2.size)).mono b1.size)
            clear hHeld G1 G2 G3 b1 b2 b3
            obtain ⟨c3', c4', c3'', c4''⟩ := HC.out _ BX
            obtain ⟨f0, f1, f2, f0', f1', f2', fb, fl⟩ := hF
            clear BX
            by_cases cd : s = s' ∧ vn = vn'
            · have HN2 := Lib.hid (show (q4 = true → Okay l i (k + 1)) ∧ (q4 = false → R = false) from ⟨fun h => HN.out.1 ⟨by first | exact HQ.out | simp, fun _ => h⟩, fun h => HN.out.2 fun hh => by rw [hh.2 cd] at h; cases h⟩)
              obtain ⟨rfl, rfl⟩ := cd
              have H4 := Lib.hid (G4.out w3.drew fb.drew)
              clear HN
              go_wp2_with fail
              go_region_held3 (fun V => V.cell? ⟨pb, off + i * 5, none⟩ = some (.int .i64 s) ∧ V.cell? ⟨pb, off + i * 5 + 1, none⟩ = some (.int .i64 vn) ∧ V.cell? ⟨pb, off + i * 5 + 2, none⟩ = some (.slice A1 kp c1) ∧ V.cell? ⟨pb, off + i * 5 + 3, none⟩ = some (.bool vg) ∧ V.cell? ⟨pb, off + i * 5 + 4, none⟩ = some (.string vx) ∧
                  V.cell? ⟨pb, off + k * 5, none⟩ = some (.int .i64 s) ∧ V.cell? ⟨pb, off + k * 5 + 1, none⟩ = some (.int .i64 vn) ∧ V.cell? ⟨pb, off + k * 5 + 2, none⟩ = some (.slice A2 kp' c2) ∧ V.cell? ⟨pb, off + k * 5 + 3, none⟩ = some (.bool vg') ∧ V.cell? ⟨pb, off + k * 5 + 4, none⟩ = some (.string vx'))
                (first | exact ⟨f0, f1, f2, c3', c4', f0', f1', f2', c3'', c4''⟩ | exact ⟨cell_below b9 fl f0, cell_below b9 fl f1, cell_below b9 fl f2, cell_below b9 fl c3', cell_below b9 fl c4', cell_below b9 fl f0', cell_below b9 fl f1', cell_below b9 fl f2', cell_below b9 fl c3'', cell_below b9 fl c4''⟩)
                (first | (go_at_call 39; refine H4.out.mono ?_; rintro e w9 ⟨rfl, b9⟩))
              have BE : Hid (Below W.heap.size W w9) := Lib.hid (HBK.out.trans ((fb.drew.trans (Below.mono b9 (by exact fb.size))).mono hszk))
              clear b9 H4
              cases q4
              · have HF := Lib.hid (HN2.out.2 rfl)
                have BF := Lib.hid (HW.out.trans (BE.out.mono sW))
                clear HN2
                go_wp2_with fail
                go_ret
                exact ⟨by rw [HF.out]; rfl, BF.out⟩
              · have HF := Lib.hid (HN2.out.1 rfl)
                clear HN2
                go_wp2_with fail
                exact ⟨⟨k + 1, rfl, by omega, HF, BE.out⟩, by simp only [intOf]; omega⟩
            · have HF := Lib.hid (HN.out.1 ⟨by first | exact HQ.out | simp, fun h => absurd h cd⟩)
              have hx : ¬ (s = s') ∨ (s = s' ∧ ¬ vn = vn') := by
                by_cases h1 : s = s'
                · exact .inr ⟨h1, fun h2 => cd ⟨h1, h2⟩⟩
                · exact .inl h1
              have BQ : Hid (∀ j, Below W.heap.size W (w3.drewN j)) := Lib.hid fun j => HBK.out.trans ((fb.trans (below_drewN _ _ _)).mono hszk)
              clear cd HN HQ HC G4
              rcases hx with h1 | ⟨rfl, h1⟩
              · have g1 : (s == s') = false := by simpa using h1
                clear h1
                go_wp2_with fail
                go_quiet (fail)
                go_wp2_with fail
                exact ⟨⟨k + 1, rfl, by omega, HF, BQ.out _⟩, by simp only [intOf]; omega⟩
              · have g1 : (vn == vn') = false := by simpa using h1
                have g2 : (s == s) = true := by simp
                clear h1
                go_wp2_with fail
                go_quiet (fail)
                go_wp2_with fail
                exact ⟨⟨k + 1, rfl, by omega, HF, BQ.out _⟩, by simp only [intOf]; omega⟩
        · have hkn : k = N := by omega
          subst hkn
          have HF := Lib.hid (okay_end (by have := htk.out; rwa [← HX.out.2.1] at this))
          clear htk
          go_wp2_with fail
          go_roundw
          case rel => exact ⟨i + 1, rfl, by omega, HF, hbk⟩
          case measure => simp only [intOf]; omega
    · have hin : i = N := by omega
      subst hin
      have HF := Lib.hid (show R = true by rw [← HX.out.2.2]; exact decide_eq_true (okay_all (by have := ht.out; rwa [← HX.out.2.1] at this)))
      have BF := Lib.hid (HW.out.trans (hb.mono sW))
      clear ht hb
      go_wp2_with fail
      go_ret
      exact ⟨by rw [HF.out]; rfl, BF.out⟩
end Vers
end Go.Proofs.Ythiiganfoecmnaa
