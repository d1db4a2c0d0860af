/-
  Several texts of this family in one: QuorumUnder, VersLawPlain, QuorumWritten.
-/
import Derived.Test.YtbhidndgnldheaaG16E
import Derived.Test.YtbhidndgnldheaaVersSames
import Derived.Deep.DeepAppendWide
import Derived.Test.YtbhidndgnldheaaVersMore
import Derived.Test.YtbhidndgnldheaaVersMergeRef
import Derived.Test.YtbhidndgnldheaaVersFresh
import Derived.Deep.DeepCutAuto
/-
  firthlaw16.under and has: is a set within another one, span by span; is a version among these?
-/
namespace Go.Proofs.Ytbhidndgnldheaa
namespace Quorum
open Go.RowKit Vers Span Blk
attribute [local go_sem ↓] Go.wp_at_zero Go.wp_at_succ
def inOne (x y : Sp) : Bool := (x.1 == y.1) && (decide (y.2.1 ≤ x.2.1) && decide (x.2.2 ≤ y.2.2))
def underF (a b : List Sp) : Bool := a.all fun x => b.any (inOne x)
theorem under_mem {a b : List Sp} (h : underF a b = true) (s n : Int) (hm : mem a s n) : mem b s n := by
  unfold mem at *
  obtain ⟨x, hx, h1, h2, h3⟩ := hm
  obtain ⟨y, hy, h4⟩ := List.any_eq_true.1 (List.all_eq_true.1 h x hx)
  unfold inOne at h4
  simp only [Bool.and_eq_true, beq_iff_eq, decide_eq_true_eq] at h4
  exact ⟨y, hy, by omega, by omega, by omega⟩
set_option maxRecDepth 100000 in
set_option maxHeartbeats 2000000 in
theorem under_any (A A' : Option Addr) (c c' n m : Nat) (a b : List Sp) (hn : a.length = n) (hm : b.length = m) (w : World) (hr : Ss w w.heap.size A a) (hr' : Ss w w.heap.size A' b) (hb1 : n ≤ 140737488355328) (hb2 : m ≤ 140737488355328) :
    Calls Try.prog 48 #[.slice A n c, .slice A' m c'] w fun e w' => e = .returned (.bool (underF a b)) ∧ Below w.heap.size w w' := by
  obtain ⟨R, hR⟩ : ∃ R, underF a b = R := ⟨_, rfl⟩
  rw [hR]
  have HX := Lib.hid (And.intro hr (And.intro hr' (And.intro hn (And.intro hm hR))))
  clear hr hr' hn hm hR
  go_enter Try.func48, Try.ntmps48
  go_wp2_with fail
  go_loopw [5] (fun iv wr => ∃ i : Nat, iv = .int .i64 i ∧ i ≤ n ∧ Hid ((a.take i).all (fun x => b.any (inOne x)) = true) ∧ Hid (Below w.heap.size w wr)) (fun iv _ => n - (intOf iv).toNat)
  case atStart => exact ⟨0, rfl, by omega, Lib.hid (by simp), Lib.hid (Below.refl _ _)⟩
  case round =>
    obtain ⟨i, rfl, hi, ht, hb⟩ := hrel
    by_cases hlt : i < n
    · obtain ⟨pb, off, rfl, hpb, hat⟩ := HX.out.1 (by have := HX.out.2.2.1; omega)
      obtain ⟨⟨x1, x2, x3⟩, hx⟩ : ∃ x, a[i]? = some x := ⟨a[i]'(by have := HX.out.2.2.1; omega), by simp⟩
      have hgx : a.getD i (0, 0, 0) = (x1, x2, x3) := by rw [List.getD_eq_getElem?_getD, hx]; rfl
      have HSx : Hid (∀ V, Below w.heap.size w V → V.cell? ⟨pb, off + i * 3, none⟩ = some (.int .i64 x1) ∧ V.cell? ⟨pb, off + i * 3 + 1, none⟩ = some (.int .i64 x2) ∧ V.cell? ⟨pb, off + i * 3 + 2, none⟩ = some (.int .i64 x3)) := Lib.hid fun V hV => by
        have h := hat i (by have := HX.out.2.2.1; omega)
        rw [hgx] at h
        exact ⟨(hV.cell (p := ⟨pb, _, none⟩) hpb).trans h.1, (hV.cell (p := ⟨pb, _, none⟩) hpb).trans h.2.1, (hV.cell (p := ⟨pb, _, none⟩) hpb).trans h.2.2⟩
      have d3 : (0 : Int) ≤ (i : Int) := by omega
      have d4 : (i : Int) < (n : Int) := by omega
      have HI := Lib.hid hx
      clear hat hgx hpb hx
      go_wp2_with fail
      go_loopw [6, 7] (fun bv kv V => ∃ (k : Nat) (bi : Bool), bv = .bool bi ∧ kv = .int .i64 k ∧ k ≤ m ∧ Hid ((b.take k).any (inOne (x1, x2, x3)) = bi) ∧ Hid (Below w.heap.size w V)) (fun _ kv _ => m - (intOf kv).toNat)
      case atStart => exact ⟨0, false, rfl, rfl, by omega, Lib.hid (by simp), hb⟩
      case round =>
        obtain ⟨k, bi, rfl, rfl, hk, hbi, hbk⟩ := hrel
        by_cases hlk : k < m
        · obtain ⟨pc, off', rfl, hpc, hat⟩ := HX.out.2.1 (by have := HX.out.2.2.2.1; omega)
          obtain ⟨⟨y1, y2, y3⟩, hy⟩ : ∃ y, b[k]? = some y := ⟨b[k]'(by have := HX.out.2.2.2.1; omega), by simp⟩
          have hgy : b.getD k (0, 0, 0) = (y1, y2, y3) := by rw [List.getD_eq_getElem?_getD, hy]; rfl
          obtain ⟨p0, p1, p2⟩ := HSx.out wr hbk.out
          obtain ⟨q0, q1, q2⟩ : wr.cell? ⟨pc, off' + k * 3, none⟩ = some (.int .i64 y1) ∧ wr.cell? ⟨pc, off' + k * 3 + 1, none⟩ = some (.int .i64 y2) ∧ wr.cell? ⟨pc, off' + k * 3 + 2, none⟩ = some (.int .i64 y3) := by
            have h := hat k (by have := HX.out.2.2.2.1; omega)
            rw [hgy] at h
            exact ⟨(hbk.out.cell (p := ⟨pc, _, none⟩) hpc).trans h.1, (hbk.out.cell (p := ⟨pc, _, none⟩) hpc).trans h.2.1, (hbk.out.cell (p := ⟨pc, _, none⟩) hpc).trans h.2.2⟩
          have HT : Hid (∀ z, (bi || inOne (x1, x2, x3) (y1, y2, y3)) = z → (b.take (k + 1)).any (inOne (x1, x2, x3)) = z) := Lib.hid fun z hz => by
            rw [take_one hy, List.any_append, hbi.out]
            simpa using hz
          have HE : Hid (∀ j, Below w.heap.size w (wr.drewN j)) := Lib.hid fun j => hbk.out.trans (Ring.below_drewN _ _ _)
          have d1 : (0 : Int) ≤ (k : Int) := by omega
          have d2 : (k : Int) < (m : Int) := by omega
          clear hat hgy hpc hy hbi hbk
          cases bi
          · by_cases e1 : x1 = y1
            · subst e1
              by_cases e2 : y2 ≤ x2
              · have g2 : decide (y2 ≤ x2) = true := decide_eq_true e2
                by_cases e3 : x3 ≤ y3
                · have g3 : decide (x3 ≤ y3) = true := decide_eq_true e3
                  have HW := Lib.hid (HT.out true (by simp [inOne, g2, g3]))
                  go_wp2_with fail
                  go_quiet (fail)
                  go_wp2_with fail
                  exact ⟨⟨k + 1, true, rfl, rfl, by omega, HW, Lib.hid (HE.out _)⟩, by simp only [intOf]; omega⟩
                · have g3 : decide (x3 ≤ y3) = false := decide_eq_false e3
                  have HW := Lib.hid (HT.out false (by simp [inOne, g3]))
                  go_wp2_with fail
                  go_quiet (fail)
                  go_wp2_with fail
                  exact ⟨⟨k + 1, false, rfl, rfl, by omega, HW, Lib.hid (HE.out _)⟩, by simp only [intOf]; omega⟩
              · have g2 : decide (y2 ≤ x2) = false := decide_eq_false e2
                have HW := Lib.hid (HT.out false (by simp [inOne, g2]))
                go_wp2_with fail
                go_quiet (fail)
                go_wp2_with fail
                exact ⟨⟨k + 1, false, rfl, rfl, by omega, HW, Lib.hid (HE.out _)⟩, by simp only [intOf]; omega⟩
            · have g1 : (x1 == y1) = false := by simpa using e1
              have HW := Lib.hid (HT.out false (by simp [inOne, g1]))
              go_wp2_with fail
              go_quiet (fail)
              go_wp2_with fail
              exact ⟨⟨k + 1, false, rfl, rfl, by omega, HW, Lib.hid (HE.out _)⟩, by simp only [intOf]; omega⟩
          · have HW := Lib.hid (HT.out true (by simp))
            go_wp2_with fail
            go_quiet (fail)
            go_wp2_with fail
            exact ⟨⟨k + 1, true, rfl, rfl, by omega, HW, Lib.hid (HE.out _)⟩, by simp only [intOf]; omega⟩
        · have hkm : k = m := by omega
          have hbb : b.any (inOne (x1, x2, x3)) = bi := by
            have h := hbi.out
            rwa [List.take_of_length_le (by have := HX.out.2.2.2.1; omega)] at h
          have HB := Lib.hid hbb
          clear hbb hkm hbi
          cases bi
          · have HN : Hid (R = false) := Lib.hid (by
              rw [← HX.out.2.2.2.2]
              unfold underF
              rw [List.all_eq_false]
              exact ⟨_, List.mem_of_getElem? HI.out, by rw [HB.out]; decide⟩)
            go_wp2_with fail
            go_ret
            exact ⟨by rw [HN.out]; rfl, hbk.out⟩
          · have HN : Hid ((a.take (i + 1)).all (fun x => b.any (inOne x)) = true) := Lib.hid (by
              rw [take_one HI.out, List.all_append, ht.out]
              simp [HB.out])
            go_wp2_with fail
            exact ⟨⟨i + 1, rfl, by omega, HN, hbk⟩, by simp only [intOf]; omega⟩
    · have hin : n = i := by omega
      subst hin
      have HN : Hid (R = true) := Lib.hid (by
        rw [← HX.out.2.2.2.2]
        have h := ht.out
        rwa [List.take_of_length_le (by have := HX.out.2.2.1; omega)] at h)
      go_wp2_with fail
      go_ret
      exact ⟨by rw [HN.out]; rfl, hb.out⟩
set_option maxRecDepth 100000 in
set_option maxHeartbeats 2000000 in
theorem has_any (A A1 : Option Addr) (c n c1 kp : Nat) (l : List Vr) (hn : l.length = n) (v : Vr) (hkp : v.past.length = kp) (w : World) (hv : Vs w 0 w.heap.size A l) (hp : Pa w 0 w.heap.size A1 c1 v) (hn2 : n ≤ 140737488355328) :
    Calls Try.prog 33 #[.slice A n c, .agg #[.int .i64 v.s, .int .i64 v.n, .slice A1 kp c1, .bool v.gone, .string v.val]] w fun e w' => e = .returned (.bool (decide (v ∈ l))) ∧ Below w.heap.size w w' := by
  obtain ⟨s, vn, vp, vg, vx⟩ := v
  obtain ⟨hps, _, hpb, _, _⟩ := hp
  simp only at hps hpb hkp ⊢
  rw [hkp] at hpb
  obtain ⟨U, hU⟩ : ∃ U, w.alloc (.cells #[.int .i64 s, .int .i64 vn, .slice A1 kp c1, .bool vg, .string vx] 69) = U := ⟨_, rfl⟩
  have bU : Below w.heap.size w U := by rw [← hU]; exact (Below.refl _ w).alloc (Nat.le_refl _) _
  have NU : Bn w.heap.size 69 [.int .i64 s, .int .i64 vn, .slice A1 kp c1, .bool vg, .string vx] U := by rw [← hU]; exact heap_alloc_new w _
  obtain ⟨g, hg⟩ : ∃ g, w.heap.size = g := ⟨_, rfl⟩
  have HG := Lib.hid hg
  rw [hg] at NU
  have HU := Lib.hid (And.intro bU NU)
  have HX := Lib.hid (And.intro hv (And.intro hn (And.intro hps hkp)))
  clear hv hn hps hkp bU NU
  go_enter Try.func33, Try.ntmps33
  go_wp2_with fail
  clear hU hg
  go_loopw [5] (fun iv wr => ∃ k : Nat, iv = .int .i64 k ∧ k ≤ n ∧ Hid (∀ j, j < k → l.getD j v0 ≠ ⟨s, vn, vp, vg, vx⟩) ∧ Below U.heap.size U wr) (fun iv _ => n - (intOf iv).toNat)
  case atStart => exact ⟨0, rfl, by omega, Lib.hid fun j hj => absurd hj (by omega), Below.refl _ _⟩
  case round =>
    obtain ⟨k, rfl, hk, ht, hb⟩ := hrel
    have hw := HU.out.1.trans (hb.mono HU.out.1.size)
    by_cases hlt : k < n
    · obtain ⟨pb, off, A2, c2, rfl, _, hpB, a0, a1, a2, a3, a4, hpa⟩ := HX.out.1.at HX.out.2.1 hw hlt rfl
      have hmem := mem_v (l := l) (k := k) (by have := HX.out.2.1; omega)
      have hstep : ∀ z, l.getD k v0 = z → z ≠ ⟨s, vn, vp, vg, vx⟩ → ∀ j, j < k + 1 → l.getD j v0 ≠ ⟨s, vn, vp, vg, vx⟩ := fun z hz hne j hj => by
        rcases Nat.lt_or_ge j k with h | h
        · exact ht.out j h
        · obtain rfl : j = k := by omega
          rw [hz]
          exact hne
      obtain ⟨v, hvv⟩ : ∃ v, l.getD k v0 = v := ⟨_, rfl⟩
      have hst := hstep v hvv
      rw [hvv] at a0 a1 a2 a3 a4 hpa hmem
      obtain ⟨s', vn', vp', vg', vx'⟩ := v
      simp only at a0 a1 a2 a3 a4
      obtain ⟨hps', _, hpb', _, _⟩ := hpa
      simp only at hps' hpb'
      obtain ⟨kp', hkp'⟩ : ∃ kp, vp'.length = kp := ⟨_, rfl⟩
      rw [hkp'] at a2 hpb'
      have HV := HU.out.2.same (hb.block _ HU.out.2.lt)
      have e0 := (HV.cell 0).trans rfl
      have e1 := (HV.cell 1).trans rfl
      have e2 := (HV.cell 2).trans rfl
      have e3 := (HV.cell 3).trans rfl
      have e4 := (HV.cell 4).trans rfl
      obtain ⟨q, hq⟩ : ∃ q, decide ((⟨s', vn', vp', vg', vx'⟩ : Vr) = ⟨s, vn, vp, vg, vx⟩) = q := ⟨_, rfl⟩
      have G := Lib.hid (ref_sameone_any A2 A1 c2 c1 kp' kp s' vn' s vn vp' vp vg' vg vx' vx hkp' HX.out.2.2.2 wr.drew ((hps'.more hw.size).below (Below.refl _ _).drew) (((HX.out.2.2.1.below hw).more hw.size).below (Below.refl _ _).drew) hpb' hpb)
      rw [hq] at G
      have hN : (q = true → (⟨s, vn, vp, vg, vx⟩ : Vr) ∈ l) ∧ (q = false → ∀ j, j < k + 1 → l.getD j v0 ≠ ⟨s, vn, vp, vg, vx⟩) := ⟨fun h => by
        rw [h] at hq
        rw [← of_decide_eq_true hq]
        exact hmem, fun h => by
        rw [h] at hq
        exact hst (of_decide_eq_false hq)⟩
      have HN := Lib.hid hN
      have HBB := Lib.hid (And.intro hb hw)
      have lpb : pb < wr.heap.size := by have := hw.size; omega
      have lg : g < wr.heap.size := HV.lt
      have hcs : Hid (∀ V, Below wr.heap.size wr V → V.cell? ⟨pb, off + k * 5, none⟩ = some (.int .i64 s') ∧ V.cell? ⟨pb, off + k * 5 + 1, none⟩ = some (.int .i64 vn') ∧ V.cell? ⟨pb, off + k * 5 + 2, none⟩ = some (.slice A2 kp' c2) ∧ V.cell? ⟨pb, off + k * 5 + 3, none⟩ = some (.bool vg') ∧ V.cell? ⟨pb, off + k * 5 + 4, none⟩ = some (.string vx') ∧ V.cell? ⟨g, 0, none⟩ = some (.int .i64 s) ∧ V.cell? ⟨g, 1, none⟩ = some (.int .i64 vn) ∧ V.cell? ⟨g, 2, none⟩ = some (.slice A1 kp c1) ∧ V.cell? ⟨g, 3, none⟩ = some (.bool vg) ∧ V.cell? ⟨g, 4, none⟩ = some (.string vx)) := Lib.hid fun V hV => ⟨cell_below hV lpb a0, cell_below hV lpb a1, cell_below hV lpb a2, cell_below hV lpb a3, cell_below hV lpb a4, cell_below hV lg e0, cell_below hV lg e1, cell_below hV lg e2, cell_below hV lg e3, cell_below hV lg e4⟩
      have d1 : (0 : Int) ≤ (k : Int) := by omega
      have d2 : (k : Int) < (n : Int) := by omega
      clear hq hN hst hstep hmem hvv hps' hkp' HV ht hb hw a0 a1 a2 a3 a4 e0 e1 e2 e3 e4 hpB
      go_wp2_with fail
      go_region_held3 (fun V => V.cell? ⟨pb, off + k * 5, none⟩ = some (.int .i64 s') ∧ V.cell? ⟨pb, off + k * 5 + 1, none⟩ = some (.int .i64 vn') ∧ V.cell? ⟨pb, off + k * 5 + 2, none⟩ = some (.slice A2 kp' c2) ∧ V.cell? ⟨pb, off + k * 5 + 3, none⟩ = some (.bool vg') ∧ V.cell? ⟨pb, off + k * 5 + 4, none⟩ = some (.string vx') ∧ V.cell? ⟨g, 0, none⟩ = some (.int .i64 s) ∧ V.cell? ⟨g, 1, none⟩ = some (.int .i64 vn) ∧ V.cell? ⟨g, 2, none⟩ = some (.slice A1 kp c1) ∧ V.cell? ⟨g, 3, none⟩ = some (.bool vg) ∧ V.cell? ⟨g, 4, none⟩ = some (.string vx))
        (first | exact hcs.out _ (Below.refl _ _).drew | exact hcs.out _ o3)
        (first | (go_at_call 43; refine G.out.mono ?_; rintro e w3 ⟨rfl, b3⟩; have o3 : Below wr.heap.size wr w3 := (show Below wr.heap.size wr wr.drew from (Below.refl _ wr).drew).trans b3))
      all_goals
        have BE : Below U.heap.size U w3 := HBB.out.1.trans (o3.mono HBB.out.1.size)
        have BW : Below w.heap.size w w3 := HBB.out.2.trans (o3.mono HBB.out.2.size)
        cases q
        · have HQ := Lib.hid (HN.out.2 rfl)
          go_wp2_with fail
          exact ⟨⟨k + 1, rfl, by omega, HQ, BE⟩, by simp only [intOf]; omega⟩
        · have HQ := Lib.hid (HN.out.1 rfl)
          go_wp2_with fail
          go_ret
          exact ⟨by rw [decide_eq_true HQ.out]; rfl, BW⟩
    · have hkn : n = k := by omega
      subst hkn
      have HN : Hid (decide ((⟨s, vn, vp, vg, vx⟩ : Vr) ∈ l) = false) := Lib.hid (decide_eq_false fun h => by
        obtain ⟨j, hj, e⟩ := List.getElem_of_mem h
        refine ht.out j (by have := HX.out.2.1; omega) ?_
        rw [List.getD_eq_getElem?_getD, List.getElem?_eq_getElem hj, ← e]
        rfl)
      go_wp2_with fail
      go_ret
      exact ⟨by rw [HN.out]; rfl, hw⟩
end Quorum
end Go.Proofs.Ytbhidndgnldheaa

/-
  firthlaw05.plain: are these sets such as writes make them?
-/
namespace Go.Proofs.Ytbhidndgnldheaa
namespace Vers
open Go.RowKit Span
attribute [local go_sem ↓] Go.wp_at_zero Go.wp_at_succ

section
variable {P : Program} (w : World)
/-- append of a slice of versions, nil and empty ones too, onto a row of the call's own, near the longest that there is. -/
theorem wpList_append_vs_wide {ops : Array Oper} {rest : List Oper} {o : Oper} {a : Act} {Q : Exit → Act → World → Prop} (hgd : o.guard = none) (s x : Operand) (t : TypeId)
    (ho : o.op = .call { callee := .builtin .append, args := #[s, x], argTypes := #[t, t] })
    (base : Nat) (e : TypeId) (i : TypeInfo) (z : Value) (bytes : Nat) (ht : P.underlying t = some (.slice e)) (hi : P.info? e = some i) (hz : i.zero = some z)
    (hsize : i.size = 5) (hby : i.bytes = bytes) (hzs : z.cells.size = 5)
    (v : Value) (n : Nat) (ps : List Pv) (hs : a.eval s = v) (hown : w.ownsRow base e 5 v n (vcs ps)) (L B : Nat) (A : Option Addr) (m c : Nat) (ys : List Vr) (hm : ys.length = m)
    (hx : a.eval x = .slice A m c) (hr : Vs w L B A ys)
    (hbytes : ((n + m) + (n + m) / 4 + 192) * bytes ≤ 281474976710656) (hn : n + m ≤ 281474976710656) (hbase : base ≤ w.heap.size)
    (h : ∀ v' w' qs, qs.map Prod.fst = ys → (∀ p ∈ qs, Pa w L B p.2.1 p.2.2 p.1) → w'.ownsRow base e 5 v' (n + m) (vcs (ps ++ qs)) → w.grownBy w' v.ownBlock → wpList P ops Q rest (a.put o.dst v') w') :
    wpList P ops Q (o :: rest) a w := by
  subst hm
  rcases A with _ | ad
  · have h0 : ys = [] := by
      rcases Nat.eq_zero_or_pos ys.length with h0 | h0
      · exact List.eq_nil_of_length_eq_zero h0
      · obtain ⟨b, off, he, _⟩ := hr h0
        cases he
    subst h0
    refine wpList_plain hgd fun K hK => ?_
    have hrun : (Builtin.append_ #[t, t] o.type #[v, .slice none 0 c]).run P w = .ok v w := by
      rcases hown.2 with ⟨rfl, rfl⟩ | ⟨g, cap, cur, rfl, _, _, hnc, _⟩
      · simp [Builtin.append_, run_underlying ht, sizeOf, typeInfo, hi, Builtin.lenOf, Builtin.firstCells]
      · simp [Builtin.append_, run_underlying ht, sizeOf, typeInfo, hi, Builtin.lenOf, Builtin.firstCells, hnc, storeCells]
    unfold Oper.wp execOp
    simp only [ho, resolve, invoke, builtin, Sem.run_bind, Sem.run_pure, Result.andThen_ok, List.map_toArray, List.map_cons, List.map_nil, hs, hx, List.length_nil, hrun]
    exact hK _ _ (h v w [] rfl (by simp) (by simpa using hown) (World.grownBy.refl w _))
  · rcases ys with _ | ⟨y, ys⟩
    · refine wpList_append_own_wide w hgd s x t ho base e i z 5 bytes ht hi hz hsize hby hzs (by omega) v n (vcs ps) hs hown ad 0 c [] hx (by simp) (by simp) (by simp) (by unfold maxLen; simp at hn; omega) hbytes hbase
        fun v' w' h1 h2 _ => h v' w' [] rfl (by simp) (by simpa using h1) h2
    · obtain ⟨b, off, he, _⟩ := hr (by simp)
      injection he with he
      subst he
      obtain ⟨qs, hq1, hq2, hq3⟩ := vs_pick hr (by simp)
      have hql : qs.length = (y :: ys).length := by rw [← hq1, List.length_map]
      exact wpList_append_own_wide w hgd s x t ho base e i z 5 bytes ht hi hz hsize hby hzs (by omega) v n (vcs ps) hs hown ⟨b, off, none⟩ _ c (vcs qs) hx (by rw [vcs_length, hql]) hq2 (vcs_cell qs) (by unfold maxLen; omega) hbytes hbase
        fun v' w' h1 h2 _ => h v' w' qs hq1 hq3 (by rw [vcs_append]; exact h1) h2
end

/-- Versions gathered in a row of the call's own. -/
def Gath (w : World) (base n : Nat) (ps : List Pv) (l : List Vr) (v : Value) (V : World) : Prop :=
  V.ownsRow base 69 5 v n (vcs ps) ∧ Below base w V ∧ (∀ p ∈ ps, Pa V 0 base p.2.1 p.2.2 p.1) ∧ ps.map Prod.fst = l ∧ base ≤ V.heap.size
theorem gath_next {w V V' : World} {base n m : Nat} {ps qs : List Pv} {l ys : List Vr} {v v' : Value} (h : Gath w base n ps l v V) (hq : qs.map Prod.fst = ys) (hpa : ∀ p ∈ qs, Pa V 0 base p.2.1 p.2.2 p.1) (o : V'.ownsRow base 69 5 v' (n + m) (vcs (ps ++ qs))) (g : V.grownBy V' v.ownBlock) :
    Gath w base (n + m) (ps ++ qs) (l ++ ys) v' V' := by
  have hrow : ∀ k, v.ownBlock = some k → base ≤ k := fun k hk => (h.1.lt k hk).1
  refine ⟨o, h.2.1.grown g h.2.2.2.2 hrow, pa_grown (fun p hp => ?_) g h.2.2.2.2 hrow, by rw [List.map_append, h.2.2.2.1, hq], Nat.le_trans h.2.2.2.2 g.size⟩
  rcases List.mem_append.1 hp with hp | hp
  · exact h.2.2.1 p hp
  · exact hpa p hp

/-- What is asked, for the first i against all and for the next one against the first k. -/
def Okay (l : List Vr) (i k : Nat) : Prop := (∀ p, p < i → ∀ y ∈ l, plainP (l.getD p v0) y) ∧ ∀ q, q < k → plainP (l.getD i v0) (l.getD q v0)
theorem okay_step {l : List Vr} {i k : Nat} (h : Okay l i k) (hp : plainP (l.getD i v0) (l.getD k v0)) : Okay l i (k + 1) := ⟨h.1, fun q hq => by
  rcases Nat.lt_or_ge q k with h1 | h1
  · exact h.2 q h1
  · obtain rfl : q = k := by omega
    exact hp⟩
theorem okay_end {l : List Vr} {i : Nat} (h : Okay l i l.length) : Okay l (i + 1) 0 := ⟨fun p hp y hy => by
  rcases Nat.lt_or_ge p i with h1 | h1
  · exact h.1 p h1 y hy
  · obtain rfl : p = i := by omega
    obtain ⟨q, hq, rfl⟩ := List.getElem_of_mem hy
    have := h.2 q hq
    have e : l.getD q v0 = l[q] := by simp [List.getD_eq_getElem?_getD, hq]
    rwa [e] at this, fun q hq => absurd hq (by omega)⟩
theorem okay_all {l : List Vr} (h : Okay l l.length 0) : plainF l := fun x hx y hy => by
  obtain ⟨p, hp, rfl⟩ := List.getElem_of_mem hx
  have e : l.getD p v0 = l[p] := by simp [List.getD_eq_getElem?_getD, hp]
  have := h.1 p hp y hy
  rwa [e] at this
theorem plain_no {l : List Vr} {x y : Vr} (hx : x ∈ l) (hy : y ∈ l) (h : ¬ plainP x y) : decide (plainF l) = false := decide_eq_false fun hf => h (hf x hx y hy)

/-- The cells of two versions, and only new memory since. -/
def Duo (W : World) (pb o o' : Nat) (s vn : Int) (A1 : Option Addr) (kp c1 : Nat) (s' vn' : Int) (A2 : Option Addr) (kp' c2 : Nat) (V : World) : Prop :=
  V.cell? ⟨pb, o, none⟩ = some (.int .i64 s) ∧ V.cell? ⟨pb, o + 1, none⟩ = some (.int .i64 vn) ∧ V.cell? ⟨pb, o + 2, none⟩ = some (.slice A1 kp c1) ∧ V.cell? ⟨pb, o', none⟩ = some (.int .i64 s') ∧ V.cell? ⟨pb, o' + 1, none⟩ = some (.int .i64 vn') ∧ V.cell? ⟨pb, o' + 2, none⟩ = some (.slice A2 kp' c2) ∧ Below W.heap.size W V ∧ pb < V.heap.size
theorem duo_keep {W V V' : World} {pb o o' : Nat} {s vn : Int} {A1 : Option Addr} {kp c1 : Nat} {s' vn' : Int} {A2 : Option Addr} {kp' c2 : Nat} (h : Duo W pb o o' s vn A1 kp c1 s' vn' A2 kp' c2 V) (b : Below V.heap.size V V') : Duo W pb o o' s vn A1 kp c1 s' vn' A2 kp' c2 V' := by
  obtain ⟨h0, h1, h2, h3, h4, h5, h6, h7⟩ := h
  exact ⟨cell_below b h7 h0, cell_below b h7 h1, cell_below b h7 h2, cell_below b h7 h3, cell_below b h7 h4, cell_below b h7 h5, h6.trans (b.mono h6.size), Nat.lt_of_lt_of_le h7 b.size⟩
theorem duo_below {W V : World} {pb o o' : Nat} {s vn : Int} {A1 : Option Addr} {kp c1 : Nat} {s' vn' : Int} {A2 : Option Addr} {kp' c2 : Nat} (h : Duo W pb o o' s vn A1 kp c1 s' vn' A2 kp' c2 V) : Below W.heap.size W V := h.2.2.2.2.2.2.1

end Vers
end Go.Proofs.Ytbhidndgnldheaa

/-
  firthlaw16.written: are the versions of some answers such as writes make them? Written by gen16/written.py.
-/
namespace Go.Proofs.Ytbhidndgnldheaa
namespace Quorum
open Go.RowKit Vers Span Blk
attribute [local go_sem ↓] Go.wp_at_zero Go.wp_at_succ
def allV (l : List Rp) : List Vr := l.flatMap fun x => x.1.2
theorem allV_snoc (l : List Rp) (x : Rp) : allV (l ++ [x]) = allV l ++ x.1.2 := by simp [allV]
theorem allV_take (l : List Rp) (k : Nat) : (allV (l.take k)).length ≤ (allV l).length := by
  have e : allV l = allV (l.take k) ++ allV (l.drop k) := by
    unfold allV
    rw [← List.flatMap_append, List.take_append_drop]
  rw [e, List.length_append]
  omega
def wrP (x y : Vr) : Bool := (!((x.s == y.s) && (x.n == y.n)) || decide (x = y)) && (!decide (behind [x] y.s y.n) || (!decide (behind [y] x.s x.n) && underF y.past x.past))
def wrF (l : List Vr) : Bool := l.all fun x => l.all fun y => wrP x y
def OkW (l : List Vr) (i k : Nat) : Prop := (∀ p, p < i → ∀ y ∈ l, wrP (l.getD p v0) y = true) ∧ ∀ q, q < k → wrP (l.getD i v0) (l.getD q v0) = true
theorem okw_step {l : List Vr} {i k : Nat} (h : OkW l i k) (hp : wrP (l.getD i v0) (l.getD k v0) = true) : OkW l i (k + 1) := ⟨h.1, fun q hq => by
  rcases Nat.lt_or_ge q k with h1 | h1
  · exact h.2 q h1
  · obtain rfl : q = k := by omega
    exact hp⟩
theorem okw_end {l : List Vr} {i : Nat} (h : OkW l i l.length) : OkW l (i + 1) 0 := ⟨fun p hp y hy => by
  rcases Nat.lt_or_ge p i with h1 | h1
  · exact h.1 p h1 y hy
  · obtain rfl : p = i := by omega
    obtain ⟨q, hq, rfl⟩ := List.getElem_of_mem hy
    have := h.2 q hq
    have e : l.getD q v0 = l[q] := by simp [List.getD_eq_getElem?_getD, hq]
    rwa [e] at this, fun q hq => absurd hq (by omega)⟩
theorem okw_all {l : List Vr} (h : OkW l l.length 0) : wrF l = true := List.all_eq_true.2 fun x hx => List.all_eq_true.2 fun y hy => by
  obtain ⟨p, hp, rfl⟩ := List.getElem_of_mem hx
  have e : l.getD p v0 = l[p] := by simp [List.getD_eq_getElem?_getD, hp]
  have := h.1 p hp y hy
  rwa [e] at this
theorem wr_no {l : List Vr} {x y : Vr} (hx : x ∈ l) (hy : y ∈ l) (h : wrP x y = false) : wrF l = false := by
  unfold wrF
  rw [List.all_eq_false]
  exact ⟨x, hx, fun h1 => by rw [List.all_eq_true.1 h1 y hy] at h; cases h⟩
theorem slice_one (b off n c : Nat) (i : Nat) (hi : i < n) (hc : n ≤ c) : ∀ V, (Instr.slice 47 (.slice (some ⟨b, off, none⟩) n c) (some (.int .i64 (i : Int))) (some (.int .i64 ((i : Int) + 1))) none).run Try.prog V = .ok (.slice (some ⟨b, off + i * 5, none⟩) 1 (c - i)) V := fun V => by
  obtain ⟨i0, hi0, hz0, hz1, hz2⟩ := info_parts info_ver
  have hs := run_slice_lh (P := Try.prog) V 47 (some ⟨b, off, none⟩) n c elem_vers .i64 .i64 (i : Int) ((i : Int) + 1) (by omega) (by omega) (by omega)
  rw [hs]
  have he : Try.prog.elem 47 = 69 := by kernel_rfl
  have ha : (⟨b, off, none⟩ : Addr).add (i * 5) = ⟨b, off + i * 5, none⟩ := add_plain _ _ _
  have h1 : ((i : Int) + 1).toNat = i + 1 := by omega
  have h2 : ¬ c = i := by omega
  rw [he, h1]
  simp only [sizeOf, typeInfo, Sem.run_bind, Sem.run_pure, sliced, Int.toNat_natCast]
  simp [go_sem, hi0, hz1, h2]
set_option maxRecDepth 100000 in
set_option maxHeartbeats 4000000 in
theorem written_any (A : Option Addr) (c n : Nat) (l : List Rp) (hn : l.length = n) (w : World) (hr : Rs w A l) (hsum : (allV l).length * 64 ≤ 140737488351232) (hbig : n ≤ 140737488355328) :
    Calls Try.prog 28 #[.slice A n c] w fun e w' => e = .returned (.bool (wrF (allV l))) ∧ Below w.heap.size w w' := by
  obtain ⟨R, hR⟩ : ∃ R, wrF (allV l) = R := ⟨_, rfl⟩
  rw [hR]
  obtain ⟨i0, hi0, hz0, hz1, hz2⟩ := info_parts info_ver
  obtain ⟨base, hbase⟩ : ∃ base, w.heap.size = base := ⟨_, rfl⟩
  have HV := Lib.hid (And.intro hr (And.intro hn (And.intro hR hbase)))
  have HS := Lib.hid hsum
  clear hr hn hR hbase hsum
  go_enter Try.func28, Try.ntmps28
  go_wp2_with fail
  go_loopw [3, 4] (fun ov iv V => ∃ (k j co : Nat) (Ao : Option Addr) (ps : List Pv), iv = .int .i64 k ∧ k ≤ n ∧ ov = .slice Ao j co ∧ Hid (Gath w base j ps (allV (l.take k)) (.slice Ao j co) V ∧ (allV (l.take k)).length = j)) (fun _ iv _ => n - (intOf iv).toNat)
  case atStart => exact ⟨0, 0, 0, none, [], rfl, by omega, rfl, Lib.hid ⟨⟨World.ownsRow_nil _ _ _ _, Below.refl _ _, by simp, by simp [allV], by rw [HV.out.2.2.2]; omega⟩, by simp [allV]⟩⟩
  case round =>
    obtain ⟨k, j, co, Ao, ps, rfl, hk, rfl, hG⟩ := hrel
    by_cases hlt : k < n
    · obtain ⟨pb, off, rfl, hpb, hat⟩ := HV.out.1.1 (by have := HV.out.2.1; omega)
      obtain ⟨⟨⟨node, an⟩, ⟨Av, cv⟩, ⟨Ar, kr, cr⟩⟩, hx⟩ : ∃ x, l[k]? = some x := ⟨l[k]'(by have := HV.out.2.1; omega), by simp⟩
      obtain ⟨hv, hvc, hvb⟩ := HV.out.1.2 _ (List.mem_of_getElem? hx)
      simp only at hv hvc hvb
      obtain ⟨m, hm⟩ : ∃ z, an.length = z := ⟨_, rfl⟩
      have hV := hG.out.1.2.1
      have x1 : wr.cell? ⟨pb, off + k * 3 + 1, none⟩ = some (.slice Av m cv) := by
        rw [← hm]
        exact (hV.cell (p := ⟨pb, off + k * 3 + 1, none⟩) (by rw [← HV.out.2.2.2]; exact hpb)).trans (hat k _ hx 1 _ rfl)
      have htk : allV (l.take (k + 1)) = allV (l.take k) ++ an := by rw [take_one hx, allV_snoc]
      have hjm : (j + m) * 64 ≤ 140737488351232 := by
        have h1 := allV_take l (k + 1)
        rw [htk, List.length_append, hG.out.2, hm] at h1
        have := HS.out
        omega
      have HA := Lib.hid (And.intro (show Vs wr 0 base Av an by
        have := (hv.more (Nat.le_refl _))
        rw [HV.out.2.2.2] at this
        exact this.below hV) (And.intro hm htk))
      have hle := hG.out.1.2.2.2.2
      have d1 : (0 : Int) ≤ (k : Int) := by omega
      have d2 : (k : Int) < (n : Int) := by omega
      clear hv hvc hvb hm htk hat hx hV hpb
      go_wp2_with (at_builtin; refine wpList_append_vs_wide _ rfl (.tmp 13) (.tmp 18) 47 rfl base 69 i0 _ 64 Try.underlying47 hi0 hz0 hz1 hz2 rfl (.slice Ao j co) j ps rfl hG.out.1.1 0 base Av m cv an HA.out.2.1 rfl HA.out.1 (by omega) (by omega) hle ?_; intro v5 w5 qs5 hq5 hpa5 o5 g5; have hN5 := gath_next hG.out.1 hq5 hpa5 o5 g5; obtain ⟨A5, c5, rfl⟩ := own_form o5)
      have HN : Hid (Gath w base (j + m) (ps ++ qs5) (allV (l.take (k + 1))) (.slice A5 (j + m) c5) w5 ∧ (allV (l.take (k + 1))).length = j + m) := Lib.hid (by
        rw [HA.out.2.2]
        exact ⟨hN5, by rw [List.length_append, hG.out.2, HA.out.2.1]⟩)
      clear hN5 o5 g5 hpa5 hq5
      exact ⟨⟨k + 1, j + m, c5, A5, ps ++ qs5, rfl, by omega, rfl, HN⟩, by simp only [intOf]; omega⟩
    · have hkn : n = k := by omega
      subst hkn
      obtain ⟨W, hW⟩ : ∃ W, wr = W := ⟨_, rfl⟩
      subst hW
      have htl : allV (l.take n) = allV l := by rw [List.take_of_length_le (by have := HV.out.2.1; omega)]
      have HX : Hid (Vs wr 0 wr.heap.size Ao (allV l) ∧ (allV l).length = j ∧ wrF (allV l) = R) := Lib.hid (by
        have hG' := hG.out
        rw [htl] at hG'
        refine ⟨?_, hG'.2, HV.out.2.2.1⟩
        have hpl : ps.length = j := by rw [← hG'.2, ← hG'.1.2.2.2.1, List.length_map]
        have h := OwnVs.vs (base := base) (L := 0) (B := base) (n := j) (c := co) (A := Ao) (w := wr) (ps := ps) ⟨by rw [hpl]; exact hG'.1.1, hG'.1.2.2.1⟩ (Nat.zero_le _) hG'.1.2.2.2.2
        rw [hG'.1.2.2.2.1] at h
        exact h)
      have hjc : j ≤ co := (own_len hG.out.1.1).2
      have hjb : j * 64 ≤ 140737488351232 := by
        have h1 := HS.out
        rw [HX.out.2.1] at h1
        exact h1
      have HW : Hid (Below w.heap.size w wr) := Lib.hid (by rw [HV.out.2.2.2]; exact hG.out.1.2.1)
      have sW := HW.out.size
      obtain ⟨L, hL⟩ : ∃ L, allV l = L := ⟨_, rfl⟩
      rw [hL] at HX
      clear hL htl hG HV HS hi0 hz0 hz1 hz2 hlt hbig
      obtain ⟨W, hW⟩ : ∃ W, W = wr := ⟨_, rfl⟩
      subst hW
      go_wp2_with fail
      go_loopw [5] (fun iv V => ∃ i : Nat, iv = .int .i64 i ∧ i ≤ j ∧ Hid (OkW L i 0) ∧ Below W.heap.size W V) (fun iv _ => j - (intOf iv).toNat)
      case atStart => exact ⟨0, rfl, by omega, Lib.hid ⟨fun p hp => absurd hp (by omega), fun q hq => absurd hq (by omega)⟩, Below.refl _ _⟩
      case round =>
        obtain ⟨i, rfl, hi, ht, hb⟩ := hrel
        have hsz := hb.size
        by_cases hlt : i < j
        · go_wp2_with fail
          go_loopw [6] (fun kv V => ∃ k : Nat, kv = .int .i64 k ∧ k ≤ j ∧ Hid (OkW L i k) ∧ Below W.heap.size W V) (fun kv _ => j - (intOf kv).toNat)
          case atStart => exact ⟨0, rfl, by omega, ht, hb⟩
          case round =>
            obtain ⟨k, rfl, hk, htk, hbk⟩ := hrel
            have hszk := hbk.size
            by_cases hlk : k < j
            · obtain ⟨pb, off, A1, c1, rfl, _, hpB, a0, a1, a2, a3, a4, hpa⟩ := HX.out.1.at HX.out.2.1 hbk hlt rfl
              obtain ⟨p', off', A2, c2, e', _, hpB', a0', a1', a2', a3', a4', hpa'⟩ := HX.out.1.at HX.out.2.1 hbk hlk rfl
              injection e' with e'
              injection e' with e1 e2
              subst e1 e2
              have hma := mem_v (l := L) (k := i) (by have := HX.out.2.1; omega)
              have hmb := mem_v (l := L) (k := k) (by have := HX.out.2.1; omega)
              have hmore : wrP (L.getD i v0) (L.getD k v0) = true → OkW L i (k + 1) := okw_step htk.out
              have htw : wrP (L.getD i v0) (L.getD k v0) = false → R = false := fun h => by
                rw [← HX.out.2.2]
                exact wr_no hma hmb h
              obtain ⟨v, hvv⟩ : ∃ v, L.getD i v0 = v := ⟨_, rfl⟩
              obtain ⟨v', hvv'⟩ : ∃ v, L.getD k v0 = v := ⟨_, rfl⟩
              rw [hvv] at a0 a1 a2 a3 a4 hpa
              rw [hvv'] at a0' a1' a2' a3' a4' hpa'
              rw [hvv, hvv'] at hmore htw
              clear hvv hvv' hma hmb
              obtain ⟨s, vn, vp, vg, vx⟩ := v
              obtain ⟨s', vn', vp', vg', vx'⟩ := v'
              simp only at a0 a1 a2 a3 a4 a0' a1' a2' a3' a4'
              obtain ⟨hps, hpc, hpb, hpx, _⟩ := hpa
              obtain ⟨hps', hpc', hpb', hpx', _⟩ := hpa'
              simp only at hps hpb hps' hpb' hpc hpc' hpx hpx'
              obtain ⟨kp, hkp⟩ : ∃ kp, vp.length = kp := ⟨_, rfl⟩
              obtain ⟨kp', hkp'⟩ : ∃ kp, vp'.length = kp := ⟨_, rfl⟩
              rw [hkp] at a2 hpb hpc
              rw [hkp'] at a2' hpb' hpc'
              have d1 : (0 : Int) ≤ (k : Int) := by omega
              have d2 : (k : Int) < (j : Int) := by omega
              have d3 : (0 : Int) ≤ (i : Int) := by omega
              have d4 : (i : Int) < (j : Int) := by omega
              have lb : pb < wr.heap.size := by omega
              have hpl : ∀ V, Below wr.heap.size wr V → Ss V V.heap.size A1 vp ∧ Ss V V.heap.size A2 vp' := fun V h => by
                exact ⟨((hps.more hszk).below h).more h.size, ((hps'.more hszk).below h).more h.size⟩
              have hcells : ∀ V, Below wr.heap.size wr V → V.cell? ⟨pb, off + i * 5 + 3, none⟩ = some (.bool vg) ∧ V.cell? ⟨pb, off + i * 5 + 4, none⟩ = some (.string vx) ∧ V.cell? ⟨pb, off + k * 5 + 3, none⟩ = some (.bool vg') ∧ V.cell? ⟨pb, off + k * 5 + 4, none⟩ = some (.string vx') := fun V h => ⟨cell_below h lb a3, cell_below h lb a4, cell_below h lb a3', cell_below h lb a4'⟩
              have g1 : ∀ V, Duo wr pb (off + i * 5) (off + k * 5) s vn A1 kp c1 s' vn' A2 kp' c2 V → Calls Try.prog 32 #[.slice (some ⟨pb, off + i * 5, none⟩) 1 (co - i), .agg #[.int .i64 s', .int .i64 vn']] V (fun e w' => e = .returned (.bool (decide (behind [⟨s, vn, vp, vg, vx⟩] s' vn'))) ∧ Below V.heap.size V w') := fun V h => Vers.behind_any (some ⟨pb, off + i * 5, none⟩) (co - i) 1 [⟨s, vn, vp, vg, vx⟩] rfl s' vn' V (fun _ => ⟨pb, off + i * 5, rfl, Nat.zero_le _, h.2.2.2.2.2.2.2, fun q hq => by
                obtain rfl : q = 0 := by simpa using hq
                obtain ⟨z3, z4, _⟩ := hcells V (duo_below h)
                refine ⟨A1, c1, h.1, h.2.1, ?_, z3, z4, (hpl V (duo_below h)).1, by simp only [List.getD_cons_zero]; omega, by simp only [List.getD_cons_zero]; omega, hpx, fun _ _ _ => Nat.zero_le _⟩
                simp only [List.getD_cons_zero]
                rw [hkp]
                exact h.2.2.1⟩) (by omega)
              have g2 : ∀ V, Duo wr pb (off + i * 5) (off + k * 5) s vn A1 kp c1 s' vn' A2 kp' c2 V → Calls Try.prog 32 #[.slice (some ⟨pb, off + k * 5, none⟩) 1 (co - k), .agg #[.int .i64 s, .int .i64 vn]] V (fun e w' => e = .returned (.bool (decide (behind [⟨s', vn', vp', vg', vx'⟩] s vn))) ∧ Below V.heap.size V w') := fun V h => Vers.behind_any (some ⟨pb, off + k * 5, none⟩) (co - k) 1 [⟨s', vn', vp', vg', vx'⟩] rfl s vn V (fun _ => ⟨pb, off + k * 5, rfl, Nat.zero_le _, h.2.2.2.2.2.2.2, fun q hq => by
                obtain rfl : q = 0 := by simpa using hq
                obtain ⟨_, _, z3, z4⟩ := hcells V (duo_below h)
                refine ⟨A2, c2, h.2.2.2.1, h.2.2.2.2.1, ?_, z3, z4, (hpl V (duo_below h)).2, by simp only [List.getD_cons_zero]; omega, by simp only [List.getD_cons_zero]; omega, hpx', fun _ _ _ => Nat.zero_le _⟩
                simp only [List.getD_cons_zero]
                rw [hkp']
                exact h.2.2.2.2.2.1⟩) (by omega)
              have g3 := fun V (h : Duo wr pb (off + i * 5) (off + k * 5) s vn A1 kp c1 s' vn' A2 kp' c2 V) => under_any A2 A1 c2 c1 kp' kp vp' vp hkp' hkp V (hpl V (duo_below h)).2 (hpl V (duo_below h)).1 hpb' hpb
              have g4 := fun V (h : Below wr.heap.size wr V) => ref_sameone_any A1 A2 c1 c2 kp kp' s vn s' vn' vp vp' vg vg' vx vx' hkp hkp' V (hpl V h).1 (hpl V h).2 hpb hpb'
              have hduo : Duo wr pb (off + i * 5) (off + k * 5) s vn A1 kp c1 s' vn' A2 kp' c2 wr := ⟨a0, a1, a2, a0', a1', a2', Below.refl _ wr, lb⟩
              obtain ⟨q1, hq1⟩ : ∃ q, decide (behind [⟨s, vn, vp, vg, vx⟩] s' vn') = q := ⟨_, rfl⟩
              obtain ⟨q2, hq2⟩ : ∃ q, decide (behind [⟨s', vn', vp', vg', vx'⟩] s vn) = q := ⟨_, rfl⟩
              obtain ⟨q3, hq3⟩ : ∃ q, underF vp' vp = q := ⟨_, rfl⟩
              obtain ⟨q4, hq4⟩ : ∃ q, decide ((⟨s, vn, vp, vg, vx⟩ : Vr) = ⟨s', vn', vp', vg', vx'⟩) = q := ⟨_, rfl⟩
              rw [hq1] at g1
              rw [hq2] at g2
              rw [hq3] at g3
              rw [hq4] at g4
              have HN := Lib.hid (show (((!((s == s') && (vn == vn')) || q4) && (!q1 || (!q2 && q3))) = true → OkW L i (k + 1)) ∧ (((!((s == s') && (vn == vn')) || q4) && (!q1 || (!q2 && q3))) = false → R = false) from by
                unfold wrP at hmore htw
                simp only [hq1, hq2, hq3, hq4] at hmore htw
                exact ⟨hmore, htw⟩)
              have G1 := Lib.hid g1
              have G2 := Lib.hid g2
              have G3 := Lib.hid g3
              have G4 := Lib.hid g4
              have HC := Lib.hid hcells
              have HBK := Lib.hid hbk
              have HDU := Lib.hid hduo
              clear g1 g2 g3 g4 hq1 hq2 hq3 hq4 hmore htw hps hps' hkp hkp' hpl htk hcells hbk hduo a0 a1 a2 a3 a4 a0' a1' a2' a3' a4' hpc hpc' hpx hpx'
              go_upto_region 12 with fail
              go_cut [54] (fun cv V => ∃ z : Bool, cv = .bool z ∧ Hid (z = (((s == s') && (vn == vn')) && !q4)) ∧ Hid (Below wr.heap.size wr V))
              case first =>
                obtain ⟨f0, f1, f2, f0', f1', f2', fb, fl⟩ := HDU.out
                by_cases cd : s = s' ∧ vn = vn'
                · obtain ⟨rfl, rfl⟩ := cd
                  have H4 := Lib.hid (G4.out wr.drew (Below.refl _ wr).drew)
                  obtain ⟨c3', c4', c3'', c4''⟩ := HC.out wr (Below.refl _ wr)
                  have hS : Hid (∀ V, Below wr.heap.size wr V → V.cell? ⟨pb, off + i * 5, none⟩ = some (.int .i64 s) ∧ V.cell? ⟨pb, off + i * 5 + 1, none⟩ = some (.int .i64 vn) ∧ V.cell? ⟨pb, off + i * 5 + 2, none⟩ = some (.slice A1 kp c1) ∧ V.cell? ⟨pb, off + i * 5 + 3, none⟩ = some (.bool vg) ∧ V.cell? ⟨pb, off + i * 5 + 4, none⟩ = some (.string vx) ∧
                      V.cell? ⟨pb, off + k * 5, none⟩ = some (.int .i64 s) ∧ V.cell? ⟨pb, off + k * 5 + 1, none⟩ = some (.int .i64 vn) ∧ V.cell? ⟨pb, off + k * 5 + 2, none⟩ = some (.slice A2 kp' c2) ∧ V.cell? ⟨pb, off + k * 5 + 3, none⟩ = some (.bool vg') ∧ V.cell? ⟨pb, off + k * 5 + 4, none⟩ = some (.string vx')) := Lib.hid fun V hV => ⟨cell_below hV fl f0, cell_below hV fl f1, cell_below hV fl f2, cell_below hV fl c3', cell_below hV fl c4', cell_below hV fl f0', cell_below hV fl f1', cell_below hV fl f2', cell_below hV fl c3'', cell_below hV fl c4''⟩
                  clear c3' c4' c3'' c4'' f0 f1 f2 f0' f1' f2' fb fl
                  go_region_held3 (fun V => V.cell? ⟨pb, off + i * 5, none⟩ = some (.int .i64 s) ∧ V.cell? ⟨pb, off + i * 5 + 1, none⟩ = some (.int .i64 vn) ∧ V.cell? ⟨pb, off + i * 5 + 2, none⟩ = some (.slice A1 kp c1) ∧ V.cell? ⟨pb, off + i * 5 + 3, none⟩ = some (.bool vg) ∧ V.cell? ⟨pb, off + i * 5 + 4, none⟩ = some (.string vx) ∧
                      V.cell? ⟨pb, off + k * 5, none⟩ = some (.int .i64 s) ∧ V.cell? ⟨pb, off + k * 5 + 1, none⟩ = some (.int .i64 vn) ∧ V.cell? ⟨pb, off + k * 5 + 2, none⟩ = some (.slice A2 kp' c2) ∧ V.cell? ⟨pb, off + k * 5 + 3, none⟩ = some (.bool vg') ∧ V.cell? ⟨pb, off + k * 5 + 4, none⟩ = some (.string vx'))
                    (first | exact hS.out _ (Below.refl _ _).drew | exact hS.out _ o9)
                    (first | (go_at_call 43; refine H4.out.mono ?_; rintro e w9 ⟨rfl, b9⟩; have o9 : Below wr.heap.size wr w9 := (show Below wr.heap.size wr wr.drew from (Below.refl _ wr).drew).trans b9))
                  go_wp2_with fail
                  go_meet
                  exact ⟨!q4, rfl, Lib.hid (by simp), Lib.hid o9⟩
                · have hx : ¬ (s = s') ∨ (s = s' ∧ ¬ vn = vn') := by
                    by_cases h1 : s = s'
                    · exact .inr ⟨h1, fun h2 => cd ⟨h1, h2⟩⟩
                    · exact .inl h1
                  clear cd G4
                  rcases hx with h1 | ⟨rfl, h1⟩
                  · have g1 : (s == s') = false := by simpa using h1
                    clear h1
                    go_wp2_with fail
                    go_quiet (fail)
                    go_wp2_with fail
                    go_meet
                    exact ⟨false, rfl, Lib.hid (by simp [g1]), Lib.hid (Ring.below_drewN _ _ _)⟩
                  · have g1 : (vn == vn') = false := by simpa using h1
                    have g2 : (s == s) = true := by simp
                    clear h1
                    go_wp2_with fail
                    go_quiet (fail)
                    go_wp2_with fail
                    go_meet
                    exact ⟨false, rfl, Lib.hid (by simp [g1]), Lib.hid (Ring.below_drewN _ _ _)⟩
              case rest =>
                obtain ⟨z, rfl, hz, hbz⟩ := hcut
                cases z
                · have HM : Hid ((((!((s == s') && (vn == vn')) || q4)) = true)) := Lib.hid (by
                    have h := hz.out
                    revert h
                    cases ((s == s') && (vn == vn')) <;> cases q4 <;> simp)
                  have HN2 : Hid (((!q1 || (!q2 && q3)) = true → OkW L i (k + 1)) ∧ ((!q1 || (!q2 && q3)) = false → R = false)) := Lib.hid ⟨fun h => HN.out.1 (by rw [HM.out, h]; rfl), fun h => HN.out.2 (by rw [h, Bool.and_false])⟩
                  have hst : Duo wr pb (off + i * 5) (off + k * 5) s vn A1 kp c1 s' vn' A2 kp' c2 wc.drew := duo_keep HDU.out hbz.out.drew
                  have hs1 := slice_one pb off j co i hlt hjc
                  have hs2 := slice_one pb off j co k hlk hjc
                  have e1 : IntKind.i64.wrap ((i : Int) + 1) = (i : Int) + 1 := Go.IntWalk.i64_in _ (by omega)
                  have e2 : IntKind.i64.wrap ((k : Int) + 1) = (k : Int) + 1 := Go.IntWalk.i64_in _ (by omega)
                  clear HM HN hz G4 HC
                  go_wp2_with fail
                  cases q1
                  · refine wp_region_held_drew (S := (fun V => V.cell? ⟨pb, off + i * 5, none⟩ = some (.int .i64 s) ∧ V.cell? ⟨pb, off + i * 5 + 1, none⟩ = some (.int .i64 vn) ∧ V.cell? ⟨pb, off + i * 5 + 2, none⟩ = some (.slice A1 kp c1) ∧ V.cell? ⟨pb, off + k * 5, none⟩ = some (.int .i64 s') ∧ V.cell? ⟨pb, off + k * 5 + 1, none⟩ = some (.int .i64 vn') ∧ V.cell? ⟨pb, off + k * 5 + 2, none⟩ = some (.slice A2 kp' c2) ∧ Below wr.heap.size wr V ∧ pb < V.heap.size)) (by kernel_rfl) hst (fun hHeld => ?_)
                    refine wpAnyH_take (i := 0) (oi := { dst := some 55, op := Op.move (Operand.tmp 3), type := 47, pos := "law.go:110", after := #[], guard := none }) (v := ?va1) rfl (by kernel_rfl) (by kernel_rfl) (by kernel_rfl) (fun _ _ _ h => h) (Or.inl ⟨by rfl, ?hya1⟩) (by assumption) ?resta1
                    case hya1 =>
                      intro w hSw
                      (try dsimp only at hSw)
                      go_simp
                      (try with_reducible rfl)
                    (try simp only [Act.put, List.setIfInBounds_toArray, List.set_cons_zero, List.set_cons_succ])
                    refine wpAnyH_take (i := 1) (oi := { dst := some 56, op := Op.move (Operand.tmp 5), type := 3, pos := "law.go:110", after := #[], guard := none }) (v := ?va2) rfl (by kernel_rfl) (by kernel_rfl) (by kernel_rfl) (fun _ _ _ h => h) (Or.inl ⟨by rfl, ?hya2⟩) (by assumption) ?resta2
                    case hya2 =>
                      intro w hSw
                      (try dsimp only at hSw)
                      go_simp
                      (try with_reducible rfl)
                    (try simp only [Act.put, List.setIfInBounds_toArray, List.set_cons_zero, List.set_cons_succ])
                    refine wpAnyH_take (i := 2) (oi := { dst := some 57, op := Op.move (Operand.tmp 5), type := 3, pos := "law.go:110", after := #[], guard := none }) (v := ?va3) rfl (by kernel_rfl) (by kernel_rfl) (by kernel_rfl) (fun _ _ _ h => h) (Or.inl ⟨by rfl, ?hya3⟩) (by assumption) ?resta3
                    case hya3 =>
                      intro w hSw
                      (try dsimp only at hSw)
                      go_simp
                      (try with_reducible rfl)
                    (try simp only [Act.put, List.setIfInBounds_toArray, List.set_cons_zero, List.set_cons_succ])
                    refine wpAnyH_take (i := 3) (oi := { dst := some 58, op := Op.binOp BinOp.add 3 (Operand.tmp 57) (Operand.const (Value.int IntKind.i64 1)) 3, type := 3, pos := "law.go:110", after := #[{ on := 2, ground := Ground.data }], guard := none }) (v := ?va4) rfl (by kernel_rfl) (by kernel_rfl) (by kernel_rfl) (fun _ _ _ h => h) (Or.inl ⟨by rfl, ?hya4⟩) (by assumption) ?resta4
                    case hya4 =>
                      intro w hSw
                      (try dsimp only at hSw)
                      go_simp
                      (try with_reducible rfl)
                    (try simp only [Act.put, List.setIfInBounds_toArray, List.set_cons_zero, List.set_cons_succ])
                    refine wpAnyH_take (i := 4) (oi := { dst := some 59, op := Op.slice 47 (Operand.tmp 55) (some (Operand.tmp 56)) (some (Operand.tmp 58)) none, type := 47, pos := "law.go:110", after := #[{ on := 0, ground := Ground.data }, { on := 1, ground := Ground.data }, { on := 3, ground := Ground.data }], guard := none }) (v := ?va5) rfl (by kernel_rfl) (by kernel_rfl) (by kernel_rfl) (fun _ _ _ h => h) (Or.inl ⟨by rfl, ?hya5⟩) (by assumption) ?resta5
                    case hya5 =>
                      intro w hSw
                      (try dsimp only at hSw)
                      go_simp
                      (try with_reducible rfl)
                    (try simp only [Act.put, List.setIfInBounds_toArray, List.set_cons_zero, List.set_cons_succ])
                    refine wpAnyH_take (i := 5) (oi := { dst := some 60, op := Op.move (Operand.tmp 3), type := 47, pos := "law.go:110", after := #[], guard := none }) (v := ?va6) rfl (by kernel_rfl) (by kernel_rfl) (by kernel_rfl) (fun _ _ _ h => h) (Or.inl ⟨by rfl, ?hya6⟩) (by assumption) ?resta6
                    case hya6 =>
                      intro w hSw
                      (try dsimp only at hSw)
                      go_simp
                      (try with_reducible rfl)
                    (try simp only [Act.put, List.setIfInBounds_toArray, List.set_cons_zero, List.set_cons_succ])
                    refine wpAnyH_take (i := 6) (oi := { dst := some 61, op := Op.move (Operand.tmp 6), type := 3, pos := "law.go:110", after := #[], guard := none }) (v := ?va7) rfl (by kernel_rfl) (by kernel_rfl) (by kernel_rfl) (fun _ _ _ h => h) (Or.inl ⟨by rfl, ?hya7⟩) (by assumption) ?resta7
                    case hya7 =>
                      intro w hSw
                      (try dsimp only at hSw)
                      go_simp
                      (try with_reducible rfl)
                    (try simp only [Act.put, List.setIfInBounds_toArray, List.set_cons_zero, List.set_cons_succ])
                    refine wpAnyH_take (i := 7) (oi := { dst := some 62, op := Op.indexAddr 47 (Operand.tmp 60) (Operand.tmp 61), type := 0, pos := "law.go:110", after := #[{ on := 5, ground := Ground.data }, { on := 6, ground := Ground.data }], guard := none }) (v := ?va8) rfl (by kernel_rfl) (by kernel_rfl) (by kernel_rfl) (fun _ _ _ h => h) (Or.inl ⟨by rfl, ?hya8⟩) (by assumption) ?resta8
                    case hya8 =>
                      intro w hSw
                      (try dsimp only at hSw)
                      go_simp
                      (try with_reducible rfl)
                    (try simp only [Act.put, List.setIfInBounds_toArray, List.set_cons_zero, List.set_cons_succ])
                    refine wpAnyH_take (i := 8) (oi := { dst := some 63, op := Op.fieldAddr 69 (Operand.tmp 62) 0, type := 0, pos := "law.go:110", after := #[{ on := 7, ground := Ground.data }], guard := none }) (v := ?va9) rfl (by kernel_rfl) (by kernel_rfl) (by kernel_rfl) (fun _ _ _ h => h) (Or.inl ⟨by rfl, ?hya9⟩) (by assumption) ?resta9
                    case hya9 =>
                      intro w hSw
                      (try dsimp only at hSw)
                      go_simp
                      (try with_reducible rfl)
                    (try simp only [Act.put, List.setIfInBounds_toArray, List.set_cons_zero, List.set_cons_succ])
                    refine wpAnyH_take (i := 9) (oi := { dst := some 64, op := Op.load 66 (Operand.tmp 63), type := 66, pos := "law.go:110", after := #[{ on := 8, ground := Ground.data }], guard := none }) (v := ?va10) rfl (by kernel_rfl) (by kernel_rfl) (by kernel_rfl) (fun _ _ _ h => h) (Or.inl ⟨by rfl, ?hya10⟩) (by assumption) ?resta10
                    case hya10 =>
                      intro w hSw
                      (try dsimp only at hSw)
                      go_simp
                      (try with_reducible rfl)
                    (try simp only [Act.put, List.setIfInBounds_toArray, List.set_cons_zero, List.set_cons_succ])
                    refine wpAnyH_ready (rs := [10]) (by kernel_rfl) (by simp) ?_
                    refine AllReadyH.cons (o := { dst := some 65, op := Op.call { callee := Callee.value (Operand.func 32), args := #[Operand.tmp 59, Operand.tmp 64], argTypes := #[47, 66] }, type := 4, pos := "law.go:110", after := #[{ on := 4, ground := Ground.data }, { on := 9, ground := Ground.data }], guard := none }) rfl (fun K hK => ?_) AllReadyH.nil
                    go_simp
                    (go_at_call 32; refine (G1.out _ (by exact hHeld)).mono ?_; rintro e v1 ⟨rfl, b1⟩)
                    go_wp2_with fail
                    refine hK.out _ _ (duo_keep hHeld b1) (fun hHeld => ?_)
                    clear hK K
                    (try simp only [Act.put, List.setIfInBounds_toArray, List.set_cons_zero, List.set_cons_succ])
                    refine wpAnyH_take (i := 11) (oi := { dst := some 66, op := Op.move (Operand.tmp 65), type := 4, pos := "law.go:110", after := #[{ on := 10, ground := Ground.data }, { on := 10, ground := Ground.chain }], guard := none }) (v := ?va11) rfl (by kernel_rfl) (by kernel_rfl) (by kernel_rfl) (fun _ _ _ h => h) (Or.inl ⟨by rfl, ?hya11⟩) (by assumption) ?resta11
                    case hya11 =>
                      intro w hSw
                      (try dsimp only at hSw)
                      go_simp
                      (try with_reducible rfl)
                    (try simp only [Act.put, List.setIfInBounds_toArray, List.set_cons_zero, List.set_cons_succ])
                    refine wpAnyH_take (i := 12) (oi := { dst := some 67, op := Op.move (Operand.tmp 3), type := 47, pos := "law.go:110", after := #[{ on := 11, ground := Ground.guard }], guard := some (11, true) }) (v := undef) rfl (by kernel_rfl) (by kernel_rfl) (by kernel_rfl) (fun _ _ _ h => h) (Or.inr ⟨by rfl, rfl⟩) (by assumption) ?_
                    (try simp only [Act.put, List.setIfInBounds_toArray, List.set_cons_zero, List.set_cons_succ])
                    refine wpAnyH_take (i := 13) (oi := { dst := some 68, op := Op.move (Operand.tmp 6), type := 3, pos := "law.go:110", after := #[{ on := 11, ground := Ground.guard }], guard := some (11, true) }) (v := undef) rfl (by kernel_rfl) (by kernel_rfl) (by kernel_rfl) (fun _ _ _ h => h) (Or.inr ⟨by rfl, rfl⟩) (by assumption) ?_
                    (try simp only [Act.put, List.setIfInBounds_toArray, List.set_cons_zero, List.set_cons_succ])
                    refine wpAnyH_take (i := 14) (oi := { dst := some 69, op := Op.move (Operand.tmp 6), type := 3, pos := "law.go:110", after := #[{ on := 11, ground := Ground.guard }], guard := some (11, true) }) (v := undef) rfl (by kernel_rfl) (by kernel_rfl) (by kernel_rfl) (fun _ _ _ h => h) (Or.inr ⟨by rfl, rfl⟩) (by assumption) ?_
                    (try simp only [Act.put, List.setIfInBounds_toArray, List.set_cons_zero, List.set_cons_succ])
                    refine wpAnyH_take (i := 15) (oi := { dst := some 70, op := Op.binOp BinOp.add 3 (Operand.tmp 69) (Operand.const (Value.int IntKind.i64 1)) 3, type := 3, pos := "law.go:110", after := #[{ on := 14, ground := Ground.data }, { on := 11, ground := Ground.guard }], guard := some (11, true) }) (v := undef) rfl (by kernel_rfl) (by kernel_rfl) (by kernel_rfl) (fun _ _ _ h => h) (Or.inr ⟨by rfl, rfl⟩) (by assumption) ?_
                    (try simp only [Act.put, List.setIfInBounds_toArray, List.set_cons_zero, List.set_cons_succ])
                    refine wpAnyH_take (i := 16) (oi := { dst := some 71, op := Op.slice 47 (Operand.tmp 67) (some (Operand.tmp 68)) (some (Operand.tmp 70)) none, type := 47, pos := "law.go:110", after := #[{ on := 12, ground := Ground.data }, { on := 13, ground := Ground.data }, { on := 15, ground := Ground.data }, { on := 11, ground := Ground.guard }], guard := some (11, true) }) (v := undef) rfl (by kernel_rfl) (by kernel_rfl) (by kernel_rfl) (fun _ _ _ h => h) (Or.inr ⟨by rfl, rfl⟩) (by assumption) ?_
                    (try simp only [Act.put, List.setIfInBounds_toArray, List.set_cons_zero, List.set_cons_succ])
                    refine wpAnyH_take (i := 17) (oi := { dst := some 72, op := Op.move (Operand.tmp 3), type := 47, pos := "law.go:110", after := #[{ on := 11, ground := Ground.guard }], guard := some (11, true) }) (v := undef) rfl (by kernel_rfl) (by kernel_rfl) (by kernel_rfl) (fun _ _ _ h => h) (Or.inr ⟨by rfl, rfl⟩) (by assumption) ?_
                    (try simp only [Act.put, List.setIfInBounds_toArray, List.set_cons_zero, List.set_cons_succ])
                    refine wpAnyH_take (i := 18) (oi := { dst := some 73, op := Op.move (Operand.tmp 5), type := 3, pos := "law.go:110", after := #[{ on := 11, ground := Ground.guard }], guard := some (11, true) }) (v := undef) rfl (by kernel_rfl) (by kernel_rfl) (by kernel_rfl) (fun _ _ _ h => h) (Or.inr ⟨by rfl, rfl⟩) (by assumption) ?_
                    (try simp only [Act.put, List.setIfInBounds_toArray, List.set_cons_zero, List.set_cons_succ])
                    refine wpAnyH_take (i := 19) (oi := { dst := some 74, op := Op.indexAddr 47 (Operand.tmp 72) (Operand.tmp 73), type := 0, pos := "law.go:110", after := #[{ on := 17, ground := Ground.data }, { on := 18, ground := Ground.data }, { on := 11, ground := Ground.guard }], guard := some (11, true) }) (v := undef) rfl (by kernel_rfl) (by kernel_rfl) (by kernel_rfl) (fun _ _ _ h => h) (Or.inr ⟨by rfl, rfl⟩) (by assumption) ?_
                    (try simp only [Act.put, List.setIfInBounds_toArray, List.set_cons_zero, List.set_cons_succ])
                    refine wpAnyH_take (i := 20) (oi := { dst := some 75, op := Op.fieldAddr 69 (Operand.tmp 74) 0, type := 0, pos := "law.go:110", after := #[{ on := 19, ground := Ground.data }, { on := 11, ground := Ground.guard }], guard := some (11, true) }) (v := undef) rfl (by kernel_rfl) (by kernel_rfl) (by kernel_rfl) (fun _ _ _ h => h) (Or.inr ⟨by rfl, rfl⟩) (by assumption) ?_
                    (try simp only [Act.put, List.setIfInBounds_toArray, List.set_cons_zero, List.set_cons_succ])
                    refine wpAnyH_take (i := 21) (oi := { dst := some 76, op := Op.load 66 (Operand.tmp 75), type := 66, pos := "law.go:110", after := #[{ on := 20, ground := Ground.data }, { on := 11, ground := Ground.guard }], guard := some (11, true) }) (v := undef) rfl (by kernel_rfl) (by kernel_rfl) (by kernel_rfl) (fun _ _ _ h => h) (Or.inr ⟨by rfl, rfl⟩) (by assumption) ?_
                    (try simp only [Act.put, List.setIfInBounds_toArray, List.set_cons_zero, List.set_cons_succ])
                    refine wpAnyH_take (i := 22) (oi := { dst := some 77, op := Op.call { callee := Callee.value (Operand.func 32), args := #[Operand.tmp 71, Operand.tmp 76], argTypes := #[47, 66] }, type := 4, pos := "law.go:110", after := #[{ on := 16, ground := Ground.data }, { on := 21, ground := Ground.data }, { on := 11, ground := Ground.chain }, { on := 11, ground := Ground.guard }], guard := some (11, true) }) (v := undef) rfl (by kernel_rfl) (by kernel_rfl) (by kernel_rfl) (fun _ _ _ h => h) (Or.inr ⟨by rfl, rfl⟩) (by assumption) ?_
                    (try simp only [Act.put, List.setIfInBounds_toArray, List.set_cons_zero, List.set_cons_succ])
                    refine wpAnyH_take (i := 23) (oi := { dst := some 78, op := Op.move (Operand.tmp 77), type := 4, pos := "law.go:110", after := #[{ on := 22, ground := Ground.data }, { on := 22, ground := Ground.chain }, { on := 11, ground := Ground.guard }], guard := some (11, true) }) (v := undef) rfl (by kernel_rfl) (by kernel_rfl) (by kernel_rfl) (fun _ _ _ h => h) (Or.inr ⟨by rfl, rfl⟩) (by assumption) ?_
                    (try simp only [Act.put, List.setIfInBounds_toArray, List.set_cons_zero, List.set_cons_succ])
                    refine wpAnyH_take (i := 24) (oi := { dst := some 79, op := Op.move (Operand.tmp 3), type := 47, pos := "law.go:110", after := #[{ on := 23, ground := Ground.guard }], guard := some (23, false) }) (v := undef) rfl (by kernel_rfl) (by kernel_rfl) (by kernel_rfl) (fun _ _ _ h => h) (Or.inr ⟨by rfl, rfl⟩) (by assumption) ?_
                    (try simp only [Act.put, List.setIfInBounds_toArray, List.set_cons_zero, List.set_cons_succ])
                    refine wpAnyH_take (i := 25) (oi := { dst := some 80, op := Op.move (Operand.tmp 6), type := 3, pos := "law.go:110", after := #[{ on := 23, ground := Ground.guard }], guard := some (23, false) }) (v := undef) rfl (by kernel_rfl) (by kernel_rfl) (by kernel_rfl) (fun _ _ _ h => h) (Or.inr ⟨by rfl, rfl⟩) (by assumption) ?_
                    (try simp only [Act.put, List.setIfInBounds_toArray, List.set_cons_zero, List.set_cons_succ])
                    refine wpAnyH_take (i := 26) (oi := { dst := some 81, op := Op.indexAddr 47 (Operand.tmp 79) (Operand.tmp 80), type := 0, pos := "law.go:110", after := #[{ on := 24, ground := Ground.data }, { on := 25, ground := Ground.data }, { on := 23, ground := Ground.guard }], guard := some (23, false) }) (v := undef) rfl (by kernel_rfl) (by kernel_rfl) (by kernel_rfl) (fun _ _ _ h => h) (Or.inr ⟨by rfl, rfl⟩) (by assumption) ?_
                    (try simp only [Act.put, List.setIfInBounds_toArray, List.set_cons_zero, List.set_cons_succ])
                    refine wpAnyH_take (i := 27) (oi := { dst := some 82, op := Op.fieldAddr 69 (Operand.tmp 81) 1, type := 0, pos := "law.go:110", after := #[{ on := 26, ground := Ground.data }, { on := 23, ground := Ground.guard }], guard := some (23, false) }) (v := undef) rfl (by kernel_rfl) (by kernel_rfl) (by kernel_rfl) (fun _ _ _ h => h) (Or.inr ⟨by rfl, rfl⟩) (by assumption) ?_
                    (try simp only [Act.put, List.setIfInBounds_toArray, List.set_cons_zero, List.set_cons_succ])
                    refine wpAnyH_take (i := 28) (oi := { dst := some 83, op := Op.load 67 (Operand.tmp 82), type := 67, pos := "law.go:110", after := #[{ on := 27, ground := Ground.data }, { on := 23, ground := Ground.guard }], guard := some (23, false) }) (v := undef) rfl (by kernel_rfl) (by kernel_rfl) (by kernel_rfl) (fun _ _ _ h => h) (Or.inr ⟨by rfl, rfl⟩) (by assumption) ?_
                    (try simp only [Act.put, List.setIfInBounds_toArray, List.set_cons_zero, List.set_cons_succ])
                    refine wpAnyH_take (i := 29) (oi := { dst := some 84, op := Op.move (Operand.tmp 3), type := 47, pos := "law.go:110", after := #[{ on := 23, ground := Ground.guard }], guard := some (23, false) }) (v := undef) rfl (by kernel_rfl) (by kernel_rfl) (by kernel_rfl) (fun _ _ _ h => h) (Or.inr ⟨by rfl, rfl⟩) (by assumption) ?_
                    (try simp only [Act.put, List.setIfInBounds_toArray, List.set_cons_zero, List.set_cons_succ])
                    refine wpAnyH_take (i := 30) (oi := { dst := some 85, op := Op.move (Operand.tmp 5), type := 3, pos := "law.go:110", after := #[{ on := 23, ground := Ground.guard }], guard := some (23, false) }) (v := undef) rfl (by kernel_rfl) (by kernel_rfl) (by kernel_rfl) (fun _ _ _ h => h) (Or.inr ⟨by rfl, rfl⟩) (by assumption) ?_
                    (try simp only [Act.put, List.setIfInBounds_toArray, List.set_cons_zero, List.set_cons_succ])
                    refine wpAnyH_take (i := 31) (oi := { dst := some 86, op := Op.indexAddr 47 (Operand.tmp 84) (Operand.tmp 85), type := 0, pos := "law.go:110", after := #[{ on := 29, ground := Ground.data }, { on := 30, ground := Ground.data }, { on := 23, ground := Ground.guard }], guard := some (23, false) }) (v := undef) rfl (by kernel_rfl) (by kernel_rfl) (by kernel_rfl) (fun _ _ _ h => h) (Or.inr ⟨by rfl, rfl⟩) (by assumption) ?_
                    (try simp only [Act.put, List.setIfInBounds_toArray, List.set_cons_zero, List.set_cons_succ])
                    refine wpAnyH_take (i := 32) (oi := { dst := some 87, op := Op.fieldAddr 69 (Operand.tmp 86) 1, type := 0, pos := "law.go:110", after := #[{ on := 31, ground := Ground.data }, { on := 23, ground := Ground.guard }], guard := some (23, false) }) (v := undef) rfl (by kernel_rfl) (by kernel_rfl) (by kernel_rfl) (fun _ _ _ h => h) (Or.inr ⟨by rfl, rfl⟩) (by assumption) ?_
                    (try simp only [Act.put, List.setIfInBounds_toArray, List.set_cons_zero, List.set_cons_succ])
                    refine wpAnyH_take (i := 33) (oi := { dst := some 88, op := Op.load 67 (Operand.tmp 87), type := 67, pos := "law.go:110", after := #[{ on := 32, ground := Ground.data }, { on := 23, ground := Ground.guard }], guard := some (23, false) }) (v := undef) rfl (by kernel_rfl) (by kernel_rfl) (by kernel_rfl) (fun _ _ _ h => h) (Or.inr ⟨by rfl, rfl⟩) (by assumption) ?_
                    (try simp only [Act.put, List.setIfInBounds_toArray, List.set_cons_zero, List.set_cons_succ])
                    refine wpAnyH_take (i := 34) (oi := { dst := some 89, op := Op.call { callee := Callee.value (Operand.func 48), args := #[Operand.tmp 83, Operand.tmp 88], argTypes := #[67, 67] }, type := 4, pos := "law.go:110", after := #[{ on := 28, ground := Ground.data }, { on := 33, ground := Ground.data }, { on := 23, ground := Ground.chain }, { on := 23, ground := Ground.guard }], guard := some (23, false) }) (v := undef) rfl (by kernel_rfl) (by kernel_rfl) (by kernel_rfl) (fun _ _ _ h => h) (Or.inr ⟨by rfl, rfl⟩) (by assumption) ?_
                    (try simp only [Act.put, List.setIfInBounds_toArray, List.set_cons_zero, List.set_cons_succ])
                    refine wpAnyH_take (i := 35) (oi := { dst := some 90, op := Op.unOp UnOp.not 4 (Operand.tmp 89), type := 4, pos := "law.go:110", after := #[{ on := 34, ground := Ground.data }, { on := 23, ground := Ground.guard }], guard := some (23, false) }) (v := undef) rfl (by kernel_rfl) (by kernel_rfl) (by kernel_rfl) (fun _ _ _ h => h) (Or.inr ⟨by rfl, rfl⟩) (by assumption) ?_
                    (try simp only [Act.put, List.setIfInBounds_toArray, List.set_cons_zero, List.set_cons_succ])
                    refine wpAnyH_take (i := 36) (oi := { dst := some 91, op := Op.pick (Operand.tmp 78) (Operand.const (Value.bool true)) (Operand.tmp 90), type := 4, pos := "law.go:110", after := #[{ on := 23, ground := Ground.data }, { on := 35, ground := Ground.data }, { on := 11, ground := Ground.guard }], guard := some (11, true) }) (v := undef) rfl (by kernel_rfl) (by kernel_rfl) (by kernel_rfl) (fun _ _ _ h => h) (Or.inr ⟨by rfl, rfl⟩) (by assumption) ?_
                    (try simp only [Act.put, List.setIfInBounds_toArray, List.set_cons_zero, List.set_cons_succ])
                    refine wpAnyH_take (i := 37) (oi := { dst := some 92, op := Op.pick (Operand.tmp 66) (Operand.tmp 91) (Operand.const (Value.bool false)), type := 4, pos := "law.go:110", after := #[{ on := 11, ground := Ground.data }, { on := 36, ground := Ground.data }], guard := none }) (v := ?va37) rfl (by kernel_rfl) (by kernel_rfl) (by kernel_rfl) (fun _ _ _ h => h) (Or.inl ⟨by rfl, ?hya37⟩) (by assumption) ?resta37
                    case hya37 =>
                      intro w hSw
                      (try dsimp only at hSw)
                      go_simp
                      (try with_reducible rfl)
                    (try simp only [Act.put, List.setIfInBounds_toArray, List.set_cons_zero, List.set_cons_succ])
                    refine wpAnyH_done (by kernel_rfl) ?_ _
                    have BE : Below W.heap.size W v1 := HBK.out.trans ((duo_below (show Duo wr pb (off + i * 5) (off + k * 5) s vn A1 kp c1 s' vn' A2 kp' c2 v1 from hHeld)).mono hszk)
                    have HF := Lib.hid (HN2.out.1 (by simp))
                    clear HN2 G1 G2 G3 hHeld
                    go_wp2_with fail
                    exact ⟨⟨k + 1, rfl, by omega, HF, BE⟩, by simp only [intOf]; omega⟩
                  · cases q2
                    rotate_left
                    · refine wp_region_held_drew (S := (fun V => V.cell? ⟨pb, off + i * 5, none⟩ = some (.int .i64 s) ∧ V.cell? ⟨pb, off + i * 5 + 1, none⟩ = some (.int .i64 vn) ∧ V.cell? ⟨pb, off + i * 5 + 2, none⟩ = some (.slice A1 kp c1) ∧ V.cell? ⟨pb, off + k * 5, none⟩ = some (.int .i64 s') ∧ V.cell? ⟨pb, off + k * 5 + 1, none⟩ = some (.int .i64 vn') ∧ V.cell? ⟨pb, off + k * 5 + 2, none⟩ = some (.slice A2 kp' c2) ∧ Below wr.heap.size wr V ∧ pb < V.heap.size)) (by kernel_rfl) hst (fun hHeld => ?_)
                      refine wpAnyH_take (i := 0) (oi := { dst := some 55, op := Op.move (Operand.tmp 3), type := 47, pos := "law.go:110", after := #[], guard := none }) (v := ?vb1) rfl (by kernel_rfl) (by kernel_rfl) (by kernel_rfl) (fun _ _ _ h => h) (Or.inl ⟨by rfl, ?hyb1⟩) (by assumption) ?restb1
                      case hyb1 =>
                        intro w hSw
                        (try dsimp only at hSw)
                        go_simp
                        (try with_reducible rfl)
                      (try simp only [Act.put, List.setIfInBounds_toArray, List.set_cons_zero, List.set_cons_succ])
                      refine wpAnyH_take (i := 1) (oi := { dst := some 56, op := Op.move (Operand.tmp 5), type := 3, pos := "law.go:110", after := #[], guard := none }) (v := ?vb2) rfl (by kernel_rfl) (by kernel_rfl) (by kernel_rfl) (fun _ _ _ h => h) (Or.inl ⟨by rfl, ?hyb2⟩) (by assumption) ?restb2
                      case hyb2 =>
                        intro w hSw
                        (try dsimp only at hSw)
                        go_simp
                        (try with_reducible rfl)
                      (try simp only [Act.put, List.setIfInBounds_toArray, List.set_cons_zero, List.set_cons_succ])
                      refine wpAnyH_take (i := 2) (oi := { dst := some 57, op := Op.move (Operand.tmp 5), type := 3, pos := "law.go:110", after := #[], guard := none }) (v := ?vb3) rfl (by kernel_rfl) (by kernel_rfl) (by kernel_rfl) (fun _ _ _ h => h) (Or.inl ⟨by rfl, ?hyb3⟩) (by assumption) ?restb3
                      case hyb3 =>
                        intro w hSw
                        (try dsimp only at hSw)
                        go_simp
                        (try with_reducible rfl)
                      (try simp only [Act.put, List.setIfInBounds_toArray, List.set_cons_zero, List.set_cons_succ])
                      refine wpAnyH_take (i := 3) (oi := { dst := some 58, op := Op.binOp BinOp.add 3 (Operand.tmp 57) (Operand.const (Value.int IntKind.i64 1)) 3, type := 3, pos := "law.go:110", after := #[{ on := 2, ground := Ground.data }], guard := none }) (v := ?vb4) rfl (by kernel_rfl) (by kernel_rfl) (by kernel_rfl) (fun _ _ _ h => h) (Or.inl ⟨by rfl, ?hyb4⟩) (by assumption) ?restb4
                      case hyb4 =>
                        intro w hSw
                        (try dsimp only at hSw)
                        go_simp
                        (try with_reducible rfl)
                      (try simp only [Act.put, List.setIfInBounds_toArray, List.set_cons_zero, List.set_cons_succ])
                      refine wpAnyH_take (i := 4) (oi := { dst := some 59, op := Op.slice 47 (Operand.tmp 55) (some (Operand.tmp 56)) (some (Operand.tmp 58)) none, type := 47, pos := "law.go:110", after := #[{ on := 0, ground := Ground.data }, { on := 1, ground := Ground.data }, { on := 3, ground := Ground.data }], guard := none }) (v := ?vb5) rfl (by kernel_rfl) (by kernel_rfl) (by kernel_rfl) (fun _ _ _ h => h) (Or.inl ⟨by rfl, ?hyb5⟩) (by assumption) ?restb5
                      case hyb5 =>
                        intro w hSw
                        (try dsimp only at hSw)
                        go_simp
                        (try with_reducible rfl)
                      (try simp only [Act.put, List.setIfInBounds_toArray, List.set_cons_zero, List.set_cons_succ])
                      refine wpAnyH_take (i := 5) (oi := { dst := some 60, op := Op.move (Operand.tmp 3), type := 47, pos := "law.go:110", after := #[], guard := none }) (v := ?vb6) rfl (by kernel_rfl) (by kernel_rfl) (by kernel_rfl) (fun _ _ _ h => h) (Or.inl ⟨by rfl, ?hyb6⟩) (by assumption) ?restb6
                      case hyb6 =>
                        intro w hSw
                        (try dsimp only at hSw)
                        go_simp
                        (try with_reducible rfl)
                      (try simp only [Act.put, List.setIfInBounds_toArray, List.set_cons_zero, List.set_cons_succ])
                      refine wpAnyH_take (i := 6) (oi := { dst := some 61, op := Op.move (Operand.tmp 6), type := 3, pos := "law.go:110", after := #[], guard := none }) (v := ?vb7) rfl (by kernel_rfl) (by kernel_rfl) (by kernel_rfl) (fun _ _ _ h => h) (Or.inl ⟨by rfl, ?hyb7⟩) (by assumption) ?restb7
                      case hyb7 =>
                        intro w hSw
                        (try dsimp only at hSw)
                        go_simp
                        (try with_reducible rfl)
                      (try simp only [Act.put, List.setIfInBounds_toArray, List.set_cons_zero, List.set_cons_succ])
                      refine wpAnyH_take (i := 7) (oi := { dst := some 62, op := Op.indexAddr 47 (Operand.tmp 60) (Operand.tmp 61), type := 0, pos := "law.go:110", after := #[{ on := 5, ground := Ground.data }, { on := 6, ground := Ground.data }], guard := none }) (v := ?vb8) rfl (by kernel_rfl) (by kernel_rfl) (by kernel_rfl) (fun _ _ _ h => h) (Or.inl ⟨by rfl, ?hyb8⟩) (by assumption) ?restb8
                      case hyb8 =>
                        intro w hSw
                        (try dsimp only at hSw)
                        go_simp
                        (try with_reducible rfl)
                      (try simp only [Act.put, List.setIfInBounds_toArray, List.set_cons_zero, List.set_cons_succ])
                      refine wpAnyH_take (i := 8) (oi := { dst := some 63, op := Op.fieldAddr 69 (Operand.tmp 62) 0, type := 0, pos := "law.go:110", after := #[{ on := 7, ground := Ground.data }], guard := none }) (v := ?vb9) rfl (by kernel_rfl) (by kernel_rfl) (by kernel_rfl) (fun _ _ _ h => h) (Or.inl ⟨by rfl, ?hyb9⟩) (by assumption) ?restb9
                      case hyb9 =>
                        intro w hSw
                        (try dsimp only at hSw)
                        go_simp
                        (try with_reducible rfl)
                      (try simp only [Act.put, List.setIfInBounds_toArray, List.set_cons_zero, List.set_cons_succ])
                      refine wpAnyH_take (i := 9) (oi := { dst := some 64, op := Op.load 66 (Operand.tmp 63), type := 66, pos := "law.go:110", after := #[{ on := 8, ground := Ground.data }], guard := none }) (v := ?vb10) rfl (by kernel_rfl) (by kernel_rfl) (by kernel_rfl) (fun _ _ _ h => h) (Or.inl ⟨by rfl, ?hyb10⟩) (by assumption) ?restb10
                      case hyb10 =>
                        intro w hSw
                        (try dsimp only at hSw)
                        go_simp
                        (try with_reducible rfl)
                      (try simp only [Act.put, List.setIfInBounds_toArray, List.set_cons_zero, List.set_cons_succ])
                      refine wpAnyH_ready (rs := [10]) (by kernel_rfl) (by simp) ?_
                      refine AllReadyH.cons (o := { dst := some 65, op := Op.call { callee := Callee.value (Operand.func 32), args := #[Operand.tmp 59, Operand.tmp 64], argTypes := #[47, 66] }, type := 4, pos := "law.go:110", after := #[{ on := 4, ground := Ground.data }, { on := 9, ground := Ground.data }], guard := none }) rfl (fun K hK => ?_) AllReadyH.nil
                      go_simp
                      (go_at_call 32; refine (G1.out _ (by exact hHeld)).mono ?_; rintro e v1 ⟨rfl, b1⟩)
                      go_wp2_with fail
                      refine hK.out _ _ (duo_keep hHeld b1) (fun hHeld => ?_)
                      clear hK K
                      (try simp only [Act.put, List.setIfInBounds_toArray, List.set_cons_zero, List.set_cons_succ])
                      refine wpAnyH_take (i := 11) (oi := { dst := some 66, op := Op.move (Operand.tmp 65), type := 4, pos := "law.go:110", after := #[{ on := 10, ground := Ground.data }, { on := 10, ground := Ground.chain }], guard := none }) (v := ?vb11) rfl (by kernel_rfl) (by kernel_rfl) (by kernel_rfl) (fun _ _ _ h => h) (Or.inl ⟨by rfl, ?hyb11⟩) (by assumption) ?restb11
                      case hyb11 =>
                        intro w hSw
                        (try dsimp only at hSw)
                        go_simp
                        (try with_reducible rfl)
                      (try simp only [Act.put, List.setIfInBounds_toArray, List.set_cons_zero, List.set_cons_succ])
                      refine wpAnyH_take (i := 12) (oi := { dst := some 67, op := Op.move (Operand.tmp 3), type := 47, pos := "law.go:110", after := #[{ on := 11, ground := Ground.guard }], guard := some (11, true) }) (v := ?vb12) rfl (by kernel_rfl) (by kernel_rfl) (by kernel_rfl) (fun _ _ _ h => h) (Or.inl ⟨by rfl, ?hyb12⟩) (by assumption) ?restb12
                      case hyb12 =>
                        intro w hSw
                        (try dsimp only at hSw)
                        go_simp
                        (try with_reducible rfl)
                      (try simp only [Act.put, List.setIfInBounds_toArray, List.set_cons_zero, List.set_cons_succ])
                      refine wpAnyH_take (i := 13) (oi := { dst := some 68, op := Op.move (Operand.tmp 6), type := 3, pos := "law.go:110", after := #[{ on := 11, ground := Ground.guard }], guard := some (11, true) }) (v := ?vb13) rfl (by kernel_rfl) (by kernel_rfl) (by kernel_rfl) (fun _ _ _ h => h) (Or.inl ⟨by rfl, ?hyb13⟩) (by assumption) ?restb13
                      case hyb13 =>
                        intro w hSw
                        (try dsimp only at hSw)
                        go_simp
                        (try with_reducible rfl)
                      (try simp only [Act.put, List.setIfInBounds_toArray, List.set_cons_zero, List.set_cons_succ])
                      refine wpAnyH_take (i := 14) (oi := { dst := some 69, op := Op.move (Operand.tmp 6), type := 3, pos := "law.go:110", after := #[{ on := 11, ground := Ground.guard }], guard := some (11, true) }) (v := ?vb14) rfl (by kernel_rfl) (by kernel_rfl) (by kernel_rfl) (fun _ _ _ h => h) (Or.inl ⟨by rfl, ?hyb14⟩) (by assumption) ?restb14
                      case hyb14 =>
                        intro w hSw
                        (try dsimp only at hSw)
                        go_simp
                        (try with_reducible rfl)
                      (try simp only [Act.put, List.setIfInBounds_toArray, List.set_cons_zero, List.set_cons_succ])
                      refine wpAnyH_take (i := 15) (oi := { dst := some 70, op := Op.binOp BinOp.add 3 (Operand.tmp 69) (Operand.const (Value.int IntKind.i64 1)) 3, type := 3, pos := "law.go:110", after := #[{ on := 14, ground := Ground.data }, { on := 11, ground := Ground.guard }], guard := some (11, true) }) (v := ?vb15) rfl (by kernel_rfl) (by kernel_rfl) (by kernel_rfl) (fun _ _ _ h => h) (Or.inl ⟨by rfl, ?hyb15⟩) (by assumption) ?restb15
                      case hyb15 =>
                        intro w hSw
                        (try dsimp only at hSw)
                        go_simp
                        (try with_reducible rfl)
                      (try simp only [Act.put, List.setIfInBounds_toArray, List.set_cons_zero, List.set_cons_succ])
                      refine wpAnyH_take (i := 16) (oi := { dst := some 71, op := Op.slice 47 (Operand.tmp 67) (some (Operand.tmp 68)) (some (Operand.tmp 70)) none, type := 47, pos := "law.go:110", after := #[{ on := 12, ground := Ground.data }, { on := 13, ground := Ground.data }, { on := 15, ground := Ground.data }, { on := 11, ground := Ground.guard }], guard := some (11, true) }) (v := ?vb16) rfl (by kernel_rfl) (by kernel_rfl) (by kernel_rfl) (fun _ _ _ h => h) (Or.inl ⟨by rfl, ?hyb16⟩) (by assumption) ?restb16
                      case hyb16 =>
                        intro w hSw
                        (try dsimp only at hSw)
                        go_simp
                        (try with_reducible rfl)
                      (try simp only [Act.put, List.setIfInBounds_toArray, List.set_cons_zero, List.set_cons_succ])
                      refine wpAnyH_take (i := 17) (oi := { dst := some 72, op := Op.move (Operand.tmp 3), type := 47, pos := "law.go:110", after := #[{ on := 11, ground := Ground.guard }], guard := some (11, true) }) (v := ?vb17) rfl (by kernel_rfl) (by kernel_rfl) (by kernel_rfl) (fun _ _ _ h => h) (Or.inl ⟨by rfl, ?hyb17⟩) (by assumption) ?restb17
                      case hyb17 =>
                        intro w hSw
                        (try dsimp only at hSw)
                        go_simp
                        (try with_reducible rfl)
                      (try simp only [Act.put, List.setIfInBounds_toArray, List.set_cons_zero, List.set_cons_succ])
                      refine wpAnyH_take (i := 18) (oi := { dst := some 73, op := Op.move (Operand.tmp 5), type := 3, pos := "law.go:110", after := #[{ on := 11, ground := Ground.guard }], guard := some (11, true) }) (v := ?vb18) rfl (by kernel_rfl) (by kernel_rfl) (by kernel_rfl) (fun _ _ _ h => h) (Or.inl ⟨by rfl, ?hyb18⟩) (by assumption) ?restb18
                      case hyb18 =>
                        intro w hSw
                        (try dsimp only at hSw)
                        go_simp
                        (try with_reducible rfl)
                      (try simp only [Act.put, List.setIfInBounds_toArray, List.set_cons_zero, List.set_cons_succ])
                      refine wpAnyH_take (i := 19) (oi := { dst := some 74, op := Op.indexAddr 47 (Operand.tmp 72) (Operand.tmp 73), type := 0, pos := "law.go:110", after := #[{ on := 17, ground := Ground.data }, { on := 18, ground := Ground.data }, { on := 11, ground := Ground.guard }], guard := some (11, true) }) (v := ?vb19) rfl (by kernel_rfl) (by kernel_rfl) (by kernel_rfl) (fun _ _ _ h => h) (Or.inl ⟨by rfl, ?hyb19⟩) (by assumption) ?restb19
                      case hyb19 =>
                        intro w hSw
                        (try dsimp only at hSw)
                        go_simp
                        (try with_reducible rfl)
                      (try simp only [Act.put, List.setIfInBounds_toArray, List.set_cons_zero, List.set_cons_succ])
                      refine wpAnyH_take (i := 20) (oi := { dst := some 75, op := Op.fieldAddr 69 (Operand.tmp 74) 0, type := 0, pos := "law.go:110", after := #[{ on := 19, ground := Ground.data }, { on := 11, ground := Ground.guard }], guard := some (11, true) }) (v := ?vb20) rfl (by kernel_rfl) (by kernel_rfl) (by kernel_rfl) (fun _ _ _ h => h) (Or.inl ⟨by rfl, ?hyb20⟩) (by assumption) ?restb20
                      case hyb20 =>
                        intro w hSw
                        (try dsimp only at hSw)
                        go_simp
                        (try with_reducible rfl)
                      (try simp only [Act.put, List.setIfInBounds_toArray, List.set_cons_zero, List.set_cons_succ])
                      refine wpAnyH_take (i := 21) (oi := { dst := some 76, op := Op.load 66 (Operand.tmp 75), type := 66, pos := "law.go:110", after := #[{ on := 20, ground := Ground.data }, { on := 11, ground := Ground.guard }], guard := some (11, true) }) (v := ?vb21) rfl (by kernel_rfl) (by kernel_rfl) (by kernel_rfl) (fun _ _ _ h => h) (Or.inl ⟨by rfl, ?hyb21⟩) (by assumption) ?restb21
                      case hyb21 =>
                        intro w hSw
                        (try dsimp only at hSw)
                        go_simp
                        (try with_reducible rfl)
                      (try simp only [Act.put, List.setIfInBounds_toArray, List.set_cons_zero, List.set_cons_succ])
                      refine wpAnyH_ready (rs := [22]) (by kernel_rfl) (by simp) ?_
                      refine AllReadyH.cons (o := { dst := some 77, op := Op.call { callee := Callee.value (Operand.func 32), args := #[Operand.tmp 71, Operand.tmp 76], argTypes := #[47, 66] }, type := 4, pos := "law.go:110", after := #[{ on := 16, ground := Ground.data }, { on := 21, ground := Ground.data }, { on := 11, ground := Ground.chain }, { on := 11, ground := Ground.guard }], guard := some (11, true) }) rfl (fun K hK => ?_) AllReadyH.nil
                      go_simp
                      (go_at_call 32; refine (G2.out _ (by exact hHeld)).mono ?_; rintro e v2 ⟨rfl, b2⟩)
                      go_wp2_with fail
                      refine hK.out _ _ (duo_keep hHeld b2) (fun hHeld => ?_)
                      clear hK K
                      (try simp only [Act.put, List.setIfInBounds_toArray, List.set_cons_zero, List.set_cons_succ])
                      refine wpAnyH_take (i := 23) (oi := { dst := some 78, op := Op.move (Operand.tmp 77), type := 4, pos := "law.go:110", after := #[{ on := 22, ground := Ground.data }, { on := 22, ground := Ground.chain }, { on := 11, ground := Ground.guard }], guard := some (11, true) }) (v := ?vb22) rfl (by kernel_rfl) (by kernel_rfl) (by kernel_rfl) (fun _ _ _ h => h) (Or.inl ⟨by rfl, ?hyb22⟩) (by assumption) ?restb22
                      case hyb22 =>
                        intro w hSw
                        (try dsimp only at hSw)
                        go_simp
                        (try with_reducible rfl)
                      (try simp only [Act.put, List.setIfInBounds_toArray, List.set_cons_zero, List.set_cons_succ])
                      refine wpAnyH_take (i := 24) (oi := { dst := some 79, op := Op.move (Operand.tmp 3), type := 47, pos := "law.go:110", after := #[{ on := 23, ground := Ground.guard }], guard := some (23, false) }) (v := undef) rfl (by kernel_rfl) (by kernel_rfl) (by kernel_rfl) (fun _ _ _ h => h) (Or.inr ⟨by rfl, rfl⟩) (by assumption) ?_
                      (try simp only [Act.put, List.setIfInBounds_toArray, List.set_cons_zero, List.set_cons_succ])
                      refine wpAnyH_take (i := 25) (oi := { dst := some 80, op := Op.move (Operand.tmp 6), type := 3, pos := "law.go:110", after := #[{ on := 23, ground := Ground.guard }], guard := some (23, false) }) (v := undef) rfl (by kernel_rfl) (by kernel_rfl) (by kernel_rfl) (fun _ _ _ h => h) (Or.inr ⟨by rfl, rfl⟩) (by assumption) ?_
                      (try simp only [Act.put, List.setIfInBounds_toArray, List.set_cons_zero, List.set_cons_succ])
                      refine wpAnyH_take (i := 26) (oi := { dst := some 81, op := Op.indexAddr 47 (Operand.tmp 79) (Operand.tmp 80), type := 0, pos := "law.go:110", after := #[{ on := 24, ground := Ground.data }, { on := 25, ground := Ground.data }, { on := 23, ground := Ground.guard }], guard := some (23, false) }) (v := undef) rfl (by kernel_rfl) (by kernel_rfl) (by kernel_rfl) (fun _ _ _ h => h) (Or.inr ⟨by rfl, rfl⟩) (by assumption) ?_
                      (try simp only [Act.put, List.setIfInBounds_toArray, List.set_cons_zero, List.set_cons_succ])
                      refine wpAnyH_take (i := 27) (oi := { dst := some 82, op := Op.fieldAddr 69 (Operand.tmp 81) 1, type := 0, pos := "law.go:110", after := #[{ on := 26, ground := Ground.data }, { on := 23, ground := Ground.guard }], guard := some (23, false) }) (v := undef) rfl (by kernel_rfl) (by kernel_rfl) (by kernel_rfl) (fun _ _ _ h => h) (Or.inr ⟨by rfl, rfl⟩) (by assumption) ?_
                      (try simp only [Act.put, List.setIfInBounds_toArray, List.set_cons_zero, List.set_cons_succ])
                      refine wpAnyH_take (i := 28) (oi := { dst := some 83, op := Op.load 67 (Operand.tmp 82), type := 67, pos := "law.go:110", after := #[{ on := 27, ground := Ground.data }, { on := 23, ground := Ground.guard }], guard := some (23, false) }) (v := undef) rfl (by kernel_rfl) (by kernel_rfl) (by kernel_rfl) (fun _ _ _ h => h) (Or.inr ⟨by rfl, rfl⟩) (by assumption) ?_
                      (try simp only [Act.put, List.setIfInBounds_toArray, List.set_cons_zero, List.set_cons_succ])
                      refine wpAnyH_take (i := 29) (oi := { dst := some 84, op := Op.move (Operand.tmp 3), type := 47, pos := "law.go:110", after := #[{ on := 23, ground := Ground.guard }], guard := some (23, false) }) (v := undef) rfl (by kernel_rfl) (by kernel_rfl) (by kernel_rfl) (fun _ _ _ h => h) (Or.inr ⟨by rfl, rfl⟩) (by assumption) ?_
                      (try simp only [Act.put, List.setIfInBounds_toArray, List.set_cons_zero, List.set_cons_succ])
                      refine wpAnyH_take (i := 30) (oi := { dst := some 85, op := Op.move (Operand.tmp 5), type := 3, pos := "law.go:110", after := #[{ on := 23, ground := Ground.guard }], guard := some (23, false) }) (v := undef) rfl (by kernel_rfl) (by kernel_rfl) (by kernel_rfl) (fun _ _ _ h => h) (Or.inr ⟨by rfl, rfl⟩) (by assumption) ?_
                      (try simp only [Act.put, List.setIfInBounds_toArray, List.set_cons_zero, List.set_cons_succ])
                      refine wpAnyH_take (i := 31) (oi := { dst := some 86, op := Op.indexAddr 47 (Operand.tmp 84) (Operand.tmp 85), type := 0, pos := "law.go:110", after := #[{ on := 29, ground := Ground.data }, { on := 30, ground := Ground.data }, { on := 23, ground := Ground.guard }], guard := some (23, false) }) (v := undef) rfl (by kernel_rfl) (by kernel_rfl) (by kernel_rfl) (fun _ _ _ h => h) (Or.inr ⟨by rfl, rfl⟩) (by assumption) ?_
                      (try simp only [Act.put, List.setIfInBounds_toArray, List.set_cons_zero, List.set_cons_succ])
                      refine wpAnyH_take (i := 32) (oi := { dst := some 87, op := Op.fieldAddr 69 (Operand.tmp 86) 1, type := 0, pos := "law.go:110", after := #[{ on := 31, ground := Ground.data }, { on := 23, ground := Ground.guard }], guard := some (23, false) }) (v := undef) rfl (by kernel_rfl) (by kernel_rfl) (by kernel_rfl) (fun _ _ _ h => h) (Or.inr ⟨by rfl, rfl⟩) (by assumption) ?_
                      (try simp only [Act.put, List.setIfInBounds_toArray, List.set_cons_zero, List.set_cons_succ])
                      refine wpAnyH_take (i := 33) (oi := { dst := some 88, op := Op.load 67 (Operand.tmp 87), type := 67, pos := "law.go:110", after := #[{ on := 32, ground := Ground.data }, { on := 23, ground := Ground.guard }], guard := some (23, false) }) (v := undef) rfl (by kernel_rfl) (by kernel_rfl) (by kernel_rfl) (fun _ _ _ h => h) (Or.inr ⟨by rfl, rfl⟩) (by assumption) ?_
                      (try simp only [Act.put, List.setIfInBounds_toArray, List.set_cons_zero, List.set_cons_succ])
                      refine wpAnyH_take (i := 34) (oi := { dst := some 89, op := Op.call { callee := Callee.value (Operand.func 48), args := #[Operand.tmp 83, Operand.tmp 88], argTypes := #[67, 67] }, type := 4, pos := "law.go:110", after := #[{ on := 28, ground := Ground.data }, { on := 33, ground := Ground.data }, { on := 23, ground := Ground.chain }, { on := 23, ground := Ground.guard }], guard := some (23, false) }) (v := undef) rfl (by kernel_rfl) (by kernel_rfl) (by kernel_rfl) (fun _ _ _ h => h) (Or.inr ⟨by rfl, rfl⟩) (by assumption) ?_
                      (try simp only [Act.put, List.setIfInBounds_toArray, List.set_cons_zero, List.set_cons_succ])
                      refine wpAnyH_take (i := 35) (oi := { dst := some 90, op := Op.unOp UnOp.not 4 (Operand.tmp 89), type := 4, pos := "law.go:110", after := #[{ on := 34, ground := Ground.data }, { on := 23, ground := Ground.guard }], guard := some (23, false) }) (v := undef) rfl (by kernel_rfl) (by kernel_rfl) (by kernel_rfl) (fun _ _ _ h => h) (Or.inr ⟨by rfl, rfl⟩) (by assumption) ?_
                      (try simp only [Act.put, List.setIfInBounds_toArray, List.set_cons_zero, List.set_cons_succ])
                      refine wpAnyH_take (i := 36) (oi := { dst := some 91, op := Op.pick (Operand.tmp 78) (Operand.const (Value.bool true)) (Operand.tmp 90), type := 4, pos := "law.go:110", after := #[{ on := 23, ground := Ground.data }, { on := 35, ground := Ground.data }, { on := 11, ground := Ground.guard }], guard := some (11, true) }) (v := ?vb35) rfl (by kernel_rfl) (by kernel_rfl) (by kernel_rfl) (fun _ _ _ h => h) (Or.inl ⟨by rfl, ?hyb35⟩) (by assumption) ?restb35
                      case hyb35 =>
                        intro w hSw
                        (try dsimp only at hSw)
                        go_simp
                        (try with_reducible rfl)
                      (try simp only [Act.put, List.setIfInBounds_toArray, List.set_cons_zero, List.set_cons_succ])
                      refine wpAnyH_take (i := 37) (oi := { dst := some 92, op := Op.pick (Operand.tmp 66) (Operand.tmp 91) (Operand.const (Value.bool false)), type := 4, pos := "law.go:110", after := #[{ on := 11, ground := Ground.data }, { on := 36, ground := Ground.data }], guard := none }) (v := ?vb36) rfl (by kernel_rfl) (by kernel_rfl) (by kernel_rfl) (fun _ _ _ h => h) (Or.inl ⟨by rfl, ?hyb36⟩) (by assumption) ?restb36
                      case hyb36 =>
                        intro w hSw
                        (try dsimp only at hSw)
                        go_simp
                        (try with_reducible rfl)
                      (try simp only [Act.put, List.setIfInBounds_toArray, List.set_cons_zero, List.set_cons_succ])
                      refine wpAnyH_done (by kernel_rfl) ?_ _
                      have BE : Below w.heap.size w v2 := HW.out.trans ((HBK.out.trans ((duo_below (show Duo wr pb (off + i * 5) (off + k * 5) s vn A1 kp c1 s' vn' A2 kp' c2 v2 from hHeld)).mono hszk)).mono sW)
                      have HF := Lib.hid (HN2.out.2 (by simp))
                      clear HN2 G1 G2 G3 hHeld
                      go_wp2_with fail
                      go_ret
                      exact ⟨by rw [HF.out]; rfl, BE⟩
                    · refine wp_region_held_drew (S := (fun V => V.cell? ⟨pb, off + i * 5, none⟩ = some (.int .i64 s) ∧ V.cell? ⟨pb, off + i * 5 + 1, none⟩ = some (.int .i64 vn) ∧ V.cell? ⟨pb, off + i * 5 + 2, none⟩ = some (.slice A1 kp c1) ∧ V.cell? ⟨pb, off + k * 5, none⟩ = some (.int .i64 s') ∧ V.cell? ⟨pb, off + k * 5 + 1, none⟩ = some (.int .i64 vn') ∧ V.cell? ⟨pb, off + k * 5 + 2, none⟩ = some (.slice A2 kp' c2) ∧ Below wr.heap.size wr V ∧ pb < V.heap.size)) (by kernel_rfl) hst (fun hHeld => ?_)
                      refine wpAnyH_take (i := 0) (oi := { dst := some 55, op := Op.move (Operand.tmp 3), type := 47, pos := "law.go:110", after := #[], guard := none }) (v := ?vc1) rfl (by kernel_rfl) (by kernel_rfl) (by kernel_rfl) (fun _ _ _ h => h) (Or.inl ⟨by rfl, ?hyc1⟩) (by assumption) ?restc1
                      case hyc1 =>
                        intro w hSw
                        (try dsimp only at hSw)
                        go_simp
                        (try with_reducible rfl)
                      (try simp only [Act.put, List.setIfInBounds_toArray, List.set_cons_zero, List.set_cons_succ])
                      refine wpAnyH_take (i := 1) (oi := { dst := some 56, op := Op.move (Operand.tmp 5), type := 3, pos := "law.go:110", after := #[], guard := none }) (v := ?vc2) rfl (by kernel_rfl) (by kernel_rfl) (by kernel_rfl) (fun _ _ _ h => h) (Or.inl ⟨by rfl, ?hyc2⟩) (by assumption) ?restc2
                      case hyc2 =>
                        intro w hSw
                        (try dsimp only at hSw)
                        go_simp
                        (try with_reducible rfl)
                      (try simp only [Act.put, List.setIfInBounds_toArray, List.set_cons_zero, List.set_cons_succ])
                      refine wpAnyH_take (i := 2) (oi := { dst := some 57, op := Op.move (Operand.tmp 5), type := 3, pos := "law.go:110", after := #[], guard := none }) (v := ?vc3) rfl (by kernel_rfl) (by kernel_rfl) (by kernel_rfl) (fun _ _ _ h => h) (Or.inl ⟨by rfl, ?hyc3⟩) (by assumption) ?restc3
                      case hyc3 =>
                        intro w hSw
                        (try dsimp only at hSw)
                        go_simp
                        (try with_reducible rfl)
                      (try simp only [Act.put, List.setIfInBounds_toArray, List.set_cons_zero, List.set_cons_succ])
                      refine wpAnyH_take (i := 3) (oi := { dst := some 58, op := Op.binOp BinOp.add 3 (Operand.tmp 57) (Operand.const (Value.int IntKind.i64 1)) 3, type := 3, pos := "law.go:110", after := #[{ on := 2, ground := Ground.data }], guard := none }) (v := ?vc4) rfl (by kernel_rfl) (by kernel_rfl) (by kernel_rfl) (fun _ _ _ h => h) (Or.inl ⟨by rfl, ?hyc4⟩) (by assumption) ?restc4
                      case hyc4 =>
                        intro w hSw
                        (try dsimp only at hSw)
                        go_simp
                        (try with_reducible rfl)
                      (try simp only [Act.put, List.setIfInBounds_toArray, List.set_cons_zero, List.set_cons_succ])
                      refine wpAnyH_take (i := 4) (oi := { dst := some 59, op := Op.slice 47 (Operand.tmp 55) (some (Operand.tmp 56)) (some (Operand.tmp 58)) none, type := 47, pos := "law.go:110", after := #[{ on := 0, ground := Ground.data }, { on := 1, ground := Ground.data }, { on := 3, ground := Ground.data }], guard := none }) (v := ?vc5) rfl (by kernel_rfl) (by kernel_rfl) (by kernel_rfl) (fun _ _ _ h => h) (Or.inl ⟨by rfl, ?hyc5⟩) (by assumption) ?restc5
                      case hyc5 =>
                        intro w hSw
                        (try dsimp only at hSw)
                        go_simp
                        (try with_reducible rfl)
                      (try simp only [Act.put, List.setIfInBounds_toArray, List.set_cons_zero, List.set_cons_succ])
                      refine wpAnyH_take (i := 5) (oi := { dst := some 60, op := Op.move (Operand.tmp 3), type := 47, pos := "law.go:110", after := #[], guard := none }) (v := ?vc6) rfl (by kernel_rfl) (by kernel_rfl) (by kernel_rfl) (fun _ _ _ h => h) (Or.inl ⟨by rfl, ?hyc6⟩) (by assumption) ?restc6
                      case hyc6 =>
                        intro w hSw
                        (try dsimp only at hSw)
                        go_simp
                        (try with_reducible rfl)
                      (try simp only [Act.put, List.setIfInBounds_toArray, List.set_cons_zero, List.set_cons_succ])
                      refine wpAnyH_take (i := 6) (oi := { dst := some 61, op := Op.move (Operand.tmp 6), type := 3, pos := "law.go:110", after := #[], guard := none }) (v := ?vc7) rfl (by kernel_rfl) (by kernel_rfl) (by kernel_rfl) (fun _ _ _ h => h) (Or.inl ⟨by rfl, ?hyc7⟩) (by assumption) ?restc7
                      case hyc7 =>
                        intro w hSw
                        (try dsimp only at hSw)
                        go_simp
                        (try with_reducible rfl)
                      (try simp only [Act.put, List.setIfInBounds_toArray, List.set_cons_zero, List.set_cons_succ])
                      refine wpAnyH_take (i := 7) (oi := { dst := some 62, op := Op.indexAddr 47 (Operand.tmp 60) (Operand.tmp 61), type := 0, pos := "law.go:110", after := #[{ on := 5, ground := Ground.data }, { on := 6, ground := Ground.data }], guard := none }) (v := ?vc8) rfl (by kernel_rfl) (by kernel_rfl) (by kernel_rfl) (fun _ _ _ h => h) (Or.inl ⟨by rfl, ?hyc8⟩) (by assumption) ?restc8
                      case hyc8 =>
                        intro w hSw
                        (try dsimp only at hSw)
                        go_simp
                        (try with_reducible rfl)
                      (try simp only [Act.put, List.setIfInBounds_toArray, List.set_cons_zero, List.set_cons_succ])
                      refine wpAnyH_take (i := 8) (oi := { dst := some 63, op := Op.fieldAddr 69 (Operand.tmp 62) 0, type := 0, pos := "law.go:110", after := #[{ on := 7, ground := Ground.data }], guard := none }) (v := ?vc9) rfl (by kernel_rfl) (by kernel_rfl) (by kernel_rfl) (fun _ _ _ h => h) (Or.inl ⟨by rfl, ?hyc9⟩) (by assumption) ?restc9
                      case hyc9 =>
                        intro w hSw
                        (try dsimp only at hSw)
                        go_simp
                        (try with_reducible rfl)
                      (try simp only [Act.put, List.setIfInBounds_toArray, List.set_cons_zero, List.set_cons_succ])
                      refine wpAnyH_take (i := 9) (oi := { dst := some 64, op := Op.load 66 (Operand.tmp 63), type := 66, pos := "law.go:110", after := #[{ on := 8, ground := Ground.data }], guard := none }) (v := ?vc10) rfl (by kernel_rfl) (by kernel_rfl) (by kernel_rfl) (fun _ _ _ h => h) (Or.inl ⟨by rfl, ?hyc10⟩) (by assumption) ?restc10
                      case hyc10 =>
                        intro w hSw
                        (try dsimp only at hSw)
                        go_simp
                        (try with_reducible rfl)
                      (try simp only [Act.put, List.setIfInBounds_toArray, List.set_cons_zero, List.set_cons_succ])
                      refine wpAnyH_ready (rs := [10]) (by kernel_rfl) (by simp) ?_
                      refine AllReadyH.cons (o := { dst := some 65, op := Op.call { callee := Callee.value (Operand.func 32), args := #[Operand.tmp 59, Operand.tmp 64], argTypes := #[47, 66] }, type := 4, pos := "law.go:110", after := #[{ on := 4, ground := Ground.data }, { on := 9, ground := Ground.data }], guard := none }) rfl (fun K hK => ?_) AllReadyH.nil
                      go_simp
                      (go_at_call 32; refine (G1.out _ (by exact hHeld)).mono ?_; rintro e v1 ⟨rfl, b1⟩)
                      go_wp2_with fail
                      refine hK.out _ _ (duo_keep hHeld b1) (fun hHeld => ?_)
                      clear hK K
                      (try simp only [Act.put, List.setIfInBounds_toArray, List.set_cons_zero, List.set_cons_succ])
                      refine wpAnyH_take (i := 11) (oi := { dst := some 66, op := Op.move (Operand.tmp 65), type := 4, pos := "law.go:110", after := #[{ on := 10, ground := Ground.data }, { on := 10, ground := Ground.chain }], guard := none }) (v := ?vc11) rfl (by kernel_rfl) (by kernel_rfl) (by kernel_rfl) (fun _ _ _ h => h) (Or.inl ⟨by rfl, ?hyc11⟩) (by assumption) ?restc11
                      case hyc11 =>
                        intro w hSw
                        (try dsimp only at hSw)
                        go_simp
                        (try with_reducible rfl)
                      (try simp only [Act.put, List.setIfInBounds_toArray, List.set_cons_zero, List.set_cons_succ])
                      refine wpAnyH_take (i := 12) (oi := { dst := some 67, op := Op.move (Operand.tmp 3), type := 47, pos := "law.go:110", after := #[{ on := 11, ground := Ground.guard }], guard := some (11, true) }) (v := ?vc12) rfl (by kernel_rfl) (by kernel_rfl) (by kernel_rfl) (fun _ _ _ h => h) (Or.inl ⟨by rfl, ?hyc12⟩) (by assumption) ?restc12
                      case hyc12 =>
                        intro w hSw
                        (try dsimp only at hSw)
                        go_simp
                        (try with_reducible rfl)
                      (try simp only [Act.put, List.setIfInBounds_toArray, List.set_cons_zero, List.set_cons_succ])
                      refine wpAnyH_take (i := 13) (oi := { dst := some 68, op := Op.move (Operand.tmp 6), type := 3, pos := "law.go:110", after := #[{ on := 11, ground := Ground.guard }], guard := some (11, true) }) (v := ?vc13) rfl (by kernel_rfl) (by kernel_rfl) (by kernel_rfl) (fun _ _ _ h => h) (Or.inl ⟨by rfl, ?hyc13⟩) (by assumption) ?restc13
                      case hyc13 =>
                        intro w hSw
                        (try dsimp only at hSw)
                        go_simp
                        (try with_reducible rfl)
                      (try simp only [Act.put, List.setIfInBounds_toArray, List.set_cons_zero, List.set_cons_succ])
                      refine wpAnyH_take (i := 14) (oi := { dst := some 69, op := Op.move (Operand.tmp 6), type := 3, pos := "law.go:110", after := #[{ on := 11, ground := Ground.guard }], guard := some (11, true) }) (v := ?vc14) rfl (by kernel_rfl) (by kernel_rfl) (by kernel_rfl) (fun _ _ _ h => h) (Or.inl ⟨by rfl, ?hyc14⟩) (by assumption) ?restc14
                      case hyc14 =>
                        intro w hSw
                        (try dsimp only at hSw)
                        go_simp
                        (try with_reducible rfl)
                      (try simp only [Act.put, List.setIfInBounds_toArray, List.set_cons_zero, List.set_cons_succ])
                      refine wpAnyH_take (i := 15) (oi := { dst := some 70, op := Op.binOp BinOp.add 3 (Operand.tmp 69) (Operand.const (Value.int IntKind.i64 1)) 3, type := 3, pos := "law.go:110", after := #[{ on := 14, ground := Ground.data }, { on := 11, ground := Ground.guard }], guard := some (11, true) }) (v := ?vc15) rfl (by kernel_rfl) (by kernel_rfl) (by kernel_rfl) (fun _ _ _ h => h) (Or.inl ⟨by rfl, ?hyc15⟩) (by assumption) ?restc15
                      case hyc15 =>
                        intro w hSw
                        (try dsimp only at hSw)
                        go_simp
                        (try with_reducible rfl)
                      (try simp only [Act.put, List.setIfInBounds_toArray, List.set_cons_zero, List.set_cons_succ])
                      refine wpAnyH_take (i := 16) (oi := { dst := some 71, op := Op.slice 47 (Operand.tmp 67) (some (Operand.tmp 68)) (some (Operand.tmp 70)) none, type := 47, pos := "law.go:110", after := #[{ on := 12, ground := Ground.data }, { on := 13, ground := Ground.data }, { on := 15, ground := Ground.data }, { on := 11, ground := Ground.guard }], guard := some (11, true) }) (v := ?vc16) rfl (by kernel_rfl) (by kernel_rfl) (by kernel_rfl) (fun _ _ _ h => h) (Or.inl ⟨by rfl, ?hyc16⟩) (by assumption) ?restc16
                      case hyc16 =>
                        intro w hSw
                        (try dsimp only at hSw)
                        go_simp
                        (try with_reducible rfl)
                      (try simp only [Act.put, List.setIfInBounds_toArray, List.set_cons_zero, List.set_cons_succ])
                      refine wpAnyH_take (i := 17) (oi := { dst := some 72, op := Op.move (Operand.tmp 3), type := 47, pos := "law.go:110", after := #[{ on := 11, ground := Ground.guard }], guard := some (11, true) }) (v := ?vc17) rfl (by kernel_rfl) (by kernel_rfl) (by kernel_rfl) (fun _ _ _ h => h) (Or.inl ⟨by rfl, ?hyc17⟩) (by assumption) ?restc17
                      case hyc17 =>
                        intro w hSw
                        (try dsimp only at hSw)
                        go_simp
                        (try with_reducible rfl)
                      (try simp only [Act.put, List.setIfInBounds_toArray, List.set_cons_zero, List.set_cons_succ])
                      refine wpAnyH_take (i := 18) (oi := { dst := some 73, op := Op.move (Operand.tmp 5), type := 3, pos := "law.go:110", after := #[{ on := 11, ground := Ground.guard }], guard := some (11, true) }) (v := ?vc18) rfl (by kernel_rfl) (by kernel_rfl) (by kernel_rfl) (fun _ _ _ h => h) (Or.inl ⟨by rfl, ?hyc18⟩) (by assumption) ?restc18
                      case hyc18 =>
                        intro w hSw
                        (try dsimp only at hSw)
                        go_simp
                        (try with_reducible rfl)
                      (try simp only [Act.put, List.setIfInBounds_toArray, List.set_cons_zero, List.set_cons_succ])
                      refine wpAnyH_take (i := 19) (oi := { dst := some 74, op := Op.indexAddr 47 (Operand.tmp 72) (Operand.tmp 73), type := 0, pos := "law.go:110", after := #[{ on := 17, ground := Ground.data }, { on := 18, ground := Ground.data }, { on := 11, ground := Ground.guard }], guard := some (11, true) }) (v := ?vc19) rfl (by kernel_rfl) (by kernel_rfl) (by kernel_rfl) (fun _ _ _ h => h) (Or.inl ⟨by rfl, ?hyc19⟩) (by assumption) ?restc19
                      case hyc19 =>
                        intro w hSw
                        (try dsimp only at hSw)
                        go_simp
                        (try with_reducible rfl)
                      (try simp only [Act.put, List.setIfInBounds_toArray, List.set_cons_zero, List.set_cons_succ])
                      refine wpAnyH_take (i := 20) (oi := { dst := some 75, op := Op.fieldAddr 69 (Operand.tmp 74) 0, type := 0, pos := "law.go:110", after := #[{ on := 19, ground := Ground.data }, { on := 11, ground := Ground.guard }], guard := some (11, true) }) (v := ?vc20) rfl (by kernel_rfl) (by kernel_rfl) (by kernel_rfl) (fun _ _ _ h => h) (Or.inl ⟨by rfl, ?hyc20⟩) (by assumption) ?restc20
                      case hyc20 =>
                        intro w hSw
                        (try dsimp only at hSw)
                        go_simp
                        (try with_reducible rfl)
                      (try simp only [Act.put, List.setIfInBounds_toArray, List.set_cons_zero, List.set_cons_succ])
                      refine wpAnyH_take (i := 21) (oi := { dst := some 76, op := Op.load 66 (Operand.tmp 75), type := 66, pos := "law.go:110", after := #[{ on := 20, ground := Ground.data }, { on := 11, ground := Ground.guard }], guard := some (11, true) }) (v := ?vc21) rfl (by kernel_rfl) (by kernel_rfl) (by kernel_rfl) (fun _ _ _ h => h) (Or.inl ⟨by rfl, ?hyc21⟩) (by assumption) ?restc21
                      case hyc21 =>
                        intro w hSw
                        (try dsimp only at hSw)
                        go_simp
                        (try with_reducible rfl)
                      (try simp only [Act.put, List.setIfInBounds_toArray, List.set_cons_zero, List.set_cons_succ])
                      refine wpAnyH_ready (rs := [22]) (by kernel_rfl) (by simp) ?_
                      refine AllReadyH.cons (o := { dst := some 77, op := Op.call { callee := Callee.value (Operand.func 32), args := #[Operand.tmp 71, Operand.tmp 76], argTypes := #[47, 66] }, type := 4, pos := "law.go:110", after := #[{ on := 16, ground := Ground.data }, { on := 21, ground := Ground.data }, { on := 11, ground := Ground.chain }, { on := 11, ground := Ground.guard }], guard := some (11, true) }) rfl (fun K hK => ?_) AllReadyH.nil
                      go_simp
                      (go_at_call 32; refine (G2.out _ (by exact hHeld)).mono ?_; rintro e v2 ⟨rfl, b2⟩)
                      go_wp2_with fail
                      refine hK.out _ _ (duo_keep hHeld b2) (fun hHeld => ?_)
                      clear hK K
                      (try simp only [Act.put, List.setIfInBounds_toArray, List.set_cons_zero, List.set_cons_succ])
                      refine wpAnyH_take (i := 23) (oi := { dst := some 78, op := Op.move (Operand.tmp 77), type := 4, pos := "law.go:110", after := #[{ on := 22, ground := Ground.data }, { on := 22, ground := Ground.chain }, { on := 11, ground := Ground.guard }], guard := some (11, true) }) (v := ?vc22) rfl (by kernel_rfl) (by kernel_rfl) (by kernel_rfl) (fun _ _ _ h => h) (Or.inl ⟨by rfl, ?hyc22⟩) (by assumption) ?restc22
                      case hyc22 =>
                        intro w hSw
                        (try dsimp only at hSw)
                        go_simp
                        (try with_reducible rfl)
                      (try simp only [Act.put, List.setIfInBounds_toArray, List.set_cons_zero, List.set_cons_succ])
                      refine wpAnyH_take (i := 24) (oi := { dst := some 79, op := Op.move (Operand.tmp 3), type := 47, pos := "law.go:110", after := #[{ on := 23, ground := Ground.guard }], guard := some (23, false) }) (v := ?vc23) rfl (by kernel_rfl) (by kernel_rfl) (by kernel_rfl) (fun _ _ _ h => h) (Or.inl ⟨by rfl, ?hyc23⟩) (by assumption) ?restc23
                      case hyc23 =>
                        intro w hSw
                        (try dsimp only at hSw)
                        go_simp
                        (try with_reducible rfl)
                      (try simp only [Act.put, List.setIfInBounds_toArray, List.set_cons_zero, List.set_cons_succ])
                      refine wpAnyH_take (i := 25) (oi := { dst := some 80, op := Op.move (Operand.tmp 6), type := 3, pos := "law.go:110", after := #[{ on := 23, ground := Ground.guard }], guard := some (23, false) }) (v := ?vc24) rfl (by kernel_rfl) (by kernel_rfl) (by kernel_rfl) (fun _ _ _ h => h) (Or.inl ⟨by rfl, ?hyc24⟩) (by assumption) ?restc24
                      case hyc24 =>
                        intro w hSw
                        (try dsimp only at hSw)
                        go_simp
                        (try with_reducible rfl)
                      (try simp only [Act.put, List.setIfInBounds_toArray, List.set_cons_zero, List.set_cons_succ])
                      refine wpAnyH_take (i := 26) (oi := { dst := some 81, op := Op.indexAddr 47 (Operand.tmp 79) (Operand.tmp 80), type := 0, pos := "law.go:110", after := #[{ on := 24, ground := Ground.data }, { on := 25, ground := Ground.data }, { on := 23, ground := Ground.guard }], guard := some (23, false) }) (v := ?vc25) rfl (by kernel_rfl) (by kernel_rfl) (by kernel_rfl) (fun _ _ _ h => h) (Or.inl ⟨by rfl, ?hyc25⟩) (by assumption) ?restc25
                      case hyc25 =>
                        intro w hSw
                        (try dsimp only at hSw)
                        go_simp
                        (try with_reducible rfl)
                      (try simp only [Act.put, List.setIfInBounds_toArray, List.set_cons_zero, List.set_cons_succ])
                      refine wpAnyH_take (i := 27) (oi := { dst := some 82, op := Op.fieldAddr 69 (Operand.tmp 81) 1, type := 0, pos := "law.go:110", after := #[{ on := 26, ground := Ground.data }, { on := 23, ground := Ground.guard }], guard := some (23, false) }) (v := ?vc26) rfl (by kernel_rfl) (by kernel_rfl) (by kernel_rfl) (fun _ _ _ h => h) (Or.inl ⟨by rfl, ?hyc26⟩) (by assumption) ?restc26
                      case hyc26 =>
                        intro w hSw
                        (try dsimp only at hSw)
                        go_simp
                        (try with_reducible rfl)
                      (try simp only [Act.put, List.setIfInBounds_toArray, List.set_cons_zero, List.set_cons_succ])
                      refine wpAnyH_take (i := 28) (oi := { dst := some 83, op := Op.load 67 (Operand.tmp 82), type := 67, pos := "law.go:110", after := #[{ on := 27, ground := Ground.data }, { on := 23, ground := Ground.guard }], guard := some (23, false) }) (v := ?vc27) rfl (by kernel_rfl) (by kernel_rfl) (by kernel_rfl) (fun _ _ _ h => h) (Or.inl ⟨by rfl, ?hyc27⟩) (by assumption) ?restc27
                      case hyc27 =>
                        intro w hSw
                        (try dsimp only at hSw)
                        go_simp
                        (try with_reducible rfl)
                      (try simp only [Act.put, List.setIfInBounds_toArray, List.set_cons_zero, List.set_cons_succ])
                      refine wpAnyH_take (i := 29) (oi := { dst := some 84, op := Op.move (Operand.tmp 3), type := 47, pos := "law.go:110", after := #[{ on := 23, ground := Ground.guard }], guard := some (23, false) }) (v := ?vc28) rfl (by kernel_rfl) (by kernel_rfl) (by kernel_rfl) (fun _ _ _ h => h) (Or.inl ⟨by rfl, ?hyc28⟩) (by assumption) ?restc28
                      case hyc28 =>
                        intro w hSw
                        (try dsimp only at hSw)
                        go_simp
                        (try with_reducible rfl)
                      (try simp only [Act.put, List.setIfInBounds_toArray, List.set_cons_zero, List.set_cons_succ])
                      refine wpAnyH_take (i := 30) (oi := { dst := some 85, op := Op.move (Operand.tmp 5), type := 3, pos := "law.go:110", after := #[{ on := 23, ground := Ground.guard }], guard := some (23, false) }) (v := ?vc29) rfl (by kernel_rfl) (by kernel_rfl) (by kernel_rfl) (fun _ _ _ h => h) (Or.inl ⟨by rfl, ?hyc29⟩) (by assumption) ?restc29
                      case hyc29 =>
                        intro w hSw
                        (try dsimp only at hSw)
                        go_simp
                        (try with_reducible rfl)
                      (try simp only [Act.put, List.setIfInBounds_toArray, List.set_cons_zero, List.set_cons_succ])
                      refine wpAnyH_take (i := 31) (oi := { dst := some 86, op := Op.indexAddr 47 (Operand.tmp 84) (Operand.tmp 85), type := 0, pos := "law.go:110", after := #[{ on := 29, ground := Ground.data }, { on := 30, ground := Ground.data }, { on := 23, ground := Ground.guard }], guard := some (23, false) }) (v := ?vc30) rfl (by kernel_rfl) (by kernel_rfl) (by kernel_rfl) (fun _ _ _ h => h) (Or.inl ⟨by rfl, ?hyc30⟩) (by assumption) ?restc30
                      case hyc30 =>
                        intro w hSw
                        (try dsimp only at hSw)
                        go_simp
                        (try with_reducible rfl)
                      (try simp only [Act.put, List.setIfInBounds_toArray, List.set_cons_zero, List.set_cons_succ])
                      refine wpAnyH_take (i := 32) (oi := { dst := some 87, op := Op.fieldAddr 69 (Operand.tmp 86) 1, type := 0, pos := "law.go:110", after := #[{ on := 31, ground := Ground.data }, { on := 23, ground := Ground.guard }], guard := some (23, false) }) (v := ?vc31) rfl (by kernel_rfl) (by kernel_rfl) (by kernel_rfl) (fun _ _ _ h => h) (Or.inl ⟨by rfl, ?hyc31⟩) (by assumption) ?restc31
                      case hyc31 =>
                        intro w hSw
                        (try dsimp only at hSw)
                        go_simp
                        (try with_reducible rfl)
                      (try simp only [Act.put, List.setIfInBounds_toArray, List.set_cons_zero, List.set_cons_succ])
                      refine wpAnyH_take (i := 33) (oi := { dst := some 88, op := Op.load 67 (Operand.tmp 87), type := 67, pos := "law.go:110", after := #[{ on := 32, ground := Ground.data }, { on := 23, ground := Ground.guard }], guard := some (23, false) }) (v := ?vc32) rfl (by kernel_rfl) (by kernel_rfl) (by kernel_rfl) (fun _ _ _ h => h) (Or.inl ⟨by rfl, ?hyc32⟩) (by assumption) ?restc32
                      case hyc32 =>
                        intro w hSw
                        (try dsimp only at hSw)
                        go_simp
                        (try with_reducible rfl)
                      (try simp only [Act.put, List.setIfInBounds_toArray, List.set_cons_zero, List.set_cons_succ])
                      refine wpAnyH_ready (rs := [34]) (by kernel_rfl) (by simp) ?_
                      refine AllReadyH.cons (o := { dst := some 89, op := Op.call { callee := Callee.value (Operand.func 48), args := #[Operand.tmp 83, Operand.tmp 88], argTypes := #[67, 67] }, type := 4, pos := "law.go:110", after := #[{ on := 28, ground := Ground.data }, { on := 33, ground := Ground.data }, { on := 23, ground := Ground.chain }, { on := 23, ground := Ground.guard }], guard := some (23, false) }) rfl (fun K hK => ?_) AllReadyH.nil
                      go_simp
                      (go_at_call 48; refine (G3.out _ (by exact hHeld)).mono ?_; rintro e v3 ⟨rfl, b3⟩)
                      go_wp2_with fail
                      refine hK.out _ _ (duo_keep hHeld b3) (fun hHeld => ?_)
                      clear hK K
                      (try simp only [Act.put, List.setIfInBounds_toArray, List.set_cons_zero, List.set_cons_succ])
                      refine wpAnyH_take (i := 35) (oi := { dst := some 90, op := Op.unOp UnOp.not 4 (Operand.tmp 89), type := 4, pos := "law.go:110", after := #[{ on := 34, ground := Ground.data }, { on := 23, ground := Ground.guard }], guard := some (23, false) }) (v := ?vc33) rfl (by kernel_rfl) (by kernel_rfl) (by kernel_rfl) (fun _ _ _ h => h) (Or.inl ⟨by rfl, ?hyc33⟩) (by assumption) ?restc33
                      case hyc33 =>
                        intro w hSw
                        (try dsimp only at hSw)
                        go_simp
                        (try with_reducible rfl)
                      (try simp only [Act.put, List.setIfInBounds_toArray, List.set_cons_zero, List.set_cons_succ])
                      refine wpAnyH_take (i := 36) (oi := { dst := some 91, op := Op.pick (Operand.tmp 78) (Operand.const (Value.bool true)) (Operand.tmp 90), type := 4, pos := "law.go:110", after := #[{ on := 23, ground := Ground.data }, { on := 35, ground := Ground.data }, { on := 11, ground := Ground.guard }], guard := some (11, true) }) (v := ?vc34) rfl (by kernel_rfl) (by kernel_rfl) (by kernel_rfl) (fun _ _ _ h => h) (Or.inl ⟨by rfl, ?hyc34⟩) (by assumption) ?restc34
                      case hyc34 =>
                        intro w hSw
                        (try dsimp only at hSw)
                        go_simp
                        (try with_reducible rfl)
                      (try simp only [Act.put, List.setIfInBounds_toArray, List.set_cons_zero, List.set_cons_succ])
                      refine wpAnyH_take (i := 37) (oi := { dst := some 92, op := Op.pick (Operand.tmp 66) (Operand.tmp 91) (Operand.const (Value.bool false)), type := 4, pos := "law.go:110", after := #[{ on := 11, ground := Ground.data }, { on := 36, ground := Ground.data }], guard := none }) (v := ?vc35) rfl (by kernel_rfl) (by kernel_rfl) (by kernel_rfl) (fun _ _ _ h => h) (Or.inl ⟨by rfl, ?hyc35⟩) (by assumption) ?restc35
                      case hyc35 =>
                        intro w hSw
                        (try dsimp only at hSw)
                        go_simp
                        (try with_reducible rfl)
                      (try simp only [Act.put, List.setIfInBounds_toArray, List.set_cons_zero, List.set_cons_succ])
                      refine wpAnyH_done (by kernel_rfl) ?_ _
                      cases q3
                      · have BE : Below w.heap.size w v3 := HW.out.trans ((HBK.out.trans ((duo_below (show Duo wr pb (off + i * 5) (off + k * 5) s vn A1 kp c1 s' vn' A2 kp' c2 v3 from hHeld)).mono hszk)).mono sW)
                        have HF := Lib.hid (HN2.out.2 (by simp))
                        clear HN2 G1 G2 G3 hHeld
                        go_wp2_with fail
                        go_ret
                        exact ⟨by rw [HF.out]; rfl, BE⟩
                      · have BE : Below W.heap.size W v3 := HBK.out.trans ((duo_below (show Duo wr pb (off + i * 5) (off + k * 5) s vn A1 kp c1 s' vn' A2 kp' c2 v3 from hHeld)).mono hszk)
                        have HF := Lib.hid (HN2.out.1 (by simp))
                        clear HN2 G1 G2 G3 hHeld
                        go_wp2_with fail
                        exact ⟨⟨k + 1, rfl, by omega, HF, BE⟩, by simp only [intOf]; omega⟩
                · have HF : Hid (R = false) := Lib.hid (HN.out.2 (by
                    have h := hz.out
                    revert h
                    cases ((s == s') && (vn == vn')) <;> cases q4 <;> simp))
                  have BF := Lib.hid (HW.out.trans ((HBK.out.trans (hbz.out.mono hszk)).mono sW))
                  go_wp2_with fail
                  go_ret
                  exact ⟨by rw [HF.out]; rfl, BF.out⟩
            · have hkn : j = k := by omega
              subst hkn
              have HF := Lib.hid (okw_end (by have := htk.out; rwa [← HX.out.2.1] at this))
              clear htk
              go_wp2_with fail
              go_roundw
              case rel => exact ⟨i + 1, rfl, by omega, HF, hbk⟩
              case measure => simp only [intOf]; omega
        · have hin : j = i := by omega
          subst hin
          have HF := Lib.hid (show R = true by rw [← HX.out.2.2]; exact okw_all (by have := ht.out; rwa [← HX.out.2.1] at this))
          have BF := Lib.hid (HW.out.trans (hb.mono sW))
          clear ht hb
          go_wp2_with fail
          go_ret
          exact ⟨by rw [HF.out]; rfl, BF.out⟩
end Quorum
end Go.Proofs.Ytbhidndgnldheaa
