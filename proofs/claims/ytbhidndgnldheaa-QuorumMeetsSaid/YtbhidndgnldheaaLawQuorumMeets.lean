/-
  QuorumMeets (P16.4): what so many nodes have taken is told by every reading of so many others that the two must meet; and behind what is put into those behind all that answered hold the same. (Of at most 512 versions.) For every input.
-/
import Derived.Test.YtbhidndgnldheaaG16H
import Derived.Test.YtbhidndgnldheaaG16G
import Derived.Test.YtbhidndgnldheaaFrame
namespace Go.Proofs.Ytbhidndgnldheaa
namespace QuorumMeets
open Go.ChangeShapes Go.WideShapes Go.ChangeAt Go.RowKit Quorum Ring Vers Span Blk
attribute [local go_sem ↓] Go.wp_at_zero Go.wp_at_succ
abbrev repOf (e : List Vr × Plc) : Rp := ((0, e.1), e.2, (none, 0, 0))
/-- The answers gathered: the version, and what the first nodes hold. -/
def gath (x0 : Rp) (hl : Hl) (j : Nat) : List Rp := x0 :: ((hl.drop 1).take j).map repOf
theorem gath_len {x0 : Rp} {hl : Hl} {j : Nat} (h : hl.length = 9) (hj : j ≤ 8) : (gath x0 hl j).length = j + 1 := by
  simp [gath]
  omega
theorem gath_set (x0 : Rp) (hl : Hl) (j : Nat) (e : List Vr × Plc) : gath x0 (hl.set (j + 1) e) j = gath x0 hl j := by
  unfold gath
  congr 2
  refine List.ext_getElem? fun q => ?_
  rw [List.getElem?_take, List.getElem?_take]
  split
  · rw [List.getElem?_drop, List.getElem?_drop, List.getElem?_set_ne (by omega)]
  · rfl
theorem gath_snoc {x0 : Rp} {hl : Hl} {j : Nat} {e : List Vr × Plc} (h : hl[j + 1]? = some e) : gath x0 hl (j + 1) = gath x0 hl j ++ [repOf e] := by
  unfold gath
  have h1 : (hl.drop 1)[j]? = some e := by rw [List.getElem?_drop, Nat.add_comm]; exact h
  rw [take_one h1, List.map_append]
  rfl
/-- What is held, all of it among the arguments. -/
def HeldA (w : World) (hb : Nat) (hl : Hl) (V : World) : Prop := hl.length = 9 ∧ Bn hb 71 (hlc hl) V ∧ ∀ e ∈ hl, Vs w 0 w.heap.size e.2.1 e.1 ∧ e.1.length ≤ e.2.2 ∧ RightV e.1
theorem HeldA.at {w V : World} {hb : Nat} {hl : Hl} (h : HeldA w hb hl V) {j : Nat} (hj : j < 9) : ∃ e, hl[j]? = some e ∧ V.cell? ⟨hb, j, none⟩ = some (.slice e.2.1 e.1.length e.2.2) := by
  obtain ⟨e, he⟩ : ∃ e, hl[j]? = some e := ⟨hl[j]'(by have := h.1; omega), by simp⟩
  refine ⟨e, he, ?_⟩
  rw [h.2.1.cell j]
  unfold hlc
  rw [List.getElem?_map, he]
  rfl
theorem HeldA.same {w V V' : World} {hb : Nat} {hl : Hl} (h : HeldA w hb hl V) (hk : V'.heap[hb]? = V.heap[hb]?) : HeldA w hb hl V' := ⟨h.1, h.2.1.same hk, h.2.2⟩
theorem HeldA.set {w V : World} {hb : Nat} {hl : Hl} (h : HeldA w hb hl V) (j : Nat) (e : List Vr × Plc) (hv : Vs w 0 w.heap.size e.2.1 e.1) (hc : e.1.length ≤ e.2.2) (hr : RightV e.1) : HeldA w hb (hl.set j e) (V.setCell ⟨hb, j, none⟩ (.slice e.2.1 e.1.length e.2.2)) := by
  refine ⟨by rw [List.length_set]; exact h.1, ?_, fun x hx => ?_⟩
  · have h1 := h.2.1.set j (.slice e.2.1 e.1.length e.2.2)
    unfold hlc at h1 ⊢
    rwa [← List.map_set (f := fun e : List Vr × Plc => Value.slice e.2.1 e.1.length e.2.2) (a := e)] at h1
  · rcases List.mem_or_eq_of_mem_set hx with h1 | h1
    · exact h.2.2 x h1
    · subst h1
      exact ⟨hv, hc, hr⟩
/-- What is held is among the versions gathered. -/
def HoldU (UU : List Vr) (K : Nat) (hl : Hl) : Prop := ∀ q e, 1 ≤ q → q ≤ K → hl[q]? = some e → ∀ x ∈ e.1, x ∈ UU
/-- Who is counted has taken the version. -/
def TookU (v : Vr) (lw : List En) (hl : Hl) : Prop := ∀ e ∈ lw, e.2.1 = true → ∃ h, hl[e.1.toNat]? = some h ∧ Tk v h.1
/-- Who is counted has answered what it holds. -/
def AnsU (lr : List En) (hl : Hl) : Prop := ∀ e ∈ lr, e.2.1 = true → ∃ h, hl[e.1.toNat]? = some h ∧ e.2.2 = h.1
theorem hold_set {UU : List Vr} {K n : Nat} {hm : Hl} {H' : List Vr} {p : Plc} (h : HoldU UU K hm) (hs : ∀ x ∈ H', x ∈ UU) : HoldU UU K (hm.set n (H', p)) := fun q e h1 h2 he => by
  by_cases hq : n = q
  · subst hq
    have hlt := (List.getElem?_eq_some_iff.1 he).1
    rw [List.length_set] at hlt
    rw [List.getElem?_set_self hlt] at he
    injection he with he
    subst he
    exact hs
  · rw [List.getElem?_set_ne hq] at he
    exact h q e h1 h2 he
theorem took_set {v : Vr} {lw lw' : List En} {n : Nat} {b : Bool} {hm : Hl} {H' : List Vr} {p : Plc} (h : TookU v lw hm) (hn : n < hm.length) (ht : Tk v H') (hc : countF lw (n : Int) [] = (b, lw')) : TookU v lw' (hm.set n (H', p)) := fun e he hb => by
  by_cases hq : n = e.1.toNat
  · exact ⟨(H', p), by rw [← hq, List.getElem?_set_self hn], ht⟩
  · rcases count_mem hc he with h1 | h1
    · obtain ⟨h', h2, h3⟩ := h e h1 hb
      exact ⟨h', by rw [List.getElem?_set_ne hq]; exact h2, h3⟩
    · rw [h1] at hq
      simp at hq
theorem ans_got {lr lr' : List En} {n : Nat} {b : Bool} {hm : Hl} {e0 : List Vr × Plc} (h : AnsU lr hm) (hn : hm[n]? = some e0) (hc : gotF lr (n : Int) e0.1 = (b, lr')) : AnsU lr' hm := fun e he hb => by
  rcases got_mem hc he with h1 | h1
  · exact h e h1 hb
  · rw [h1]
    exact ⟨e0, by simpa using hn, rfl⟩
theorem gath_hold {x0 : Rp} {hl : Hl} {K : Nat} : HoldU (allV (gath x0 hl K)) K hl := fun q e h1 h2 he x hx => by
  unfold allV gath
  rw [List.flatMap_cons, List.mem_append]
  refine .inr (List.mem_flatMap.2 ⟨repOf e, List.mem_map_of_mem (f := repOf) ?_, hx⟩)
  refine List.mem_of_getElem? (i := q - 1) ?_
  rw [List.getElem?_take_of_lt (by omega), List.getElem?_drop, show 1 + (q - 1) = q by omega]
  exact he
theorem gath_all {x0 : Rp} {hl : Hl} {K : Nat} {x : Vr} (h : x ∈ allV (gath x0 hl K)) : x ∈ x0.1.2 ∨ ∃ e ∈ hl, x ∈ e.1 := by
  unfold allV gath at h
  rw [List.flatMap_cons, List.mem_append] at h
  rcases h with h | h
  · exact .inl h
  · obtain ⟨r, hr, hx⟩ := List.mem_flatMap.1 h
    obtain ⟨e, he, rfl⟩ := List.mem_map.1 hr
    exact .inr ⟨e, List.mem_of_mem_drop (List.mem_of_mem_take he), hx⟩
theorem meets_plain {UU : List Vr} {K : Nat} {hm : Hl} {lw lr : List En} {v : Vr} {X R : Int} (hU : OkU UU) (hl : UU.length ≤ 512) (hH : HoldU UU K hm) (hr : ∀ e ∈ hm, RightV e.1) (hT : TookU v lw hm) (hA : AnsU lr hm) (hw : lw.map Prod.fst = nodes K) (hf : lr.map Prod.fst = nodes K) (hW : doneF X lw = true) (hR : doneF R lr = true) (hs : (K : Int) < X + R) :
    (Vers.behind (versF lr) v.s v.n ∨ v ∈ versF lr) ∧ ∀ xn : Nat, 1 ≤ xn → xn ≤ K → (xn : Int) ∉ waitsF lr → ∀ h, hm[xn]? = some h → mergeF h.1 (versF lr) = (versF lr, 0) ∧ decide ((xn : Int) ∈ behindF lr (versF lr)) = !decide (h.1 = versF lr) := by
  have hn : ∀ e ∈ lr, 1 ≤ e.1 ∧ e.1 ≤ K := fun e he => by
    have h1 : e.1 ∈ lr.map Prod.fst := List.mem_map_of_mem he
    rw [hf] at h1
    exact nodes_mem.1 h1
  have hAns : ∀ e ∈ lr, e.2.1 = true → RightV e.2.2 ∧ ∀ x ∈ e.2.2, x ∈ UU := fun e he hb => by
    obtain ⟨h, h1, h2⟩ := hA e he hb
    have := hn e he
    rw [h2]
    exact ⟨hr h (List.mem_of_getElem? h1), hH _ h (by omega) (by omega) h1⟩
  have hMx := vers_mx hU hl lr hAns
  have hTU : ∀ x ∈ tellF lr, x ∈ UU := fun x hx => by
    obtain ⟨e, he, hx⟩ := List.mem_flatMap.1 hx
    by_cases hb : e.2.1 = true
    · rw [if_pos hb] at hx
      exact (hAns e he hb).2 x hx
    · rw [if_neg hb] at hx
      simp at hx
  refine ⟨?_, fun xn h1 h2 h3 h h4 => ?_⟩
  · obtain ⟨e, he, f, hff, h1, h2, h3⟩ := done_both (n := K) (by have := congrArg List.length hw; rw [List.length_map, nodes_len] at this; exact this) (hw.trans hf.symm) hW hR hs
    obtain ⟨g, h4, h5⟩ := hT e he h2
    obtain ⟨g', h6, h7⟩ := hA f hff h3
    rw [h1, h6] at h4
    injection h4 with h4
    subst h4
    rw [← h7] at h5
    exact told_has hMx (tell_mem hff h3) h5
  · have hx : (xn : Int) ∈ lr.map Prod.fst := by rw [hf]; exact nodes_mem.2 ⟨by omega, by omega⟩
    obtain ⟨e, he, he1⟩ := List.mem_map.1 hx
    have hb : e.2.1 = true := by
      cases hh : e.2.1
      · exact absurd (waits_mem.2 ⟨e, he, hh, he1⟩) h3
      · rfl
    have hsame : ∀ e' ∈ lr, e'.2.1 = true → e'.1 = (xn : Int) → e'.2.2 = h.1 := fun e' he' hb' h5 => by
      obtain ⟨g, h6, h7⟩ := hA e' he' hb'
      rw [h5, Int.toNat_natCast, h4] at h6
      injection h6 with h6
      rw [h7, ← h6]
    have h5 := hsame e he hb he1
    have hm1 := merge_told hU hl hTU hMx (hr h (List.mem_of_getElem? h4)) (by rw [← h5]; exact tell_mem he hb)
    refine ⟨hm1, ?_⟩
    have hlk := lacks_told hm1
    by_cases heq : h.1 = versF lr
    · rw [decide_eq_true heq] at hlk ⊢
      refine decide_eq_false fun hbm => ?_
      obtain ⟨e', he', hb', h6, h7⟩ := behind_mem.1 hbm
      rw [hsame e' he' hb' h7, hlk] at h6
      cases h6
    · rw [decide_eq_false heq] at hlk ⊢
      exact decide_eq_true (behind_mem.2 ⟨e, he, hb, by rw [h5]; exact hlk, he1⟩)
/-- What holds between the rounds in which all is laid. -/
def LayA (w U : World) (B hb sb ab : Nat) (vc : List Value) (x0 : Rp) (j k : Nat) (hl : Hl) (Al : Option Addr) (cl : Nat) (Aq : Option Addr) (cq : Nat) (V : World) : Prop :=
  (V.ownsRow B 3 1 (.slice Al k cl) k (nums .i64 (nodes k)) ∧ V.ownsRow ab 50 3 (.slice Aq (j + 1) cq) (j + 1) (rpcs (gath x0 hl j))) ∧ HeldA w hb hl V ∧ Below U.heap.size U V ∧ Bn sb 69 vc V ∧ B ≤ V.heap.size
def Lie (U : World) (B hb sb ab : Nat) : Prop := U.heap.size ≤ hb ∧ hb + 1 = sb ∧ sb + 1 = ab ∧ ab + 1 = B
section
variable {w U V V' : World} {B hb sb ab : Nat} {vc : List Value} {x0 : Rp} {j k : Nat} {hl : Hl} {Al : Option Addr} {cl : Nat} {Aq : Option Addr} {cq : Nat}
theorem LayA.below (h : LayA w U B hb sb ab vc x0 j k hl Al cl Aq cq V) (hb' : Below V.heap.size V V') : LayA w U B hb sb ab vc x0 j k hl Al cl Aq cq V' :=
  ⟨⟨own_below h.1.1 hb' (Nat.le_refl _), own_below h.1.2 hb' (Nat.le_refl _)⟩, h.2.1.same (hb'.block hb h.2.1.2.1.lt), h.2.2.1.trans (hb'.mono h.2.2.1.size), bn_below h.2.2.2.1 hb', Nat.le_trans h.2.2.2.2 hb'.size⟩
theorem LayA.list (h : LayA w U B hb sb ab vc x0 j k hl Al cl Aq cq V) (hs : Lie U B hb sb ab) {A' : Option Addr} {c' : Nat} (o : V'.ownsRow B 3 1 (.slice A' (k + 1) c') (k + 1) (nums .i64 (nodes k) ++ [.int .i64 ((k + 1 : Nat) : Int)])) (g : V.grownBy V' (Value.slice Al k cl).ownBlock) : LayA w U B hb sb ab vc x0 j (k + 1) hl A' c' Aq cq V' := by
  obtain ⟨s1, s2, s3, s4⟩ := hs
  have hB : ∀ q, (Value.slice Al k cl).ownBlock = some q → B ≤ q := fun q hq => (h.1.1.lt q hq).1
  refine ⟨⟨?_, Blk.own_keep h.1.2 fun q hq => g.block q (h.1.2.lt q hq).2 fun e => own_ne2 h.1.2 h.1.1 (by decide) hq e.symm⟩, h.2.1.same (g.block hb h.2.1.2.1.lt fun e => by have := hB hb e.symm; omega), h.2.2.1.grown g h.2.2.1.size fun q hq => by have := hB q hq; omega, h.2.2.2.1.same (g.block sb h.2.2.2.1.lt fun e => by have := hB sb e.symm; omega), Nat.le_trans h.2.2.2.2 g.size⟩
  rw [nodes_snoc]
  simpa [nums] using o
theorem LayA.set (h : LayA w U B hb sb ab vc x0 j k hl Al cl Aq cq V) (hs : Lie U B hb sb ab) (e : List Vr × Plc) (hv : Vs w 0 w.heap.size e.2.1 e.1) (hc : e.1.length ≤ e.2.2) (hr : RightV e.1) : LayA w U B hb sb ab vc x0 j k (hl.set (j + 1) e) Al cl Aq cq (V.setCell ⟨hb, j + 1, none⟩ (.slice e.2.1 e.1.length e.2.2)) := by
  obtain ⟨s1, s2, s3, s4⟩ := hs
  have g := gset V hb (j + 1) (.slice e.2.1 e.1.length e.2.2)
  refine ⟨⟨Blk.own_keep h.1.1 fun q hq => g.block q (h.1.1.lt q hq).2 fun e => by injection e with e; have := (h.1.1.lt q hq).1; omega, ?_⟩, h.2.1.set (j + 1) e hv hc hr, h.2.2.1.grown g h.2.2.1.size fun q hq => by injection hq with hq; omega, h.2.2.2.1.same (g.block sb h.2.2.2.1.lt fun e => by injection e with e; omega), Nat.le_trans h.2.2.2.2 g.size⟩
  rw [gath_set]
  exact Blk.own_keep h.1.2 fun q hq => g.block q (h.1.2.lt q hq).2 fun e => by injection e with e; have := (h.1.2.lt q hq).1; omega
theorem LayA.all (h : LayA w U B hb sb ab vc x0 j k hl Al cl Aq cq V) (hs : Lie U B hb sb ab) {e : List Vr × Plc} (he : hl[j + 1]? = some e) {A' : Option Addr} {c' : Nat} (o : V'.ownsRow ab 50 3 (.slice A' (j + 1 + 1) c') (j + 1 + 1) (rpcs (gath x0 hl j ++ [repOf e]))) (g : V.grownBy V' (Value.slice Aq (j + 1) cq).ownBlock) : LayA w U B hb sb ab vc x0 (j + 1) k hl Al cl A' c' V' := by
  obtain ⟨s1, s2, s3, s4⟩ := hs
  have hB : ∀ q, (Value.slice Aq (j + 1) cq).ownBlock = some q → ab ≤ q := fun q hq => (h.1.2.lt q hq).1
  refine ⟨⟨Blk.own_keep h.1.1 fun q hq => g.block q (h.1.1.lt q hq).2 fun e => own_ne2 h.1.1 h.1.2 (by decide) hq e.symm, ?_⟩, h.2.1.same (g.block hb h.2.1.2.1.lt fun e => by have := hB hb e.symm; omega), h.2.2.1.grown g h.2.2.1.size fun q hq => by have := hB q hq; omega, h.2.2.2.1.same (g.block sb h.2.2.2.1.lt fun e => by have := hB sb e.symm; omega), Nat.le_trans h.2.2.2.2 g.size⟩
  rw [gath_snoc he]
  exact o
end
theorem lay_rs {w U V : World} {B hb sb ab : Nat} {x0 : Rp} {j k : Nat} {hl : Hl} {Al : Option Addr} {cl : Nat} {Aq : Option Addr} {cq : Nat} {vc : List Value} (h : LayA w U B hb sb ab vc x0 j k hl Al cl Aq cq V) (hj : j ≤ 8) (hw : Below w.heap.size w V) (h0 : Vs V 0 V.heap.size x0.2.1.1 x0.1.2 ∧ x0.1.2.length ≤ x0.2.1.2 ∧ x0.1.2.length * 64 ≤ 140737488351232) : Rs V Aq (gath x0 hl j) := by
  have hlen := gath_len (x0 := x0) h.2.1.1 hj
  obtain ⟨g, hA, _, hg, hat⟩ := own_rs h.1.2 hlen (by omega)
  refine ⟨fun _ => ⟨g, 0, hA, hg, fun q x hx r u hu => by rw [Nat.zero_add]; exact hat q x hx r u hu⟩, fun x hx => ?_⟩
  unfold gath at hx
  rcases List.mem_cons.1 hx with rfl | hx
  · exact h0
  · obtain ⟨e, he, rfl⟩ := List.mem_map.1 hx
    have he' : e ∈ hl := List.mem_of_mem_drop (List.mem_of_mem_take he)
    obtain ⟨h1, h2, h3⟩ := h.2.1.2.2 e he'
    exact ⟨(h1.below hw).more hw.size, h2, by have := h3.1; simp only; omega⟩
set_option maxRecDepth 100000 in
set_option maxHeartbeats 8000000 in
theorem walk (w : World) (N X R : Int) (At : Option Addr) (ct : Nat) (tk : List Int) (Aa : Option Addr) (ca : Nat) (ask : List Int) (hrt : Ns .i64 w w.heap.size At tk) (hra : Ns .i64 w w.heap.size Aa ask) (hbt : tk.length * 8 ≤ 140737488351232) (hba : ask.length * 8 ≤ 140737488351232)
    (Ao : Option Addr) (co : Nat) (old : Hl) (hro : Vss w Ao old) (hbo : old.length * 24 ≤ 140737488351232) (_hlo : old.length ≤ co)
    (v : Vr) (Av : Option Addr) (cv : Nat) (hpv : Pa w 0 w.heap.size Av cv v) (hvl : v.past.length * 24 ≤ 140737488351232) (hvb : v.val.size ≤ 140737488351232) :
    Calls Try.prog 6 #[.agg #[.int .i64 N, .int .i64 X, .int .i64 R, .slice At tk.length ct, .slice Aa ask.length ca], .slice Ao old.length co, vv Av cv v] w fun e w' => e = .returned (.bool true) ∧ Below w.heap.size w w' := by
  obtain ⟨nt, hnt⟩ : ∃ n, tk.length = n := ⟨_, rfl⟩
  obtain ⟨na, hna⟩ : ∃ n, ask.length = n := ⟨_, rfl⟩
  obtain ⟨no, hno⟩ : ∃ n, old.length = n := ⟨_, rfl⟩
  obtain ⟨s, vn, vp, vg, vx⟩ := v
  obtain ⟨hps, hpc, hpb, hpx, _⟩ := hpv
  unfold vv
  simp only at hps hpc hpb hpx hvl hvb ⊢
  obtain ⟨kp, hkp⟩ : ∃ n, vp.length = n := ⟨_, rfl⟩
  rw [hnt, hna, hno, hkp]
  rw [hnt] at hbt
  rw [hna] at hba
  rw [hno] at hbo
  rw [hkp] at hpc hpb hvl
  obtain ⟨mb, hmb⟩ : ∃ b, w.heap.size = b := ⟨_, rfl⟩
  obtain ⟨U1, hU1⟩ : ∃ V, w.alloc (.cells #[.int .i64 N, .int .i64 X, .int .i64 R, .slice At nt ct, .slice Aa na ca] 64) = V := ⟨_, rfl⟩
  obtain ⟨U, hU⟩ : ∃ V, U1.alloc (.cells #[.int .i64 s, .int .i64 vn, .slice Av kp cv, .bool vg, .string vx] 69) = V := ⟨_, rfl⟩
  have b1 : Below w.heap.size w U1 := by rw [← hU1]; exact (Below.refl _ w).alloc (Nat.le_refl _) _
  have z1 : U1.heap.size = mb + 1 := by rw [← hU1, ← hmb]; simp
  obtain ⟨vb, hvb0⟩ : ∃ b, U1.heap.size = b := ⟨_, rfl⟩
  have b2 : Below U1.heap.size U1 U := by rw [← hU]; exact (Below.refl _ U1).alloc (Nat.le_refl _) _
  have z2 : U.heap.size = mb + 2 := by rw [← hU]; simp [z1]
  have bU : Below w.heap.size w U := b1.trans (b2.mono b1.size)
  have M1 : Bn mb 64 [.int .i64 N, .int .i64 X, .int .i64 R, .slice At nt ct, .slice Aa na ca] U := by
    have h : Bn mb 64 [.int .i64 N, .int .i64 X, .int .i64 R, .slice At nt ct, .slice Aa na ca] U1 := by rw [← hU1, ← hmb]; exact heap_alloc_new w _
    exact bn_below h b2
  have M2 : Bn vb 69 [.int .i64 s, .int .i64 vn, .slice Av kp cv, .bool vg, .string vx] U := by
    rw [← hU, ← hvb0]; exact heap_alloc_new U1 _
  have HM : Hid (∀ V, Below U.heap.size U V → V.cell? ⟨mb, 0, none⟩ = some (.int .i64 N) ∧ V.cell? ⟨mb, 1, none⟩ = some (.int .i64 X) ∧ V.cell? ⟨mb, 2, none⟩ = some (.int .i64 R) ∧ V.cell? ⟨mb, 3, none⟩ = some (.slice At nt ct) ∧ V.cell? ⟨mb, 4, none⟩ = some (.slice Aa na ca)) := Lib.hid fun V hV => by
    have h := bn_below M1 hV
    exact ⟨(h.cell 0).trans rfl, (h.cell 1).trans rfl, (h.cell 2).trans rfl, (h.cell 3).trans rfl, (h.cell 4).trans rfl⟩
  have HVv : Hid (∀ V, Below U.heap.size U V → (V.cell? ⟨vb, 0, none⟩ = some (.int .i64 s) ∧ V.cell? ⟨vb, 1, none⟩ = some (.int .i64 vn) ∧ V.cell? ⟨vb, 2, none⟩ = some (.slice Av kp cv) ∧ V.cell? ⟨vb, 3, none⟩ = some (.bool vg) ∧ V.cell? ⟨vb, 4, none⟩ = some (.string vx)) ∧ Ss V V.heap.size Av vp) := Lib.hid fun V hV => by
    have h := bn_below M2 hV
    have hw := bU.trans (hV.mono bU.size)
    exact ⟨⟨(h.cell 0).trans rfl, (h.cell 1).trans rfl, (h.cell 2).trans rfl, (h.cell 3).trans rfl, (h.cell 4).trans rfl⟩, (hps.below hw).more hw.size⟩
  have HA : Hid (∀ V, Below U.heap.size U V → Ns .i64 V V.heap.size At tk ∧ Ns .i64 V V.heap.size Aa ask ∧ Vss V Ao old ∧ Below w.heap.size w V) := Lib.hid fun V hV => by
    have hw := bU.trans (hV.mono bU.size)
    refine ⟨(hrt.below hw).more hw.size, (hra.below hw).more hw.size, ⟨fun h0 => ?_, fun x hx => ⟨((hro.2 x hx).1.below hw).more hw.size, (hro.2 x hx).2⟩⟩, hw⟩
    obtain ⟨b, off, e, hb, hat⟩ := hro.1 h0
    exact ⟨b, off, e, Nat.lt_of_lt_of_le hb hw.size, fun j x hx => (hw.cell (p := ⟨b, _, none⟩) hb).trans (hat j x hx)⟩
  have HRO := Lib.hid hro.2
  have HL := Lib.hid (And.intro hnt (And.intro hna (And.intro hno hkp)))
  have HZ := Lib.hid (And.intro z2 (hvb0.symm.trans z1))
  clear hnt hna hno hkp hps hrt hra hro b1 b2 z1 bU M1 M2 z2
  go_enter Try.func6, Try.ntmps6
  go_wp2_with fail
  clear hU hU1 hmb hvb0
  refine (awake_any U).mono ?_
  rintro e w1 ⟨rfl, o1⟩
  obtain ⟨x0, x1, x2, x3, x4⟩ := HM.out w1 o1
  by_cases c1 : N < 1
  · have gc1 : decide (N < 1) = true := decide_eq_true c1
    go_wp2_with fail
    refine (awake_any w1).mono ?_
    rintro e w2 ⟨rfl, b2⟩
    have BE := (HA.out w2 (o1.trans (b2.mono o1.size))).2.2.2
    go_wp2_with fail
    go_ret
    exact ⟨rfl, BE⟩
  have fc1 : decide (N < 1) = false := decide_eq_false c1
  by_cases c2 : 8 < N
  · have gc2 : decide (8 < N) = true := decide_eq_true c2
    go_wp2_with fail
    refine (awake_any w1).mono ?_
    rintro e w2 ⟨rfl, b2⟩
    have BE := (HA.out w2 (o1.trans (b2.mono o1.size))).2.2.2
    go_wp2_with fail
    go_ret
    exact ⟨rfl, BE⟩
  have fc2 : decide (8 < N) = false := decide_eq_false c2
  by_cases c3 : X < 1
  · have gc3 : decide (X < 1) = true := decide_eq_true c3
    go_wp2_with fail
    refine (awake_any w1).mono ?_
    rintro e w2 ⟨rfl, b2⟩
    have BE := (HA.out w2 (o1.trans (b2.mono o1.size))).2.2.2
    go_wp2_with fail
    go_ret
    exact ⟨rfl, BE⟩
  have fc3 : decide (X < 1) = false := decide_eq_false c3
  by_cases c4 : N < X
  · have gc4 : decide (N < X) = true := decide_eq_true c4
    go_wp2_with fail
    refine (awake_any w1).mono ?_
    rintro e w2 ⟨rfl, b2⟩
    have BE := (HA.out w2 (o1.trans (b2.mono o1.size))).2.2.2
    go_wp2_with fail
    go_ret
    exact ⟨rfl, BE⟩
  have fc4 : decide (N < X) = false := decide_eq_false c4
  by_cases c5 : R < 1
  · have gc5 : decide (R < 1) = true := decide_eq_true c5
    go_wp2_with fail
    refine (awake_any w1).mono ?_
    rintro e w2 ⟨rfl, b2⟩
    have BE := (HA.out w2 (o1.trans (b2.mono o1.size))).2.2.2
    go_wp2_with fail
    go_ret
    exact ⟨rfl, BE⟩
  have fc5 : decide (R < 1) = false := decide_eq_false c5
  by_cases c6 : N < R
  · have gc6 : decide (N < R) = true := decide_eq_true c6
    go_wp2_with fail
    refine (awake_any w1).mono ?_
    rintro e w2 ⟨rfl, b2⟩
    have BE := (HA.out w2 (o1.trans (b2.mono o1.size))).2.2.2
    go_wp2_with fail
    go_ret
    exact ⟨rfl, BE⟩
  have fc6 : decide (N < R) = false := decide_eq_false c6
  have e7 : IntKind.i64.wrap (X + R) = X + R := Go.IntWalk.i64_in _ (by omega)
  by_cases c7 : X + R ≤ N
  · have g7 : decide (X + R ≤ N) = true := decide_eq_true c7
    go_wp2_with fail
    refine (awake_any w1).mono ?_
    rintro e w2 ⟨rfl, b2⟩
    have BE := (HA.out w2 (o1.trans (b2.mono o1.size))).2.2.2
    go_wp2_with fail
    go_ret
    exact ⟨rfl, BE⟩
  have f7 : decide (X + R ≤ N) = false := decide_eq_false c7
  have H8 := ref_rightone_any Av cv kp s vn vp vg vx HL.out.2.2.2 w1 (HVv.out w1 o1).2 (by omega) (by omega)
  obtain ⟨y0, y1, y2, y3, y4⟩ := (HVv.out w1 o1).1
  go_wp2_with fail
  refine H8.mono ?_
  rintro e w2 ⟨he2, b2⟩
  have o2 := o1.trans (b2.mono o1.size)
  clear H8
  by_cases c8 : okV ⟨s, vn, vp, vg, vx⟩
  · rw [decide_eq_true c8] at he2
    subst he2
    obtain ⟨K, rfl⟩ := Int.eq_ofNat_of_zero_le (show 0 ≤ N by omega)
    have HC8 := Lib.hid c8
    clear c8 y0 y1 y2 y3 y4 x0 x1 x2 x3 x4 fc1 fc2 fc3 fc4 fc5 fc6 f7 e7 b2 o1
    obtain ⟨hb, hhb⟩ : ∃ b, w2.heap.size = b := ⟨_, rfl⟩
    obtain ⟨W3, hW3⟩ : ∃ V, w2.alloc (.cells #[.slice none 0 0, .slice none 0 0, .slice none 0 0, .slice none 0 0, .slice none 0 0, .slice none 0 0, .slice none 0 0, .slice none 0 0, .slice none 0 0] 71) = V := ⟨_, rfl⟩
    have b3 : Below w2.heap.size w2 W3 := by rw [← hW3]; exact (Below.refl _ w2).alloc (Nat.le_refl _) _
    have M3 : Bn hb 71 [.slice none 0 0, .slice none 0 0, .slice none 0 0, .slice none 0 0, .slice none 0 0, .slice none 0 0, .slice none 0 0, .slice none 0 0, .slice none 0 0] W3 := by rw [← hW3, ← hhb]; exact heap_alloc_new w2 _
    have o3 := o2.trans (b3.mono o2.size)
    obtain ⟨sb, hsb⟩ : ∃ b, W3.heap.size = b := ⟨_, rfl⟩
    obtain ⟨W4, hW4⟩ : ∃ V, W3.alloc (.cells #[.int .i64 s, .int .i64 vn, .slice Av kp cv, .bool vg, .string vx] 69) = V := ⟨_, rfl⟩
    have b4 : Below W3.heap.size W3 W4 := by rw [← hW4]; exact (Below.refl _ W3).alloc (Nat.le_refl _) _
    have M4 : Bn sb 69 [.int .i64 s, .int .i64 vn, .slice Av kp cv, .bool vg, .string vx] W4 := by rw [← hW4, ← hsb]; exact heap_alloc_new W3 _
    have o4 := o3.trans (b4.mono o3.size)
    obtain ⟨ab, hab⟩ : ∃ b, W4.heap.size = b := ⟨_, rfl⟩
    obtain ⟨W5, hW5⟩ : ∃ V, W4.alloc (.cells #[.int .i64 0, .slice (some ⟨sb, 0, none⟩) 1 1, .slice none 0 0] 50) = V := ⟨_, rfl⟩
    have b5 : Below W4.heap.size W4 W5 := by rw [← hW5]; exact (Below.refl _ W4).alloc (Nat.le_refl _) _
    have o5 := o4.trans (b5.mono o4.size)
    have hrow0 := World.ownsRow_lit (base := W4.heap.size) (e := 50) (size := 3) W4 #[.int .i64 0, .slice (some ⟨sb, 0, none⟩) 1 1, .slice none 0 0] 1 (Nat.le_refl _) (by unfold maxLen; omega) rfl
    rw [hW5, hab] at hrow0
    obtain ⟨y0, y1, y2, y3, y4⟩ := (HVv.out W3 o3).1
    have hsz : Lie U W5.heap.size hb sb ab := by
      unfold Lie
      have q1 := o2.size
      have q3 : W3.heap.size = w2.heap.size + 1 := by rw [← hW3]; simp
      have q4 : W4.heap.size = W3.heap.size + 1 := by rw [← hW4]; simp
      have q5 : W5.heap.size = W4.heap.size + 1 := by rw [← hW5]; simp
      omega
    have HJ0 : Hid (LayA w U W5.heap.size hb sb ab [.int .i64 s, .int .i64 vn, .slice Av kp cv, .bool vg, .string vx] (repOf ([⟨s, vn, vp, vg, vx⟩], (some ⟨sb, 0, none⟩, 1))) 0 0 (List.replicate 9 ([], (none, 0))) none 0 (some ⟨ab, 0, none⟩) 1 W5) := Lib.hid ⟨⟨World.ownsRow_nil _ _ _ _, hrow0⟩, ⟨by simp, bn_below (bn_below M3 b4) b5, fun e he => by
      rw [List.eq_of_mem_replicate he]
      exact ⟨Vs.nil _, Nat.le_refl _, right_none⟩⟩, o5, bn_below M4 b5, Nat.le_refl _⟩
    obtain ⟨i0, hi0, hz0, hz1, hz2⟩ := info_parts info_int
    have HIi := Lib.hid (And.intro hi0 (And.intro hz0 (And.intro hz1 hz2)))
    obtain ⟨j0, hj0, hy0, hy1, hy2⟩ := info_parts info_rep
    have HIr := Lib.hid (And.intro hj0 (And.intro hy0 (And.intro hy1 hy2)))
    clear hi0 hz0 hz1 hz2 hj0 hy0 hy1 hy2
    have HI5 := Lib.hid (And.intro b3 (And.intro M3 (And.intro b4 (And.intro M4 (And.intro b5 (And.intro hrow0 (And.intro o5 (And.intro hhb (And.intro hsb hab)))))))))
    clear b3 M3 b4 M4 b5 hrow0 o2 o3 o4 o5
    go_wp2_with fail
    clear hW3 hW4 hW5 hhb hsb hab y0 y1 y2 y3 y4 HI5
    have hK8 : K ≤ 8 := by omega
    obtain ⟨x0, hx0⟩ : ∃ x, repOf ([⟨s, vn, vp, vg, vx⟩], (some ⟨sb, 0, none⟩, 1)) = x := ⟨_, rfl⟩
    obtain ⟨vc, hvc⟩ : ∃ x : List Value, [.int .i64 s, .int .i64 vn, .slice Av kp cv, .bool vg, .string vx] = x := ⟨_, rfl⟩
    rw [hx0, hvc] at HJ0
    have HXV := Lib.hid (And.intro hx0 hvc)
    have HSZ0 := Lib.hid hsz
    clear hx0 hvc
    go_loopw [7, 9, 10] (fun lv av iv V => ∃ (i j cl cq : Nat) (Al Aq : Option Addr) (hl : Hl), iv = .int .i64 i ∧ j + 1 = i ∧ i ≤ K + 1 ∧ lv = .slice Al j cl ∧ av = .slice Aq i cq ∧ Hid (LayA w U W5.heap.size hb sb ab vc x0 j j hl Al cl Aq cq V)) (fun _ _ iv _ => K + 1 - (intOf iv).toNat)
    case atStart => exact ⟨1, 0, 0, 1, none, _, _, rfl, rfl, by omega, rfl, rfl, HJ0⟩
    case round =>
      obtain ⟨i, j, cl, cq, Al, Aq, hl, rfl, hji, hi, rfl, rfl, hJ⟩ := hrel
      obtain ⟨x0', x1', x2', x3', x4'⟩ := HM.out wr hJ.out.2.2.1
      by_cases hlt : i ≤ K
      · as_aux_lemma =>
          have d1 : decide ((i : Int) ≤ (K : Int)) = true := decide_eq_true (by omega)
          have d2 : (i : Int) ≤ (K : Int) := by omega
          have d3 : (i : Int) < 9 := by omega
          have d4 : (0 : Int) ≤ (i : Int) := by omega
          have e1 : IntKind.i64.wrap ((i : Int) - 1) = (j : Int) := by rw [show (i : Int) - 1 = (j : Int) by omega]; exact Go.IntWalk.i64_in _ (by omega)
          have e2 : IntKind.i64.wrap ((i : Int) + 1) = (i : Int) + 1 := Go.IntWalk.i64_in _ (by omega)
          have sV := hJ.out.2.2.1.size
          have sW := hJ.out.2.2.2.2
          have HSZ := Lib.hid hsz
          have hab : ab ≤ W5.heap.size := by have := hsz.2.2.2; omega
          by_cases hjo : j < no
          · have d5 : decide ((j : Int) < (no : Int)) = true := decide_eq_true (by omega)
            have d6 : (j : Int) < (no : Int) := by omega
            have d7 : (0 : Int) ≤ (j : Int) := by omega
            obtain ⟨ob, oo, rfl, _, _⟩ := (HA.out wr hJ.out.2.2.1).2.2.1.1 (by have := HL.out.2.2.1; omega)
            obtain ⟨⟨lo, Ab, cb⟩, hox⟩ : ∃ x, old[j]? = some x := ⟨old[j]'(by have := HL.out.2.2.1; omega), by simp⟩
            have hom := List.mem_of_getElem? hox
            have HOc : Hid (∀ V, Below U.heap.size U V → V.cell? ⟨ob, oo + j, none⟩ = some (.slice Ab lo.length cb) ∧ Vs V 0 V.heap.size Ab lo) := Lib.hid fun V hV => by
              obtain ⟨b', off', e', _, hat⟩ := (HA.out V hV).2.2.1.1 (by have := HL.out.2.2.1; omega)
              injection e' with e'
              injection e' with q1 q2
              subst q1 q2
              exact ⟨hat j _ hox, ((HA.out V hV).2.2.1.2 _ hom).1⟩
            have HOv := Lib.hid (HRO.out _ hom)
            have hob : lo.length ≤ 140737488355328 := by have := HOv.out.2.2; simp only at this; omega
            clear hox hom
            go_wp2_with (first
              | (at_builtin; refine wpList_append_one _ rfl _ _ _ rfl W5.heap.size 3 i0 _ 8 Try.underlying22 HIi.out.1 HIi.out.2.1 HIi.out.2.2.1 HIi.out.2.2.2 rfl _ j (nums .i64 (nodes j)) rfl hJ.out.1.1 (.int .i64 i) 1 rfl rfl (by omega) (by omega) sW ?_; intro v6 w6 o6 g6 _; obtain ⟨A6, c6, rfl⟩ := own_form o6; have J6 := Lib.hid (hJ.out.list HSZ.out (show w6.ownsRow W5.heap.size 3 1 (.slice A6 (j + 1) c6) (j + 1) (nums .i64 (nodes j) ++ [.int .i64 ((j + 1 : Nat) : Int)]) by have h := o6; rwa [← hji] at h) g6); have s6 := J6.out.2.2.2.2; have x7 := (HOc.out w6 J6.out.2.2.1).1))
            refine (ref_rightV_any Ab cb lo.length lo rfl w6 (HOc.out w6 J6.out.2.2.1).2 hob).mono ?_
            rintro e7' w7 ⟨hq7, b7⟩
            have J7 := Lib.hid (J6.out.below b7)
            have s7 := J7.out.2.2.2.2
            clear x7
            have x7 := (HOc.out w7 J7.out.2.2.1).1
            clear J6 b7
            obtain ⟨e7, he7, y7⟩ := J7.out.2.1.at (j := j + 1) (by omega)
            obtain ⟨l7, A7', c7'⟩ := e7
            simp only at y7
            have r7 := J7.out.1.2
            rw [hji] at r7 y7
            by_cases hri : RightV lo
            · rw [decide_eq_true hri] at hq7
              subst hq7
              have f7 := J7.out.2.1.2.1.frozen i
              have J8' := J7.out.set HSZ.out (lo, (Ab, cb)) HOv.out.1 HOv.out.2.1 hri
              simp only at J8'
              obtain ⟨W8, hW8⟩ : ∃ V, w7.setCell ⟨hb, i, none⟩ (.slice Ab lo.length cb) = V := ⟨_, rfl⟩
              have hW8' : w7.setCell ⟨hb, j + 1, none⟩ (.slice Ab lo.length cb) = W8 := by rw [hji]; exact hW8
              rw [hW8'] at J8'
              obtain ⟨hl8, hhl8⟩ : ∃ z, hl.set (j + 1) (lo, (Ab, cb)) = z := ⟨_, rfl⟩
              rw [hhl8] at J8'
              have J8 := Lib.hid J8'
              have s8 := J8.out.2.2.2.2
              obtain ⟨e8, he8, x8⟩ := J8.out.2.1.at (j := j + 1) (by omega)
              obtain ⟨l8, A8', c8'⟩ := e8
              simp only at x8
              have r8 := J8.out.1.2
              rw [hji] at r8 x8
              clear J8' hhl8 hW8'
              go_wp2_with (first
                | (at_builtin; refine wpList_append_rp rfl _ _ 42 rfl ab 50 j0 _ 56 Try.underlying42 HIr.out.1 HIr.out.2.1 HIr.out.2.2.1 HIr.out.2.2.2 rfl _ i (gath x0 hl8 j) rfl r8 (repOf (l8, (A8', c8'))) 1 rfl (by omega) (by omega) (by omega) ?_; intro v9 w9 o9 g9 _; obtain ⟨A9, c9, rfl⟩ := own_form o9; rw [← hji] at o9 g9; have J9 := Lib.hid (J8.out.all HSZ.out he8 o9 g9)))
              exact ⟨⟨i + 1, j + 1, c6, c9, A6, A9, hl8, rfl, by omega, by omega, by first | rfl | rw [hji], rfl, J9⟩, by simp only [intOf]; omega⟩
            · rw [decide_eq_false hri] at hq7
              subst hq7
              go_wp2_with (first
                | (at_builtin; refine wpList_append_rp rfl _ _ 42 rfl ab 50 j0 _ 56 Try.underlying42 HIr.out.1 HIr.out.2.1 HIr.out.2.2.1 HIr.out.2.2.2 rfl _ i (gath x0 hl j) rfl r7 (repOf (l7, (A7', c7'))) 1 rfl (by omega) (by omega) (by omega) ?_; intro v9 w9 o9 g9 _; obtain ⟨A9, c9, rfl⟩ := own_form o9; rw [← hji] at o9 g9; have J9 := Lib.hid (J7.out.all HSZ.out he7 o9 g9)))
              exact ⟨⟨i + 1, j + 1, c6, c9, A6, A9, hl, rfl, by omega, by omega, by first | rfl | rw [hji], rfl, J9⟩, by simp only [intOf]; omega⟩
          · have d5 : decide ((j : Int) < (no : Int)) = false := decide_eq_false (by omega)
            go_wp2_with (first
              | (at_builtin; refine wpList_append_one _ rfl _ _ _ rfl W5.heap.size 3 i0 _ 8 Try.underlying22 HIi.out.1 HIi.out.2.1 HIi.out.2.2.1 HIi.out.2.2.2 rfl _ j (nums .i64 (nodes j)) rfl hJ.out.1.1 (.int .i64 i) 1 rfl rfl (by omega) (by omega) sW ?_; intro v6 w6 o6 g6 _; obtain ⟨A6, c6, rfl⟩ := own_form o6; have J6 := Lib.hid (hJ.out.list HSZ.out (show w6.ownsRow W5.heap.size 3 1 (.slice A6 (j + 1) c6) (j + 1) (nums .i64 (nodes j) ++ [.int .i64 ((j + 1 : Nat) : Int)]) by have h := o6; rwa [← hji] at h) g6); have s6 := J6.out.2.2.2.2; obtain ⟨e6, he6, x6⟩ := J6.out.2.1.at (j := j + 1) (by omega); obtain ⟨l6, A6', c6'⟩ := e6; simp only at x6; have r6 := J6.out.1.2; rw [hji] at r6 x6)
              | (at_builtin; refine wpList_append_rp rfl _ _ 42 rfl ab 50 j0 _ 56 Try.underlying42 HIr.out.1 HIr.out.2.1 HIr.out.2.2.1 HIr.out.2.2.2 rfl _ i (gath x0 hl j) rfl r6 (repOf (l6, (A6', c6'))) 1 rfl (by omega) (by omega) (by omega) ?_; intro v9 w9 o9 g9 _; obtain ⟨A9, c9, rfl⟩ := own_form o9; rw [← hji] at o9 g9; have J9 := Lib.hid (J6.out.all HSZ.out he6 o9 g9)))
            exact ⟨⟨i + 1, j + 1, c6, c9, A6, A9, hl, rfl, by omega, by omega, by first | rfl | rw [hji], rfl, J9⟩, by simp only [intOf]; omega⟩
      · obtain rfl : K = j := by omega
        obtain ⟨V1, hV1⟩ : ∃ V, V = wr := ⟨_, rfl⟩
        subst hV1
        have oV := hJ.out.2.2.1
        have hx0s : Vs V1 0 V1.heap.size x0.2.1.1 x0.1.2 ∧ x0.1.2.length ≤ x0.2.1.2 ∧ x0.1.2.length * 64 ≤ 140737488351232 := by
          rw [← HXV.out.1]
          have hb := hJ.out.2.2.2.1
          rw [← HXV.out.2] at hb
          refine ⟨fun _ => ⟨sb, 0, rfl, Nat.zero_le _, hb.lt, fun q hq => ?_⟩, Nat.le_refl _, by simp⟩
          obtain rfl : q = 0 := by simpa using hq
          refine ⟨Av, cv, (hb.cell 0).trans rfl, (hb.cell 1).trans rfl, ?_, (hb.cell 3).trans rfl, (hb.cell 4).trans rfl, (HVv.out V1 oV).2, ?_, ?_, ?_, fun _ _ _ => Nat.zero_le _⟩
          · have := (hb.cell 2).trans rfl
            simp only [repOf, List.getD_cons_zero]
            rw [HL.out.2.2.2]
            exact this
          · simp only [repOf, List.getD_cons_zero]; rw [HL.out.2.2.2]; exact hpc
          · simp only [repOf, List.getD_cons_zero]; rw [HL.out.2.2.2]; exact hpb
          · simp only [repOf, List.getD_cons_zero]; omega
        obtain ⟨rs, hrs⟩ : ∃ z, gath x0 hl K = z := ⟨_, rfl⟩
        have hRs := lay_rs hJ.out hK8 (HA.out V1 oV).2.2.2 hx0s
        have hrl := gath_len (x0 := x0) hJ.out.2.1.1 hK8
        rw [hrs] at hRs hrl
        have hHe : Held hb hl V1 := ⟨hJ.out.2.1.1, hJ.out.2.1.2.1, fun e he => by
          obtain ⟨h1, h2, h3⟩ := hJ.out.2.1.2.2 e he
          have hw := (HA.out V1 oV).2.2.2
          exact ⟨(h1.below hw).more hw.size, h2, h3⟩⟩
        have hNl : Ns .i64 V1 V1.heap.size Al (nodes K) := own_ns (c := cl) (n := K) (by rw [nodes_len]; exact hJ.out.1.1)
        have HQ := Lib.hid (And.intro hRs (And.intro hrl (And.intro hHe (And.intro hNl (And.intro oV (And.intro hrs (And.intro (own_len hJ.out.1.1).2 hJ.out.2.2.2.1)))))))
        have hrb : ∀ k, k ≤ K + 1 → (allV (rs.take k)).length ≤ 512 * k := fun k => by
          induction k with
          | zero => intro _; simp [allV]
          | succ k ih =>
            intro hk
            obtain ⟨x, hx⟩ : ∃ x, rs[k]? = some x := ⟨rs[k]'(by omega), by simp⟩
            have h1 := ih (by omega)
            have h2 : x.1.2.length ≤ 512 := by
              have hm := List.mem_of_getElem? hx
              rw [← hrs] at hm
              unfold gath at hm
              rcases List.mem_cons.1 hm with rfl | hm
              · rw [← HXV.out.1]; simp
              · obtain ⟨e, he, rfl⟩ := List.mem_map.1 hm
                exact (hJ.out.2.1.2.2 e (List.mem_of_mem_drop (List.mem_of_mem_take he))).2.2.1
            rw [take_one hx, allV_snoc, List.length_append]
            omega
        have HRB := Lib.hid hrb
        clear hJ oV hx0s hRs hrl hHe hNl hrs hrb
        go_wp2_with fail
        go_loopw [11, 12] (fun nv iv V => ∃ (k z : Nat), iv = .int .i64 k ∧ nv = .int .i64 z ∧ k ≤ K + 1 ∧ Hid ((allV (rs.take k)).length = z) ∧ V = V1) (fun _ iv _ => K + 1 - (intOf iv).toNat)
        case atStart => exact ⟨0, 0, rfl, rfl, by omega, Lib.hid (by simp [allV]), rfl⟩
        case round =>
          obtain ⟨k, z, rfl, rfl, hk, hz, rfl⟩ := hrel
          by_cases hlk : k < i
          · as_aux_lemma =>
              obtain ⟨g, go, rfl, _, hat⟩ := HQ.out.1.1 (by have := HQ.out.2.1; omega)
              obtain ⟨⟨⟨node, an⟩, ⟨Ax, cx⟩, ⟨Ar, kr, cr⟩⟩, hx⟩ : ∃ x, rs[k]? = some x := ⟨rs[k]'(by have := HQ.out.2.1; omega), by simp⟩
              obtain ⟨ln, hln⟩ : ∃ n, an.length = n := ⟨_, rfl⟩
              have y1 : wr.cell? ⟨g, go + k * 3 + 1, none⟩ = some (.slice Ax ln cx) := by rw [← hln]; exact hat k _ hx 1 _ rfl
              have hz' : (allV (rs.take (k + 1))).length = z + ln := by
                rw [take_one hx, allV_snoc, List.length_append, hz.out, hln]
              have hzb := HRB.out (k + 1) (by omega)
              rw [hz'] at hzb
              have HZ' := Lib.hid hz'
              have d1 : (0 : Int) ≤ (k : Int) := by omega
              have d2 : (k : Int) < (i : Int) := by omega
              have e1 : IntKind.i64.wrap ((z : Int) + (ln : Int)) = (z : Int) + (ln : Int) := Go.IntWalk.i64_in _ (by omega)
              have e2 : IntKind.i64.wrap ((k : Int) + 1) = (k : Int) + 1 := Go.IntWalk.i64_in _ (by omega)
              clear hat hx hln hz hz' hzb
              go_wp2_with fail
              exact ⟨⟨k + 1, z + ln, by first | rfl | simp, by first | rfl | simp, by omega, HZ', by first | rfl | trivial⟩, by simp only [intOf]; omega⟩
          · obtain rfl : k = i := by omega
            have hzl : (allV rs).length = z := by
              have h := hz.out
              rwa [List.take_of_length_le (by have := HQ.out.2.1; omega)] at h
            have HZL := Lib.hid hzl
            have oV := HQ.out.2.2.2.2.1
            have hzb := HRB.out k (by omega)
            rw [hz.out] at hzb
            by_cases hM : z ≤ 512
            · have d5 : decide ((512 : Int) < (z : Int)) = false := decide_eq_false (by omega)
              have HWr := written_any Aq cq k rs (by rw [HQ.out.2.1]; omega) wr HQ.out.1 (by omega) (by omega)
              obtain ⟨q0, hq0⟩ : ∃ q, wrF (allV rs) = q := ⟨_, rfl⟩
              rw [hq0] at HWr
              have HQ0 := Lib.hid hq0
              clear hq0 hzl hz HRB hzb
              go_wp2_with fail
              refine HWr.mono ?_
              rintro e w6 ⟨rfl, b6⟩
              have o6 := oV.trans (b6.mono oV.size)
              clear HWr
              cases q0
              · have BE := (HA.out w6 o6).2.2.2
                go_wp2_with fail
                go_ret
                exact ⟨rfl, BE⟩
              · obtain ⟨y0, y1, y2, _, _⟩ := HM.out w6 o6
                have hKl : K ≤ cl := HQ.out.2.2.2.2.2.2.1
                have okX := nodes_ok (W := X) hK8 (by omega) (by omega)
                have okR := nodes_ok (W := R) hK8 (by omega) (by omega)
                have HNW := newW_any Al cl K (nodes K) (nodes_len K) X w6 ((HQ.out.2.2.2.1.below b6).more b6.size) (by omega) hKl
                have HH6 := HQ.out.2.2.1.below b6
                go_wp2_with fail
                refine HNW.mono ?_
                rintro e w7 (⟨no, _⟩ | ⟨_, rw_, lb, cl1, cb, ab1, rfl, h7⟩)
                · exact absurd okX no
                have S7 := new_sideW okX h7.out.1
                have o7 := o6.trans (h7.out.2.mono o6.size)
                have HH7 := HH6.below h7.out.2
                have HNR := newR_any Al cl K (nodes K) (nodes_len K) R w7 (((HQ.out.2.2.2.1.below b6).more b6.size |>.below h7.out.2).more h7.out.2.size) (by omega) hKl
                clear y0 y1 y2
                obtain ⟨y0, y1, y2, _, _⟩ := HM.out w7 o7
                clear HNW
                go_wp2_with fail
                refine HNR.mono ?_
                rintro e w8 (⟨no, _⟩ | ⟨_, rr, lb2, cl2, cb2, ab2, rfl, h8⟩)
                · exact absurd okR no
                have hb6 : hb < w6.heap.size := HH6.2.1.lt
                have HP0 : Hid (Pr (fun k => k < w6.heap.size) U K False 37 rw_ X (startF (nodes K)) True 55 rr R (startF (nodes K)) w8) := Lib.hid (Pr.newX S7 (fun k hk => hk.1) o6.size h7.out.2.size o7 (new_sideR okR h8.out.1 h8.out.2.1) (fun k hk => hk.1) h8.out.2.2)
                have HH8 := Lib.hid (HH7.below h8.out.2.2)
                obtain ⟨XX, hXX⟩ : ∃ Y : Nat → Prop, (fun k => k < w6.heap.size) = Y := ⟨_, rfl⟩
                have hXb : XX hb := by rw [← hXX]; exact hb6
                rw [hXX] at HP0
                have HXb := Lib.hid hXb
                have hUb : U.heap.size ≤ hb := HSZ0.out.1
                have HUU : Hid (OkU (allV rs) ∧ (allV rs).length ≤ 512 ∧ HoldU (allV rs) K hl ∧ (⟨s, vn, vp, vg, vx⟩ : Vr) ∈ allV rs) := Lib.hid (by
                  refine ⟨⟨fun x hx => ?_, HQ0.out⟩, by rw [HZL.out]; exact hM, ?_, ?_⟩
                  · rw [← HQ.out.2.2.2.2.2.1] at hx
                    rcases gath_all hx with h | ⟨e, he, h⟩
                    · rw [← HXV.out.1] at h
                      rw [List.mem_singleton.1 h]
                      exact HC8.out
                    · exact ((HQ.out.2.2.1.2.2 e he).2.2.2.1.1 x h)
                  · rw [← HQ.out.2.2.2.2.2.1]
                    exact gath_hold
                  · rw [← HQ.out.2.2.2.2.2.1, ← HXV.out.1]
                    simp [allV, gath])
                obtain ⟨UU, hUU⟩ : ∃ z, allV rs = z := ⟨_, rfl⟩
                rw [hUU] at HUU
                clear hXX hXb hb6 S7 h7 h8 HNR HH6 HH7 o6 o7 b6 y0 y1 y2 okX okR hUU HQ HQ0 HZL HXV d5 oV hKl
                go_wp2_with fail
                go_loopw [17] (fun iv V => ∃ (q : Nat) (lw : List En) (hm : Hl), iv = .int .i64 q ∧ q ≤ nt ∧ Hid (Pr XX U K False 37 rw_ X lw True 55 rr R (startF (nodes K)) V ∧ Held hb hm V ∧ HoldU UU K hm ∧ TookU ⟨s, vn, vp, vg, vx⟩ lw hm ∧ lw.map Prod.fst = nodes K)) (fun iv _ => nt - (intOf iv).toNat)
                case atStart => exact ⟨0, _, hl, rfl, by omega, Lib.hid ⟨HP0.out, HH8.out, HUU.out.2.2.1, fun e he hb => by
                  unfold startF at he
                  obtain ⟨z, _, rfl⟩ := List.mem_map.1 he
                  simp at hb, start_fst _⟩⟩
                case round =>
                  obtain ⟨q, lw, hm, rfl, hq, hJ⟩ := hrel
                  have oV := hJ.out.1.old
                  obtain ⟨y0, _, _, y3, _⟩ := HM.out wr oV
                  by_cases hlq : q < nt
                  · obtain ⟨tb, to_, rfl, htb, htat⟩ := (HA.out wr oV).1 (by have := HL.out.1; omega)
                    obtain ⟨x, hx⟩ : ∃ x, tk.getD q 0 = x := ⟨_, rfl⟩
                    have yt : wr.cell? ⟨tb, to_ + q, none⟩ = some (.int .i64 x) := by rw [← hx]; exact htat q (by have := HL.out.1; omega)
                    have d1 : (0 : Int) ≤ (q : Int) := by omega
                    have d2 : (q : Int) < (nt : Int) := by omega
                    have e1 : IntKind.i64.wrap ((q : Int) + 1) = (q : Int) + 1 := Go.IntWalk.i64_in _ (by omega)
                    clear htat hx htb
                    by_cases h1 : x < 1
                    · have g1 : decide (x < 1) = true := decide_eq_true h1
                      go_wp2_with fail
                      exact ⟨⟨q + 1, lw, hm, rfl, by omega, hJ⟩, by simp only [intOf]; omega⟩
                    · have f1 : decide (x < 1) = false := decide_eq_false h1
                      by_cases h2 : (K : Int) < x
                      · have g2 : decide ((K : Int) < x) = true := decide_eq_true h2
                        go_wp2_with fail
                        exact ⟨⟨q + 1, lw, hm, rfl, by omega, hJ⟩, by simp only [intOf]; omega⟩
                      · as_aux_lemma =>
                          have f2 : decide ((K : Int) < x) = false := decide_eq_false h2
                          obtain ⟨xn, rfl⟩ := Int.eq_ofNat_of_zero_le (show 0 ≤ x by omega)
                          have d3 : (0 : Int) ≤ (xn : Int) := by omega
                          have d4 : (xn : Int) < 9 := by omega
                          obtain ⟨⟨H, Ah, ch⟩, heh, yh, hvh, hch, hrh⟩ := hJ.out.2.1.at (j := xn) (by omega)
                          simp only at yh hvh hch hrh
                          obtain ⟨hk, hhk⟩ : ∃ n, H.length = n := ⟨_, rfl⟩
                          rw [hhk] at yh
                          have hk5 : hk ≤ 512 := by rw [← hhk]; exact hrh.1
                          obtain ⟨⟨z0, z1, z2, z3, z4⟩, zs⟩ := HVv.out wr oV
                          have bD : Below wr.heap.size wr (wr.drew.alloc (.cells #[.int .i64 s, .int .i64 vn, .slice Av kp cv, .bool vg, .string vx] 69)) := (Below.refl _ wr).drew.alloc (Nat.le_refl _) _
                          have oD := oV.trans (bD.mono oV.size)
                          have HSD : Hid ((wr.drew.alloc (.cells #[.int .i64 s, .int .i64 vn, .slice Av kp cv, .bool vg, .string vx] 69)).cell? ⟨hb, xn, none⟩ = some (.slice Ah hk ch) ∧ (wr.drew.alloc (.cells #[.int .i64 s, .int .i64 vn, .slice Av kp cv, .bool vg, .string vx] 69)).cell? ⟨vb, 0, none⟩ = some (.int .i64 s) ∧ (wr.drew.alloc (.cells #[.int .i64 s, .int .i64 vn, .slice Av kp cv, .bool vg, .string vx] 69)).cell? ⟨vb, 1, none⟩ = some (.int .i64 vn) ∧ (wr.drew.alloc (.cells #[.int .i64 s, .int .i64 vn, .slice Av kp cv, .bool vg, .string vx] 69)).cell? ⟨vb, 2, none⟩ = some (.slice Av kp cv) ∧ (wr.drew.alloc (.cells #[.int .i64 s, .int .i64 vn, .slice Av kp cv, .bool vg, .string vx] 69)).cell? ⟨vb, 3, none⟩ = some (.bool vg) ∧ (wr.drew.alloc (.cells #[.int .i64 s, .int .i64 vn, .slice Av kp cv, .bool vg, .string vx] 69)).cell? ⟨vb, 4, none⟩ = some (.string vx)) := Lib.hid ⟨(bD.cell (p := ⟨hb, xn, none⟩) hJ.out.2.1.2.1.lt).trans yh, (HVv.out _ oD).1⟩
                          have hv1 : Vs (wr.drew.alloc (.cells #[.int .i64 s, .int .i64 vn, .slice Av kp cv, .bool vg, .string vx] 69)) 0 (wr.drew.alloc (.cells #[.int .i64 s, .int .i64 vn, .slice Av kp cv, .bool vg, .string vx] 69)).heap.size (some ⟨wr.heap.size, 0, none⟩) [⟨s, vn, vp, vg, vx⟩] := fun _ => by
                            have hbn : Bn wr.heap.size 69 [.int .i64 s, .int .i64 vn, .slice Av kp cv, .bool vg, .string vx] (wr.drew.alloc (.cells #[.int .i64 s, .int .i64 vn, .slice Av kp cv, .bool vg, .string vx] 69)) := heap_alloc_new wr.drew _
                            refine ⟨wr.heap.size, 0, rfl, Nat.zero_le _, hbn.lt, fun j hj => ?_⟩
                            obtain rfl : j = 0 := by simpa using hj
                            refine ⟨Av, cv, (hbn.cell 0).trans rfl, (hbn.cell 1).trans rfl, ?_, (hbn.cell 3).trans rfl, (hbn.cell 4).trans rfl, (HVv.out _ oD).2, ?_, ?_, ?_, fun _ _ _ => Nat.zero_le _⟩
                            · have := (hbn.cell 2).trans rfl
                              simp only [List.getD_cons_zero]
                              rw [HL.out.2.2.2]
                              exact this
                            · simp only [List.getD_cons_zero]; rw [HL.out.2.2.2]; exact hpc
                            · simp only [List.getD_cons_zero]; rw [HL.out.2.2.2]; exact hpb
                            · simp only [List.getD_cons_zero]; omega
                          obtain ⟨⟨H', E⟩, hme⟩ : ∃ r, mergeF H [⟨s, vn, vp, vg, vx⟩] = r := ⟨_, rfl⟩
                          have HMg := Lib.hid (ref_merge_any Ah (some ⟨wr.heap.size, 0, none⟩) ch 1 hk 1 H [⟨s, vn, vp, vg, vx⟩] hhk rfl _ ((hvh.below bD).more bD.size) hv1 (by omega) (by omega))
                          rw [hme] at HMg
                          have HB0 := Lib.hid (And.intro bD (And.intro oD (And.intro heh (And.intro hrh hme))))
                          have hst : wr.drew.cell? ⟨hb, xn, none⟩ = some (.slice Ah hk ch) ∧ wr.drew.cell? ⟨vb, 0, none⟩ = some (.int .i64 s) ∧ wr.drew.cell? ⟨vb, 1, none⟩ = some (.int .i64 vn) ∧ wr.drew.cell? ⟨vb, 2, none⟩ = some (.slice Av kp cv) ∧ wr.drew.cell? ⟨vb, 3, none⟩ = some (.bool vg) ∧ wr.drew.cell? ⟨vb, 4, none⟩ = some (.string vx) := ⟨yh, z0, z1, z2, z3, z4⟩
                          clear hv1 hvh hch hrh heh hhk hme bD oD zs
                          go_wp2_with fail
                          clear yh z0 z1 z2 z3 z4
                          go_region_held3 (fun V => V.cell? ⟨hb, xn, none⟩ = some (.slice Ah hk ch) ∧ V.cell? ⟨vb, 0, none⟩ = some (.int .i64 s) ∧ V.cell? ⟨vb, 1, none⟩ = some (.int .i64 vn) ∧ V.cell? ⟨vb, 2, none⟩ = some (.slice Av kp cv) ∧ V.cell? ⟨vb, 3, none⟩ = some (.bool vg) ∧ V.cell? ⟨vb, 4, none⟩ = some (.string vx))
                            (first | exact hst | exact HSD.out | exact HS9.out)
                            (first | (go_at_call 31; refine HMg.out.mono ?_; rintro e9 w9 ⟨A9, c9, rfl, hc9, hv9, b9⟩; have o9 := HB0.out.2.1.trans (b9.mono HB0.out.2.1.size); have HS9 : Hid (w9.cell? ⟨hb, xn, none⟩ = some (.slice Ah hk ch) ∧ w9.cell? ⟨vb, 0, none⟩ = some (.int .i64 s) ∧ w9.cell? ⟨vb, 1, none⟩ = some (.int .i64 vn) ∧ w9.cell? ⟨vb, 2, none⟩ = some (.slice Av kp cv) ∧ w9.cell? ⟨vb, 3, none⟩ = some (.bool vg) ∧ w9.cell? ⟨vb, 4, none⟩ = some (.string vx)) := Lib.hid ⟨(b9.cell (p := ⟨hb, xn, none⟩) (Nat.lt_of_lt_of_le hJ.out.2.1.2.1.lt HB0.out.1.size)).trans HSD.out.1, (HVv.out w9 o9).1⟩))
                          by_cases hE : E = 0
                          · subst hE
                            have hH9 := hJ.out.2.1.below (HB0.out.1.trans (b9.mono HB0.out.1.size))
                            have hP9 := hJ.out.1.below (HB0.out.1.trans (b9.mono HB0.out.1.size))
                            obtain ⟨hR9, hs9, ht9⟩ := took_step HUU.out.1 HB0.out.2.2.2.1 (hJ.out.2.2.1 xn _ (by omega) (by omega) HB0.out.2.2.1) HUU.out.2.2.2 HB0.out.2.2.2.2
                            obtain ⟨hH10, hst10⟩ := hH9.set xn A9 c9 H' hv9 hc9 hR9
                            have yf := hH9.2.1.frozen xn
                            have y9 := HS9.out.1
                            have hP10 := hP9.other (Chg.of_grown (gset w9 hb xn (.slice A9 H'.length c9)) (F := fun k => k = hb) fun g e => by injection e with e; exact e.symm) fun k hk => by subst hk; exact ⟨HXb.out, hUb⟩
                            obtain ⟨⟨bq, lw'⟩, hcq⟩ : ∃ r, countF lw (xn : Int) [] = r := ⟨_, rfl⟩
                            obtain ⟨W10, hW10⟩ : ∃ V, w9.setCell ⟨hb, xn, none⟩ (.slice A9 H'.length c9) = V := ⟨_, rfl⟩
                            rw [hW10] at hH10 hP10
                            have HAc := Lib.hid (hP10.ackS (xn : Int) hcq)
                            have HN : Hid (HoldU UU K (hm.set xn (H', (A9, c9))) ∧ TookU ⟨s, vn, vp, vg, vx⟩ lw' (hm.set xn (H', (A9, c9))) ∧ lw'.map Prod.fst = nodes K ∧ Held hb (hm.set xn (H', (A9, c9))) W10) := Lib.hid ⟨hold_set hJ.out.2.2.1 hs9, took_set hJ.out.2.2.2.1 (by have := hJ.out.2.1.1; omega) ht9 hcq, by rw [count_fst hcq]; exact hJ.out.2.2.2.2, hH10⟩
                            clear hH9 hP9 hR9 hs9 ht9 hH10 hst10 hP10 hcq HB0 HMg HSD hst hc9 hv9 b9 HS9 hJ
                            go_wp2_with fail
                            refine HAc.out.mono ?_
                            rintro e11 w11 ⟨rfl, h11⟩
                            have HE : Hid (Pr XX U K False 37 rw_ X lw' True 55 rr R (startF (nodes K)) w11 ∧ Held hb (hm.set xn (H', (A9, c9))) w11 ∧ HoldU UU K (hm.set xn (H', (A9, c9))) ∧ TookU ⟨s, vn, vp, vg, vx⟩ lw' (hm.set xn (H', (A9, c9))) ∧ lw'.map Prod.fst = nodes K) := Lib.hid ⟨h11.out.1, HN.out.2.2.2.stay h11.out.2.2 (h11.out.2.1.2 hb HXb.out), HN.out.1, HN.out.2.1, HN.out.2.2.1⟩
                            clear HAc HN h11
                            go_wp2_with fail
                            exact ⟨⟨q + 1, lw', hm.set xn (H', (A9, c9)), rfl, by omega, HE⟩, by simp only [intOf]; omega⟩
                          · have gE : (E != 0) = true := by simp [hE]
                            have BE := (HA.out w9 o9).2.2.2
                            clear HB0 HMg HSD hst hc9 hv9 b9 HS9 hJ
                            go_wp2_with fail
                            go_ret
                            exact ⟨rfl, BE⟩
                  · obtain rfl : q = nt := by omega
                    have HJC := Lib.hid (And.intro hJ.out.2.2.1 (And.intro hJ.out.2.2.2.1 hJ.out.2.2.2.2))
                    clear HP0 HH8
                    go_wp2_with fail
                    go_loopw [21] (fun iv V => ∃ (p : Nat) (lr : List En), iv = .int .i64 p ∧ p ≤ na ∧ Hid (Pr XX U K False 37 rw_ X lw True 55 rr R lr V ∧ Held hb hm V ∧ AnsU lr hm ∧ lr.map Prod.fst = nodes K)) (fun iv _ => na - (intOf iv).toNat)
                    case atStart => exact ⟨0, _, rfl, by omega, Lib.hid ⟨hJ.out.1, hJ.out.2.1, fun e he hb => by
                      unfold startF at he
                      obtain ⟨z, _, rfl⟩ := List.mem_map.1 he
                      simp at hb, start_fst _⟩⟩
                    case round =>
                      clear hJ
                      obtain ⟨p, lr, rfl, hp, hJ⟩ := hrel
                      have oV := hJ.out.1.old
                      obtain ⟨y0, _, _, _, y4⟩ := HM.out wr oV
                      by_cases hlp : p < na
                      · as_aux_lemma =>
                          obtain ⟨tb, to_, rfl, htb, htat⟩ := (HA.out wr oV).2.1 (by have := HL.out.2.1; omega)
                          obtain ⟨x, hx⟩ : ∃ x, ask.getD p 0 = x := ⟨_, rfl⟩
                          have yt : wr.cell? ⟨tb, to_ + p, none⟩ = some (.int .i64 x) := by rw [← hx]; exact htat p (by have := HL.out.2.1; omega)
                          have d1 : (0 : Int) ≤ (p : Int) := by omega
                          have d2 : (p : Int) < (na : Int) := by omega
                          have e1 : IntKind.i64.wrap ((p : Int) + 1) = (p : Int) + 1 := Go.IntWalk.i64_in _ (by omega)
                          have HDr : Hid (∀ nq, Pr XX U K False 37 rw_ X lw True 55 rr R lr (wr.drewN nq) ∧ Held hb hm (wr.drewN nq) ∧ AnsU lr hm ∧ lr.map Prod.fst = nodes K) := Lib.hid fun nq => ⟨hJ.out.1.below (Ring.below_drewN _ _ _), hJ.out.2.1.below (Ring.below_drewN _ _ _), hJ.out.2.2⟩
                          clear htat hx
                          by_cases h1 : 1 ≤ x
                          · by_cases h2 : x ≤ (K : Int)
                            · obtain ⟨xn, rfl⟩ := Int.eq_ofNat_of_zero_le (show 0 ≤ x by omega)
                              have f1 : decide ((1 : Int) ≤ (xn : Int)) = true := decide_eq_true h1
                              have f2 : decide ((xn : Int) ≤ (K : Int)) = true := decide_eq_true h2
                              have d3 : (0 : Int) ≤ (xn : Int) := by omega
                              have d4 : (xn : Int) < 9 := by omega
                              go_wp2_with fail
                              go_quiet (fail)
                              obtain ⟨W1, hW1⟩ : ∃ W, wr.drewN nq = W := ⟨_, rfl⟩
                              have b1 : Below wr.heap.size wr W1 := by rw [← hW1]; exact Ring.below_drewN _ _ _
                              rw [hW1]
                              obtain ⟨⟨H, Ah, ch⟩, heh, yh, hvh, hch, hrh⟩ := hJ.out.2.1.at (j := xn) (by omega)
                              simp only at yh hvh hch hrh
                              have HSa : Hid (∀ V, Below U.heap.size U V → V.heap[hb]? = wr.heap[hb]? → V.cell? ⟨mb, 4, none⟩ = some (.slice (some ⟨tb, to_, none⟩) na ca) ∧ V.cell? ⟨tb, to_ + p, none⟩ = some (.int .i64 (xn : Int)) ∧ V.cell? ⟨hb, xn, none⟩ = some (.slice Ah H.length ch)) := Lib.hid fun V hV hk => by
                                refine ⟨(HM.out V hV).2.2.2.2, ?_, (World.cell?_of_block (a := ⟨hb, xn, none⟩) hk).trans yh⟩
                                obtain ⟨b', off', e', _, hat'⟩ := (HA.out V hV).2.1 (by have := HL.out.2.1; omega)
                                injection e' with e'
                                injection e' with q1 q2
                                subst q1 q2
                                have h5 := hat' p (by have := HL.out.2.1; omega)
                                obtain ⟨b'', off'', e'', _, hat''⟩ := (HA.out wr oV).2.1 (by have := HL.out.2.1; omega)
                                injection e'' with e''
                                injection e'' with q1 q2
                                subst q1 q2
                                have h6 := (hat'' p (by have := HL.out.2.1; omega)).symm.trans yt
                                injection h6 with h6
                                rw [h5, h6]
                              have bD : Below wr.heap.size wr W1.drew := b1.trans (Below.refl _ W1).drew
                              obtain ⟨⟨bq, lr'⟩, hcq⟩ : ∃ r, gotF lr (xn : Int) H = r := ⟨_, rfl⟩
                              have HG := Lib.hid ((hJ.out.1.swap.below bD).gotS (xn : Int) Ah ch H.length H rfl (by have := hrh.1; omega) ((hvh.below bD).more bD.size) hcq)
                              have oD := oV.trans (bD.mono oV.size)
                              have hkD := bD.block hb hJ.out.2.1.2.1.lt
                              have hst := HSa.out W1.drew oD hkD
                              obtain ⟨yw4, ywt, ywh⟩ := HSa.out W1 (oV.trans (b1.mono oV.size)) (b1.block hb hJ.out.2.1.2.1.lt)
                              have HN : Hid (AnsU lr' hm ∧ lr'.map Prod.fst = nodes K ∧ Held hb hm W1.drew ∧ W1.drew.heap[hb]? = wr.heap[hb]?) := Lib.hid ⟨ans_got hJ.out.2.2.1 heh hcq, by rw [got_fst hcq]; exact hJ.out.2.2.2, hJ.out.2.1.below bD, hkD⟩
                              clear y0 y4 yt yh hvh hch hrh heh hcq hW1 b1 bD oD hkD hJ HDr htb
                              go_wp2_with fail
                              go_region_held3 (fun V => V.cell? ⟨mb, 4, none⟩ = some (.slice (some ⟨tb, to_, none⟩) na ca) ∧ V.cell? ⟨tb, to_ + p, none⟩ = some (.int .i64 (xn : Int)) ∧ V.cell? ⟨hb, xn, none⟩ = some (.slice Ah H.length ch))
                                (first | exact hst | exact HS9.out)
                                (first | (go_at_call 19; refine HG.out.mono ?_; rintro e9 w9 ⟨rfl, h9⟩; have HS9 : Hid (w9.cell? ⟨mb, 4, none⟩ = some (.slice (some ⟨tb, to_, none⟩) na ca) ∧ w9.cell? ⟨tb, to_ + p, none⟩ = some (.int .i64 (xn : Int)) ∧ w9.cell? ⟨hb, xn, none⟩ = some (.slice Ah H.length ch)) := Lib.hid (HSa.out w9 h9.out.1.old ((h9.out.2.1.2 hb HXb.out).trans HN.out.2.2.2))))
                              have HE : Hid (Pr XX U K False 37 rw_ X lw True 55 rr R lr' w9 ∧ Held hb hm w9 ∧ AnsU lr' hm ∧ lr'.map Prod.fst = nodes K) := Lib.hid ⟨h9.out.1.swap, HN.out.2.2.1.stay h9.out.2.2 (h9.out.2.1.2 hb HXb.out), HN.out.1, HN.out.2.1⟩
                              clear HG HN h9 HS9 hst HSa
                              go_wp2_with fail
                              exact ⟨⟨p + 1, lr', rfl, by omega, HE⟩, by simp only [intOf]; omega⟩
                            · have f2 : decide (x ≤ (K : Int)) = false := decide_eq_false h2
                              have f1 : decide ((1 : Int) ≤ x) = true := decide_eq_true h1
                              clear hJ
                              go_wp2_with fail
                              go_quiet (fail)
                              go_wp2_with fail
                              exact ⟨⟨p + 1, lr, rfl, by omega, Lib.hid (HDr.out _)⟩, by simp only [intOf]; omega⟩
                          · have f1 : decide ((1 : Int) ≤ x) = false := decide_eq_false h1
                            clear hJ
                            go_wp2_with fail
                            go_quiet (fail)
                            go_wp2_with fail
                            exact ⟨⟨p + 1, lr, rfl, by omega, Lib.hid (HDr.out _)⟩, by simp only [intOf]; omega⟩
                      · obtain rfl : p = na := by omega
                        obtain ⟨D1, hD1⟩ : ∃ D, doneF X lw = D := ⟨_, rfl⟩
                        obtain ⟨D2, hD2⟩ : ∃ D, doneF R lr = D := ⟨_, rfl⟩
                        have HD1 := hJ.out.1.doneW
                        rw [hD1] at HD1
                        go_wp2_with fail
                        refine HD1.mono ?_
                        rintro e6 w6 ⟨rfl, b6⟩
                        have o6 := oV.trans (b6.mono oV.size)
                        have hP6 := hJ.out.1.below b6
                        have hH6 := hJ.out.2.1.below b6
                        have HJ2 := Lib.hid hJ.out.2.2
                        clear HD1 hJ oV b6 y0 y4
                        cases D1
                        · have BE := (HA.out w6 o6).2.2.2
                          clear hP6 hH6
                          go_wp2_with fail
                          go_ret
                          exact ⟨rfl, BE⟩
                        · have HD2 := hP6.swap.doneR
                          rw [hD2] at HD2
                          go_wp2_with fail
                          refine HD2.mono ?_
                          rintro e7 w7 ⟨rfl, b7⟩
                          have o7 := o6.trans (b7.mono o6.size)
                          have hP7 := hP6.below b7
                          have hH7 := hH6.below b7
                          clear HD2 hP6 hH6 o6 b7
                          cases D2
                          · have BE := (HA.out w7 o7).2.2.2
                            clear hP7 hH7
                            go_wp2_with fail
                            go_ret
                            exact ⟨rfl, BE⟩
                          · have hpl := meets_plain HUU.out.1 HUU.out.2.1 HJC.out.1 (fun e he => (hH7.2.2 e he).2.2) HJC.out.2.1 HJ2.out.1 HJC.out.2.2 HJ2.out.2 hD1 hD2 (by omega)
                            obtain ⟨G, hG⟩ : ∃ z, versF lr = z := ⟨_, rfl⟩
                            obtain ⟨gk, hgk⟩ : ∃ n, G.length = n := ⟨_, rfl⟩
                            obtain ⟨bl, hbl⟩ : ∃ z, behindF lr G = z := ⟨_, rfl⟩
                            obtain ⟨bk, hbk⟩ : ∃ n, bl.length = n := ⟨_, rfl⟩
                            obtain ⟨wl, hwl⟩ : ∃ z, waitsF lr = z := ⟨_, rfl⟩
                            obtain ⟨wk, hwk⟩ : ∃ n, wl.length = n := ⟨_, rfl⟩
                            have hg4 : gk ≤ 1024 := by rw [← hgk, ← hG]; exact vers_small lr
                            have hb8 : bk ≤ 8 := by
                              have h1 := behind_len lr G
                              have h2 := hP7.swap.len
                              rw [hbl, hbk] at h1
                              omega
                            have hw8 : wk ≤ 8 := by
                              have h1 := waits_len lr
                              have h2 := hP7.swap.len
                              rw [hwl, hwk] at h1
                              omega
                            have HV7 := hP7.swap.vers
                            rw [hG, hwl, hbl] at hpl
                            rw [hG] at HV7
                            have HPL := Lib.hid (And.intro hpl (And.intro hgk (And.intro hbk hwk)))
                            have HGL := Lib.hid (And.intro hG (And.intro hbl hwl))
                            clear hpl hG hgk hbl hbk hwl hwk hD1 hD2
                            go_wp2_with fail
                            refine HV7.mono ?_
                            rintro e8 w8 ⟨Ag, cg, he8, hg8, b8⟩
                            rw [HPL.out.2.1] at he8
                            subst he8
                            have hgc : gk ≤ cg := by have := hg8.out.1; rw [HPL.out.2.1] at this; exact this
                            have hv8 := hg8.out.2.less (Nat.zero_le _)
                            have o8 := o7.trans (b8.mono o7.size)
                            have HB8 := Lib.hid (And.intro hv8 (And.intro o8 (And.intro (hP7.below b8) (hH7.below b8))))
                            clear HV7 hg8 hv8 hP7 hH7 o7 b8
                            obtain ⟨⟨z0, z1, z2, z3, z4⟩, zs⟩ := (HVv.out w8 HB8.out.2.1)
                            go_upto_region 42 with fail
                            go_cut [268] (fun cv' V => cv' = .bool false ∧ Hid (Below w8.heap.size w8 V))
                            case first =>
                              as_aux_lemma =>
                                obtain ⟨qb, hqb⟩ : ∃ q, decide (Vers.behind G s vn) = q := ⟨_, rfl⟩
                                have HBh := Vers.behind_any Ag cg gk G HPL.out.2.1 s vn w8 HB8.out.1 (by omega)
                                rw [hqb] at HBh
                                clear zs
                                go_wp2_with fail
                                refine HBh.mono ?_
                                rintro e9 w9 ⟨rfl, b9⟩
                                clear HBh
                                cases qb
                                · have hvG : decide ((⟨s, vn, vp, vg, vx⟩ : Vr) ∈ G) = true := decide_eq_true (by
                                    rcases HPL.out.1.1 with h | h
                                    · exact absurd h (of_decide_eq_false hqb)
                                    · exact h)
                                  have o9 := o8.trans (b9.mono o8.size)
                                  clear z0 z1 z2 z3 z4
                                  obtain ⟨⟨z0, z1, z2, z3, z4⟩, zs⟩ := (HVv.out w9 o9)
                                  have HHs := has_any Ag Av cg gk cv kp G HPL.out.2.1 ⟨s, vn, vp, vg, vx⟩ HL.out.2.2.2 w9 ((HB8.out.1.below b9).more b9.size) ⟨zs, by simp only; rw [HL.out.2.2.2]; exact hpc, by simp only; rw [HL.out.2.2.2]; exact hpb, by simp only; omega, fun _ _ _ => Nat.zero_le _⟩ (by omega)
                                  rw [hvG] at HHs
                                  simp only at HHs
                                  clear zs
                                  go_wp2_with fail
                                  refine HHs.mono ?_
                                  rintro e10 w10 ⟨rfl, b10⟩
                                  have BE := Lib.hid (b9.trans (b10.mono b9.size))
                                  go_wp2_with fail
                                  go_meet
                                  exact ⟨rfl, BE⟩
                                · have BE := Lib.hid b9
                                  clear z0 z1 z2 z3 z4
                                  go_wp2_with fail
                                  go_meet
                                  exact ⟨rfl, BE⟩
                            case rest =>
                              obtain ⟨rfl, hbc⟩ := hcut
                              have oc := o8.trans (hbc.out.mono o8.size)
                              have hPc := HB8.out.2.2.1.below hbc.out
                              have hHc := HB8.out.2.2.2.below hbc.out
                              have hvc := (HB8.out.1.below hbc.out).more hbc.out.size
                              have HBd := hPc.swap.behind
                              rw [HGL.out.1, HGL.out.2.1] at HBd
                              clear HB8 hbc o8 z0 z1 z2 z3 z4 zs
                              go_wp2_with fail
                              refine HBd.mono ?_
                              rintro e9 w9 ⟨Ab, cb9, he9, hb9, b9⟩
                              rw [HPL.out.2.2.1] at he9
                              subst he9
                              have HWt := (hPc.below b9).swap.waitsR
                              rw [HGL.out.2.2] at HWt
                              have o9 := oc.trans (b9.mono oc.size)
                              have hH9 := hHc.below b9
                              have hv9 := (hvc.below b9).more b9.size
                              clear HBd hPc hHc hvc oc b9
                              go_wp2_with fail
                              refine HWt.mono ?_
                              rintro e10 w10 ⟨Aw, cw, he10, hw10, b10⟩
                              rw [HPL.out.2.2.2] at he10
                              subst he10
                              have o10 := o9.trans (b10.mono o9.size)
                              have HFn := Lib.hid (And.intro o10 (And.intro (hH9.below b10) (And.intro ((hv9.below b10).more b10.size) (And.intro ((hb9.out.1.below b10).more b10.size) hw10.out.1))))
                              clear HWt o9 hH9 hv9 hb9 hw10 o10 b10
                              go_wp2_with fail
                              go_loopw [25] (fun iv V => ∃ x : Nat, iv = .int .i64 x ∧ 1 ≤ x ∧ x ≤ K + 1 ∧ Hid (Below w10.heap.size w10 V)) (fun iv _ => K + 1 - (intOf iv).toNat)
                              case atStart => exact ⟨1, rfl, by omega, by omega, Lib.hid (Below.refl _ _)⟩
                              case round =>
                                obtain ⟨x, rfl, hx1, hx2, hbw⟩ := hrel
                                have oV := HFn.out.1.trans (hbw.out.mono HFn.out.1.size)
                                obtain ⟨y0, _, _, _, _⟩ := HM.out wr oV
                                by_cases hlx : x ≤ K
                                · as_aux_lemma =>
                                    have d1 : decide ((x : Int) ≤ (K : Int)) = true := decide_eq_true (by omega)
                                    have d3 : (0 : Int) ≤ (x : Int) := by omega
                                    have d4 : (x : Int) < 9 := by omega
                                    have e1 : IntKind.i64.wrap ((x : Int) + 1) = (x : Int) + 1 := Go.IntWalk.i64_in _ (by omega)
                                    have hszw := hbw.out.size
                                    have HIn := in_any Aw cw wk wl HPL.out.2.2.2 (x : Int) wr ((HFn.out.2.2.2.2.below hbw.out).more hbw.out.size) (by omega)
                                    by_cases hin : (x : Int) ∈ wl
                                    · rw [decide_eq_true hin] at HIn
                                      go_wp2_with fail
                                      refine HIn.mono ?_
                                      rintro e11 w11 ⟨rfl, b11⟩
                                      have BE := Lib.hid (hbw.out.trans (b11.mono hszw))
                                      clear HIn b11
                                      go_wp2_with fail
                                      exact ⟨⟨x + 1, rfl, by omega, by omega, BE⟩, by simp only [intOf]; omega⟩
                                    · rw [decide_eq_false hin] at HIn
                                      have hH := HFn.out.2.1.below hbw.out
                                      obtain ⟨⟨H, Ah, ch⟩, heh, yh, hvh, hch, hrh⟩ := hH.at (j := x) (by omega)
                                      simp only at yh hvh hch hrh
                                      obtain ⟨hk, hhk⟩ : ∃ n, H.length = n := ⟨_, rfl⟩
                                      rw [hhk] at yh
                                      have hk5 : hk ≤ 512 := by rw [← hhk]; exact hrh.1
                                      obtain ⟨hm1, hm2⟩ := HPL.out.1.2 x hx1 hlx hin _ heh
                                      simp only at hm1 hm2
                                      obtain ⟨qe, hqe⟩ : ∃ q, decide (H = G) = q := ⟨_, rfl⟩
                                      rw [hqe] at hm2
                                      have HX := Lib.hid (And.intro hm1 (And.intro hm2 (And.intro hqe (And.intro hhk hvh))))
                                      clear heh hch hrh hm1 hm2 hqe hhk hvh
                                      go_wp2_with fail
                                      refine HIn.mono ?_
                                      rintro e11 w11 ⟨rfl, b11⟩
                                      have bb11 := hbw.out.trans (b11.mono hszw)
                                      have o11 := HFn.out.1.trans (bb11.mono HFn.out.1.size)
                                      have hG11 := (HFn.out.2.2.1.below bb11).more bb11.size
                                      have hH11 := (HFn.out.2.1.below bb11)
                                      have yh11 := (b11.cell (p := ⟨hb, x, none⟩) hH.2.1.lt).trans yh
                                      have HMg := ref_merge_any Ah Ag ch cg hk gk H G HX.out.2.2.2.1 HPL.out.2.1 w11 ((HX.out.2.2.2.2.below b11).more b11.size) hG11 (by omega) (by omega)
                                      rw [HX.out.1] at HMg
                                      have HY := Lib.hid (And.intro bb11 (And.intro o11 hG11))
                                      have hlt11 := hH11.2.1.lt
                                      have hvH11 := Lib.hid ((HX.out.2.2.2.2.below b11).more b11.size)
                                      clear HIn b11 bb11 o11 hG11 hH11 hH yh y0
                                      go_wp2_with fail
                                      refine HMg.mono ?_
                                      rintro e12 w12 ⟨A12, c12, he12, hc12, hv12, b12⟩
                                      simp only at he12 hc12 hv12
                                      rw [HPL.out.2.1] at he12 hc12
                                      subst he12
                                      have bD : Below w11.heap.size w11 w12.drew := b12.trans (Below.refl _ w12).drew
                                      have yh12 : ∀ V, Below w12.heap.size w12 V → V.cell? ⟨hb, x, none⟩ = some (.slice Ah hk ch) := fun V hV => ((b12.trans (hV.mono b12.size)).cell (p := ⟨hb, x, none⟩) hlt11).trans yh11
                                      have HYh := Lib.hid yh12
                                      have bb12 := HY.out.1.trans (b12.mono HY.out.1.size)
                                      have HIn2 := Lib.hid (in_any Ab cb9 bk bl HPL.out.2.2.1 (x : Int) w12.drew (((HFn.out.2.2.2.1.below bb12).more bb12.size).below (Below.refl _ w12).drew) (by omega))
                                      rw [HX.out.2.1] at HIn2
                                      have HZZ := Lib.hid (And.intro bb12 (And.intro (((hvH11.out.below b12).more b12.size)) (And.intro ((HY.out.2.2.below b12).more b12.size) hv12)))
                                      have hst := yh12 w12.drew (Below.refl _ w12).drew
                                      have bq : (!qe == qe) = false := by cases qe <;> rfl
                                      clear HMg yh11 yh12 hc12 hv12 bD bb12 b12
                                      go_wp2_with fail
                                      go_region_held3 (fun V => V.cell? ⟨hb, x, none⟩ = some (.slice Ah hk ch))
                                        (first | exact hst | exact HYh.out _ b13 | exact HYh.out _ b14 | exact HYh.out _ b15)
                                        (first
                                          | (go_at_call 34; refine HIn2.out.mono ?_; rintro e13 w13 ⟨rfl, c13⟩; have b13 : Below w12.heap.size w12 w13 := (show Below w12.heap.size w12 w12.drew from (Below.refl _ w12).drew).trans c13)
                                          | (go_at_call 23; (fail_if_success have _t := b14); refine (ref_sameV_any Ah Ag ch cg hk gk H G HX.out.2.2.2.1 HPL.out.2.1 w13 ((HZZ.out.2.1.below b13).more b13.size) ((HZZ.out.2.2.1.below b13).more b13.size) (by omega) (by omega)).mono ?_; rintro e14 w14 ⟨he14, c14⟩; rw [HX.out.2.2.1] at he14; subst he14; have b14 := b13.trans (c14.mono b13.size))
                                          | (go_at_call 23; refine (ref_sameV_any A12 Ag c12 cg gk gk G G HPL.out.2.1 HPL.out.2.1 w14 ((HZZ.out.2.2.2.below b14).more b14.size) ((HZZ.out.2.2.1.below b14).more b14.size) (by omega) (by omega)).mono ?_; rintro e15 w15 ⟨he15, c15⟩; rw [decide_eq_true rfl] at he15; subst he15; have b15 := b14.trans (c15.mono b14.size)))
                                      all_goals
                                        have BE := Lib.hid (HZZ.out.1.trans (b15.mono HZZ.out.1.size))
                                        clear HIn2 HZZ HYh HY HX b13 b14 b15 c13 c14 c15 hst
                                        go_wp2_with fail
                                        exact ⟨⟨x + 1, rfl, by omega, by omega, BE⟩, by simp only [intOf]; omega⟩
                                · have BE := (HA.out wr oV).2.2.2
                                  have d1 : decide ((x : Int) ≤ (K : Int)) = false := decide_eq_false (by omega)
                                  go_wp2_with fail
                                  go_ret
                                  exact ⟨rfl, BE⟩
            · have d5 : decide ((512 : Int) < (z : Int)) = true := decide_eq_true (by omega)
              have BE := (HA.out wr oV).2.2.2
              clear hz HZL HRB hzl hzb
              go_wp2_with fail
              go_ret
              exact ⟨rfl, BE⟩
  · rw [decide_eq_false c8] at he2
    subst he2
    go_wp2_with fail
    refine (awake_any w2).mono ?_
    rintro e w3 ⟨rfl, b3⟩
    have BE := (HA.out w3 (o2.trans (b3.mono o2.size))).2.2.2
    go_wp2_with fail
    go_ret
    exact ⟨rfl, BE⟩
-- ROW BEGIN
set_option maxRecDepth 100000 in
/-- What the walk gives, shut again. -/
theorem contract (H : Type) (enc : TypeId × Value → H) (W : World) (base : Nat) (args : Array Value) (ds gs : List (DataW H)) (before : List MemPlace)
    (hval : ∀ (j : Nat) t v, Try.f6.params[j]? = some t → args[j]? = some v → Value.okWide Try.prog W .any base t v)
    (hW : DataW.Whole enc Try.prog Try.f6.params.toList Rows.quorumMeetsSpec.vars false W args.toList ds gs before)
    (hsz : (DataW.weightsEach Try.prog (Try.f6.params.toList ++ Rows.quorumMeetsSpec.plain.varTypes Try.prog) (ds ++ gs)).all (· ≤ reachBytes) = true) :
    Calls Try.prog 6 args W fun e W' => ∃ v, e = .returned v ∧ Rows.quorumMeetsSpec.post enc Try.prog Try.f6 false true false false W args v W' := by
  have hW' := hW
  obtain ⟨p, q, hA0, hV, hbef, _, _⟩ := hW
  have hA : DataW.TrodAll enc Try.prog W 0 (fun _ => true) true Try.f6.params.toList args.toList ds p := hA0
  have hA1 := hA
  rw [Try.params6] at hA hval hsz
  obtain ⟨v0, vs0, d0, ds0, p0, q0, hargs, rfl, rfl, h0, r0⟩ := trodAll_cons hA
  obtain ⟨v1, vs1, d1, ds1, p1, q1, rfl, rfl, rfl, h1, r1⟩ := trodAll_cons r0
  obtain ⟨v2, vs2, d2, ds2, p2, q2, rfl, rfl, rfl, h2, r2⟩ := trodAll_cons r1
  obtain ⟨rfl, rfl, rfl⟩ := trodAll_nil r2
  obtain rfl : args = #[v0, v1, v2] := by cases args; simp_all
  obtain ⟨rfl, rfl⟩ := trodVars_none hV
  clear hA hargs
  obtain ⟨N0, X0, R0, A0, c0, a0, B0, e0, g0, rfl, n0, k0, l0, b0⟩ := Quorum.arg_meet (hval 0 64 v0 rfl rfl) h0 (Wgt.wt_arg hsz (j := 0) rfl rfl)
  obtain ⟨A1, c1, a1, rfl, n1, l1, b1⟩ := Quorum.arg_vss (hval 1 51 v1 rfl rfl) h1 (Wgt.wt_arg hsz (j := 1) rfl rfl)
  obtain ⟨a2, A2, c2, rfl, n2, l2, b2, w2, x2⟩ := Vers.open_ver (hval 2 69 v2 rfl rfl) h2 (Vers.wt_arg hsz (j := 2) rfl rfl)
  refine (walk W N0 X0 R0 A0 c0 a0 B0 e0 g0 n0 k0 l0 b0 A1 c1 a1 n1 b1 l1 a2 A2 c2 n2 l2 b2).mono fun e W' ⟨he, hb⟩ => ?_
  subst he
  exact ⟨_, rfl, law_post Facts.laid (by rfl) Try.underlying4 (by rw [Try.params6]; decide +kernel) hW' hA1 rfl hbef rfl rfl rfl hb⟩

set_option maxRecDepth 100000 in
theorem lifted (os : Os) (started : os.Started) (H : Type) (enc : TypeId × Value → H) :
    ReturnsInHanded {} Try.checked os 6 .any (Rows.quorumMeetsSpec.pre6 enc Try.prog Try.f6 Rows.quorumMeetsRow.domain false) (Rows.quorumMeetsSpec.post enc Try.prog Try.f6 false true false false) := by
  refine returnsInHanded_of_change_sized (C := Try.checked) Facts.own started (by kernel_rfl) Try.func6
    (ChangeSpec.witness6 (enc := enc) (C := Try.checked) false ⟨#[], #[.agg #[.int .i64 0, .int .i64 0, .int .i64 0, .slice none 0 0, .slice none 0 0], .slice none 0 0, .agg #[.int .i64 0, .int .i64 0, .slice none 0 0, .bool false, .string ⟨#[]⟩]], []⟩ 8 (by kernel_rfl) (by kernel_rfl) (by kernel_rfl) (by kernel_rfl)) ?_
  intro W base args ds gs before hval hW _ hsz _
  exact contract H enc W base args ds gs before hval hW hsz

theorem holds : Rows.QuorumMeetsSaid :=
  OpenClaim.holds_of_wide 6 Try.f6 rfl rfl rfl rfl rfl rfl rfl ⟨rfl, rfl, rfl, rfl, rfl⟩ rfl rfl rfl rfl rfl (by kernel_rfl) Try.func6 (by kernel_rfl)
    (of_decide_eq_true (by kernel_rfl)) (by unfold Func.isWrapper; first | (rw [if_pos (by decide +kernel)]; kernel_rfl) | (rw [if_neg (by decide +kernel)]; exact ⟨rfl, rfl⟩))
    (fun os started H enc _ => lifted os started H enc)
-- ROW END
end QuorumMeets
end Go.Proofs.Ytbhidndgnldheaa
