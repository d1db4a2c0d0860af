/-
  Several texts of this family in one: VersMark, VersPassed.
-/
import Derived.Test.YtkfdplfgaddkmaaGreatK5
import Derived.Deep.QuietTactic
import Derived.BigQuiet
import Derived.Deep.DeepCutAuto
import Derived.Deep.CutBlock
/-
 vers.passed tells of each of some rising right versions whether another one came behind it.
-/
namespace Go.Proofs.YtkfdplfgaddkmaaGreat
namespace Vers
open Go.RowKit Span

def endsB (x : Sp) (s n : Int) : Prop := x.1 < s ∨ (x.1 = s ∧ x.2.2 < n)
theorem ends_more {x : Sp} {s n s' n' : Int} (h : endsB x s n) (hs : s < s' ∨ (s = s' ∧ n < n')) : endsB x s' n' := by unfold endsB at *; omega
theorem mem_index {l : List Sp} {s n : Int} : mem l s n ↔ ∃ p, p < l.length ∧ inSp (l.getD p (0, 0, 0)) s n := by
 unfold mem
 constructor
 ·rintro ⟨x, hx, h⟩
  obtain ⟨p, hp, rfl⟩ := List.getElem_of_mem hx
  exact ⟨p, hp, by simpa [List.getD_eq_getElem?_getD, hp] using h⟩
 ·rintro ⟨p, hp, h⟩
  exact ⟨l[p], List.getElem_mem hp, by simpa [List.getD_eq_getElem?_getD, hp] using h⟩
theorem fine_apart {l : List Sp} (h : Fine l) {p q : Nat} (hq : q < l.length) (hpq : p < q) : apart (l.getD p (0, 0, 0)) (l.getD q (0, 0, 0)) := by
 have := List.pairwise_iff_getElem.1 h.2 p q (by omega) hq hpq
 simpa [List.getD_eq_getElem?_getD, hq, show p < l.length by omega] using this
theorem mark_hit {past : List Sp} (hf : Fine past) {j : Nat} {s n : Int} {x : Sp} (hj : j < past.length) (hx : past.getD j (0, 0, 0) = x) (hb : ∀ p, p < j → endsB (past.getD p (0, 0, 0)) s n) (hn : ¬ endsB x s n) : mem past s n ↔ x.1 = s ∧ x.2.1 ≤ n := by
 rw [mem_index]
 constructor
 ·rintro ⟨p, hp, h⟩
  rcases Nat.lt_trichotomy p j with h1 | h1 | h1
  ·have := hb p h1
   unfold endsB at this
   unfold inSp at h
   omega
  ·subst h1
   rw [hx] at h
   exact ⟨h.1, h.2.1⟩
  ·have ha := fine_apart hf hp h1
   rw [hx] at ha
   unfold apart at ha
   unfold inSp at h
   unfold endsB at hn
   omega
 ·rintro ⟨h1, h2⟩
  refine ⟨j, hj, ?_⟩
  rw [hx]
  unfold endsB at hn
  exact ⟨h1, h2, by omega⟩
theorem mark_none {past : List Sp} {s n : Int} (hb : ∀ p, p < past.length → endsB (past.getD p (0, 0, 0)) s n) : ¬ mem past s n := by
 rw [mem_index]
 rintro ⟨p, hp, h⟩
 have := hb p hp
 unfold endsB at this
 unfold inSp at h
 omega
theorem rising_at {l : List Vr} (h : l.Pairwise dlt) {p q : Nat} (hq : q < l.length) (hpq : p < q) : dlt (l.getD p v0) (l.getD q v0) := by
 have := List.pairwise_iff_getElem.1 h p q (by omega) hq hpq
 simpa [List.getD_eq_getElem?_getD, hq, show p < l.length by omega] using this

def bools (bs : List Bool) : List Value := bs.map Value.bool
theorem bools_length (bs : List Bool) : (bools bs).length = bs.length := by simp [bools]
def hitF (l : List Vr) (past : List Sp) (q : Nat) : Bool := decide (mem past (l.getD q v0).s (l.getD q v0).n)

def Marking (l : List Vr) (past : List Sp) (bs : List Bool) (n k : Nat) (base g cap : Nat) (W0 : World) (jv iv : Value) (wr : World) : Prop :=
 ∃ (j i : Nat) (ys : List Bool), jv = .int .i64 j ∧ iv = .int .i64 i ∧ j ≤ k ∧ i ≤ n ∧ ys.length = n ∧ wr.ownsRow base 4 1 (.slice (some ⟨g, 0, none⟩) n cap) n (bools ys) ∧ Below base W0 wr ∧ W0.heap.size ≤ wr.heap.size ∧
  (∀ q, q < n → ys.getD q false = (bs.getD q false || (decide (q < i) && hitF l past q))) ∧ (∀ p, p < j → ∀ q, i ≤ q → q < n → endsB (past.getD p (0, 0, 0)) (l.getD q v0).s (l.getD q v0).n)

def Marked (l : List Vr) (past : List Sp) (bs : List Bool) (n : Nat) (base g cap : Nat) (W0 : World) (e : Ending) (wr : World) : Prop :=
 (∃ v, e = .returned v) ∧ ∃ ys : List Bool, ys.length = n ∧ wr.ownsRow base 4 1 (.slice (some ⟨g, 0, none⟩) n cap) n (bools ys) ∧ Below base W0 wr ∧ ∀ q, q < n → ys.getD q false = (bs.getD q false || hitF l past q)

theorem bools_set (ys : List Bool) (i : Nat) : (bools ys).set i (.bool true) = bools (ys.set i true) := by simp [bools, List.map_set]

set_option maxRecDepth 100000 in
set_option maxHeartbeats 4000000 in
theorem mark_any (A A' : Option Addr) (c c' n k : Nat) (l : List Vr) (past : List Sp) (hn : l.length = n) (hk : past.length = k) (hl : l.Pairwise dlt) (hf : Fine past) (L base g cap : Nat) (bs : List Bool) (hbs : bs.length = n)
  (w : World) (hbase : base ≤ w.heap.size) (hv : Vs w L base A l) (hp : Ss w base A' past) (hn2 : n ≤ 140737488355328) (hk2 : k ≤ 140737488355328) (hrow : w.ownsRow base 4 1 (.slice (some ⟨g, 0, none⟩) n cap) n (bools bs)) :
  Calls Tryz.prog 149 #[.slice A n c, .slice A' k c', .slice (some ⟨g, 0, none⟩) n cap] w (Marked l past bs n base g cap w) := by
 have HV := Lib.hid (And.intro hv (And.intro hp (And.intro hl (And.intro hf (And.intro hn hk)))))
 clear hv hp hl hf hn hk
 go_enter Tryz.func149, Tryz.ntmps149
 go_wp2
 go_loopw [6, 11] (fun jv iv wr => Marking l past bs n k base g cap w jv iv wr) (fun _ iv _ => n - (intOf iv).toNat)
 case atStart => exact ⟨0, 0, bs, rfl, rfl, by omega, by omega, hbs, hrow, Below.refl _ _, Nat.le_refl _, fun q hq => by simp, fun p hp => absurd hp (by omega)⟩
 case round =>
  obtain ⟨j, i, ys, rfl, rfl, hj, hi, hys, hown, hb, hsz, hdone, hpre⟩ := hrel
  by_cases hlt : i < n
  ·obtain ⟨b, off, A1, c1, rfl, _, hbB, a0, a1, a2, a3, a4, _⟩ := HV.out.1.at HV.out.2.2.2.2.1 hb hlt rfl
   have HD := Lib.hid (And.intro hdone (And.intro hpre hys))
   have HR : Hid (∀ q, i < q → q < n → (l.getD i v0).s < (l.getD q v0).s ∨ ((l.getD i v0).s = (l.getD q v0).s ∧ (l.getD i v0).n < (l.getD q v0).n)) := Lib.hid fun q h1 h2 => rising_at HV.out.2.2.1 (by have := HV.out.2.2.2.2.1; omega) h1
   obtain ⟨v, hvv⟩ : ∃ v, l.getD i v0 = v := ⟨_, rfl⟩
   rw [hvv] at a0 a1 a2 a3 a4
   have HVV := Lib.hid hvv
   obtain ⟨s, vn, vp, vg, vx⟩ := v
   simp only at a0 a1 a2 a3 a4
   obtain ⟨kp, hkp⟩ : ∃ kp, vp.length = kp := ⟨_, rfl⟩
   rw [hkp] at a2
   have HO := Lib.hid (And.intro hown (And.intro hb hsz))
   have d1 : (0 : Int) ≤ (i : Int) := by omega
   have d2 : (i : Int) < (n : Int) := by omega
   clear hdone hpre hys hvv hkp hown hb hrow hbs
   go_upto_block 2 with fail
   obtain ⟨W, hW⟩ : ∃ W, wr.alloc (Obj.cells #[Value.int IntKind.i64 s, Value.int IntKind.i64 vn, Value.slice A1 kp c1, Value.bool vg, Value.string vx] 119) = W := ⟨_, rfl⟩
   obtain ⟨m, hm⟩ : ∃ m, wr.heap.size = m := ⟨_, rfl⟩
   have y0 : W.cell? ⟨m, 0, none⟩ = some (.int .i64 s) := by rw [← hW, ← hm]; simp
   have y1 : W.cell? ⟨m, 1, none⟩ = some (.int .i64 vn) := by rw [← hW, ← hm]; simp
   have lm : m < W.heap.size := by rw [← hW, ← hm]; simp
   have bW : Below wr.heap.size wr W := by rw [← hW]; exact (Below.refl _ _).alloc (Nat.le_refl _) _
   have HO2 : Hid (W.ownsRow base 4 1 (.slice (some ⟨g, 0, none⟩) n cap) n (bools ys) ∧ Below base w W ∧ w.heap.size ≤ W.heap.size ∧ base ≤ W.heap.size ∧ g < W.heap.size ∧ base ≤ g) := by
    have h3 := HO.out.1.lt g rfl
    have h4 := bW.size
    have h5 := HO.out.2.2
    exact Lib.hid ⟨own_below HO.out.1 bW (Nat.le_refl _), HO.out.2.1.trans (bW.mono (by omega)), by omega, by omega, by omega, h3.1⟩
   rw [hW, hm]
   clear hW HO bW hm a0 a1 a2 a3 a4
   go_cut [6] (fun jv V => ∃ j', jv = .int .i64 (j' : Nat) ∧ Hid (j' ≤ k ∧ Below W.heap.size W V ∧ (∀ p, p < j' → endsB (past.getD p (0, 0, 0)) s vn) ∧ (j' < k → ¬ endsB (past.getD j' (0, 0, 0)) s vn)))
   case first =>
    go_wp2_with fail
    go_loopw [6] (fun jv V => ∃ j' : Nat, jv = .int .i64 j' ∧ j' ≤ k ∧ Below W.heap.size W V ∧ Hid (∀ p, p < j' → endsB (past.getD p (0, 0, 0)) s vn)) (fun jv _ => k - (intOf jv).toNat)
    case atStart => exact ⟨j, rfl, hj, Below.refl _ _, Lib.hid fun p hp => by
     have := HD.out.2.1 p hp i (Nat.le_refl _) hlt
     rwa [HVV.out] at this⟩
    case round =>
     obtain ⟨j', rfl, hj', bV, hE⟩ := hrel
     have y0' := (bV.cell (p := ⟨m, 0, none⟩) lm).trans y0
     have y1' := (bV.cell (p := ⟨m, 1, none⟩) lm).trans y1
     by_cases hjk : j' < k
     ·obtain ⟨bp, op, rfl, hbp, hcp⟩ := HV.out.2.1 (by have := HV.out.2.2.2.2.2; omega)
      obtain ⟨q0, q1, q2⟩ := hcp j' (by have := HV.out.2.2.2.2.2; omega)
      have B2 := HO2.out.2.1.trans (bV.mono (by have := HO2.out.2.2.2.1; omega))
      have q0' := (B2.cell (p := ⟨bp, op + j' * 3, none⟩) hbp).trans q0
      have q2' := (B2.cell (p := ⟨bp, op + j' * 3 + 2, none⟩) hbp).trans q2
      have hmore : endsB (past.getD j' (0, 0, 0)) s vn → ∀ p, p < j' + 1 → endsB (past.getD p (0, 0, 0)) s vn := fun h p hp => by
       rcases Nat.lt_or_ge p j' with h1 | h1
       ·exact hE.out p h1
       ·obtain rfl : p = j' := by omega
        exact h
      have hstop : ¬ endsB (past.getD j' (0, 0, 0)) s vn → (j' < k → ¬ endsB (past.getD j' (0, 0, 0)) s vn) := fun h _ => h
      obtain ⟨⟨x0, x1, x2⟩, hx⟩ : ∃ x, past.getD j' (0, 0, 0) = x := ⟨_, rfl⟩
      rw [hx] at q0' q2' hmore
      have hstop' : ¬ endsB (x0, x1, x2) s vn → (j' < k → ¬ endsB (past.getD j' (0, 0, 0)) s vn) := by rw [hx]; exact fun h _ => h
      simp only at q0' q2'
      have HM := Lib.hid hmore
      have HT := Lib.hid hstop'
      have f1 : (0 : Int) ≤ (j' : Int) := by omega
      have f2 : (j' : Int) < (k : Int) := by omega
      have f3 : decide ((j' : Int) < (k : Int)) = true := decide_eq_true f2
      have f4 : decide (j' < k) = true := decide_eq_true hjk
      clear hmore hstop hstop' hx q0 q1 q2 hcp B2 y0 y1
      rcases Int.lt_trichotomy x0 s with c0 | rfl | c0
      ·have g0 : decide (x0 < s) = true := decide_eq_true c0
       have HN := Lib.hid (HM.out (.inl c0))
       clear HM HT hE
       go_wp2_with fail
       go_quiet (fail)
       go_wp2_with fail
       exact ⟨⟨j' + 1, rfl, by omega, bV.trans (Span.below_drewN _ _ _), HN⟩, by simp only [intOf]; omega⟩
      ·have g0 : decide (x0 < x0) = false := decide_eq_false (by omega)
       have g1 : (x0 == x0) = true := by simp
       by_cases c2 : x2 < vn
       ·have g2 : decide (x2 < vn) = true := decide_eq_true c2
        have HN := Lib.hid (HM.out (.inr ⟨rfl, c2⟩))
        clear HM HT hE
        go_wp2_with fail
        go_quiet (fail)
        go_wp2_with fail
        exact ⟨⟨j' + 1, rfl, by omega, bV.trans (Span.below_drewN _ _ _), HN⟩, by simp only [intOf]; omega⟩
       ·have g2 : decide (x2 < vn) = false := decide_eq_false c2
        have HN := Lib.hid (HT.out (by unfold endsB; simp only; omega))
        clear HM HT
        go_wp2_with fail
        go_quiet (fail)
        go_wp2_with fail
        go_meet
        exact ⟨j', rfl, Lib.hid ⟨hj', bV.trans (Span.below_drewN _ _ _), hE.out, HN.out⟩⟩
      ·have g0 : decide (x0 < s) = false := decide_eq_false (by omega)
       have g1 : (x0 == s) = false := by simp; omega
       have HN := Lib.hid (HT.out (by unfold endsB; simp only; omega))
       clear HM HT
       go_wp2_with fail
       go_quiet (fail)
       go_wp2_with fail
       go_meet
       exact ⟨j', rfl, Lib.hid ⟨hj', bV.trans (Span.below_drewN _ _ _), hE.out, HN.out⟩⟩
     ·obtain rfl : j' = k := by omega
      clear y0 y1
      go_wp2_with fail
      go_quiet (fail)
      go_wp2_with fail
      go_meet
      exact ⟨j', rfl, Lib.hid ⟨hj', bV.trans (Span.below_drewN _ _ _), hE.out, fun h => absurd h (by omega)⟩⟩
   case rest =>
    obtain ⟨j', rfl, hcut'⟩ := hcut
    obtain ⟨hj', bV, hE, hN⟩ := hcut'.out
    obtain ⟨oW, bw, sw, sb, sg, gb⟩ := HO2.out
    have oV := own_below oW bV (Nat.le_refl _)
    have BV := bw.trans (bV.mono sb)
    have sV := bV.size
    have y0' := (bV.cell (p := ⟨m, 0, none⟩) lm).trans y0
    have y1' := (bV.cell (p := ⟨m, 1, none⟩) lm).trans y1
    have later : ∀ p, p < j' → ∀ q, i ≤ q → q < n → endsB (past.getD p (0, 0, 0)) (l.getD q v0).s (l.getD q v0).n := by
     intro p hp q hq hqn
     rcases Nat.eq_or_lt_of_le hq with rfl | h1
     ·rw [HVV.out]; exact hE p hp
     ·have h2 := HR.out q h1 hqn
      rw [HVV.out] at h2
      exact ends_more (hE p hp) h2
    by_cases hjk : j' = k
    ·subst hjk
     have hnone : ∀ q, i ≤ q → q < n → hitF l past q = false := fun q hq hqn => decide_eq_false (mark_none fun p hp => later p (by have := HV.out.2.2.2.2.2; omega) q hq hqn)
     have hfin : Marked l past bs n base g cap w (.returned (.tuple #[])) wc := ⟨⟨_, rfl⟩, ys, HD.out.2.2, oV, BV, fun q hq => by
      rw [HD.out.1 q hq]
      by_cases hqi : q < i
      ·rw [decide_eq_true hqi]; simp
      ·rw [hnone q (by omega) hq]; simp⟩
     have HF := Lib.hid hfin
     have g0 : ((j' : Int) == (j' : Int)) = true := by simp
     clear hcut' oW bw oV BV hE hN later hnone hfin HV HR HD HO2
     go_wp2_with fail
     refine bodyPost_ret (results_none rfl _ _ _) rfl ?_
     exact HF.out
    ·obtain ⟨bp, op, rfl, hbp, hcp⟩ := HV.out.2.1 (by have := HV.out.2.2.2.2.2; omega)
     obtain ⟨q0, q1, q2⟩ := hcp j' (by have := HV.out.2.2.2.2.2; omega)
     have q0' := (BV.cell (p := ⟨bp, op + j' * 3, none⟩) hbp).trans q0
     have q1' := (BV.cell (p := ⟨bp, op + j' * 3 + 1, none⟩) hbp).trans q1
     obtain ⟨⟨x0, x1, x2⟩, hx⟩ : ∃ x, past.getD j' (0, 0, 0) = x := ⟨_, rfl⟩
     rw [hx] at q0' q1'
     simp only at q0' q1'
     have hhit := mark_hit HV.out.2.2.2.1 (s := s) (n := vn) (by have := HV.out.2.2.2.2.2; omega) hx hE (by rw [← hx]; exact hN (by omega))
     simp only at hhit
     have hqi : hitF l past i = decide (mem past s vn) := by unfold hitF; rw [HVV.out]
     have step0 : mem past s vn → ∀ q, q < n → (ys.set i true).getD q false = (bs.getD q false || (decide (q < i + 1) && hitF l past q)) := fun hm q hq => by
      by_cases e : q = i
      ·subst e
       rw [hqi, decide_eq_true hm]
       have : (ys.set q true).getD q false = true := by simp [List.getD_eq_getElem?_getD, HD.out.2.2, hq]
       rw [this]
       simp
      ·have h1 : (ys.set i true).getD q false = ys.getD q false := by simp [List.getD_eq_getElem?_getD, Ne.symm e]
       rw [h1, HD.out.1 q hq]
       have h2 : decide (q < i + 1) = decide (q < i) := by congr 1; exact propext ⟨fun h => by omega, fun h => by omega⟩
       rw [h2]
     have step1 : ¬ mem past s vn → ∀ q, q < n → ys.getD q false = (bs.getD q false || (decide (q < i + 1) && hitF l past q)) := fun hm q hq => by
      rw [HD.out.1 q hq]
      by_cases e : q = i
      ·subst e
       rw [hqi, decide_eq_false hm]
       simp
      ·have h2 : decide (q < i + 1) = decide (q < i) := by congr 1; exact propext ⟨fun h => by omega, fun h => by omega⟩
       rw [h2]
     have HS := Lib.hid (And.intro step0 step1)
     have HL := Lib.hid later
     have HH := Lib.hid hhit
     have HOV := Lib.hid (And.intro oV (And.intro BV sV))
     have HYL := Lib.hid HD.out.2.2
     have g0 : ((j' : Int) == (k : Int)) = false := by simp; omega
     have f1 : (0 : Int) ≤ (j' : Int) := by omega
     have f2 : (j' : Int) < (k : Int) := by omega
     clear hcut' oW bw oV BV hE hN later hhit hqi step0 step1 hx hcp q0 q1 q2 HV HR HD y0 y1
     by_cases c0 : x0 = s
     ·subst c0
      have g1 : (x0 == x0) = true := by simp
      by_cases c1 : x1 ≤ vn
      ·have g2 : decide (x1 ≤ vn) = true := decide_eq_true c1
       have hm := HH.out.2 ⟨rfl, c1⟩
       have HN := Lib.hid (HS.out.1 hm)
       have hfz := World.ownsRow.frozenAt HOV.out.1 i
       have hcell := World.ownsRow.cellAt HOV.out.1 i (by omega)
       obtain ⟨u, hu⟩ : ∃ u, (bools ys)[i]? = some u := ⟨_, List.getElem?_eq_getElem (by rw [bools_length, HYL.out]; exact hlt)⟩
       rw [hu] at hcell
       have hcd : ∀ nq, (wc.drewN nq).cell? ⟨g, i, none⟩ = some u := fun _ => hcell
       have hfd : ∀ nq, (wc.drewN nq).frozen? ⟨g, i, none⟩ = false := fun _ => hfz
       clear HH HS hm hu hcell hfz
       go_wp2_with fail
       go_quiet (fail)
       go_wp2_with fail
       have ho := own_below HOV.out.1 (Span.below_drewN _ nq wc) (Nat.le_refl _)
       have hst := (World.ownsRow.stored ho i (.bool true)).1
       rw [bools_set] at hst
       exact ⟨⟨j', i + 1, ys.set i true, rfl, rfl, hj', by omega, by simp [HYL.out], hst, (HOV.out.2.1.trans (Span.below_drewN _ _ _)).setCell (by exact gb) _, Nat.le_trans sw (by simpa [World.setCell, World.drewN] using HOV.out.2.2), HN.out, fun p hp q hq hqn => HL.out p hp q (by omega) hqn⟩, by simp only [intOf]; omega⟩
      ·have g2 : decide (x1 ≤ vn) = false := decide_eq_false c1
       have HN := Lib.hid (HS.out.2 fun h => c1 (HH.out.1 h).2)
       clear HH HS
       go_wp2_with fail
       go_quiet (fail)
       go_wp2_with fail
       exact ⟨⟨j', i + 1, ys, rfl, rfl, hj', by omega, HYL.out, own_below HOV.out.1 (Span.below_drewN _ _ _) (Nat.le_refl _), HOV.out.2.1.trans (Span.below_drewN _ _ _), Nat.le_trans sw HOV.out.2.2, HN.out, fun p hp q hq hqn => HL.out p hp q (by omega) hqn⟩, by simp only [intOf]; omega⟩
     ·have g1 : (x0 == s) = false := by simp [c0]
      have HN := Lib.hid (HS.out.2 fun h => c0 (HH.out.1 h).1)
      clear HH HS
      go_wp2_with fail
      go_quiet (fail)
      go_wp2_with fail
      exact ⟨⟨j', i + 1, ys, rfl, rfl, hj', by omega, HYL.out, own_below HOV.out.1 (Span.below_drewN _ _ _) (Nat.le_refl _), HOV.out.2.1.trans (Span.below_drewN _ _ _), Nat.le_trans sw HOV.out.2.2, HN.out, fun p hp q hq hqn => HL.out p hp q (by omega) hqn⟩, by simp only [intOf]; omega⟩
  ·have hin : i = n := by omega
   subst hin
   have hfin : Marked l past bs i base g cap w (.returned (.tuple #[])) wr := ⟨⟨_, rfl⟩, ys, hys, hown, hb, fun q hq => by rw [hdone q hq, decide_eq_true hq]; simp⟩
   have HF := Lib.hid hfin
   clear hdone hpre hown hb hfin HV hrow
   go_wp2_with fail
   go_end0
   exact HF.out
end Vers
end Go.Proofs.YtkfdplfgaddkmaaGreat

/-
 vers.passed; and whether a true one is among some bools.
-/
namespace Go.Proofs.YtkfdplfgaddkmaaGreat
namespace Vers
open Go.RowKit Span

theorem info_bool : (Tryz.prog.info? 4).map (fun i => (i.zero, i.size, i.bytes)) = some (some (.bool false), 1, 1) := by kernel_rfl

def PassedPost (l : List Vr) (n : Nat) (w : World) (e : Ending) (w' : World) : Prop :=
 ∃ (g cap : Nat) (ys : List Bool), e = .returned (.slice (some ⟨g, 0, none⟩) n cap) ∧ ys.length = n ∧ w'.ownsRow w.heap.size 4 1 (.slice (some ⟨g, 0, none⟩) n cap) n (bools ys) ∧ Below w.heap.size w w' ∧
  ∀ q, q < n → ys.getD q false = decide (behind l (l.getD q v0).s (l.getD q v0).n)

theorem behind_take {l : List Vr} {k : Nat} (h : k < l.length) (s n : Int) : behind (l.take (k + 1)) s n ↔ behind (l.take k) s n ∨ mem (l.getD k v0).past s n := by
 rw [List.take_succ_eq_append_getElem h, behind_append]
 have e : l.getD k v0 = l[k] := by simp [List.getD_eq_getElem?_getD, h]
 rw [e]
 constructor
 ·rintro (h | ⟨v, hv, h⟩)
  ·exact .inl h
  ·rw [List.mem_singleton.1 hv] at h; exact .inr h
 ·rintro (h | h)
  ·exact .inl h
  ·exact .inr ⟨_, by simp, h⟩

def Passing (l : List Vr) (n g cap : Nat) (w : World) (iv : Value) (wr : World) : Prop :=
 ∃ (k : Nat) (ys : List Bool), iv = .int .i64 k ∧ k ≤ n ∧ ys.length = n ∧ wr.ownsRow w.heap.size 4 1 (.slice (some ⟨g, 0, none⟩) n cap) n (bools ys) ∧ Below w.heap.size w wr ∧
  ∀ q, q < n → ys.getD q false = decide (behind (l.take k) (l.getD q v0).s (l.getD q v0).n)

theorem made_bools (n : Nat) : (madeCells (Value.bool false).cells (n * 1)).toList = bools (List.replicate n false) := by
 have : (Value.bool false).cells = #[Value.bool false] := rfl
 rw [this, Nat.mul_one, toList_madeCells_one]
 simp [bools]

set_option maxRecDepth 100000 in
set_option maxHeartbeats 2000000 in
theorem passed_any (A : Option Addr) (c n : Nat) (l : List Vr) (hn : l.length = n) (hl : FineV l) (w : World) (hv : Vs w 0 w.heap.size A l) (hn2 : n ≤ 1024) :
  Calls Tryz.prog 126 #[.slice A n c] w (PassedPost l n w) := by
 obtain ⟨i0, hi0, hz0, hz1, hz2⟩ := info_parts info_bool
 have HV := Lib.hid (And.intro hv (And.intro hl hn))
 clear hv hl hn
 go_enter Tryz.func126, Tryz.ntmps126
 go_wp2_with (at_make; refine wpList_make_full _ rfl _ _ 180 rfl w.heap.size 4 i0 (.bool false) 1 Tryz.underlying180 hi0 hz0 hz1 _ _ _ _ n rfl rfl rfl rfl (by rw [hz2]; omega) (by unfold maxLen; omega) (Nat.le_refl _) ?_; intro w1 o1 g1; have b1 : Below w.heap.size w w1 := (Below.refl _ _).grown g1 (Nat.le_refl _) (fun k hk => by cases hk))
 rw [made_bools] at o1
 obtain ⟨base, hbase⟩ : ∃ base, w.heap.size = base := ⟨_, rfl⟩
 have HB := Lib.hid hbase
 have HI : Hid (Passing l n base n w (.int .i64 0) w1) := Lib.hid ⟨0, List.replicate n false, rfl, by omega, by simp, by rw [← hbase]; exact o1, b1, fun q hq => by
  have : ¬ behind (l.take 0) (l.getD q v0).s (l.getD q v0).n := by simp [behind]
  rw [decide_eq_false this]
  simp [List.getD_eq_getElem?_getD, hq]⟩
 rw [hbase]
 clear hbase o1 g1 b1
 go_loopw [11] (fun iv wr => Passing l n base n w iv wr) (fun iv _ => n - (intOf iv).toNat)
 case atStart => exact HI.out
 case round =>
  obtain ⟨k, ys, rfl, hk, hys, ho, hb, hd⟩ := hrel
  clear HI
  by_cases hlt : k < n
  ·obtain ⟨b, off, A1, c1, rfl, _, hbB, a0, a1, a2, a3, a4, hpa⟩ := HV.out.1.at HV.out.2.2 hb hlt rfl
   have hkl : k < l.length := by have := HV.out.2.2; omega
   have hmem : l.getD k v0 ∈ l := by
    rw [List.getD_eq_getElem?_getD, List.getElem?_eq_getElem hkl]
    exact List.getElem_mem _
   have hfp := (HV.out.2.1.1 _ hmem).2.1
   have HQ : Hid (∀ q, hitF l (l.getD k v0).past q = decide (mem (l.getD k v0).past (l.getD q v0).s (l.getD q v0).n)) := Lib.hid fun q => rfl
   have HT : Hid (∀ s m, behind (l.take (k + 1)) s m ↔ behind (l.take k) s m ∨ mem (l.getD k v0).past s m) := Lib.hid (behind_take hkl)
   obtain ⟨v, hvv⟩ : ∃ v, l.getD k v0 = v := ⟨_, rfl⟩
   rw [hvv] at a0 a1 a2 a3 a4 hpa hfp
   have HVV := Lib.hid hvv
   obtain ⟨s, vn, vp, vg, vx⟩ := v
   simp only at a0 a1 a2 a3 a4 hfp
   obtain ⟨hps, _, hpb, _, _⟩ := hpa
   simp only at hps hpb
   obtain ⟨kp, hkp⟩ : ∃ kp, vp.length = kp := ⟨_, rfl⟩
   rw [hkp] at a2 hpb
   have hsz := hb.size
   have hbase := HB.out
   have hg := ho.lt base rfl
   have hmk := fun W (hbW : Below w.heap.size w W) (ho' : W.ownsRow w.heap.size 4 1 (.slice (some ⟨base, 0, none⟩) n n) n (bools ys)) (hsp : Ss W w.heap.size A1 vp) =>
    mark_any (some ⟨b, off, none⟩) A1 c c1 n kp l vp HV.out.2.2 hkp HV.out.2.1.2 hfp.2 0 w.heap.size base n ys hys W hbW.size (HV.out.1.below hbW) hsp (by omega) hpb ho'
   have HMK := Lib.hid hmk
   have HO := Lib.hid (And.intro ho (And.intro hb (And.intro hd (And.intro hys hps))))
   have d1 : (0 : Int) ≤ (k : Int) := by omega
   have d2 : (k : Int) < (n : Int) := by omega
   clear hmk ho hb hd hys hvv hkp hmem hfp hps hbase
   go_wp2_with fail
   have hb2 := HO.out.2.1.alloc hsz (.cells #[.int .i64 s, .int .i64 vn, .slice A1 kp c1, .bool vg, .string vx] 119)
   refine (HMK.out _ hb2 (HO.out.1.alloc _) (HO.out.2.2.2.2.alloc hsz _)).mono ?_
   rintro e w2 ⟨⟨v2, rfl⟩, ys2, hy2, ho2, hb3, hd2⟩
   have HE := Lib.hid (And.intro hy2 (And.intro ho2 (And.intro (hb2.trans hb3) hd2)))
   clear hy2 ho2 hb3 hd2 hb2 HMK
   go_wp2_with fail
   exact ⟨⟨k + 1, ys2, rfl, by omega, HE.out.1, HE.out.2.1, HE.out.2.2.1, fun q hq => by
    have h1 := HE.out.2.2.2 q hq
    rw [HO.out.2.2.1 q hq] at h1
    have h2 := HQ.out q
    rw [HVV.out] at h2
    simp only at h2
    have h3 := HT.out (l.getD q v0).s (l.getD q v0).n
    rw [HVV.out] at h3
    simp only at h3
    rw [h1, h2, ← Bool.decide_or]
    congr 1
    exact propext h3.symm⟩, by simp only [intOf]; omega⟩
  ·obtain rfl : k = n := by omega
   have hfin : PassedPost l k w (.returned (.slice (some ⟨base, 0, none⟩) k k)) wr := ⟨base, k, ys, rfl, hys, ho, hb, fun q hq => by
    rw [hd q hq, List.take_of_length_le (by have := HV.out.2.2; omega)]⟩
   have HF := Lib.hid hfin
   clear hd ho hb hys hfin HV
   go_wp2_with fail
   go_ret
   exact HF.out

theorem any_index (ys : List Bool) (k : Nat) (h : k < ys.length) : (ys.drop k).any id = (ys.getD k false || (ys.drop (k + 1)).any id) := by
 rw [List.drop_eq_getElem_cons h, List.any_cons]
 simp [List.getD_eq_getElem?_getD, h]

theorem index_any (g cap n : Nat) (ys : List Bool) (hy : ys.length = n) (base : Nat) (w : World) (ho : w.ownsRow base 4 1 (.slice (some ⟨g, 0, none⟩) n cap) n (bools ys)) (hn2 : n ≤ 140737488355328) :
  Calls Tryz.prog 148 #[.slice (some ⟨g, 0, none⟩) n cap, .bool true] w fun e w' => (∃ z : Int, e = .returned (.int .i64 z) ∧ (0 ≤ z ↔ ys.any id = true)) ∧ w = w' := by
 have HO := Lib.hid (And.intro ho hy)
 clear ho hy
 go_enter Tryz.func148, Tryz.ntmps148
 go_wp2
 go_loopw [8] (fun iv wr => ∃ k : Nat, iv = .int .i64 k ∧ k ≤ n ∧ w = wr ∧ Hid (ys.any id = (ys.drop k).any id)) (fun iv _ => n - (intOf iv).toNat)
 case atStart => exact ⟨0, rfl, by omega, rfl, Lib.hid rfl⟩
 case round =>
  obtain ⟨k, rfl, hk, rfl, hst⟩ := hrel
  by_cases hlt : k < n
  ·have hc := World.ownsRow.cellAt HO.out.1 k (by omega)
   have hyk : (bools ys)[k]? = some (.bool (ys.getD k false)) := by
    have : k < ys.length := by rw [HO.out.2]; exact hlt
    simp [bools, List.getD_eq_getElem?_getD, this]
   rw [hyk] at hc
   have hs := any_index ys k (by rw [HO.out.2]; exact hlt)
   obtain ⟨y, hyy⟩ : ∃ y, ys.getD k false = y := ⟨_, rfl⟩
   rw [hyy] at hc hs
   have HS := Lib.hid (hst.out.trans hs)
   have d1 : (0 : Int) ≤ (k : Int) := by omega
   have d2 : (k : Int) < (n : Int) := by omega
   clear hs hyk hyy hst
   cases y
   ·have HN := Lib.hid (show ys.any id = (ys.drop (k + 1)).any id by rw [HS.out]; simp)
    clear HS
    go_wp2
    exact ⟨⟨k + 1, rfl, by omega, trivial, HN⟩, by simp only [intOf]; omega⟩
   ·have HN := Lib.hid (show ys.any id = true by rw [HS.out]; simp)
    clear HS
    go_wp2
    go_ret
    exact ⟨⟨k, rfl, by rw [HN.out]; simp⟩, rfl⟩
  ·have hkn : k = n := by omega
   subst hkn
   have HN := Lib.hid (show ys.any id = false by rw [hst.out, List.drop_of_length_le (by rw [HO.out.2]; omega)]; rfl)
   clear hst
   go_wp2
   go_ret
   exact ⟨⟨-1, rfl, by rw [HN.out]; simp⟩, rfl⟩

theorem contains_any (g cap n : Nat) (ys : List Bool) (hy : ys.length = n) (base : Nat) (w : World) (ho : w.ownsRow base 4 1 (.slice (some ⟨g, 0, none⟩) n cap) n (bools ys)) (hn2 : n ≤ 140737488355328) :
  Calls Tryz.prog 125 #[.slice (some ⟨g, 0, none⟩) n cap, .bool true] w fun e w' => e = .returned (.bool (ys.any id)) ∧ w = w' := by
 have H := Lib.hid (index_any g cap n ys hy base w ho hn2)
 clear ho hy
 go_enter Tryz.func125, Tryz.ntmps125
 go_wp2_with fail
 refine H.out.mono ?_
 rintro e w' ⟨⟨z, rfl, hz⟩, rfl⟩
 have HZ := Lib.hid (show decide (0 ≤ z) = ys.any id by
  by_cases h : 0 ≤ z
  ·rw [decide_eq_true h, hz.1 h]
  ·rw [decide_eq_false h]
   exact (Bool.eq_false_iff.2 fun k => h (hz.2 k)).symm)
 clear hz H
 go_wp2_with fail
 go_ret
 exact ⟨by rw [← HZ.out]; rfl, rfl⟩
end Vers
end Go.Proofs.YtkfdplfgaddkmaaGreat
