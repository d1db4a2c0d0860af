/-
  Several texts of this family in one: VersRight.
-/
import Derived.Test.YtkfdplfgaddkmaaGreatK6
/-
 vers.Right tells whether a set of versions is right.
-/
namespace Go.Proofs.YtkfdplfgaddkmaaGreat
namespace Vers
open Go.RowKit Span
attribute [local go_sem ↓] Go.wp_at_zero Go.wp_at_succ

theorem fineV_nil : FineV [] := ⟨by simp, List.Pairwise.nil⟩
theorem take_v {l : List Vr} {k : Nat} (h : k < l.length) : l.take (k + 1) = l.take k ++ [l.getD k v0] := by
 rw [List.take_succ_eq_append_getElem h]
 simp [List.getD_eq_getElem?_getD, h]
theorem fineV_step {l : List Vr} {k : Nat} (hk : k < l.length) (hf : FineV (l.take k)) (ho : okV (l.getD k v0)) (hd : 0 < k → dlt (l.getD (k - 1) v0) (l.getD k v0)) : FineV (l.take (k + 1)) := by
 rw [take_v hk]
 refine ⟨fun v hv => ?_, List.pairwise_append.2 ⟨hf.2, by simp, fun y hy z hz => ?_⟩⟩
 ·rcases List.mem_append.1 hv with hv | hv
  ·exact hf.1 v hv
  ·rw [List.mem_singleton.1 hv]; exact ho
 ·rw [List.mem_singleton.1 hz]
  obtain ⟨p, hp, rfl⟩ := List.getElem_of_mem hy
  have hpk : p < k := by simp at hp; omega
  have e : (l.take k)[p] = l.getD p v0 := by simp [List.getD_eq_getElem?_getD, show p < l.length by omega]
  rw [e]
  rcases Nat.eq_or_lt_of_le (show p ≤ k - 1 by omega) with h1 | h1
  ·rw [h1]; exact hd (by omega)
  ·have h2 := rising_at hf.2 (p := p) (q := k - 1) (by simp; omega) h1
   have e2 : ∀ q, q < k → (l.take k).getD q v0 = l.getD q v0 := fun q hq => by simp [List.getD_eq_getElem?_getD, hq]
   rw [e2 p hpk, e2 (k - 1) (by omega)] at h2
   exact dlt_trans h2 (hd (by omega))
theorem mem_v {l : List Vr} {k : Nat} (h : k < l.length) : l.getD k v0 ∈ l := by
 rw [List.getD_eq_getElem?_getD, List.getElem?_eq_getElem h]
 exact List.getElem_mem _
theorem fineV_bad {l : List Vr} {k : Nat} (hk : k < l.length) (ho : ¬ okV (l.getD k v0)) : decide (RightV l) = false := decide_eq_false fun h => ho (h.2.1.1 _ (mem_v hk))
theorem fineV_order {l : List Vr} {k : Nat} (hk : k < l.length) (h0 : 0 < k) (ho : ¬ dlt (l.getD (k - 1) v0) (l.getD k v0)) : decide (RightV l) = false := decide_eq_false fun h => ho (rising_at h.2.1.2 hk (by omega))
theorem seven_below {V V' : World} {m b o1 o2 : Nat} {x0 x1 x2 x3 x4 x5 x6 : Option Value} (hl : m < V.heap.size) (hb : b < V.heap.size) (h : Below V.heap.size V V')
  (k : V.cell? ⟨m, 0, none⟩ = x0 ∧ V.cell? ⟨m, 1, none⟩ = x1 ∧ V.cell? ⟨m, 2, none⟩ = x2 ∧ V.cell? ⟨m, 3, none⟩ = x3 ∧ V.cell? ⟨m, 4, none⟩ = x4 ∧ V.cell? ⟨b, o1, none⟩ = x5 ∧ V.cell? ⟨b, o2, none⟩ = x6) :
  V'.cell? ⟨m, 0, none⟩ = x0 ∧ V'.cell? ⟨m, 1, none⟩ = x1 ∧ V'.cell? ⟨m, 2, none⟩ = x2 ∧ V'.cell? ⟨m, 3, none⟩ = x3 ∧ V'.cell? ⟨m, 4, none⟩ = x4 ∧ V'.cell? ⟨b, o1, none⟩ = x5 ∧ V'.cell? ⟨b, o2, none⟩ = x6 :=
 ⟨(h.cell (p := ⟨m, 0, none⟩) hl).trans k.1, (h.cell (p := ⟨m, 1, none⟩) hl).trans k.2.1, (h.cell (p := ⟨m, 2, none⟩) hl).trans k.2.2.1, (h.cell (p := ⟨m, 3, none⟩) hl).trans k.2.2.2.1, (h.cell (p := ⟨m, 4, none⟩) hl).trans k.2.2.2.2.1,
  (h.cell (p := ⟨b, o1, none⟩) hb).trans k.2.2.2.2.2.1, (h.cell (p := ⟨b, o2, none⟩) hb).trans k.2.2.2.2.2.2⟩
theorem any_behind {l : List Vr} {ys : List Bool} {n : Nat} (hn : l.length = n) (hy : ys.length = n) (h : ∀ q, q < n → ys.getD q false = decide (behind l (l.getD q v0).s (l.getD q v0).n)) : (!ys.any id) = decide (∀ v ∈ l, ¬ behind l v.s v.n) := by
 by_cases hb : ∀ v ∈ l, ¬ behind l v.s v.n
 ·rw [decide_eq_true hb]
  have : ys.any id = false := by
   rw [List.any_eq_false]
   intro y hyy
   obtain ⟨q, hq, rfl⟩ := List.getElem_of_mem hyy
   have h1 := h q (by omega)
   rw [decide_eq_false (hb _ (mem_v (by omega)))] at h1
   simpa [List.getD_eq_getElem?_getD, hq] using h1
  rw [this]
  rfl
 ·rw [decide_eq_false hb]
  have : ys.any id = true := by
   obtain ⟨v, hv⟩ := Classical.not_forall.1 hb
   obtain ⟨hv1, hv2⟩ := Classical.not_imp.1 hv
   have hv3 := Classical.not_not.1 hv2
   obtain ⟨q, hq, rfl⟩ := List.getElem_of_mem hv1
   have h1 := h q (by omega)
   have e : l.getD q v0 = l[q] := by simp [List.getD_eq_getElem?_getD, hq]
   rw [e, decide_eq_true hv3] at h1
   rw [List.any_eq_true]
   refine ⟨ys[q], List.getElem_mem _, ?_⟩
   simpa [List.getD_eq_getElem?_getD, show q < ys.length by omega] using h1
  rw [this]
  rfl

set_option maxRecDepth 100000 in
set_option maxHeartbeats 4000000 in
theorem rightV_any (A : Option Addr) (c n : Nat) (l : List Vr) (hn : l.length = n) (w : World) (hv : Vs w 0 w.heap.size A l) (hn2 : n ≤ 140737488355328) :
  Calls Tryz.prog 99 #[.slice A n c] w fun e w' => e = .returned (.bool (decide (RightV l))) ∧ Below w.heap.size w w' := by
 obtain ⟨R, hR⟩ : ∃ R, decide (RightV l) = R := ⟨_, rfl⟩
 rw [hR]
 by_cases hlong : 512 < n
 ·have HF := Lib.hid (show R = false by rw [← hR]; exact decide_eq_false fun h => by have := h.1; omega)
  clear hv hn hR
  go_enter Tryz.func99, Tryz.ntmps99
  go_wp2
  go_ret
  exact ⟨by rw [HF.out]; rfl, Below.refl _ _⟩
 ·have HV := Lib.hid (And.intro hv (And.intro hn hR))
  clear hv hn hR
  go_enter Tryz.func99, Tryz.ntmps99
  go_wp2
  go_loopw [10] (fun iv wr => ∃ k : Nat, iv = .int .i64 k ∧ k ≤ n ∧ Below w.heap.size w wr ∧ Hid (FineV (l.take k))) (fun iv _ => n - (intOf iv).toNat)
  case atStart => exact ⟨0, rfl, by omega, Below.refl _ _, Lib.hid fineV_nil⟩
  case round =>
   obtain ⟨k, rfl, hk, hb, hst⟩ := hrel
   by_cases hlt : k < n
   ·obtain ⟨b, off, A1, c1, rfl, _, hbB, a0, a1, a2, a3, a4, hpa⟩ := HV.out.1.at HV.out.2.1 hb hlt rfl
    have hkl : k < l.length := by have := HV.out.2.1; omega
    have hstep := fineV_step hkl hst.out
    have hbad := fineV_bad hkl
    have hord := fun h0 => fineV_order hkl h0
    have hprev : 0 < k → ∃ ps pn, (l.getD (k - 1) v0).s = ps ∧ (l.getD (k - 1) v0).n = pn ∧ wr.cell? ⟨b, off + (k - 1) * 5, none⟩ = some (.int .i64 ps) ∧ wr.cell? ⟨b, off + (k - 1) * 5 + 1, none⟩ = some (.int .i64 pn) := fun h0 => by
     obtain ⟨b', off', A2, c2, e, _, _, p0, p1, _⟩ := HV.out.1.at HV.out.2.1 hb (show k - 1 < n by omega) rfl
     injection e with e
     injection e with e1 e2
     subst e1 e2
     exact ⟨_, _, rfl, rfl, p0, p1⟩
    have hpr : ∀ v : Vr, 0 < k → (dlt (l.getD (k - 1) v0) v ↔ ((l.getD (k - 1) v0).s < v.s ∨ ((l.getD (k - 1) v0).s = v.s ∧ (l.getD (k - 1) v0).n < v.n))) := fun v _ => Iff.rfl
    obtain ⟨v, hvv⟩ : ∃ v, l.getD k v0 = v := ⟨_, rfl⟩
    rw [hvv] at a0 a1 a2 a3 a4 hpa hstep hbad
    have hord' : ∀ (_ : 0 < k), ¬ dlt (l.getD (k - 1) v0) v → decide (RightV l) = false := fun h0 h => hord h0 (by rw [hvv]; exact h)
    clear hord hvv
    obtain ⟨s, vn, vp, vg, vx⟩ := v
    simp only at a0 a1 a2 a3 a4
    obtain ⟨hps, _, hpb, hxb, _⟩ := hpa
    simp only at hps hpb hxb
    obtain ⟨kp, hkp⟩ : ∃ kp, vp.length = kp := ⟨_, rfl⟩
    rw [hkp] at a2 hpb
    have hsz := hb.size
    have h1 := fun W hsp => rightone_any A1 c1 kp s vn vp vg vx hkp W hsp hpb hxb
    have hbs : b < wr.heap.size := by omega
    have HPS : Hid (∀ V, Below wr.heap.size wr V → Ss V V.heap.size A1 vp) := Lib.hid fun V hbV => ((hps.more hsz).below hbV).more hbV.size
    have HSZ := Lib.hid hsz
    have d1 : (0 : Int) ≤ (k : Int) := by omega
    have d2 : (k : Int) < (n : Int) := by omega
    obtain ⟨W, hW⟩ : ∃ W, wr.alloc (.cells #[.int .i64 s, .int .i64 vn, .slice A1 kp c1, .bool vg, .string vx] 119) = W := ⟨_, rfl⟩
    obtain ⟨m, hm⟩ : ∃ m, wr.heap.size = m := ⟨_, rfl⟩
    have y : W.cell? ⟨m, 0, none⟩ = some (.int .i64 s) ∧ W.cell? ⟨m, 1, none⟩ = some (.int .i64 vn) ∧ W.cell? ⟨m, 2, none⟩ = some (.slice A1 kp c1) ∧ W.cell? ⟨m, 3, none⟩ = some (.bool vg) ∧ W.cell? ⟨m, 4, none⟩ = some (.string vx) := by
     rw [← hW, ← hm]; exact ⟨by simp, by simp, by simp, by simp, by simp⟩
    have hl : m < W.heap.size := by rw [← hW, ← hm]; simp
    have B0 : Below wr.heap.size wr W := by rw [← hW]; exact (Below.refl _ wr).alloc (Nat.le_refl _) _
    have HSP : Hid (Ss W.drew W.drew.heap.size A1 vp) := Lib.hid (HPS.out _ B0.drew)
    have BW : Below w.heap.size w W := hb.trans (B0.mono hsz)
    have hWs : w.heap.size ≤ W.heap.size := BW.size
    have HW : Hid (wr.alloc (.cells #[.int .i64 s, .int .i64 vn, .slice A1 kp c1, .bool vg, .string vx] 119) = W ∧ wr.heap.size = m) := Lib.hid ⟨hW, hm⟩
    have hbW : b < W.heap.size := by have := B0.size; omega
    have hprev' : 0 < k → ∃ ps pn, (l.getD (k - 1) v0).s = ps ∧ (l.getD (k - 1) v0).n = pn ∧ W.cell? ⟨b, off + (k - 1) * 5, none⟩ = some (.int .i64 ps) ∧ W.cell? ⟨b, off + (k - 1) * 5 + 1, none⟩ = some (.int .i64 pn) := fun h0 => by
     obtain ⟨ps, pn, e1, e2, e3, e4⟩ := hprev h0
     exact ⟨ps, pn, e1, e2, (B0.cell (p := ⟨b, _, none⟩) hbs).trans e3, (B0.cell (p := ⟨b, _, none⟩) hbs).trans e4⟩
    clear hprev hkp hps hst HPS hb B0 hW hm
    by_cases cA : okV ⟨s, vn, vp, vg, vx⟩
    ·rw [decide_eq_true cA] at h1
     have H1 := Lib.hid h1
     by_cases h0 : 0 < k
     ·obtain ⟨ps, pn, e1, e2, p0, p1⟩ := hprev' h0
      have hpr' := hpr ⟨s, vn, vp, vg, vx⟩ h0
      rw [e1, e2] at hpr'
      simp only at hpr'
      have h2 := fun V => compare_any ps pn s vn V
      have hcl := cmpD_lt ps pn s vn
      obtain ⟨q, hq⟩ : ∃ q, cmpD ps pn s vn = q := ⟨_, rfl⟩
      rw [hq] at h2 hcl
      have HN := Lib.hid (show (q < 0 → FineV (l.take (k + 1))) ∧ (¬ q < 0 → R = false) from ⟨fun h => hstep cA fun _ => hpr'.2 (hcl.1 h), fun h => HV.out.2.2.symm.trans (hord' h0 fun hd => h (hcl.2 (hpr'.1 hd)))⟩)
      have H2 := Lib.hid h2
      have f0 : ((k : Int) - 1).toNat = k - 1 := by omega
      have f1 : (0 : Int) ≤ (k : Int) - 1 := by omega
      have f2 : (k : Int) - 1 < (n : Int) := by omega
      have f5 : (1 : Int) ≤ (k : Int) := by omega
      have f6 : (k : Int) ≤ (n : Int) := by omega
      have f7 : 1 ≤ k := by omega
      have f8 : ((k : Int) - 1 < (n : Int)) = True := eq_true (by omega)
      have f9 : (0 ≤ (k : Int) - 1) = True := eq_true (by omega)
      have f3 : decide ((0 : Int) < (k : Int)) = true := decide_eq_true (by omega)
      have f4 : IntKind.i64.wrap ((k : Int) - 1) = (k : Int) - 1 := IntWalk.i64_in _ (by omega)
      have y7 : W.cell? ⟨m, 0, none⟩ = some (.int .i64 s) ∧ W.cell? ⟨m, 1, none⟩ = some (.int .i64 vn) ∧ W.cell? ⟨m, 2, none⟩ = some (.slice A1 kp c1) ∧ W.cell? ⟨m, 3, none⟩ = some (.bool vg) ∧ W.cell? ⟨m, 4, none⟩ = some (.string vx) ∧ W.cell? ⟨b, off + (k - 1) * 5, none⟩ = some (.int .i64 ps) ∧ W.cell? ⟨b, off + (k - 1) * 5 + 1, none⟩ = some (.int .i64 pn) := ⟨y.1, y.2.1, y.2.2.1, y.2.2.2.1, y.2.2.2.2, p0, p1⟩
      clear h1 hpr hpr' hord' hbad hstep hprev' e1 e2 h2 hcl hq cA p0 p1 y
      by_cases hq0 : q < 0
      ·have g0 : decide (0 ≤ q) = false := decide_eq_false (by omega)
       have HF := Lib.hid (HN.out.1 hq0)
       clear HN hq0
       go_wp2_with fail
       rw [HW.out.1, HW.out.2]
       refine wp_region_held_drew (S := (fun V => V.cell? ⟨m, 0, none⟩ = some (.int .i64 s) ∧ V.cell? ⟨m, 1, none⟩ = some (.int .i64 vn) ∧ V.cell? ⟨m, 2, none⟩ = some (.slice A1 kp c1) ∧ V.cell? ⟨m, 3, none⟩ = some (.bool vg) ∧ V.cell? ⟨m, 4, none⟩ = some (.string vx) ∧ V.cell? ⟨b, off + (k - 1) * 5, none⟩ = some (.int .i64 ps) ∧ V.cell? ⟨b, off + (k - 1) * 5 + 1, none⟩ = some (.int .i64 pn))) (by kernel_rfl) y7 (fun hHeld => ?_)
       refine wpAnyH_take (i := 0) (oi := { dst := some 15, op := Op.load 119 (Operand.tmp 4), type := 119, pos := "vers.go:28", after := #[], guard := none }) (v := ?va1) rfl (by kernel_rfl) (by kernel_rfl) (by kernel_rfl) (fun _ _ _ h => h) (Or.inl ⟨by rfl, ?hya1⟩) (by assumption) ?resta1
       case hya1 =>
        intro w hSw
        (try dsimp only at hSw)
        go_simp
        (try with_reducible rfl)
       (try simp only [Act.put, List.setIfInBounds_toArray, List.set_cons_zero, List.set_cons_succ])
       refine wpAnyH_ready (rs := [1]) (by kernel_rfl) (by simp) ?_
       refine AllReadyH.cons (o := { dst := some 16, op := Op.call { callee := Callee.value (Operand.func 123), args := #[Operand.tmp 15], argTypes := #[119] }, type := 4, pos := "vers.go:28", after := #[{ on := 0, ground := Ground.data }], guard := none }) rfl (fun K hK => ?_) AllReadyH.nil
       go_simp
       (go_at_call 123; refine (H1.out _ HSP.out).mono ?_; rintro e w1 ⟨rfl, b1⟩)
       go_wp2_with fail
       refine hK.out _ _ (seven_below (by exact hl) (by exact hbW) b1 hHeld) (fun hHeld => ?_)
       clear hK K
       (try simp only [Act.put, List.setIfInBounds_toArray, List.set_cons_zero, List.set_cons_succ])
       refine wpAnyH_take (i := 2) (oi := { dst := some 17, op := Op.unOp UnOp.not 4 (Operand.tmp 16), type := 4, pos := "vers.go:28", after := #[{ on := 1, ground := Ground.data }], guard := none }) (v := ?va2) rfl (by kernel_rfl) (by kernel_rfl) (by kernel_rfl) (fun _ _ _ h => h) (Or.inl ⟨by rfl, ?hya2⟩) (by assumption) ?resta2
       case hya2 =>
        intro w hSw
        (try dsimp only at hSw)
        go_simp
        (try with_reducible rfl)
       (try simp only [Act.put, List.setIfInBounds_toArray, List.set_cons_zero, List.set_cons_succ])
       refine wpAnyH_take (i := 3) (oi := { dst := some 18, op := Op.move (Operand.tmp 17), type := 4, pos := "vers.go:28", after := #[{ on := 2, ground := Ground.data }, { on := 1, ground := Ground.chain }], guard := none }) (v := ?va3) rfl (by kernel_rfl) (by kernel_rfl) (by kernel_rfl) (fun _ _ _ h => h) (Or.inl ⟨by rfl, ?hya3⟩) (by assumption) ?resta3
       case hya3 =>
        intro w hSw
        (try dsimp only at hSw)
        go_simp
        (try with_reducible rfl)
       (try simp only [Act.put, List.setIfInBounds_toArray, List.set_cons_zero, List.set_cons_succ])
       refine wpAnyH_take (i := 4) (oi := { dst := some 19, op := Op.move (Operand.tmp 3), type := 3, pos := "vers.go:28", after := #[{ on := 3, ground := Ground.guard }], guard := some (3, false) }) (v := ?va4) rfl (by kernel_rfl) (by kernel_rfl) (by kernel_rfl) (fun _ _ _ h => h) (Or.inl ⟨by rfl, ?hya4⟩) (by assumption) ?resta4
       case hya4 =>
        intro w hSw
        (try dsimp only at hSw)
        go_simp
        (try with_reducible rfl)
       (try simp only [Act.put, List.setIfInBounds_toArray, List.set_cons_zero, List.set_cons_succ])
       refine wpAnyH_take (i := 5) (oi := { dst := some 20, op := Op.binOp BinOp.gtr 3 (Operand.tmp 19) (Operand.const (Value.int IntKind.i64 0)) 3, type := 4, pos := "vers.go:28", after := #[{ on := 4, ground := Ground.data }, { on := 3, ground := Ground.guard }], guard := some (3, false) }) (v := ?va5) rfl (by kernel_rfl) (by kernel_rfl) (by kernel_rfl) (fun _ _ _ h => h) (Or.inl ⟨by rfl, ?hya5⟩) (by assumption) ?resta5
       case hya5 =>
        intro w hSw
        (try dsimp only at hSw)
        go_simp
        (try with_reducible rfl)
       (try simp only [Act.put, List.setIfInBounds_toArray, List.set_cons_zero, List.set_cons_succ])
       refine wpAnyH_take (i := 6) (oi := { dst := some 21, op := Op.move (Operand.tmp 20), type := 4, pos := "vers.go:28", after := #[{ on := 5, ground := Ground.data }, { on := 3, ground := Ground.chain }, { on := 3, ground := Ground.guard }], guard := some (3, false) }) (v := ?va6) rfl (by kernel_rfl) (by kernel_rfl) (by kernel_rfl) (fun _ _ _ h => h) (Or.inl ⟨by rfl, ?hya6⟩) (by assumption) ?resta6
       case hya6 =>
        intro w hSw
        (try dsimp only at hSw)
        go_simp
        (try with_reducible rfl)
       (try simp only [Act.put, List.setIfInBounds_toArray, List.set_cons_zero, List.set_cons_succ])
       refine wpAnyH_take (i := 7) (oi := { dst := some 22, op := Op.move (Operand.tmp 0), type := 67, pos := "vers.go:28", after := #[{ on := 6, ground := Ground.guard }], guard := some (6, true) }) (v := ?va7) rfl (by kernel_rfl) (by kernel_rfl) (by kernel_rfl) (fun _ _ _ h => h) (Or.inl ⟨by rfl, ?hya7⟩) (by assumption) ?resta7
       case hya7 =>
        intro w hSw
        (try dsimp only at hSw)
        go_simp
        (try with_reducible rfl)
       (try simp only [Act.put, List.setIfInBounds_toArray, List.set_cons_zero, List.set_cons_succ])
       refine wpAnyH_take (i := 8) (oi := { dst := some 23, op := Op.move (Operand.tmp 3), type := 3, pos := "vers.go:28", after := #[{ on := 6, ground := Ground.guard }], guard := some (6, true) }) (v := ?va8) rfl (by kernel_rfl) (by kernel_rfl) (by kernel_rfl) (fun _ _ _ h => h) (Or.inl ⟨by rfl, ?hya8⟩) (by assumption) ?resta8
       case hya8 =>
        intro w hSw
        (try dsimp only at hSw)
        go_simp
        (try with_reducible rfl)
       (try simp only [Act.put, List.setIfInBounds_toArray, List.set_cons_zero, List.set_cons_succ])
       refine wpAnyH_take (i := 9) (oi := { dst := some 24, op := Op.binOp BinOp.sub 3 (Operand.tmp 23) (Operand.const (Value.int IntKind.i64 1)) 3, type := 3, pos := "vers.go:28", after := #[{ on := 8, ground := Ground.data }, { on := 6, ground := Ground.guard }], guard := some (6, true) }) (v := ?va9) rfl (by kernel_rfl) (by kernel_rfl) (by kernel_rfl) (fun _ _ _ h => h) (Or.inl ⟨by rfl, ?hya9⟩) (by assumption) ?resta9
       case hya9 =>
        intro w hSw
        (try dsimp only at hSw)
        go_simp
        (try with_reducible rfl)
       (try simp only [Act.put, List.setIfInBounds_toArray, List.set_cons_zero, List.set_cons_succ])
       refine wpAnyH_take (i := 10) (oi := { dst := some 25, op := Op.indexAddr 67 (Operand.tmp 22) (Operand.tmp 24), type := 0, pos := "vers.go:28", after := #[{ on := 7, ground := Ground.data }, { on := 9, ground := Ground.data }, { on := 6, ground := Ground.guard }], guard := some (6, true) }) (v := ?va10) rfl (by kernel_rfl) (by kernel_rfl) (by kernel_rfl) (fun _ _ _ h => h) (Or.inl ⟨by rfl, ?hya10⟩) (by assumption) ?resta10
       case hya10 =>
        intro w hSw
        (try dsimp only at hSw)
        go_simp
        (try with_reducible rfl)
       (try simp only [Act.put, List.setIfInBounds_toArray, List.set_cons_zero, List.set_cons_succ])
       refine wpAnyH_take (i := 11) (oi := { dst := some 26, op := Op.fieldAddr 119 (Operand.tmp 25) 0, type := 0, pos := "vers.go:28", after := #[{ on := 10, ground := Ground.data }, { on := 6, ground := Ground.guard }], guard := some (6, true) }) (v := ?va11) rfl (by kernel_rfl) (by kernel_rfl) (by kernel_rfl) (fun _ _ _ h => h) (Or.inl ⟨by rfl, ?hya11⟩) (by assumption) ?resta11
       case hya11 =>
        intro w hSw
        (try dsimp only at hSw)
        go_simp
        (try with_reducible rfl)
       (try simp only [Act.put, List.setIfInBounds_toArray, List.set_cons_zero, List.set_cons_succ])
       refine wpAnyH_take (i := 12) (oi := { dst := some 27, op := Op.load 116 (Operand.tmp 26), type := 116, pos := "vers.go:28", after := #[{ on := 11, ground := Ground.data }, { on := 6, ground := Ground.guard }], guard := some (6, true) }) (v := ?va12) rfl (by kernel_rfl) (by kernel_rfl) (by kernel_rfl) (fun _ _ _ h => h) (Or.inl ⟨by rfl, ?hya12⟩) (by assumption) ?resta12
       case hya12 =>
        intro w hSw
        (try dsimp only at hSw)
        go_simp
        (try with_reducible rfl)
       (try simp only [Act.put, List.setIfInBounds_toArray, List.set_cons_zero, List.set_cons_succ])
       refine wpAnyH_take (i := 13) (oi := { dst := some 28, op := Op.fieldAddr 119 (Operand.tmp 4) 0, type := 0, pos := "vers.go:28", after := #[{ on := 6, ground := Ground.guard }], guard := some (6, true) }) (v := ?va13) rfl (by kernel_rfl) (by kernel_rfl) (by kernel_rfl) (fun _ _ _ h => h) (Or.inl ⟨by rfl, ?hya13⟩) (by assumption) ?resta13
       case hya13 =>
        intro w hSw
        (try dsimp only at hSw)
        go_simp
        (try with_reducible rfl)
       (try simp only [Act.put, List.setIfInBounds_toArray, List.set_cons_zero, List.set_cons_succ])
       refine wpAnyH_take (i := 14) (oi := { dst := some 29, op := Op.load 116 (Operand.tmp 28), type := 116, pos := "vers.go:28", after := #[{ on := 13, ground := Ground.data }, { on := 6, ground := Ground.guard }], guard := some (6, true) }) (v := ?va14) rfl (by kernel_rfl) (by kernel_rfl) (by kernel_rfl) (fun _ _ _ h => h) (Or.inl ⟨by rfl, ?hya14⟩) (by assumption) ?resta14
       case hya14 =>
        intro w hSw
        (try dsimp only at hSw)
        go_simp
        (try with_reducible rfl)
       (try simp only [Act.put, List.setIfInBounds_toArray, List.set_cons_zero, List.set_cons_succ])
       refine wpAnyH_ready (rs := [15]) (by kernel_rfl) (by simp) ?_
       refine AllReadyH.cons (o := { dst := some 30, op := Op.call { callee := Callee.value (Operand.func 124), args := #[Operand.tmp 27, Operand.tmp 29], argTypes := #[116, 116] }, type := 3, pos := "vers.go:28", after := #[{ on := 12, ground := Ground.data }, { on := 14, ground := Ground.data }, { on := 6, ground := Ground.chain }, { on := 6, ground := Ground.guard }], guard := some (6, true) }) rfl (fun K hK => ?_) AllReadyH.nil
       go_simp
       (go_at_call 124; refine (H2.out _).mono ?_; rintro e w2 ⟨rfl, b2⟩)
       go_wp2_with fail
       refine hK.out _ _ (seven_below (Nat.lt_of_lt_of_le hl b1.size) (Nat.lt_of_lt_of_le hbW b1.size) b2 hHeld) (fun hHeld => ?_)
       clear hK K
       (try simp only [Act.put, List.setIfInBounds_toArray, List.set_cons_zero, List.set_cons_succ])
       refine wpAnyH_take (i := 16) (oi := { dst := some 31, op := Op.binOp BinOp.geq 3 (Operand.tmp 30) (Operand.const (Value.int IntKind.i64 0)) 3, type := 4, pos := "vers.go:28", after := #[{ on := 15, ground := Ground.data }, { on := 6, ground := Ground.guard }], guard := some (6, true) }) (v := ?va15) rfl (by kernel_rfl) (by kernel_rfl) (by kernel_rfl) (fun _ _ _ h => h) (Or.inl ⟨by rfl, ?hya15⟩) (by assumption) ?resta15
       case hya15 =>
        intro w hSw
        (try dsimp only at hSw)
        go_simp
        (try with_reducible rfl)
       (try simp only [Act.put, List.setIfInBounds_toArray, List.set_cons_zero, List.set_cons_succ])
       refine wpAnyH_take (i := 17) (oi := { dst := some 32, op := Op.pick (Operand.tmp 21) (Operand.tmp 31) (Operand.const (Value.bool false)), type := 4, pos := "vers.go:28", after := #[{ on := 6, ground := Ground.data }, { on := 16, ground := Ground.data }, { on := 3, ground := Ground.guard }], guard := some (3, false) }) (v := ?va16) rfl (by kernel_rfl) (by kernel_rfl) (by kernel_rfl) (fun _ _ _ h => h) (Or.inl ⟨by rfl, ?hya16⟩) (by assumption) ?resta16
       case hya16 =>
        intro w hSw
        (try dsimp only at hSw)
        go_simp
        (try with_reducible rfl)
       (try simp only [Act.put, List.setIfInBounds_toArray, List.set_cons_zero, List.set_cons_succ])
       refine wpAnyH_take (i := 18) (oi := { dst := some 33, op := Op.pick (Operand.tmp 18) (Operand.const (Value.bool true)) (Operand.tmp 32), type := 4, pos := "vers.go:28", after := #[{ on := 3, ground := Ground.data }, { on := 17, ground := Ground.data }], guard := none }) (v := ?va17) rfl (by kernel_rfl) (by kernel_rfl) (by kernel_rfl) (fun _ _ _ h => h) (Or.inl ⟨by rfl, ?hya17⟩) (by assumption) ?resta17
       case hya17 =>
        intro w hSw
        (try dsimp only at hSw)
        go_simp
        (try with_reducible rfl)
       (try simp only [Act.put, List.setIfInBounds_toArray, List.set_cons_zero, List.set_cons_succ])
       refine wpAnyH_done (by kernel_rfl) ?_ _
       have BE : Below w.heap.size w w2 := BW.drew.trans ((b1.trans (b2.mono b1.size)).mono hWs)
       clear b1 b2 BW
       go_wp2_with fail
       exact ⟨⟨k + 1, rfl, by omega, BE, HF⟩, by simp only [intOf]; omega⟩
      ·have g0 : decide (0 ≤ q) = true := decide_eq_true (by omega)
       have HF := Lib.hid (HN.out.2 hq0)
       clear HN hq0
       go_wp2_with fail
       rw [HW.out.1, HW.out.2]
       refine wp_region_held_drew (S := (fun V => V.cell? ⟨m, 0, none⟩ = some (.int .i64 s) ∧ V.cell? ⟨m, 1, none⟩ = some (.int .i64 vn) ∧ V.cell? ⟨m, 2, none⟩ = some (.slice A1 kp c1) ∧ V.cell? ⟨m, 3, none⟩ = some (.bool vg) ∧ V.cell? ⟨m, 4, none⟩ = some (.string vx) ∧ V.cell? ⟨b, off + (k - 1) * 5, none⟩ = some (.int .i64 ps) ∧ V.cell? ⟨b, off + (k - 1) * 5 + 1, none⟩ = some (.int .i64 pn))) (by kernel_rfl) y7 (fun hHeld => ?_)
       refine wpAnyH_take (i := 0) (oi := { dst := some 15, op := Op.load 119 (Operand.tmp 4), type := 119, pos := "vers.go:28", after := #[], guard := none }) (v := ?vb1) rfl (by kernel_rfl) (by kernel_rfl) (by kernel_rfl) (fun _ _ _ h => h) (Or.inl ⟨by rfl, ?hyb1⟩) (by assumption) ?restb1
       case hyb1 =>
        intro w hSw
        (try dsimp only at hSw)
        go_simp
        (try with_reducible rfl)
       (try simp only [Act.put, List.setIfInBounds_toArray, List.set_cons_zero, List.set_cons_succ])
       refine wpAnyH_ready (rs := [1]) (by kernel_rfl) (by simp) ?_
       refine AllReadyH.cons (o := { dst := some 16, op := Op.call { callee := Callee.value (Operand.func 123), args := #[Operand.tmp 15], argTypes := #[119] }, type := 4, pos := "vers.go:28", after := #[{ on := 0, ground := Ground.data }], guard := none }) rfl (fun K hK => ?_) AllReadyH.nil
       go_simp
       (go_at_call 123; refine (H1.out _ HSP.out).mono ?_; rintro e w1 ⟨rfl, b1⟩)
       go_wp2_with fail
       refine hK.out _ _ (seven_below (by exact hl) (by exact hbW) b1 hHeld) (fun hHeld => ?_)
       clear hK K
       (try simp only [Act.put, List.setIfInBounds_toArray, List.set_cons_zero, List.set_cons_succ])
       refine wpAnyH_take (i := 2) (oi := { dst := some 17, op := Op.unOp UnOp.not 4 (Operand.tmp 16), type := 4, pos := "vers.go:28", after := #[{ on := 1, ground := Ground.data }], guard := none }) (v := ?vb2) rfl (by kernel_rfl) (by kernel_rfl) (by kernel_rfl) (fun _ _ _ h => h) (Or.inl ⟨by rfl, ?hyb2⟩) (by assumption) ?restb2
       case hyb2 =>
        intro w hSw
        (try dsimp only at hSw)
        go_simp
        (try with_reducible rfl)
       (try simp only [Act.put, List.setIfInBounds_toArray, List.set_cons_zero, List.set_cons_succ])
       refine wpAnyH_take (i := 3) (oi := { dst := some 18, op := Op.move (Operand.tmp 17), type := 4, pos := "vers.go:28", after := #[{ on := 2, ground := Ground.data }, { on := 1, ground := Ground.chain }], guard := none }) (v := ?vb3) rfl (by kernel_rfl) (by kernel_rfl) (by kernel_rfl) (fun _ _ _ h => h) (Or.inl ⟨by rfl, ?hyb3⟩) (by assumption) ?restb3
       case hyb3 =>
        intro w hSw
        (try dsimp only at hSw)
        go_simp
        (try with_reducible rfl)
       (try simp only [Act.put, List.setIfInBounds_toArray, List.set_cons_zero, List.set_cons_succ])
       refine wpAnyH_take (i := 4) (oi := { dst := some 19, op := Op.move (Operand.tmp 3), type := 3, pos := "vers.go:28", after := #[{ on := 3, ground := Ground.guard }], guard := some (3, false) }) (v := ?vb4) rfl (by kernel_rfl) (by kernel_rfl) (by kernel_rfl) (fun _ _ _ h => h) (Or.inl ⟨by rfl, ?hyb4⟩) (by assumption) ?restb4
       case hyb4 =>
        intro w hSw
        (try dsimp only at hSw)
        go_simp
        (try with_reducible rfl)
       (try simp only [Act.put, List.setIfInBounds_toArray, List.set_cons_zero, List.set_cons_succ])
       refine wpAnyH_take (i := 5) (oi := { dst := some 20, op := Op.binOp BinOp.gtr 3 (Operand.tmp 19) (Operand.const (Value.int IntKind.i64 0)) 3, type := 4, pos := "vers.go:28", after := #[{ on := 4, ground := Ground.data }, { on := 3, ground := Ground.guard }], guard := some (3, false) }) (v := ?vb5) rfl (by kernel_rfl) (by kernel_rfl) (by kernel_rfl) (fun _ _ _ h => h) (Or.inl ⟨by rfl, ?hyb5⟩) (by assumption) ?restb5
       case hyb5 =>
        intro w hSw
        (try dsimp only at hSw)
        go_simp
        (try with_reducible rfl)
       (try simp only [Act.put, List.setIfInBounds_toArray, List.set_cons_zero, List.set_cons_succ])
       refine wpAnyH_take (i := 6) (oi := { dst := some 21, op := Op.move (Operand.tmp 20), type := 4, pos := "vers.go:28", after := #[{ on := 5, ground := Ground.data }, { on := 3, ground := Ground.chain }, { on := 3, ground := Ground.guard }], guard := some (3, false) }) (v := ?vb6) rfl (by kernel_rfl) (by kernel_rfl) (by kernel_rfl) (fun _ _ _ h => h) (Or.inl ⟨by rfl, ?hyb6⟩) (by assumption) ?restb6
       case hyb6 =>
        intro w hSw
        (try dsimp only at hSw)
        go_simp
        (try with_reducible rfl)
       (try simp only [Act.put, List.setIfInBounds_toArray, List.set_cons_zero, List.set_cons_succ])
       refine wpAnyH_take (i := 7) (oi := { dst := some 22, op := Op.move (Operand.tmp 0), type := 67, pos := "vers.go:28", after := #[{ on := 6, ground := Ground.guard }], guard := some (6, true) }) (v := ?vb7) rfl (by kernel_rfl) (by kernel_rfl) (by kernel_rfl) (fun _ _ _ h => h) (Or.inl ⟨by rfl, ?hyb7⟩) (by assumption) ?restb7
       case hyb7 =>
        intro w hSw
        (try dsimp only at hSw)
        go_simp
        (try with_reducible rfl)
       (try simp only [Act.put, List.setIfInBounds_toArray, List.set_cons_zero, List.set_cons_succ])
       refine wpAnyH_take (i := 8) (oi := { dst := some 23, op := Op.move (Operand.tmp 3), type := 3, pos := "vers.go:28", after := #[{ on := 6, ground := Ground.guard }], guard := some (6, true) }) (v := ?vb8) rfl (by kernel_rfl) (by kernel_rfl) (by kernel_rfl) (fun _ _ _ h => h) (Or.inl ⟨by rfl, ?hyb8⟩) (by assumption) ?restb8
       case hyb8 =>
        intro w hSw
        (try dsimp only at hSw)
        go_simp
        (try with_reducible rfl)
       (try simp only [Act.put, List.setIfInBounds_toArray, List.set_cons_zero, List.set_cons_succ])
       refine wpAnyH_take (i := 9) (oi := { dst := some 24, op := Op.binOp BinOp.sub 3 (Operand.tmp 23) (Operand.const (Value.int IntKind.i64 1)) 3, type := 3, pos := "vers.go:28", after := #[{ on := 8, ground := Ground.data }, { on := 6, ground := Ground.guard }], guard := some (6, true) }) (v := ?vb9) rfl (by kernel_rfl) (by kernel_rfl) (by kernel_rfl) (fun _ _ _ h => h) (Or.inl ⟨by rfl, ?hyb9⟩) (by assumption) ?restb9
       case hyb9 =>
        intro w hSw
        (try dsimp only at hSw)
        go_simp
        (try with_reducible rfl)
       (try simp only [Act.put, List.setIfInBounds_toArray, List.set_cons_zero, List.set_cons_succ])
       refine wpAnyH_take (i := 10) (oi := { dst := some 25, op := Op.indexAddr 67 (Operand.tmp 22) (Operand.tmp 24), type := 0, pos := "vers.go:28", after := #[{ on := 7, ground := Ground.data }, { on := 9, ground := Ground.data }, { on := 6, ground := Ground.guard }], guard := some (6, true) }) (v := ?vb10) rfl (by kernel_rfl) (by kernel_rfl) (by kernel_rfl) (fun _ _ _ h => h) (Or.inl ⟨by rfl, ?hyb10⟩) (by assumption) ?restb10
       case hyb10 =>
        intro w hSw
        (try dsimp only at hSw)
        go_simp
        (try with_reducible rfl)
       (try simp only [Act.put, List.setIfInBounds_toArray, List.set_cons_zero, List.set_cons_succ])
       refine wpAnyH_take (i := 11) (oi := { dst := some 26, op := Op.fieldAddr 119 (Operand.tmp 25) 0, type := 0, pos := "vers.go:28", after := #[{ on := 10, ground := Ground.data }, { on := 6, ground := Ground.guard }], guard := some (6, true) }) (v := ?vb11) rfl (by kernel_rfl) (by kernel_rfl) (by kernel_rfl) (fun _ _ _ h => h) (Or.inl ⟨by rfl, ?hyb11⟩) (by assumption) ?restb11
       case hyb11 =>
        intro w hSw
        (try dsimp only at hSw)
        go_simp
        (try with_reducible rfl)
       (try simp only [Act.put, List.setIfInBounds_toArray, List.set_cons_zero, List.set_cons_succ])
       refine wpAnyH_take (i := 12) (oi := { dst := some 27, op := Op.load 116 (Operand.tmp 26), type := 116, pos := "vers.go:28", after := #[{ on := 11, ground := Ground.data }, { on := 6, ground := Ground.guard }], guard := some (6, true) }) (v := ?vb12) rfl (by kernel_rfl) (by kernel_rfl) (by kernel_rfl) (fun _ _ _ h => h) (Or.inl ⟨by rfl, ?hyb12⟩) (by assumption) ?restb12
       case hyb12 =>
        intro w hSw
        (try dsimp only at hSw)
        go_simp
        (try with_reducible rfl)
       (try simp only [Act.put, List.setIfInBounds_toArray, List.set_cons_zero, List.set_cons_succ])
       refine wpAnyH_take (i := 13) (oi := { dst := some 28, op := Op.fieldAddr 119 (Operand.tmp 4) 0, type := 0, pos := "vers.go:28", after := #[{ on := 6, ground := Ground.guard }], guard := some (6, true) }) (v := ?vb13) rfl (by kernel_rfl) (by kernel_rfl) (by kernel_rfl) (fun _ _ _ h => h) (Or.inl ⟨by rfl, ?hyb13⟩) (by assumption) ?restb13
       case hyb13 =>
        intro w hSw
        (try dsimp only at hSw)
        go_simp
        (try with_reducible rfl)
       (try simp only [Act.put, List.setIfInBounds_toArray, List.set_cons_zero, List.set_cons_succ])
       refine wpAnyH_take (i := 14) (oi := { dst := some 29, op := Op.load 116 (Operand.tmp 28), type := 116, pos := "vers.go:28", after := #[{ on := 13, ground := Ground.data }, { on := 6, ground := Ground.guard }], guard := some (6, true) }) (v := ?vb14) rfl (by kernel_rfl) (by kernel_rfl) (by kernel_rfl) (fun _ _ _ h => h) (Or.inl ⟨by rfl, ?hyb14⟩) (by assumption) ?restb14
       case hyb14 =>
        intro w hSw
        (try dsimp only at hSw)
        go_simp
        (try with_reducible rfl)
       (try simp only [Act.put, List.setIfInBounds_toArray, List.set_cons_zero, List.set_cons_succ])
       refine wpAnyH_ready (rs := [15]) (by kernel_rfl) (by simp) ?_
       refine AllReadyH.cons (o := { dst := some 30, op := Op.call { callee := Callee.value (Operand.func 124), args := #[Operand.tmp 27, Operand.tmp 29], argTypes := #[116, 116] }, type := 3, pos := "vers.go:28", after := #[{ on := 12, ground := Ground.data }, { on := 14, ground := Ground.data }, { on := 6, ground := Ground.chain }, { on := 6, ground := Ground.guard }], guard := some (6, true) }) rfl (fun K hK => ?_) AllReadyH.nil
       go_simp
       (go_at_call 124; refine (H2.out _).mono ?_; rintro e w2 ⟨rfl, b2⟩)
       go_wp2_with fail
       refine hK.out _ _ (seven_below (Nat.lt_of_lt_of_le hl b1.size) (Nat.lt_of_lt_of_le hbW b1.size) b2 hHeld) (fun hHeld => ?_)
       clear hK K
       (try simp only [Act.put, List.setIfInBounds_toArray, List.set_cons_zero, List.set_cons_succ])
       refine wpAnyH_take (i := 16) (oi := { dst := some 31, op := Op.binOp BinOp.geq 3 (Operand.tmp 30) (Operand.const (Value.int IntKind.i64 0)) 3, type := 4, pos := "vers.go:28", after := #[{ on := 15, ground := Ground.data }, { on := 6, ground := Ground.guard }], guard := some (6, true) }) (v := ?vb15) rfl (by kernel_rfl) (by kernel_rfl) (by kernel_rfl) (fun _ _ _ h => h) (Or.inl ⟨by rfl, ?hyb15⟩) (by assumption) ?restb15
       case hyb15 =>
        intro w hSw
        (try dsimp only at hSw)
        go_simp
        (try with_reducible rfl)
       (try simp only [Act.put, List.setIfInBounds_toArray, List.set_cons_zero, List.set_cons_succ])
       refine wpAnyH_take (i := 17) (oi := { dst := some 32, op := Op.pick (Operand.tmp 21) (Operand.tmp 31) (Operand.const (Value.bool false)), type := 4, pos := "vers.go:28", after := #[{ on := 6, ground := Ground.data }, { on := 16, ground := Ground.data }, { on := 3, ground := Ground.guard }], guard := some (3, false) }) (v := ?vb16) rfl (by kernel_rfl) (by kernel_rfl) (by kernel_rfl) (fun _ _ _ h => h) (Or.inl ⟨by rfl, ?hyb16⟩) (by assumption) ?restb16
       case hyb16 =>
        intro w hSw
        (try dsimp only at hSw)
        go_simp
        (try with_reducible rfl)
       (try simp only [Act.put, List.setIfInBounds_toArray, List.set_cons_zero, List.set_cons_succ])
       refine wpAnyH_take (i := 18) (oi := { dst := some 33, op := Op.pick (Operand.tmp 18) (Operand.const (Value.bool true)) (Operand.tmp 32), type := 4, pos := "vers.go:28", after := #[{ on := 3, ground := Ground.data }, { on := 17, ground := Ground.data }], guard := none }) (v := ?vb17) rfl (by kernel_rfl) (by kernel_rfl) (by kernel_rfl) (fun _ _ _ h => h) (Or.inl ⟨by rfl, ?hyb17⟩) (by assumption) ?restb17
       case hyb17 =>
        intro w hSw
        (try dsimp only at hSw)
        go_simp
        (try with_reducible rfl)
       (try simp only [Act.put, List.setIfInBounds_toArray, List.set_cons_zero, List.set_cons_succ])
       refine wpAnyH_done (by kernel_rfl) ?_ _
       have BE : Below w.heap.size w w2 := BW.drew.trans ((b1.trans (b2.mono b1.size)).mono hWs)
       clear b1 b2 BW
       go_wp2_with fail
       go_ret
       exact ⟨by rw [HF.out]; rfl, BE⟩
     ·have HF := Lib.hid (hstep cA fun h => absurd h h0)
      have f3 : decide ((0 : Int) < (k : Int)) = false := decide_eq_false (by omega)
      have f3' : decide (0 < k) = false := decide_eq_false h0
      clear h1 hpr hord' hbad hstep hprev' cA
      go_wp2_with fail
      rw [HW.out.1, HW.out.2]
      refine wp_region_held_drew (S := (fun V => V.cell? ⟨m, 0, none⟩ = some (.int .i64 s) ∧ V.cell? ⟨m, 1, none⟩ = some (.int .i64 vn) ∧ V.cell? ⟨m, 2, none⟩ = some (.slice A1 kp c1) ∧ V.cell? ⟨m, 3, none⟩ = some (.bool vg) ∧ V.cell? ⟨m, 4, none⟩ = some (.string vx))) (by kernel_rfl) y (fun hHeld => ?_)
      refine wpAnyH_take (i := 0) (oi := { dst := some 15, op := Op.load 119 (Operand.tmp 4), type := 119, pos := "vers.go:28", after := #[], guard := none }) (v := ?vc1) rfl (by kernel_rfl) (by kernel_rfl) (by kernel_rfl) (fun _ _ _ h => h) (Or.inl ⟨by rfl, ?hyc1⟩) (by assumption) ?restc1
      case hyc1 =>
       intro w hSw
       (try dsimp only at hSw)
       go_simp
       (try with_reducible rfl)
      (try simp only [Act.put, List.setIfInBounds_toArray, List.set_cons_zero, List.set_cons_succ])
      refine wpAnyH_ready (rs := [1]) (by kernel_rfl) (by simp) ?_
      refine AllReadyH.cons (o := { dst := some 16, op := Op.call { callee := Callee.value (Operand.func 123), args := #[Operand.tmp 15], argTypes := #[119] }, type := 4, pos := "vers.go:28", after := #[{ on := 0, ground := Ground.data }], guard := none }) rfl (fun K hK => ?_) AllReadyH.nil
      go_simp
      (go_at_call 123; refine (H1.out _ HSP.out).mono ?_; rintro e w1 ⟨rfl, b1⟩)
      go_wp2_with fail
      refine hK.out _ _ (five_below (by exact hl) b1 hHeld) (fun hHeld => ?_)
      clear hK K
      (try simp only [Act.put, List.setIfInBounds_toArray, List.set_cons_zero, List.set_cons_succ])
      refine wpAnyH_take (i := 2) (oi := { dst := some 17, op := Op.unOp UnOp.not 4 (Operand.tmp 16), type := 4, pos := "vers.go:28", after := #[{ on := 1, ground := Ground.data }], guard := none }) (v := ?vc2) rfl (by kernel_rfl) (by kernel_rfl) (by kernel_rfl) (fun _ _ _ h => h) (Or.inl ⟨by rfl, ?hyc2⟩) (by assumption) ?restc2
      case hyc2 =>
       intro w hSw
       (try dsimp only at hSw)
       go_simp
       (try with_reducible rfl)
      (try simp only [Act.put, List.setIfInBounds_toArray, List.set_cons_zero, List.set_cons_succ])
      refine wpAnyH_take (i := 3) (oi := { dst := some 18, op := Op.move (Operand.tmp 17), type := 4, pos := "vers.go:28", after := #[{ on := 2, ground := Ground.data }, { on := 1, ground := Ground.chain }], guard := none }) (v := ?vc3) rfl (by kernel_rfl) (by kernel_rfl) (by kernel_rfl) (fun _ _ _ h => h) (Or.inl ⟨by rfl, ?hyc3⟩) (by assumption) ?restc3
      case hyc3 =>
       intro w hSw
       (try dsimp only at hSw)
       go_simp
       (try with_reducible rfl)
      (try simp only [Act.put, List.setIfInBounds_toArray, List.set_cons_zero, List.set_cons_succ])
      refine wpAnyH_take (i := 4) (oi := { dst := some 19, op := Op.move (Operand.tmp 3), type := 3, pos := "vers.go:28", after := #[{ on := 3, ground := Ground.guard }], guard := some (3, false) }) (v := ?vc4) rfl (by kernel_rfl) (by kernel_rfl) (by kernel_rfl) (fun _ _ _ h => h) (Or.inl ⟨by rfl, ?hyc4⟩) (by assumption) ?restc4
      case hyc4 =>
       intro w hSw
       (try dsimp only at hSw)
       go_simp
       (try with_reducible rfl)
      (try simp only [Act.put, List.setIfInBounds_toArray, List.set_cons_zero, List.set_cons_succ])
      refine wpAnyH_take (i := 5) (oi := { dst := some 20, op := Op.binOp BinOp.gtr 3 (Operand.tmp 19) (Operand.const (Value.int IntKind.i64 0)) 3, type := 4, pos := "vers.go:28", after := #[{ on := 4, ground := Ground.data }, { on := 3, ground := Ground.guard }], guard := some (3, false) }) (v := ?vc5) rfl (by kernel_rfl) (by kernel_rfl) (by kernel_rfl) (fun _ _ _ h => h) (Or.inl ⟨by rfl, ?hyc5⟩) (by assumption) ?restc5
      case hyc5 =>
       intro w hSw
       (try dsimp only at hSw)
       go_simp
       (try with_reducible rfl)
      (try simp only [Act.put, List.setIfInBounds_toArray, List.set_cons_zero, List.set_cons_succ])
      refine wpAnyH_take (i := 6) (oi := { dst := some 21, op := Op.move (Operand.tmp 20), type := 4, pos := "vers.go:28", after := #[{ on := 5, ground := Ground.data }, { on := 3, ground := Ground.chain }, { on := 3, ground := Ground.guard }], guard := some (3, false) }) (v := ?vc6) rfl (by kernel_rfl) (by kernel_rfl) (by kernel_rfl) (fun _ _ _ h => h) (Or.inl ⟨by rfl, ?hyc6⟩) (by assumption) ?restc6
      case hyc6 =>
       intro w hSw
       (try dsimp only at hSw)
       go_simp
       (try with_reducible rfl)
      (try simp only [Act.put, List.setIfInBounds_toArray, List.set_cons_zero, List.set_cons_succ])
      refine wpAnyH_take (i := 7) (oi := { dst := some 22, op := Op.move (Operand.tmp 0), type := 67, pos := "vers.go:28", after := #[{ on := 6, ground := Ground.guard }], guard := some (6, true) }) (v := undef) rfl (by kernel_rfl) (by kernel_rfl) (by kernel_rfl) (fun _ _ _ h => h) (Or.inr ⟨by rfl, rfl⟩) (by assumption) ?_
      (try simp only [Act.put, List.setIfInBounds_toArray, List.set_cons_zero, List.set_cons_succ])
      refine wpAnyH_take (i := 8) (oi := { dst := some 23, op := Op.move (Operand.tmp 3), type := 3, pos := "vers.go:28", after := #[{ on := 6, ground := Ground.guard }], guard := some (6, true) }) (v := undef) rfl (by kernel_rfl) (by kernel_rfl) (by kernel_rfl) (fun _ _ _ h => h) (Or.inr ⟨by rfl, rfl⟩) (by assumption) ?_
      (try simp only [Act.put, List.setIfInBounds_toArray, List.set_cons_zero, List.set_cons_succ])
      refine wpAnyH_take (i := 9) (oi := { dst := some 24, op := Op.binOp BinOp.sub 3 (Operand.tmp 23) (Operand.const (Value.int IntKind.i64 1)) 3, type := 3, pos := "vers.go:28", after := #[{ on := 8, ground := Ground.data }, { on := 6, ground := Ground.guard }], guard := some (6, true) }) (v := undef) rfl (by kernel_rfl) (by kernel_rfl) (by kernel_rfl) (fun _ _ _ h => h) (Or.inr ⟨by rfl, rfl⟩) (by assumption) ?_
      (try simp only [Act.put, List.setIfInBounds_toArray, List.set_cons_zero, List.set_cons_succ])
      refine wpAnyH_take (i := 10) (oi := { dst := some 25, op := Op.indexAddr 67 (Operand.tmp 22) (Operand.tmp 24), type := 0, pos := "vers.go:28", after := #[{ on := 7, ground := Ground.data }, { on := 9, ground := Ground.data }, { on := 6, ground := Ground.guard }], guard := some (6, true) }) (v := undef) rfl (by kernel_rfl) (by kernel_rfl) (by kernel_rfl) (fun _ _ _ h => h) (Or.inr ⟨by rfl, rfl⟩) (by assumption) ?_
      (try simp only [Act.put, List.setIfInBounds_toArray, List.set_cons_zero, List.set_cons_succ])
      refine wpAnyH_take (i := 11) (oi := { dst := some 26, op := Op.fieldAddr 119 (Operand.tmp 25) 0, type := 0, pos := "vers.go:28", after := #[{ on := 10, ground := Ground.data }, { on := 6, ground := Ground.guard }], guard := some (6, true) }) (v := undef) rfl (by kernel_rfl) (by kernel_rfl) (by kernel_rfl) (fun _ _ _ h => h) (Or.inr ⟨by rfl, rfl⟩) (by assumption) ?_
      (try simp only [Act.put, List.setIfInBounds_toArray, List.set_cons_zero, List.set_cons_succ])
      refine wpAnyH_take (i := 12) (oi := { dst := some 27, op := Op.load 116 (Operand.tmp 26), type := 116, pos := "vers.go:28", after := #[{ on := 11, ground := Ground.data }, { on := 6, ground := Ground.guard }], guard := some (6, true) }) (v := undef) rfl (by kernel_rfl) (by kernel_rfl) (by kernel_rfl) (fun _ _ _ h => h) (Or.inr ⟨by rfl, rfl⟩) (by assumption) ?_
      (try simp only [Act.put, List.setIfInBounds_toArray, List.set_cons_zero, List.set_cons_succ])
      refine wpAnyH_take (i := 13) (oi := { dst := some 28, op := Op.fieldAddr 119 (Operand.tmp 4) 0, type := 0, pos := "vers.go:28", after := #[{ on := 6, ground := Ground.guard }], guard := some (6, true) }) (v := undef) rfl (by kernel_rfl) (by kernel_rfl) (by kernel_rfl) (fun _ _ _ h => h) (Or.inr ⟨by rfl, rfl⟩) (by assumption) ?_
      (try simp only [Act.put, List.setIfInBounds_toArray, List.set_cons_zero, List.set_cons_succ])
      refine wpAnyH_take (i := 14) (oi := { dst := some 29, op := Op.load 116 (Operand.tmp 28), type := 116, pos := "vers.go:28", after := #[{ on := 13, ground := Ground.data }, { on := 6, ground := Ground.guard }], guard := some (6, true) }) (v := undef) rfl (by kernel_rfl) (by kernel_rfl) (by kernel_rfl) (fun _ _ _ h => h) (Or.inr ⟨by rfl, rfl⟩) (by assumption) ?_
      (try simp only [Act.put, List.setIfInBounds_toArray, List.set_cons_zero, List.set_cons_succ])
      refine wpAnyH_take (i := 15) (oi := { dst := some 30, op := Op.call { callee := Callee.value (Operand.func 124), args := #[Operand.tmp 27, Operand.tmp 29], argTypes := #[116, 116] }, type := 3, pos := "vers.go:28", after := #[{ on := 12, ground := Ground.data }, { on := 14, ground := Ground.data }, { on := 6, ground := Ground.chain }, { on := 6, ground := Ground.guard }], guard := some (6, true) }) (v := undef) rfl (by kernel_rfl) (by kernel_rfl) (by kernel_rfl) (fun _ _ _ h => h) (Or.inr ⟨by rfl, rfl⟩) (by assumption) ?_
      (try simp only [Act.put, List.setIfInBounds_toArray, List.set_cons_zero, List.set_cons_succ])
      refine wpAnyH_take (i := 16) (oi := { dst := some 31, op := Op.binOp BinOp.geq 3 (Operand.tmp 30) (Operand.const (Value.int IntKind.i64 0)) 3, type := 4, pos := "vers.go:28", after := #[{ on := 15, ground := Ground.data }, { on := 6, ground := Ground.guard }], guard := some (6, true) }) (v := undef) rfl (by kernel_rfl) (by kernel_rfl) (by kernel_rfl) (fun _ _ _ h => h) (Or.inr ⟨by rfl, rfl⟩) (by assumption) ?_
      (try simp only [Act.put, List.setIfInBounds_toArray, List.set_cons_zero, List.set_cons_succ])
      refine wpAnyH_take (i := 17) (oi := { dst := some 32, op := Op.pick (Operand.tmp 21) (Operand.tmp 31) (Operand.const (Value.bool false)), type := 4, pos := "vers.go:28", after := #[{ on := 6, ground := Ground.data }, { on := 16, ground := Ground.data }, { on := 3, ground := Ground.guard }], guard := some (3, false) }) (v := ?vc17) rfl (by kernel_rfl) (by kernel_rfl) (by kernel_rfl) (fun _ _ _ h => h) (Or.inl ⟨by rfl, ?hyc17⟩) (by assumption) ?restc17
      case hyc17 =>
       intro w hSw
       (try dsimp only at hSw)
       go_simp
       (try with_reducible rfl)
      (try simp only [Act.put, List.setIfInBounds_toArray, List.set_cons_zero, List.set_cons_succ])
      refine wpAnyH_take (i := 18) (oi := { dst := some 33, op := Op.pick (Operand.tmp 18) (Operand.const (Value.bool true)) (Operand.tmp 32), type := 4, pos := "vers.go:28", after := #[{ on := 3, ground := Ground.data }, { on := 17, ground := Ground.data }], guard := none }) (v := ?vc18) rfl (by kernel_rfl) (by kernel_rfl) (by kernel_rfl) (fun _ _ _ h => h) (Or.inl ⟨by rfl, ?hyc18⟩) (by assumption) ?restc18
      case hyc18 =>
       intro w hSw
       (try dsimp only at hSw)
       go_simp
       (try with_reducible rfl)
      (try simp only [Act.put, List.setIfInBounds_toArray, List.set_cons_zero, List.set_cons_succ])
      refine wpAnyH_done (by kernel_rfl) ?_ _
      have BE : Below w.heap.size w w1 := BW.drew.trans (b1.mono hWs)
      clear b1 BW
      go_wp2_with fail
      exact ⟨⟨k + 1, rfl, by omega, BE, HF⟩, by simp only [intOf]; omega⟩
    ·rw [decide_eq_false cA] at h1
     have H1 := Lib.hid h1
     have HF := Lib.hid (HV.out.2.2.symm.trans (hbad cA))
     clear h1 hpr hord' hbad hstep hprev' cA
     go_wp2_with fail
     rw [HW.out.1, HW.out.2]
     refine wp_region_held_drew (S := (fun V => V.cell? ⟨m, 0, none⟩ = some (.int .i64 s) ∧ V.cell? ⟨m, 1, none⟩ = some (.int .i64 vn) ∧ V.cell? ⟨m, 2, none⟩ = some (.slice A1 kp c1) ∧ V.cell? ⟨m, 3, none⟩ = some (.bool vg) ∧ V.cell? ⟨m, 4, none⟩ = some (.string vx))) (by kernel_rfl) y (fun hHeld => ?_)
     refine wpAnyH_take (i := 0) (oi := { dst := some 15, op := Op.load 119 (Operand.tmp 4), type := 119, pos := "vers.go:28", after := #[], guard := none }) (v := ?vd1) rfl (by kernel_rfl) (by kernel_rfl) (by kernel_rfl) (fun _ _ _ h => h) (Or.inl ⟨by rfl, ?hyd1⟩) (by assumption) ?restd1
     case hyd1 =>
      intro w hSw
      (try dsimp only at hSw)
      go_simp
      (try with_reducible rfl)
     (try simp only [Act.put, List.setIfInBounds_toArray, List.set_cons_zero, List.set_cons_succ])
     refine wpAnyH_ready (rs := [1]) (by kernel_rfl) (by simp) ?_
     refine AllReadyH.cons (o := { dst := some 16, op := Op.call { callee := Callee.value (Operand.func 123), args := #[Operand.tmp 15], argTypes := #[119] }, type := 4, pos := "vers.go:28", after := #[{ on := 0, ground := Ground.data }], guard := none }) rfl (fun K hK => ?_) AllReadyH.nil
     go_simp
     (go_at_call 123; refine (H1.out _ HSP.out).mono ?_; rintro e w1 ⟨rfl, b1⟩)
     go_wp2_with fail
     refine hK.out _ _ (five_below (by exact hl) b1 hHeld) (fun hHeld => ?_)
     clear hK K
     (try simp only [Act.put, List.setIfInBounds_toArray, List.set_cons_zero, List.set_cons_succ])
     refine wpAnyH_take (i := 2) (oi := { dst := some 17, op := Op.unOp UnOp.not 4 (Operand.tmp 16), type := 4, pos := "vers.go:28", after := #[{ on := 1, ground := Ground.data }], guard := none }) (v := ?vd2) rfl (by kernel_rfl) (by kernel_rfl) (by kernel_rfl) (fun _ _ _ h => h) (Or.inl ⟨by rfl, ?hyd2⟩) (by assumption) ?restd2
     case hyd2 =>
      intro w hSw
      (try dsimp only at hSw)
      go_simp
      (try with_reducible rfl)
     (try simp only [Act.put, List.setIfInBounds_toArray, List.set_cons_zero, List.set_cons_succ])
     refine wpAnyH_take (i := 3) (oi := { dst := some 18, op := Op.move (Operand.tmp 17), type := 4, pos := "vers.go:28", after := #[{ on := 2, ground := Ground.data }, { on := 1, ground := Ground.chain }], guard := none }) (v := ?vd3) rfl (by kernel_rfl) (by kernel_rfl) (by kernel_rfl) (fun _ _ _ h => h) (Or.inl ⟨by rfl, ?hyd3⟩) (by assumption) ?restd3
     case hyd3 =>
      intro w hSw
      (try dsimp only at hSw)
      go_simp
      (try with_reducible rfl)
     (try simp only [Act.put, List.setIfInBounds_toArray, List.set_cons_zero, List.set_cons_succ])
     refine wpAnyH_take (i := 4) (oi := { dst := some 19, op := Op.move (Operand.tmp 3), type := 3, pos := "vers.go:28", after := #[{ on := 3, ground := Ground.guard }], guard := some (3, false) }) (v := undef) rfl (by kernel_rfl) (by kernel_rfl) (by kernel_rfl) (fun _ _ _ h => h) (Or.inr ⟨by rfl, rfl⟩) (by assumption) ?_
     (try simp only [Act.put, List.setIfInBounds_toArray, List.set_cons_zero, List.set_cons_succ])
     refine wpAnyH_take (i := 5) (oi := { dst := some 20, op := Op.binOp BinOp.gtr 3 (Operand.tmp 19) (Operand.const (Value.int IntKind.i64 0)) 3, type := 4, pos := "vers.go:28", after := #[{ on := 4, ground := Ground.data }, { on := 3, ground := Ground.guard }], guard := some (3, false) }) (v := undef) rfl (by kernel_rfl) (by kernel_rfl) (by kernel_rfl) (fun _ _ _ h => h) (Or.inr ⟨by rfl, rfl⟩) (by assumption) ?_
     (try simp only [Act.put, List.setIfInBounds_toArray, List.set_cons_zero, List.set_cons_succ])
     refine wpAnyH_take (i := 6) (oi := { dst := some 21, op := Op.move (Operand.tmp 20), type := 4, pos := "vers.go:28", after := #[{ on := 5, ground := Ground.data }, { on := 3, ground := Ground.chain }, { on := 3, ground := Ground.guard }], guard := some (3, false) }) (v := undef) rfl (by kernel_rfl) (by kernel_rfl) (by kernel_rfl) (fun _ _ _ h => h) (Or.inr ⟨by rfl, rfl⟩) (by assumption) ?_
     (try simp only [Act.put, List.setIfInBounds_toArray, List.set_cons_zero, List.set_cons_succ])
     refine wpAnyH_take (i := 7) (oi := { dst := some 22, op := Op.move (Operand.tmp 0), type := 67, pos := "vers.go:28", after := #[{ on := 6, ground := Ground.guard }], guard := some (6, true) }) (v := undef) rfl (by kernel_rfl) (by kernel_rfl) (by kernel_rfl) (fun _ _ _ h => h) (Or.inr ⟨by rfl, rfl⟩) (by assumption) ?_
     (try simp only [Act.put, List.setIfInBounds_toArray, List.set_cons_zero, List.set_cons_succ])
     refine wpAnyH_take (i := 8) (oi := { dst := some 23, op := Op.move (Operand.tmp 3), type := 3, pos := "vers.go:28", after := #[{ on := 6, ground := Ground.guard }], guard := some (6, true) }) (v := undef) rfl (by kernel_rfl) (by kernel_rfl) (by kernel_rfl) (fun _ _ _ h => h) (Or.inr ⟨by rfl, rfl⟩) (by assumption) ?_
     (try simp only [Act.put, List.setIfInBounds_toArray, List.set_cons_zero, List.set_cons_succ])
     refine wpAnyH_take (i := 9) (oi := { dst := some 24, op := Op.binOp BinOp.sub 3 (Operand.tmp 23) (Operand.const (Value.int IntKind.i64 1)) 3, type := 3, pos := "vers.go:28", after := #[{ on := 8, ground := Ground.data }, { on := 6, ground := Ground.guard }], guard := some (6, true) }) (v := undef) rfl (by kernel_rfl) (by kernel_rfl) (by kernel_rfl) (fun _ _ _ h => h) (Or.inr ⟨by rfl, rfl⟩) (by assumption) ?_
     (try simp only [Act.put, List.setIfInBounds_toArray, List.set_cons_zero, List.set_cons_succ])
     refine wpAnyH_take (i := 10) (oi := { dst := some 25, op := Op.indexAddr 67 (Operand.tmp 22) (Operand.tmp 24), type := 0, pos := "vers.go:28", after := #[{ on := 7, ground := Ground.data }, { on := 9, ground := Ground.data }, { on := 6, ground := Ground.guard }], guard := some (6, true) }) (v := undef) rfl (by kernel_rfl) (by kernel_rfl) (by kernel_rfl) (fun _ _ _ h => h) (Or.inr ⟨by rfl, rfl⟩) (by assumption) ?_
     (try simp only [Act.put, List.setIfInBounds_toArray, List.set_cons_zero, List.set_cons_succ])
     refine wpAnyH_take (i := 11) (oi := { dst := some 26, op := Op.fieldAddr 119 (Operand.tmp 25) 0, type := 0, pos := "vers.go:28", after := #[{ on := 10, ground := Ground.data }, { on := 6, ground := Ground.guard }], guard := some (6, true) }) (v := undef) rfl (by kernel_rfl) (by kernel_rfl) (by kernel_rfl) (fun _ _ _ h => h) (Or.inr ⟨by rfl, rfl⟩) (by assumption) ?_
     (try simp only [Act.put, List.setIfInBounds_toArray, List.set_cons_zero, List.set_cons_succ])
     refine wpAnyH_take (i := 12) (oi := { dst := some 27, op := Op.load 116 (Operand.tmp 26), type := 116, pos := "vers.go:28", after := #[{ on := 11, ground := Ground.data }, { on := 6, ground := Ground.guard }], guard := some (6, true) }) (v := undef) rfl (by kernel_rfl) (by kernel_rfl) (by kernel_rfl) (fun _ _ _ h => h) (Or.inr ⟨by rfl, rfl⟩) (by assumption) ?_
     (try simp only [Act.put, List.setIfInBounds_toArray, List.set_cons_zero, List.set_cons_succ])
     refine wpAnyH_take (i := 13) (oi := { dst := some 28, op := Op.fieldAddr 119 (Operand.tmp 4) 0, type := 0, pos := "vers.go:28", after := #[{ on := 6, ground := Ground.guard }], guard := some (6, true) }) (v := undef) rfl (by kernel_rfl) (by kernel_rfl) (by kernel_rfl) (fun _ _ _ h => h) (Or.inr ⟨by rfl, rfl⟩) (by assumption) ?_
     (try simp only [Act.put, List.setIfInBounds_toArray, List.set_cons_zero, List.set_cons_succ])
     refine wpAnyH_take (i := 14) (oi := { dst := some 29, op := Op.load 116 (Operand.tmp 28), type := 116, pos := "vers.go:28", after := #[{ on := 13, ground := Ground.data }, { on := 6, ground := Ground.guard }], guard := some (6, true) }) (v := undef) rfl (by kernel_rfl) (by kernel_rfl) (by kernel_rfl) (fun _ _ _ h => h) (Or.inr ⟨by rfl, rfl⟩) (by assumption) ?_
     (try simp only [Act.put, List.setIfInBounds_toArray, List.set_cons_zero, List.set_cons_succ])
     refine wpAnyH_take (i := 15) (oi := { dst := some 30, op := Op.call { callee := Callee.value (Operand.func 124), args := #[Operand.tmp 27, Operand.tmp 29], argTypes := #[116, 116] }, type := 3, pos := "vers.go:28", after := #[{ on := 12, ground := Ground.data }, { on := 14, ground := Ground.data }, { on := 6, ground := Ground.chain }, { on := 6, ground := Ground.guard }], guard := some (6, true) }) (v := undef) rfl (by kernel_rfl) (by kernel_rfl) (by kernel_rfl) (fun _ _ _ h => h) (Or.inr ⟨by rfl, rfl⟩) (by assumption) ?_
     (try simp only [Act.put, List.setIfInBounds_toArray, List.set_cons_zero, List.set_cons_succ])
     refine wpAnyH_take (i := 16) (oi := { dst := some 31, op := Op.binOp BinOp.geq 3 (Operand.tmp 30) (Operand.const (Value.int IntKind.i64 0)) 3, type := 4, pos := "vers.go:28", after := #[{ on := 15, ground := Ground.data }, { on := 6, ground := Ground.guard }], guard := some (6, true) }) (v := undef) rfl (by kernel_rfl) (by kernel_rfl) (by kernel_rfl) (fun _ _ _ h => h) (Or.inr ⟨by rfl, rfl⟩) (by assumption) ?_
     (try simp only [Act.put, List.setIfInBounds_toArray, List.set_cons_zero, List.set_cons_succ])
     refine wpAnyH_take (i := 17) (oi := { dst := some 32, op := Op.pick (Operand.tmp 21) (Operand.tmp 31) (Operand.const (Value.bool false)), type := 4, pos := "vers.go:28", after := #[{ on := 6, ground := Ground.data }, { on := 16, ground := Ground.data }, { on := 3, ground := Ground.guard }], guard := some (3, false) }) (v := undef) rfl (by kernel_rfl) (by kernel_rfl) (by kernel_rfl) (fun _ _ _ h => h) (Or.inr ⟨by rfl, rfl⟩) (by assumption) ?_
     (try simp only [Act.put, List.setIfInBounds_toArray, List.set_cons_zero, List.set_cons_succ])
     refine wpAnyH_take (i := 18) (oi := { dst := some 33, op := Op.pick (Operand.tmp 18) (Operand.const (Value.bool true)) (Operand.tmp 32), type := 4, pos := "vers.go:28", after := #[{ on := 3, ground := Ground.data }, { on := 17, ground := Ground.data }], guard := none }) (v := ?vd18) rfl (by kernel_rfl) (by kernel_rfl) (by kernel_rfl) (fun _ _ _ h => h) (Or.inl ⟨by rfl, ?hyd18⟩) (by assumption) ?restd18
     case hyd18 =>
      intro w hSw
      (try dsimp only at hSw)
      go_simp
      (try with_reducible rfl)
     (try simp only [Act.put, List.setIfInBounds_toArray, List.set_cons_zero, List.set_cons_succ])
     refine wpAnyH_done (by kernel_rfl) ?_ _
     have BE : Below w.heap.size w w1 := BW.drew.trans (b1.mono hWs)
     clear b1 BW
     go_wp2_with fail
     go_ret
     exact ⟨by rw [HF.out]; rfl, BE⟩
   ·have hkn : k = n := by omega
    subst hkn
    have hfv : FineV l := by have := hst.out; rwa [List.take_of_length_le (by have := HV.out.2.1; omega)] at this
    have hsz := hb.size
    have h1 := passed_any A c k l HV.out.2.1 hfv wr ((HV.out.1.below hb).more hsz) (by omega)
    have H1 := Lib.hid h1
    have HB := Lib.hid hb
    have HR : Hid (R = decide (∀ v ∈ l, ¬ behind l v.s v.n)) := Lib.hid (by
     rw [← HV.out.2.2]
     congr 1
     exact propext ⟨fun h => h.2.2, fun h => ⟨by have := HV.out.2.1; omega, hfv, h⟩⟩)
    clear hst h1 hfv hb
    go_wp2_with fail
    refine H1.out.mono ?_
    rintro e w2 ⟨g, cap, ys, rfl, hy, ho, b2, hd⟩
    have hres := any_behind HV.out.2.1 hy hd
    have h2 := contains_any g cap k ys hy wr.heap.size w2 ho (by omega)
    obtain ⟨q, hq⟩ : ∃ q, ys.any id = q := ⟨_, rfl⟩
    rw [hq] at h2 hres
    have H2 := Lib.hid h2
    have HF := Lib.hid (HR.out.trans hres.symm)
    have BE := HB.out.trans (b2.mono hsz)
    clear h2 hres hq hy ho b2 hd H1
    go_wp2_with fail
    refine H2.out.mono ?_
    rintro e w3 ⟨rfl, rfl⟩
    go_wp2_with fail
    go_ret
    exact ⟨by rw [HF.out]; rfl, BE⟩
end Vers
end Go.Proofs.YtkfdplfgaddkmaaGreat
