/-
  The document's Crash (layer 7). Written by wip/gen7/doccrash.py.
-/
import Derived.Test.YtdcppjpjlhbanaaDiskDocOps
namespace Go.Proofs.Ytdcppjpjlhbanaa
namespace Disk
open Go.RowKit Blk
attribute [local go_sem ↓] Go.wp_at_zero Go.wp_at_succ
/-- The files when i changes have been looked at. -/
def crL (P : Pd) (K : Nat) (torn : Int) (i : Nat) : Fs := if i ≤ K then fR P.safe (P.q.drop (P.q.length - i)) else match P.q[P.q.length - 1 - K]? with | some c => partP c torn (fR P.safe (P.q.drop (P.q.length - K))) | none => []
section
variable {P : Pd} {K i : Nat} {torn : Int} {C : Cp}
theorem crL_lt (h : i < K) (hq : P.q.reverse[i]? = some C) : crL P K torn (i + 1) = didP C (crL P K torn i) := by
  unfold crL
  rw [if_pos (by omega), if_pos (by omega), (q_at hq).1]
  rfl
theorem crL_at (hq : P.q.reverse[i]? = some C) : crL P i torn (i + 1) = partP C torn (crL P i torn i) := by
  have hi := (q_at hq).2
  rw [List.getElem?_reverse hi] at hq
  unfold crL
  rw [if_neg (by omega), if_pos (by omega), hq]
theorem crL_gt (h : K < i) : crL P K torn (i + 1) = crL P K torn i := by
  unfold crL
  rw [if_neg (by omega), if_neg (by omega)]
theorem crL_end (keep : Int) (hK : P.kept keep = K) : crL P K torn P.q.length = (P.crash keep torn).safe := by
  have hKn : K ≤ P.q.length := by rw [← hK]; unfold Pd.kept; omega
  unfold crL
  simp only [Pd.crash, hK]
  by_cases h : K = P.q.length
  · subst h
    rw [if_pos (Nat.le_refl _), Nat.sub_self]
    split
    · rw [if_neg (by omega)]; rfl
    · rfl
  · rw [if_neg (by omega)]
    have h2 : P.q.length - 1 - K < P.q.length := by omega
    rw [List.getElem?_eq_getElem h2]
    simp only
    rw [if_pos (by omega)]
theorem crL_ok {N : Nat} (hok : P.ok N) (h : i ≤ K) : OkF N P.room (crL P K torn i) := by
  unfold crL
  rw [if_pos h]
  exact (hok.2.2.2.drop _).head
theorem crL_okC {N : Nat} (hok : P.ok N) (h : i ≤ K) (hq : P.q.reverse[i]? = some C) : OkC C (crL P K torn i) := by
  have hd := hok.2.2.2.drop (P.q.length - (i + 1))
  rw [(q_at hq).1] at hd
  unfold crL
  rw [if_pos h]
  exact hd.2.1
theorem partP_no {l : Fs} (h : ¬ (C.k = 1 ∧ 0 < torn ∧ 0 < C.d.length)) : partP C torn l = l := by
  unfold partP
  rw [if_neg]
  rintro ⟨h1, h2⟩
  unfold tor at h2
  exact h ⟨h1, by omega, by omega⟩
theorem partP_cut {l : Fs} {T : Nat} (h1 : C.k = 1) (h2 : 0 < T) (h3 : T ≤ C.d.length) : partP C (T : Int) l = didP { C with d := C.d.take T } l := by
  have e : tor (T : Int) C.d.length = T := by unfold tor; omega
  unfold partP
  rw [if_pos ⟨h1, by rw [e]; exact h2⟩, e]
theorem partP_all {l : Fs} (h1 : C.k = 1) (h2 : (C.d.length : Int) ≤ torn) (h3 : 0 < C.d.length) : partP C torn l = didP C l := by
  have e : tor torn C.d.length = C.d.length := by unfold tor; omega
  unfold partP
  rw [if_pos ⟨h1, by rw [e]; exact h3⟩, e, List.take_length]
end
section
variable {F : Nat → Prop} {w : World} {mb N : Nat} {P : Pd}
set_option maxRecDepth 100000 in
set_option maxHeartbeats 16000000 in
theorem doc_crash (h : RD F w mb P) (hok : P.ok N) (hN : N ≤ 1900000000000) (keep torn : Int) :
    Calls Try.prog 32 #[.pointer (some ⟨mb, 0, none⟩), .int .i64 keep, .int .i64 torn] w (fun e w' => e = .returned (.tuple #[]) ∧ Hid (∃ F', RD F' w' mb (P.crash keep torn) ∧ Stp F w F' w')) := by
  obtain ⟨K, hK⟩ : ∃ K, P.kept keep = K := ⟨_, rfl⟩
  have hKe : min (max keep 0) (P.q.length : Int) = (K : Int) := by rw [← hK]; unfold Pd.kept; omega
  have hend := crL_end (torn := torn) keep hK
  obtain ⟨As, ns, cs, ls, At, nt, ct, ts, hp⟩ := h.parts
  have hnt : nt = P.q.length := by
    have h1 := congrArg List.length hp.2.2.1.2
    rw [List.length_map, List.length_reverse, hp.2.2.1.1.1] at h1
    exact h1
  rw [← hnt] at hKe hend
  have c1 := (hp.1.cell 1).trans rfl
  have c2 := (hp.1.cell 2).trans rfl
  have hsm := hp.2.2.1.1.small
  have HH := Lib.hid (And.intro h (And.intro hok (And.intro hp (And.intro hnt hend))))
  have HK := Lib.hid hKe
  clear h hok hp hnt hend hK hKe
  go_enter Try.func32, Try.ntmps32
  go_wp2_with fail
  clear c1 c2
  go_loopw [6, 7] (fun v iv V => ∃ (i m : Nat) (Aq : Option Addr) (cq : Nat), v = .slice Aq m cq ∧ iv = .int .i64 i ∧ i ≤ nt ∧ Hid (∃ l, Fr (more F w) V Aq m cq l ∧ fsR l = crL P K torn i ∧ Below w.heap.size w V)) (fun _ iv _ => nt - (intOf iv).toNat)
  case atStart => exact ⟨0, ns, As, cs, rfl, rfl, by omega, Lib.hid ⟨ls, HH.out.2.2.1.2.1.1.more, by unfold crL; rw [if_pos (Nat.zero_le _), Nat.sub_zero, List.drop_length]; exact HH.out.2.2.1.2.1.2, Below.refl _ _⟩⟩
  case round =>
    obtain ⟨i, m, Aq, cq, rfl, rfl, hi, hst⟩ := hrel
    have hst' := hst.out
    obtain ⟨l, hl1, hl2, hl3⟩ := hst'
    have c2 := ((HH.out.2.2.1.1.same (hl3.block mb HH.out.2.2.1.1.lt)).cell 2).trans rfl
    by_cases hlt : i < nt
    · obtain ⟨⟨C, x⟩, hx⟩ : ∃ x, ts[i]? = some x := ⟨_, List.getElem?_eq_getElem (by have := HH.out.2.2.1.2.2.1.1.1; omega)⟩
      have hq : P.q.reverse[i]? = some C := by rw [← HH.out.2.2.1.2.2.1.2, List.getElem?_map, hx]; rfl
      obtain ⟨g, rfl, p0, p1, p2, p3, p4⟩ := (HH.out.2.2.1.2.2.1.1.keep (F' := F) (w' := wr) (fun j _ hj => hl3.block j hj) fun _ => id).at hx
      have hxx := (HH.out.2.2.1.2.2.1.1.2.2.2 _ (List.mem_of_getElem? hx))
      obtain ⟨kx, hkx⟩ : ∃ k, x.d.length = k := ⟨_, rfl⟩
      obtain ⟨ck, hck⟩ : ∃ k, C.k = k := ⟨_, rfl⟩
      simp only at p0 p1 p2 p3 p4 hxx
      rw [hkx] at p3 hxx
      rw [hck] at p0
      have d1 : (0 : Int) ≤ (i : Int) := by omega
      have d2 : (i : Int) < (nt : Int) := by omega
      obtain ⟨cb, hcb⟩ : ∃ b, wr.heap.size = b := ⟨_, rfl⟩
      obtain ⟨U, hU⟩ : ∃ V, wr.alloc (.cells #[.int .i64 ck, .string C.s, .string C.t, .slice x.A kx x.c, .int .i64 C.n] 70) = V := ⟨_, rfl⟩
      have bU : Below wr.heap.size wr U := by rw [← hU]; exact (Below.refl _ wr).alloc (Nat.le_refl _) _
      have BU : Bn cb 70 [.int .i64 ck, .string C.s, .string C.t, .slice x.A kx x.c, .int .i64 C.n] U := by rw [← hU, ← hcb]; exact heap_alloc_new wr _
      have bwU : Below w.heap.size w U := hl3.trans (bU.mono hl3.size)
      have hFU := hl1.below bU (Nat.le_refl _)
      have hxU : FlOK F U x := hxx.1.keep (fun j _ hj => bwU.block j hj) fun _ => id
      have hcd : x.d = C.d := hxx.2.1
      have hkc : kx ≤ x.c := by have := own_len hxx.1.1; omega
      have hkb : kx ≤ 1073741824 := hxx.2.2
      have HS := Lib.hid (And.intro hFU (And.intro hl2 (And.intro bwU (And.intro BU (And.intro hxU (And.intro hcd (And.intro hq (And.intro hkx hck))))))))
      have x0 := (BU.cell 0).trans rfl
      have x1 := (BU.cell 1).trans rfl
      have x2 := (BU.cell 2).trans rfl
      have x3 := (BU.cell 3).trans rfl
      have x4 := (BU.cell 4).trans rfl
      have f3 := BU.frozen 3
      have skip : ∀ (hc : crL P K torn (i + 1) = crL P K torn i), Hid (∃ l, Fr (more F w) U Aq m cq l ∧ fsR l = crL P K torn (i + 1) ∧ Below w.heap.size w U) := fun hc => Lib.hid ⟨l, HS.out.1, by rw [hc]; exact HS.out.2.1, HS.out.2.2.1⟩
      have HSk := Lib.hid skip
      have HC : Hid (i ≤ K → OkF N P.room (fsR l) ∧ OkC C (fsR l) ∧ m ≤ 1900000000000) := Lib.hid fun hiK => by
        have hf : OkF N P.room (fsR l) := by rw [HS.out.2.1]; exact crL_ok HH.out.2.1 hiK
        refine ⟨hf, by rw [HS.out.2.1]; exact crL_okC HH.out.2.1 hiK hq, ?_⟩
        have h0 : (l.map fun x => (x.1, Df.d x.2)).length ≤ N := hf.2.2.2.1
        rw [List.length_map, HS.out.1.1] at h0
        omega
      have hwc : Hid (w.heap.size ≤ cb) := Lib.hid (by rw [← hcb]; exact hl3.size)
      clear hst hl1 hl2 hl3 hx hq hxx hkx hck bU BU bwU hFU hxU hcd skip
      by_cases hA : (i : Int) < keep
      · have a1 : decide ((i : Int) < keep) = true := decide_eq_true hA
        have a2 : ((i : Int) == keep) = false := by rw [beq_eq_false_iff_ne]; omega
        have a4 : decide (keep < 0) = false := decide_eq_false (by omega)
        have hiK2 : i < K := by have := HK.out; omega
        by_cases h0 : i = 0
        · subst h0
          have H1 := Lib.hid (doc_did HS.out.1 (fun j hj => .inr (by have := HS.out.2.2.1.size; omega)) (by have := (HC.out (by omega)).2.2; omega) (HC.out (by omega)).1 HH.out.2.1.2.1 C (HC.out (by omega)).2.1 x HS.out.2.2.2.2.2.1 kx HS.out.2.2.2.2.2.2.2.1 HS.out.2.2.2.2.1.ns hkb)
          rw [HS.out.2.2.2.2.2.2.2.2] at H1
          have HN : Hid (crL P K torn (0 + 1) = didP C (fsR l)) := Lib.hid (by rw [HS.out.2.1]; exact crL_lt (by omega) HS.out.2.2.2.2.2.2.1)
          go_wp2_with fail
          refine H1.out.mono ?_
          rintro e w2 ⟨A2, n2, c2, rfl, h2⟩
          have HE : Hid (∃ l, Fr (more F w) w2 A2 n2 c2 l ∧ fsR l = crL P K torn (0 + 1) ∧ Below w.heap.size w w2) := Lib.hid (by
            obtain ⟨l2, q1, q2, q3⟩ := h2.out
            exact ⟨l2, q1, by rw [HN.out, q2], HS.out.2.2.1.trans (q3.mono HS.out.2.2.1.size)⟩)
          clear h2
          go_wp2_with fail
          exact ⟨⟨0 + 1, n2, A2, c2, rfl, rfl, by omega, HE⟩, by simp only [intOf]; omega⟩
        · have a3 : ((i : Int) == 0) = false := by rw [beq_eq_false_iff_ne]; omega
          have a31 : ¬ i = 0 := h0
          have H1 := Lib.hid (doc_did HS.out.1 (fun j hj => .inr (by have := HS.out.2.2.1.size; omega)) (by have := (HC.out (by omega)).2.2; omega) (HC.out (by omega)).1 HH.out.2.1.2.1 C (HC.out (by omega)).2.1 x HS.out.2.2.2.2.2.1 kx HS.out.2.2.2.2.2.2.2.1 HS.out.2.2.2.2.1.ns hkb)
          rw [HS.out.2.2.2.2.2.2.2.2] at H1
          have HN : Hid (crL P K torn (i + 1) = didP C (fsR l)) := Lib.hid (by rw [HS.out.2.1]; exact crL_lt (by omega) HS.out.2.2.2.2.2.2.1)
          go_wp2_with fail
          refine H1.out.mono ?_
          rintro e w2 ⟨A2, n2, c2, rfl, h2⟩
          have HE : Hid (∃ l, Fr (more F w) w2 A2 n2 c2 l ∧ fsR l = crL P K torn (i + 1) ∧ Below w.heap.size w w2) := Lib.hid (by
            obtain ⟨l2, q1, q2, q3⟩ := h2.out
            exact ⟨l2, q1, by rw [HN.out, q2], HS.out.2.2.1.trans (q3.mono HS.out.2.2.1.size)⟩)
          clear h2
          go_wp2_with fail
          exact ⟨⟨i + 1, n2, A2, c2, rfl, rfl, by omega, HE⟩, by simp only [intOf]; omega⟩
      · have a1 : decide ((i : Int) < keep) = false := decide_eq_false hA
        by_cases hE : (i : Int) = keep
        · subst hE
          have hiK : Hid (i = K) := Lib.hid (by have := HK.out; omega)
          have a2 : ((i : Int) == (i : Int)) = true := by simp
          by_cases h5 : ck = 1
          · subst h5
            by_cases h6 : 0 < torn
            · have a6 : decide (0 < torn) = true := decide_eq_true h6
              by_cases h7 : 0 < kx
              · have a7 : decide ((0 : Int) < (kx : Int)) = true := decide_eq_true (by omega)
                by_cases h8 : torn < (kx : Int)
                · have a8 : decide (torn < (kx : Int)) = true := decide_eq_true h8
                  obtain ⟨T, rfl⟩ : ∃ T : Nat, torn = (T : Int) := ⟨torn.toNat, by omega⟩
                  have hcut := Cut.cut_h x.A kx x.c T (T : Int) rfl (by omega) hkc
                  have BX := HS.out.2.2.2.1.set 3 (.slice x.A T x.c)
                  have gX := gset U cb 3 (.slice x.A T x.c)
                  obtain ⟨X, hX⟩ : ∃ V, U.setCell ⟨cb, 3, none⟩ (.slice x.A T x.c) = V := ⟨_, rfl⟩
                  rw [hX] at BX gX
                  simp only [List.set_cons_zero, List.set_cons_succ] at BX
                  have z0 := (BX.cell 0).trans rfl
                  have z1 := (BX.cell 1).trans rfl
                  have z2 := (BX.cell 2).trans rfl
                  have z3 := (BX.cell 3).trans rfl
                  have z4 := (BX.cell 4).trans rfl
                  have hcl : C.d.length = kx := by rw [← HS.out.2.2.2.2.2.1]; exact HS.out.2.2.2.2.2.2.2.1
                  have hne : ∀ {y : Df}, FlOK (more F w) U y → FlOK (more F w) X y := fun {y} hy => ⟨own_keep hy.1 fun g hg => gX.block g (hy.1.lt g hg).2 fun e => own_ne hy.1 HS.out.2.2.2.1 (by decide) (by rw [hg, e]), hy.2⟩
                  have hFX : Fr (more F w) X Aq m cq l := ⟨HS.out.1.1, own_keep HS.out.1.2.1 fun g hg => gX.block g (HS.out.1.2.1.lt g hg).2 fun e => own_ne HS.out.1.2.1 HS.out.2.2.2.1 (by decide) (by rw [hg, e]), HS.out.1.2.2.1, fun y hy => hne (HS.out.1.2.2.2.1 y hy), HS.out.1.2.2.2.2⟩
                  have hxX : FlOK (more F w) X x := hne (HS.out.2.2.2.2.1.keep (fun _ _ _ => rfl) fun _ => .inl)
                  have bX : Below w.heap.size w X := HS.out.2.2.1.grown gX HS.out.2.2.1.size fun j hj => by injection hj with hj; have := hwc.out; omega
                  have H1 := Lib.hid (doc_did hFX (fun j hj => .inr (by have := bX.size; omega)) (by have := (HC.out (by have := hiK.out; omega)).2.2; omega) (HC.out (by have := hiK.out; omega)).1 HH.out.2.1.2.1 { C with d := C.d.take T } (okC_take (HC.out (by have := hiK.out; omega)).2.1 T) ⟨x.d.take T, x.A, x.c⟩ (by simp only; rw [HS.out.2.2.2.2.2.1]) T (by simp only [List.length_take]; rw [HS.out.2.2.2.2.2.2.2.1]; omega) (hxX.ns.take T) (by omega))
                  simp only at H1
                  rw [HS.out.2.2.2.2.2.2.2.2] at H1
                  have HN : Hid (crL P K (T : Int) (i + 1) = didP { k := 1, s := C.s, t := C.t, d := C.d.take T, n := C.n } (fsR l)) := Lib.hid (by
                    rw [HS.out.2.1, ← hiK.out, crL_at HS.out.2.2.2.2.2.2.1, partP_cut (HS.out.2.2.2.2.2.2.2.2) (by omega) (by rw [hcl]; omega)]
                    congr 1
                    have := HS.out.2.2.2.2.2.2.2.2
                    rw [← this])
                  have HBX := Lib.hid bX
                  clear BX gX hcl hne hFX hxX bX
                  go_wp2_with fail
                  refine H1.out.mono ?_
                  rintro e w2 ⟨A2, n2, c2, rfl, h2⟩
                  have HE : Hid (∃ l, Fr (more F w) w2 A2 n2 c2 l ∧ fsR l = crL P K (T : Int) (i + 1) ∧ Below w.heap.size w w2) := Lib.hid (by
                    obtain ⟨l2, q1, q2, q3⟩ := h2.out
                    exact ⟨l2, q1, by rw [HN.out, q2], HBX.out.trans (q3.mono HBX.out.size)⟩)
                  clear h2
                  go_wp2_with fail
                  exact ⟨⟨i + 1, n2, A2, c2, rfl, rfl, by omega, HE⟩, by simp only [intOf]; omega⟩
                · have a8 : decide (torn < (kx : Int)) = false := decide_eq_false h8
                  have H1 := Lib.hid (doc_did HS.out.1 (fun j hj => .inr (by have := HS.out.2.2.1.size; omega)) (by have := (HC.out (by have := hiK.out; omega)).2.2; omega) (HC.out (by have := hiK.out; omega)).1 HH.out.2.1.2.1 C (HC.out (by have := hiK.out; omega)).2.1 x HS.out.2.2.2.2.2.1 kx HS.out.2.2.2.2.2.2.2.1 HS.out.2.2.2.2.1.ns hkb)
                  rw [HS.out.2.2.2.2.2.2.2.2] at H1
                  have HN : Hid (crL P K torn (i + 1) = didP C (fsR l)) := Lib.hid (by
                    have hcl : C.d.length = kx := by rw [← HS.out.2.2.2.2.2.1]; exact HS.out.2.2.2.2.2.2.2.1
                    rw [HS.out.2.1, ← hiK.out, crL_at HS.out.2.2.2.2.2.2.1, partP_all (HS.out.2.2.2.2.2.2.2.2) (by rw [hcl]; omega) (by rw [hcl]; omega)])
                  go_wp2_with fail
                  refine H1.out.mono ?_
                  rintro e w2 ⟨A2, n2, c2, rfl, h2⟩
                  have HE : Hid (∃ l, Fr (more F w) w2 A2 n2 c2 l ∧ fsR l = crL P K torn (i + 1) ∧ Below w.heap.size w w2) := Lib.hid (by
                    obtain ⟨l2, q1, q2, q3⟩ := h2.out
                    exact ⟨l2, q1, by rw [HN.out, q2], HS.out.2.2.1.trans (q3.mono HS.out.2.2.1.size)⟩)
                  clear h2
                  go_wp2_with fail
                  exact ⟨⟨i + 1, n2, A2, c2, rfl, rfl, by omega, HE⟩, by simp only [intOf]; omega⟩
              · obtain rfl : kx = 0 := by omega
                have HQ : Hid (crL P K torn (i + 1) = crL P K torn i) := Lib.hid (by rw [← hiK.out, crL_at HS.out.2.2.2.2.2.2.1, partP_no (fun q => by have h1 := q.2.2; rw [← HS.out.2.2.2.2.2.1, HS.out.2.2.2.2.2.2.2.1] at h1; omega)])
                go_wp2_with fail
                exact ⟨⟨i + 1, m, Aq, cq, rfl, rfl, by omega, HSk.out HQ.out⟩, by simp only [intOf]; omega⟩
            · have a6 : decide (0 < torn) = false := decide_eq_false h6
              have HQ : Hid (crL P K torn (i + 1) = crL P K torn i) := Lib.hid (by rw [← hiK.out, crL_at HS.out.2.2.2.2.2.2.1, partP_no (fun q => h6 q.2.1)])
              go_wp2_with fail
              exact ⟨⟨i + 1, m, Aq, cq, rfl, rfl, by omega, HSk.out HQ.out⟩, by simp only [intOf]; omega⟩
          · have a5 : (ck == 1) = false := by rw [beq_eq_false_iff_ne]; exact h5
            have HQ : Hid (crL P K torn (i + 1) = crL P K torn i) := Lib.hid (by rw [← hiK.out, crL_at HS.out.2.2.2.2.2.2.1, partP_no (fun q => h5 (by rw [← HS.out.2.2.2.2.2.2.2.2]; exact q.1))])
            go_wp2_with fail
            exact ⟨⟨i + 1, m, Aq, cq, rfl, rfl, by omega, HSk.out HQ.out⟩, by simp only [intOf]; omega⟩
        · have a2 : ((i : Int) == keep) = false := by rw [beq_eq_false_iff_ne]; exact hE
          by_cases h0 : i = 0
          · subst h0
            have a4 : decide (keep < 0) = true := decide_eq_true (by omega)
            have hiK : Hid (0 = K) := Lib.hid (by have := HK.out; omega)
            by_cases h5 : ck = 1
            · subst h5
              by_cases h6 : 0 < torn
              · have a6 : decide (0 < torn) = true := decide_eq_true h6
                by_cases h7 : 0 < kx
                · have a7 : decide ((0 : Int) < (kx : Int)) = true := decide_eq_true (by omega)
                  by_cases h8 : torn < (kx : Int)
                  · have a8 : decide (torn < (kx : Int)) = true := decide_eq_true h8
                    obtain ⟨T, rfl⟩ : ∃ T : Nat, torn = (T : Int) := ⟨torn.toNat, by omega⟩
                    have hcut := Cut.cut_h x.A kx x.c T (T : Int) rfl (by omega) hkc
                    have BX := HS.out.2.2.2.1.set 3 (.slice x.A T x.c)
                    have gX := gset U cb 3 (.slice x.A T x.c)
                    obtain ⟨X, hX⟩ : ∃ V, U.setCell ⟨cb, 3, none⟩ (.slice x.A T x.c) = V := ⟨_, rfl⟩
                    rw [hX] at BX gX
                    simp only [List.set_cons_zero, List.set_cons_succ] at BX
                    have z0 := (BX.cell 0).trans rfl
                    have z1 := (BX.cell 1).trans rfl
                    have z2 := (BX.cell 2).trans rfl
                    have z3 := (BX.cell 3).trans rfl
                    have z4 := (BX.cell 4).trans rfl
                    have hcl : C.d.length = kx := by rw [← HS.out.2.2.2.2.2.1]; exact HS.out.2.2.2.2.2.2.2.1
                    have hne : ∀ {y : Df}, FlOK (more F w) U y → FlOK (more F w) X y := fun {y} hy => ⟨own_keep hy.1 fun g hg => gX.block g (hy.1.lt g hg).2 fun e => own_ne hy.1 HS.out.2.2.2.1 (by decide) (by rw [hg, e]), hy.2⟩
                    have hFX : Fr (more F w) X Aq m cq l := ⟨HS.out.1.1, own_keep HS.out.1.2.1 fun g hg => gX.block g (HS.out.1.2.1.lt g hg).2 fun e => own_ne HS.out.1.2.1 HS.out.2.2.2.1 (by decide) (by rw [hg, e]), HS.out.1.2.2.1, fun y hy => hne (HS.out.1.2.2.2.1 y hy), HS.out.1.2.2.2.2⟩
                    have hxX : FlOK (more F w) X x := hne (HS.out.2.2.2.2.1.keep (fun _ _ _ => rfl) fun _ => .inl)
                    have bX : Below w.heap.size w X := HS.out.2.2.1.grown gX HS.out.2.2.1.size fun j hj => by injection hj with hj; have := hwc.out; omega
                    have H1 := Lib.hid (doc_did hFX (fun j hj => .inr (by have := bX.size; omega)) (by have := (HC.out (by have := hiK.out; omega)).2.2; omega) (HC.out (by have := hiK.out; omega)).1 HH.out.2.1.2.1 { C with d := C.d.take T } (okC_take (HC.out (by have := hiK.out; omega)).2.1 T) ⟨x.d.take T, x.A, x.c⟩ (by simp only; rw [HS.out.2.2.2.2.2.1]) T (by simp only [List.length_take]; rw [HS.out.2.2.2.2.2.2.2.1]; omega) (hxX.ns.take T) (by omega))
                    simp only at H1
                    rw [HS.out.2.2.2.2.2.2.2.2] at H1
                    have HN : Hid (crL P K (T : Int) (0 + 1) = didP { k := 1, s := C.s, t := C.t, d := C.d.take T, n := C.n } (fsR l)) := Lib.hid (by
                      rw [HS.out.2.1, ← hiK.out, crL_at HS.out.2.2.2.2.2.2.1, partP_cut (HS.out.2.2.2.2.2.2.2.2) (by omega) (by rw [hcl]; omega)]
                      congr 1
                      have := HS.out.2.2.2.2.2.2.2.2
                      rw [← this])
                    have HBX := Lib.hid bX
                    clear BX gX hcl hne hFX hxX bX
                    go_wp2_with fail
                    refine H1.out.mono ?_
                    rintro e w2 ⟨A2, n2, c2, rfl, h2⟩
                    have HE : Hid (∃ l, Fr (more F w) w2 A2 n2 c2 l ∧ fsR l = crL P K (T : Int) (0 + 1) ∧ Below w.heap.size w w2) := Lib.hid (by
                      obtain ⟨l2, q1, q2, q3⟩ := h2.out
                      exact ⟨l2, q1, by rw [HN.out, q2], HBX.out.trans (q3.mono HBX.out.size)⟩)
                    clear h2
                    go_wp2_with fail
                    exact ⟨⟨0 + 1, n2, A2, c2, rfl, rfl, by omega, HE⟩, by simp only [intOf]; omega⟩
                  · have a8 : decide (torn < (kx : Int)) = false := decide_eq_false h8
                    have H1 := Lib.hid (doc_did HS.out.1 (fun j hj => .inr (by have := HS.out.2.2.1.size; omega)) (by have := (HC.out (by have := hiK.out; omega)).2.2; omega) (HC.out (by have := hiK.out; omega)).1 HH.out.2.1.2.1 C (HC.out (by have := hiK.out; omega)).2.1 x HS.out.2.2.2.2.2.1 kx HS.out.2.2.2.2.2.2.2.1 HS.out.2.2.2.2.1.ns hkb)
                    rw [HS.out.2.2.2.2.2.2.2.2] at H1
                    have HN : Hid (crL P K torn (0 + 1) = didP C (fsR l)) := Lib.hid (by
                      have hcl : C.d.length = kx := by rw [← HS.out.2.2.2.2.2.1]; exact HS.out.2.2.2.2.2.2.2.1
                      rw [HS.out.2.1, ← hiK.out, crL_at HS.out.2.2.2.2.2.2.1, partP_all (HS.out.2.2.2.2.2.2.2.2) (by rw [hcl]; omega) (by rw [hcl]; omega)])
                    go_wp2_with fail
                    refine H1.out.mono ?_
                    rintro e w2 ⟨A2, n2, c2, rfl, h2⟩
                    have HE : Hid (∃ l, Fr (more F w) w2 A2 n2 c2 l ∧ fsR l = crL P K torn (0 + 1) ∧ Below w.heap.size w w2) := Lib.hid (by
                      obtain ⟨l2, q1, q2, q3⟩ := h2.out
                      exact ⟨l2, q1, by rw [HN.out, q2], HS.out.2.2.1.trans (q3.mono HS.out.2.2.1.size)⟩)
                    clear h2
                    go_wp2_with fail
                    exact ⟨⟨0 + 1, n2, A2, c2, rfl, rfl, by omega, HE⟩, by simp only [intOf]; omega⟩
                · obtain rfl : kx = 0 := by omega
                  have HQ : Hid (crL P K torn (0 + 1) = crL P K torn 0) := Lib.hid (by rw [← hiK.out, crL_at HS.out.2.2.2.2.2.2.1, partP_no (fun q => by have h1 := q.2.2; rw [← HS.out.2.2.2.2.2.1, HS.out.2.2.2.2.2.2.2.1] at h1; omega)])
                  go_wp2_with fail
                  exact ⟨⟨0 + 1, m, Aq, cq, rfl, rfl, by omega, HSk.out HQ.out⟩, by simp only [intOf]; omega⟩
              · have a6 : decide (0 < torn) = false := decide_eq_false h6
                have HQ : Hid (crL P K torn (0 + 1) = crL P K torn 0) := Lib.hid (by rw [← hiK.out, crL_at HS.out.2.2.2.2.2.2.1, partP_no (fun q => h6 q.2.1)])
                go_wp2_with fail
                exact ⟨⟨0 + 1, m, Aq, cq, rfl, rfl, by omega, HSk.out HQ.out⟩, by simp only [intOf]; omega⟩
            · have a5 : (ck == 1) = false := by rw [beq_eq_false_iff_ne]; exact h5
              have HQ : Hid (crL P K torn (0 + 1) = crL P K torn 0) := Lib.hid (by rw [← hiK.out, crL_at HS.out.2.2.2.2.2.2.1, partP_no (fun q => h5 (by rw [← HS.out.2.2.2.2.2.2.2.2]; exact q.1))])
              go_wp2_with fail
              exact ⟨⟨0 + 1, m, Aq, cq, rfl, rfl, by omega, HSk.out HQ.out⟩, by simp only [intOf]; omega⟩
          · have a3 : ((i : Int) == 0) = false := by rw [beq_eq_false_iff_ne]; omega
            have a31 : ¬ i = 0 := h0
            have HQ : Hid (crL P K torn (i + 1) = crL P K torn i) := Lib.hid (crL_gt (by have := HK.out; omega))
            go_wp2_with fail
            exact ⟨⟨i + 1, m, Aq, cq, rfl, rfl, by omega, HSk.out HQ.out⟩, by simp only [intOf]; omega⟩
    · obtain rfl : i = nt := by omega
      obtain ⟨X, hX, c1, f1, c3, f2, hR⟩ := HH.out.1.reset hl3 hl1
      obtain ⟨v1, c1⟩ := Option.isSome_iff_exists.1 c1
      obtain ⟨v2, c3⟩ := Option.isSome_iff_exists.1 c3
      rw [hl2, HH.out.2.2.2.2] at hR
      clear hl1 hl2 hl3 hst
      go_wp2_with fail
      exact bodyPost_end (v := .tuple #[]) (results_none rfl _ _ _) rfl ⟨rfl, Lib.hid ⟨_, hR.out⟩⟩
end
end Disk
end Go.Proofs.Ytdcppjpjlhbanaa
