/-
  The document's Do (layer 7). Written by wip/gen7/docdo.py.
-/
import Derived.Test.YtdcppjpjlhbanaaDiskDocOwn
import Derived.Deep.QuietTactic
namespace Go.Proofs.Ytdcppjpjlhbanaa
namespace Disk
open Go.RowKit Blk
attribute [local go_sem ↓] Go.wp_at_zero Go.wp_at_succ
theorem doc_wrong (s : Nm) (w : World) : Calls Try.prog 52 #[.string s] w (fun e w' => e = .returned (.bool (!decide (okNm s))) ∧ w' = w) := by
  have hz : s.toList.length = s.size := by rw [Lib.toList_data, Array.length_toList]; rfl
  by_cases h0 : s.size = 0
  · have hne : s.toList = [] := List.eq_nil_of_length_eq_zero (by omega)
    have hie : s.toList.isEmpty = true := by rw [hne]; rfl
    have HE : Hid ((!decide (okNm s)) = true) := Lib.hid (by rw [decide_eq_false (fun e : okNm s => by have := e.1; omega)]; rfl)
    clear h0 hz
    go_enter Try.func52, Try.ntmps52
    go_wp2_with fail
    go_ret
    exact ⟨by rw [HE.out]; rfl, rfl⟩
  · have hne : ¬ s.toList = [] := fun e => by rw [e] at hz; simp at hz; omega
    have hie : s.toList.isEmpty = false := by rw [List.isEmpty_eq_false_iff]; exact hne
    by_cases hs : s.size ≤ 16
    · have d1 : decide ((16 : Int) < (s.size : Int)) = false := decide_eq_false (by omega)
      have HE : Hid ((!decide (okNm s)) = false) := Lib.hid (by rw [decide_eq_true (show okNm s from ⟨by omega, hs⟩)]; rfl)
      clear h0 hz
      go_enter Try.func52, Try.ntmps52
      go_wp2_with fail
      go_ret
      exact ⟨by rw [HE.out]; rfl, rfl⟩
    · have d1 : decide ((16 : Int) < (s.size : Int)) = true := decide_eq_true (by omega)
      have HE : Hid ((!decide (okNm s)) = true) := Lib.hid (by rw [decide_eq_false (fun e : okNm s => hs e.2)]; rfl)
      clear h0 hz
      go_enter Try.func52, Try.ntmps52
      go_wp2_with fail
      go_ret
      exact ⟨by rw [HE.out]; rfl, rfl⟩
theorem below_drewN {B : Nat} {w w' : World} (h : Below B w w') (k : Nat) : Below B w (w'.drewN k) := ⟨h.os, h.tape, h.output, h.size, h.block⟩
/-- The parts of the document's disk. -/
def DPd (F : Nat → Prop) (w : World) (mb : Nat) (P : Pd) (As : Option Addr) (ns cs : Nat) (ls : Rl) (At : Option Addr) (nt ct : Nat) (ts : Tl) : Prop :=
  Bn mb 36 [.int .i64 P.room, .slice As ns cs, .slice At nt ct] w ∧ (Fr F w As ns cs ls ∧ fsR ls = P.safe) ∧ (Tr F w At nt ct ts ∧ ts.map Prod.fst = P.q.reverse) ∧ F mb ∧ ∀ j, F j → j < w.heap.size
theorem RD.parts {F : Nat → Prop} {w : World} {mb : Nat} {P : Pd} (h : RD F w mb P) : ∃ As ns cs ls At nt ct ts, DPd F w mb P As ns cs ls At nt ct ts := h
section
variable {F : Nat → Prop} {w v w7 : World} {mb N : Nat} {P : Pd} {As : Option Addr} {ns cs : Nat} {ls : Rl} {At : Option Addr} {nt ct : Nat} {ts : Tl}
theorem fl_turn {F : Nat → Prop} {G : Nat → Prop} {v w8 : World} {x : Df} (h : FlOK F v x) {ta tb : Nat} (hc : Chg (fun j => j = ta ∨ j = tb) v w8) (h1 : ∀ g, x.v.ownBlock = some g → g ≠ ta ∧ g ≠ tb) (hG : ∀ j, F j → G j) : FlOK G w8 x :=
  ⟨own_keep h.1 fun g hg => hc.block g (h.1.lt g hg).2 fun e => e.elim (h1 g hg).1 (h1 g hg).2, fun g hg => hG g (h.2.1 g hg), h.2.2⟩
/-- A change more. -/
theorem DPd.push {g7 cap7 B0 : Nat} (h : DPd F w mb P As ns cs ls At nt ct ts) (hb : Below w.heap.size w v) (x : Cp × Df) (hx : FlOK (fun j => w.heap.size ≤ j) v x.2) (hxd : x.2.d = x.1.d) (hxl : x.2.d.length ≤ 1073741824)
    (ho7 : w7.ownsRow 0 70 5 (.slice (some ⟨g7, 0, none⟩) (nt + 1) cap7) (nt + 1) (tcs ts ++ cgc x.1 x.2)) (hg7 : v.grownBy w7 (Value.slice At nt ct).ownBlock) (hat : (Value.slice At nt ct).ownBlock = some g7 ∨ g7 = B0) (hB : w.heap.size ≤ B0) (hlt : g7 < w7.heap.size) :
    RD (fun j => F j ∨ (w.heap.size ≤ j ∧ j < w7.heap.size)) (w7.setCell ⟨mb, 2, none⟩ (.slice (some ⟨g7, 0, none⟩) (nt + 1) cap7)) mb { P with q := x.1 :: P.q } ∧
    Stp F w (fun j => F j ∨ (w.heap.size ≤ j ∧ j < w7.heap.size)) (w7.setCell ⟨mb, 2, none⟩ (.slice (some ⟨g7, 0, none⟩) (nt + 1) cap7)) := by
  obtain ⟨h1, ⟨h2, h3⟩, ⟨h4, h5⟩, h6, h7⟩ := h
  have hsz : w.heap.size ≤ w7.heap.size := Nat.le_trans hb.size hg7.size
  have hv : ∀ j, F j → v.heap[j]? = w.heap[j]? := fun j hj => hb.block j (h7 j hj)
  have hb1 : Bn mb 36 [.int .i64 P.room, .slice As ns cs, .slice At nt ct] v := h1.same (hv mb h6)
  have hT : v.ownsRow 0 70 5 (.slice At nt ct) nt (tcs ts) := own_keep h4.2.1 fun g hg => hv g (h4.2.2.1 g hg)
  have hrmb : (Value.slice At nt ct).ownBlock ≠ some mb := own_ne hT hb1 (by decide)
  have hb7 : Bn mb 36 [.int .i64 P.room, .slice As ns cs, .slice At nt ct] w7 := hb1.kept hg7 (fun e => hrmb e.symm)
  have hg7mb : g7 ≠ mb := fun e => own_ne ho7 hb7 (by decide) (by rw [e]; rfl)
  have gm := gset w7 mb 2 (.slice (some ⟨g7, 0, none⟩) (nt + 1) cap7)
  have hk : ∀ j, F j → (Value.slice At nt ct).ownBlock ≠ some j → j ≠ mb → (w7.setCell ⟨mb, 2, none⟩ (.slice (some ⟨g7, 0, none⟩) (nt + 1) cap7)).heap[j]? = w.heap[j]? := fun j hj hn hm => by
    have hl := h7 j hj
    exact ((gm.block j (by omega) (fun e => hm (by injection e))).trans (hg7.block j (Nat.lt_of_lt_of_le hl hb.size) fun e => hn e.symm)).trans (hv j hj)
  have hkv : ∀ j, j < v.heap.size → (Value.slice At nt ct).ownBlock ≠ some j → j ≠ mb → (w7.setCell ⟨mb, 2, none⟩ (.slice (some ⟨g7, 0, none⟩) (nt + 1) cap7)).heap[j]? = v.heap[j]? := fun j hj hn hm => by
    exact (gm.block j (Nat.lt_of_lt_of_le hj hg7.size) (fun e => hm (by injection e))).trans (hg7.block j hj fun e => hn e.symm)
  have kf : ∀ {y : Df}, FlOK F w y → FlOK (fun j => F j ∨ (w.heap.size ≤ j ∧ j < w7.heap.size)) (w7.setCell ⟨mb, 2, none⟩ (.slice (some ⟨g7, 0, none⟩) (nt + 1) cap7)) y := fun {y} hy => by
    refine ⟨own_keep hy.1 fun g hg => hk g (hy.2.1 g hg) (fun e => ?_) fun e => ?_, fun g hg => .inl (hy.2.1 g hg), hy.2.2⟩
    · exact own_ne2 hy.1 h4.2.1 (by decide) hg e
    · exact own_ne hy.1 h1 (by decide) (by rw [hg, e])
  refine ⟨⟨As, ns, cs, ls, some ⟨g7, 0, none⟩, nt + 1, cap7, ts ++ [x], hb7.set 2 _, ⟨⟨h2.1, own_keep h2.2.1 fun g hg => hk g (h2.2.2.1 g hg) (fun e => ?_) fun e => ?_, fun g hg => .inl (h2.2.2.1 g hg), fun y hy => kf (h2.2.2.2.1 y hy), h2.2.2.2.2⟩, h3⟩, ⟨⟨by rw [List.length_append, h4.1]; rfl, ?_, fun g hg => ?_, fun y hy => ?_⟩, ?_⟩, .inl h6, fun j hj => ?_⟩, ?_, fun j hj => hj.imp id fun e => e.1⟩
  · exact own_ne2 h2.2.1 h4.2.1 (by decide) hg e
  · exact own_ne h2.2.1 h1 (by decide) (by rw [hg, e])
  · rw [tcs_append, tcs_one]
    exact own_keep ho7 fun g hg => gm.block g (ho7.lt g hg).2 fun e => by
      have e1 : g7 = g := by injection hg
      have e2 : g = mb := by injection e
      exact hg7mb (e1.trans e2)
  · have e1 : g7 = g := by injection hg
    subst e1
    rcases hat with e | e
    · exact .inl (h4.2.2.1 _ e)
    · exact .inr ⟨by omega, hlt⟩
  · rcases List.mem_append.1 hy with hy | hy
    · exact ⟨kf (h4.2.2.2 y hy).1, (h4.2.2.2 y hy).2⟩
    · rw [List.mem_singleton] at hy
      subst hy
      refine ⟨⟨own_keep hx.1 fun g hg => hkv g (hx.1.lt g hg).2 (fun e => ?_) fun e => ?_, fun g hg => .inr ⟨hx.2.1 g hg, Nat.lt_of_lt_of_le (hx.1.lt g hg).2 hg7.size⟩, hx.2.2⟩, hxd, hxl⟩
      · exact own_ne2 hx.1 hT (by decide) hg e
      · exact own_ne hx.1 hb1 (by decide) (by rw [hg, e])
  · rw [List.map_append, h5]
    simp
  · have := gm.size
    rcases hj with hj | hj
    · have := h7 j hj
      omega
    · omega
  · exact ((Chg.of_below hb).trans (Chg.of_grown hg7 fun g hg => h4.2.2.1 g hg) fun _ => .inl).trans (Chg.of_grown gm fun g hg => by injection hg with hg; subst hg; exact h6) fun _ => .inl
theorem find_pos {l : Rl} {s : Nm} {x : Df} {i : Nat} (hp : pos l s = some i) (hx : l[i]? = some (s, x)) : find (fsR l) s = some x.d := by
  have h := pos_find l s
  rw [hp] at h
  obtain ⟨b, h1, h2⟩ := h
  rw [hx] at h1
  injection h1 with h1
  injection h1 with _ h1
  rw [find_map, h2, ← h1]
  rfl
set_option maxRecDepth 100000 in
set_option maxHeartbeats 16000000 in
theorem doc_do (h : RD F w mb P) (hok : P.ok N) (hN : N < 1900000000000) (K nn : Int) (hK : K = 1 ∨ K = 2 ∨ K = 3 ∨ K = 4) (s t : Nm) (d : List Int) (kx : Nat) (hkx : d.length = kx) (xA : Option Addr) (xc : Nat) (hx : Ns .u8 w w.heap.size xA d) (hd : ∀ z ∈ d, 0 ≤ z ∧ z ≤ 255) (hd1 : K ≠ 1 → d = []) (hkb : kx ≤ 140737488355327) :
    Calls Try.prog 44 #[.pointer (some ⟨mb, 0, none⟩), .agg #[.int .i64 K, .string s, .string t, .slice xA kx xc, .int .i64 nn]] w (fun e w' => ∃ cd, e = .returned (.int .i64 cd) ∧ Hid (∃ F', cd = P.code ⟨K, s, t, d, nn⟩ ∧ RD F' w' mb (P.push ⟨K, s, t, d, nn⟩) ∧ Stp F w F' w')) := by
  obtain ⟨i0, hi0, hz0, hz1, hz2⟩ := info_parts Facts.info5
  obtain ⟨j0, hj0, jz0, jz1, jz2⟩ := info_parts info_change
  obtain ⟨bx, hbx⟩ : ∃ b, w.heap.size = b := ⟨_, rfl⟩
  obtain ⟨U, hU⟩ : ∃ U, w.alloc (.cells #[.int .i64 K, .string s, .string t, .slice xA kx xc, .int .i64 nn] 70) = U := ⟨_, rfl⟩
  have hb : Below w.heap.size w U := by rw [← hU]; exact (Below.refl _ w).alloc (Nat.le_refl _) _
  have hB : Bn bx 70 [.int .i64 K, .string s, .string t, .slice xA kx xc, .int .i64 nn] U := by rw [← hU, ← hbx]; exact heap_alloc_new w _
  have hbU : bx < U.heap.size := hB.lt
  have x0 := (hB.cell 0).trans rfl
  have x1 := (hB.cell 1).trans rfl
  have x2 := (hB.cell 2).trans rfl
  have x3 := (hB.cell 3).trans rfl
  have x4 := (hB.cell 4).trans rfl
  have hhd := (h.below hb)
  obtain ⟨C, hC⟩ : ∃ C : Cp, C = ⟨K, s, t, d, nn⟩ := ⟨_, rfl⟩
  rw [← hC]
  have HC := Lib.hid hC
  -- refused
  have refuse : ∀ (cd : Int) (W : World), P.code C = cd → cd ≠ 0 → Below w.heap.size w W → ∃ F', cd = P.code C ∧ RD F' W mb (P.push C) ∧ Stp F w F' W := fun cd W h1 h2 h3 => by
    refine ⟨F, h1.symm, ?_, Stp.of_below h3⟩
    unfold Pd.push
    rw [if_neg (by rw [h1]; exact h2)]
    exact h.below h3
  have HR := Lib.hid refuse
  have H1 := Lib.hid (doc_wrong s U)
  have HH := Lib.hid (And.intro h (And.intro hok (And.intro hb (And.intro hB (And.intro hkx (And.intro hx hd))))))
  have HF := Lib.hid (doc_files hhd hok (by omega))
  have HD1 := Lib.hid hd1
  clear h hok hb hB hkx hx hd hhd refuse hd1
  by_cases hs : okNm s
  case neg =>
    have HE : Hid (P.code C = 70) := Lib.hid (by rw [HC.out]; unfold Pd.code; rw [if_pos (.inl hs)])
    rw [decide_eq_false hs] at H1
    clear hs hC
    go_enter Try.func44, Try.ntmps44
    go_wp2_with fail
    refine H1.out.mono ?_
    rintro e w2 ⟨rfl, hww2⟩
    obtain rfl := hww2.symm
    go_wp2_with fail
    go_ret
    exact ⟨70, rfl, Lib.hid (HR.out _ _ HE.out (by decide) HH.out.2.2.1)⟩
  rw [decide_eq_true hs] at H1
  by_cases ht : K = 3 ∧ ¬ okNm t
  · obtain ⟨rfl, ht⟩ := ht
    have HE : Hid (P.code C = 70) := Lib.hid (by rw [HC.out]; unfold Pd.code; rw [if_pos (.inr ⟨rfl, ht⟩)])
    have H2 := doc_wrong t U
    rw [decide_eq_false ht] at H2
    have H2 := Lib.hid H2
    clear hs hC ht
    go_enter Try.func44, Try.ntmps44
    go_wp2_with fail
    refine H1.out.mono ?_
    rintro e w2 ⟨rfl, hww2⟩
    obtain rfl := hww2.symm
    go_wp2_with fail
    refine H2.out.mono ?_
    rintro e w2 ⟨rfl, hww2⟩
    obtain rfl := hww2.symm
    go_wp2_with fail
    go_ret
    exact ⟨70, rfl, Lib.hid (HR.out _ _ HE.out (by decide) HH.out.2.2.1)⟩
  have HCode : Hid (P.code C = if K = 1 then (if P.room - used P.files < kx then 72 else 0) else match find P.files s with | none => 71 | some b => if K = 2 ∧ (nn < 0 ∨ (b.length : Int) < nn) then 1 else 0) := Lib.hid (by
    rw [HC.out, ← HH.out.2.2.2.2.1]
    unfold Pd.code
    rw [if_neg (fun e => e.elim (fun q => q hs) ht)]
    rfl)
  have hcU : ∀ (a : Array Value) (w : World), (callFunc 15 a).run Try.prog w = .ok (.enter 15 a) w := fun a w => by simp [go_sem]
  obtain ⟨As, ns, cs, ls, At, nt, ct, ts, hp⟩ := HH.out.1.parts
  have hnt : nt ≤ 1900000000000 := by
    have h1 := congrArg List.length hp.2.2.1.2
    rw [List.length_map, List.length_reverse, hp.2.2.1.1.1] at h1
    have := HH.out.2.1.2.2.1
    omega
  have HP := Lib.hid hp
  -- a change that is done
  have done : ∀ (v w7 : World) (A7 : Option Addr) (c7 g9 cap9 B0 : Nat), P.code C = 0 → kx ≤ 1073741824 → Below w.heap.size w v → v.ownsRow w.heap.size 5 1 (.slice A7 kx c7) kx (nums .u8 d) → w7.ownsRow 0 70 5 (.slice (some ⟨g9, 0, none⟩) (nt + 1) cap9) (nt + 1) (tcs ts ++ [.int .i64 K, .string s, .string t, .slice A7 kx c7, .int .i64 nn]) → v.grownBy w7 (Value.slice At nt ct).ownBlock → ((Value.slice At nt ct).ownBlock = some g9 ∨ g9 = B0) → w.heap.size ≤ B0 → g9 < w7.heap.size → ∃ F', (0 : Int) = P.code C ∧ RD F' (w7.setCell ⟨mb, 2, none⟩ (.slice (some ⟨g9, 0, none⟩) (nt + 1) cap9)) mb (P.push C) ∧ Stp F w F' (w7.setCell ⟨mb, 2, none⟩ (.slice (some ⟨g9, 0, none⟩) (nt + 1) cap9)) := fun v w7 A7 c7 g9 cap9 B0 q0 q1 q2 q3 q4 q5 q6 q7 q8 => by
    have hkx := HH.out.2.2.2.2.1
    have e : cgc C ⟨d, A7, c7⟩ = [.int .i64 K, .string s, .string t, .slice A7 kx c7, .int .i64 nn] := by
      rw [HC.out, ← hkx]
      rfl
    have h1 := HP.out.push q2 (C, ⟨d, A7, c7⟩) (fl_own q3 hkx (fun j hj => hj) HH.out.2.2.2.2.2.2 (by omega)) (by rw [HC.out]) (by simp only; omega) (by simp only; rw [e]; exact q4) q5 q6 q7 q8
    refine ⟨_, q0.symm, ?_, h1.2⟩
    unfold Pd.push
    rw [if_pos q0]
    exact h1.1
  have HDn := Lib.hid done
  clear hp done hC
  rcases hK with rfl | rfl | rfl | rfl
  · -- Append
    have hcode := HCode.out
    rw [if_pos rfl] at hcode
    have H6 := Lib.hid HH.out.1
    clear hs ht
    go_enter Try.func44, Try.ntmps44
    go_wp2_with fail
    refine H1.out.mono ?_
    rintro e w2 ⟨rfl, hww2⟩
    obtain rfl := hww2.symm
    go_wp2_with fail
    refine HF.out.mono ?_
    rintro e w3 ⟨A3, n3, c3, rfl, h3⟩
    have h3' := h3.out
    obtain ⟨l3, hl1, hl2, hl3⟩ := h3'
    have y1 := ((HH.out.2.2.2.1.same (hl3.block bx hbU)).cell 1).trans rfl
    have y0 := ((HH.out.2.2.2.1.same (hl3.block bx hbU)).cell 0).trans rfl
    have H4 := Lib.hid (doc_find hl1 s)
    have HL := Lib.hid (And.intro hl1 (And.intro hl2 hl3))
    have hpf := pos_find l3 s
    have H5 := Lib.hid (doc_used (w := w3.drew) (HH.out.1.below ((HH.out.2.2.1.trans (hl3.mono HH.out.2.2.1.size)).drew)) HH.out.2.1 (by omega))
    have m0 := ((HP.out.1.same ((HH.out.2.2.1.trans (hl3.mono HH.out.2.2.1.size)).block mb HP.out.1.lt)).cell 0).trans rfl
    have y3 := ((HH.out.2.2.2.1.same (hl3.block bx hbU)).cell 3).trans rfl
    clear hl1 hl2 hl3 h3 hpf
    obtain ⟨V, hV⟩ : ∃ V, V = w3 := ⟨_, rfl⟩
    subst hV
    have ya : V.drew.cell? ⟨bx, 3, none⟩ = some (.slice xA kx xc) := y3
    have yb : V.drew.cell? ⟨mb, 0, none⟩ = some (.int .i64 P.room) := m0
    go_wp2_with fail
    refine H4.out.mono ?_
    rintro e w4 ⟨rfl, hww4⟩
    obtain rfl := hww4.symm
    have hu := HH.out.2.1.files.2.2.1
    have hr0 := HH.out.2.1.1
    have hr1 := HH.out.2.1.2.1
    obtain ⟨u, hu2⟩ : ∃ u, used P.files = u := ⟨_, rfl⟩
    rw [hu2] at hu hcode H5
    obtain ⟨room, hrm⟩ : ∃ z, P.room = z := ⟨_, rfl⟩
    rw [hrm] at hu hr0 hr1 hcode yb m0
    have ew : IntKind.i64.wrap (room - (u : Int)) = room - (u : Int) := Go.IntWalk.i64_in _ (by omega)
    by_cases hfit : room - (u : Int) < (kx : Int)
    · have hd1 : decide (room - (u : Int) < (kx : Int)) = true := decide_eq_true hfit
      rw [if_pos hfit] at hcode
      have HE := Lib.hid hcode
      clear hcode hfit hu2
      go_wp2_with fail
      go_region_law (refine step_call (by rfl) 15 _ _ (by rfl) (hcU _ _) #[.pointer (some ⟨mb, 0, none⟩)] (by first | rfl | simp [Act.eval, Act.put]) H5.out (fun e w' h => ⟨_, h.1⟩) ?_; rintro v5 w5 ⟨hv5, h5⟩; injection hv5 with hv5; subst hv5; have hb5 : Below U.heap.size U w5 := HL.out.2.2.trans ((((Below.refl V.heap.size V).drew).trans h5).mono HL.out.2.2.size); have q3 := ((HH.out.2.2.2.1.same (hb5.block bx hbU)).cell 3).trans rfl; have q0 := ((HP.out.1.same ((HH.out.2.2.1.trans (hb5.mono HH.out.2.2.1.size)).block mb HP.out.1.lt)).cell 0).trans rfl; rw [hrm] at q0)
      all_goals
        have HB5 := Lib.hid hb5
        clear hb5 h5
        go_wp2_with fail
        go_ret
        exact ⟨72, rfl, Lib.hid (HR.out _ _ HE.out (by decide) (HH.out.2.2.1.trans (HB5.out.mono HH.out.2.2.1.size)))⟩
    · have hd1 : decide (room - (u : Int) < (kx : Int)) = false := decide_eq_false hfit
      rw [if_neg hfit] at hcode
      have HE := Lib.hid hcode
      have hkx2 : kx ≤ 1073741824 := by omega
      clear hcode hfit hu2
      go_wp2_with fail
      go_region_law (refine step_call (by rfl) 15 _ _ (by rfl) (hcU _ _) #[.pointer (some ⟨mb, 0, none⟩)] (by first | rfl | simp [Act.eval, Act.put]) H5.out (fun e w' h => ⟨_, h.1⟩) ?_; rintro v5 w5 ⟨hv5, h5⟩; injection hv5 with hv5; subst hv5; have hb5 : Below U.heap.size U w5 := HL.out.2.2.trans ((((Below.refl V.heap.size V).drew).trans h5).mono HL.out.2.2.size); have q3 := ((HH.out.2.2.2.1.same (hb5.block bx hbU)).cell 3).trans rfl; have q0 := ((HP.out.1.same ((HH.out.2.2.1.trans (hb5.mono HH.out.2.2.1.size)).block mb HP.out.1.lt)).cell 0).trans rfl; rw [hrm] at q0)
      all_goals
        have HV := Lib.hid hb5
        obtain ⟨V5, hV5⟩ : ∃ V, V = w5 := ⟨_, rfl⟩
        subst hV5
        clear hb5 h5 ya yb
        -- it is done
        have z3 := ((HH.out.2.2.2.1.same (HV.out.block bx hbU)).cell 3).trans rfl
        have z0 := ((HH.out.2.2.2.1.same (HV.out.block bx hbU)).cell 0).trans rfl
        go_wp2_with (at_builtin; refine wpList_append_ns _ rfl _ _ 29 rfl U.heap.size 5 i0 (.int .u8 0) 1 Try.underlying29 hi0 hz0 hz1 hz2 rfl (.slice none 0 0) 0 [] rfl (World.ownsRow_nil _ _ _ _) .u8 w.heap.size xA kx xc d HH.out.2.2.2.2.1 rfl (HH.out.2.2.2.2.2.1.below (HH.out.2.2.1.trans (HV.out.mono HH.out.2.2.1.size))) (by omega) (by omega) HV.out.size ?_; intro v7 w7 o7 g7 at7; rw [Nat.zero_add, List.nil_append] at o7; obtain ⟨A7, c7, rfl⟩ := own_form o7; have HZ : Hid (w7.ownsRow U.heap.size 5 1 (.slice A7 kx c7) kx (nums .u8 d) ∧ Below U.heap.size U w7) := Lib.hid ⟨o7, HV.out.grown g7 HV.out.size (fun j hj => by cases hj)⟩; clear o7 g7 at7; have BZ := HH.out.2.2.2.1.same (HZ.out.2.block bx hbU); have f3 := BZ.frozen 3; have u3 := (BZ.cell 3).trans rfl; have BX := BZ.set 3 (.slice A7 kx c7); have gX := gset w7 bx 3 (.slice A7 kx c7); obtain ⟨X, hX⟩ : ∃ V, w7.setCell ⟨bx, 3, none⟩ (.slice A7 kx c7) = V := ⟨_, rfl⟩; rw [hX] at BX gX; simp only [List.set_cons_zero, List.set_cons_succ] at BX)
        have hbX : Below w.heap.size w X := (HH.out.2.2.1.trans (HZ.out.2.mono HH.out.2.2.1.size)).grown gX (by have := HZ.out.2.size; have := HH.out.2.2.1.size; omega) fun j hj => by injection hj with hj; omega
        have hoX : X.ownsRow w.heap.size 5 1 (.slice A7 kx c7) kx (nums .u8 d) := own_base (own_keep HZ.out.1 fun g hg => gX.block g (HZ.out.1.lt g hg).2 fun e => own_ne HZ.out.1 BZ (by decide) (by rw [hg, e])) HH.out.2.2.1.size
        have m2 := ((HP.out.1.same (hbX.block mb HP.out.1.lt)).cell 2).trans rfl
        have m3 := ((HP.out.1.same ((hbX.alloc hbX.size (.cells #[.int .i64 1, .string s, .string t, .slice A7 kx c7, .int .i64 nn] 70)).block mb HP.out.1.lt)).cell 2).trans rfl
        have e0 := (BX.cell 0).trans rfl
        have e1 := (BX.cell 1).trans rfl
        have e2 := (BX.cell 2).trans rfl
        have e3 := (BX.cell 3).trans rfl
        have e4 := (BX.cell 4).trans rfl
        have ea0 : X.drew.cell? ⟨bx, 0, none⟩ = some (.int .i64 1) := e0
        have ea1 : X.drew.cell? ⟨bx, 1, none⟩ = some (.string s) := e1
        have ea2 : X.drew.cell? ⟨bx, 2, none⟩ = some (.string t) := e2
        have ea3 : X.drew.cell? ⟨bx, 3, none⟩ = some (.slice A7 kx c7) := e3
        have ea4 : X.drew.cell? ⟨bx, 4, none⟩ = some (.int .i64 nn) := e4
        have ma2 : X.drew.cell? ⟨mb, 2, none⟩ = some (.slice At nt ct) := m2
        have HX := Lib.hid (And.intro hbX hoX)
        have HTr := Lib.hid (own_keep HP.out.2.2.1.1.2.1 fun g hg => hbX.block g (HP.out.2.2.2.2 g (HP.out.2.2.1.1.2.2.1 g hg)))
        clear hbX hoX BX gX BZ
        go_wp2_with fail
        go_region_law (refine step_append_lies _ (by rfl) _ _ _ (by rfl) 0 70 j0 _ 5 72 Try.underlying34 hj0 jz0 jz1 jz2 (by rfl) (by omega) (.slice At nt ct) nt (tcs ts) (by rfl) (own_below HTr.out ((Below.refl _ X).drew.alloc (Nat.le_refl _) (.cells #[.int .i64 1, .string s, .string t, .slice A7 kx c7, .int .i64 nn] 70)) (Nat.le_refl _)) ⟨X.heap.size, 0, none⟩ 1 1 [.int .i64 1, .string s, .string t, .slice A7 kx c7, .int .i64 nn] (by rfl) (by rfl) (World.news_of_block (heap_alloc_new X.drew _)) (by simp [Value.oneCell']) (by omega) (by unfold maxLen; omega) (by omega) (Nat.zero_le _) (X.heap.size + 1) (by simp) ?_; intro g9 cap9 w9 o9 gr9 at9 hl9; have hv9 : Below w.heap.size w (X.drew.alloc (.cells #[.int .i64 1, .string s, .string t, .slice A7 kx c7, .int .i64 nn] 70)) := (HX.out.1.drew).alloc HX.out.1.size _; have hT9 := own_below HTr.out ((Below.refl _ X).drew.alloc (Nat.le_refl _) (.cells #[.int .i64 1, .string s, .string t, .slice A7 kx c7, .int .i64 nn] 70)) (Nat.le_refl _); have B9 := (HP.out.1.same (hv9.block mb HP.out.1.lt)).kept gr9 (fun e => own_ne hT9 (HP.out.1.same (hv9.block mb HP.out.1.lt)) (by decide) e.symm); have r0 := (B9.cell 2).trans rfl; have r1 := B9.frozen 2)
        all_goals
          have HG := Lib.hid (HDn.out _ w9 A7 c7 g9 cap9 (X.heap.size + 1) HE.out (by omega) hv9 (own_keep HX.out.2 fun g hg => ((Below.refl X.heap.size X).drew.alloc (Nat.le_refl _) _).block g (HX.out.2.lt g hg).2) o9 gr9 at9 (by have := HX.out.1.size; omega) hl9)
          clear hv9 hT9 B9 o9 gr9 at9 hl9
          go_wp2_with fail
          go_ret
          exact ⟨0, rfl, HG⟩
  · -- Cut
    have hcode := HCode.out
    rw [if_neg (by omega)] at hcode
    have hd0 := HD1.out (by omega)
    have hkx2 : kx ≤ 1073741824 := by have h1 := HH.out.2.2.2.2.1; rw [hd0] at h1; simp only [List.length_nil] at h1; omega
    clear hs ht hd0
    go_enter Try.func44, Try.ntmps44
    go_wp2_with fail
    refine H1.out.mono ?_
    rintro e w2 ⟨rfl, hww2⟩
    obtain rfl := hww2.symm
    go_wp2_with fail
    refine HF.out.mono ?_
    rintro e w3 ⟨A3, n3, c3, rfl, h3⟩
    have h3' := h3.out
    obtain ⟨l3, hl1, hl2, hl3⟩ := h3'
    have y1 := ((HH.out.2.2.2.1.same (hl3.block bx hbU)).cell 1).trans rfl
    have y0 := ((HH.out.2.2.2.1.same (hl3.block bx hbU)).cell 0).trans rfl
    have H4 := Lib.hid (doc_find hl1 s)
    have HL := Lib.hid (And.intro hl1 (And.intro hl2 hl3))
    have hpf := pos_find l3 s
    rcases hp : pos l3 s with _ | i
    · rw [hp] at hpf
      have hfn : find P.files s = none := by rw [← hl2, find_map, show find l3 s = none from hpf]; rfl
      rw [hfn] at hcode
      have HE := Lib.hid hcode
      rw [show posI l3 s = -1 by unfold posI; rw [hp]] at H4
      clear hcode hp hpf hfn hl1 hl2 hl3 h3
      go_wp2_with fail
      refine H4.out.mono ?_
      rintro e w4 ⟨rfl, hww4⟩
      obtain rfl := hww4.symm
      go_wp2_with fail
      go_ret
      exact ⟨71, rfl, Lib.hid (HR.out _ _ HE.out (by decide) (HH.out.2.2.1.trans (HL.out.2.2.mono HH.out.2.2.1.size)))⟩
    · rw [hp] at hpf
      obtain ⟨x, hx, _⟩ := hpf
      have hfn : find P.files s = some x.d := by rw [← hl2]; exact find_pos hp hx
      rw [hfn] at hcode
      rw [show posI l3 s = (i : Int) by unfold posI; rw [hp]] at H4
      obtain ⟨g, rfl, _, p1⟩ := hl1.at hx
      have hil : i < n3 := by have := (List.getElem?_eq_some_iff.1 hx).1; have := hl1.1; omega
      have hsm := hl1.small
      obtain ⟨ki, hki⟩ : ∃ k, x.d.length = k := ⟨_, rfl⟩
      simp only [Df.v] at p1
      rw [hki] at p1
      simp only [hki] at hcode
      have d0 : decide ((i : Int) < 0) = false := decide_eq_false (by omega)
      have d1 : (0 : Int) ≤ (i : Int) := by omega
      have d2 : (i : Int) < (n3 : Int) := by omega
      have y4 := ((HH.out.2.2.2.1.same (hl3.block bx hbU)).cell 4).trans rfl
      obtain ⟨V, hV⟩ : ∃ V, V = w3 := ⟨_, rfl⟩
      subst hV
      have HV := Lib.hid hl3
      have ya : V.drew.cell? ⟨bx, 4, none⟩ = some (.int .i64 nn) := y4
      have yb : V.drew.cell? ⟨g, i * 2 + 1, none⟩ = some (.slice x.A ki x.c) := p1
      by_cases hn0 : nn < 0
      · rw [if_pos ⟨by trivial, .inl hn0⟩] at hcode
        have HE := Lib.hid hcode
        have b0 : decide (nn < 0) = true := decide_eq_true hn0
        clear hcode hp hx hfn hki hl1 hl2 hl3 h3 hn0
        go_wp2_with fail
        refine H4.out.mono ?_
        rintro e w4 ⟨rfl, hww4⟩
        obtain rfl := hww4.symm
        go_wp2_with fail
        go_quiet (fail)
        all_goals
          go_wp2_with fail
          go_ret
          exact ⟨1, (by first | rfl | trivial), Lib.hid (HR.out _ _ HE.out (by decide) (below_drewN (HH.out.2.2.1.trans (HL.out.2.2.mono HH.out.2.2.1.size)) _))⟩
      · have b0 : decide (nn < 0) = false := decide_eq_false hn0
        by_cases hnk : (ki : Int) < nn
        · rw [if_pos ⟨by trivial, .inr hnk⟩] at hcode
          have HE := Lib.hid hcode
          have b1 : decide ((ki : Int) < nn) = true := decide_eq_true hnk
          clear hcode hp hx hfn hki hl1 hl2 hl3 h3 hn0 hnk
          go_wp2_with fail
          refine H4.out.mono ?_
          rintro e w4 ⟨rfl, hww4⟩
          obtain rfl := hww4.symm
          go_wp2_with fail
          go_quiet (fail)
          all_goals
            go_wp2_with fail
            go_ret
            exact ⟨1, (by first | rfl | trivial), Lib.hid (HR.out _ _ HE.out (by decide) (below_drewN (HH.out.2.2.1.trans (HL.out.2.2.mono HH.out.2.2.1.size)) _))⟩
        · rw [if_neg (fun q => q.2.elim hn0 hnk)] at hcode
          have HE := Lib.hid hcode
          have b1 : decide ((ki : Int) < nn) = false := decide_eq_false hnk
          clear hcode hp hx hfn hki hl1 hl2 hl3 h3 hn0 hnk
          go_wp2_with fail
          refine H4.out.mono ?_
          rintro e w4 ⟨rfl, hww4⟩
          obtain rfl := hww4.symm
          go_wp2_with fail
          go_quiet (fail)
          all_goals
            generalize hV5 : V.drewN _ = V5
            have HV : Hid (Below U.heap.size U V5) := Lib.hid (by rw [← hV5]; exact below_drewN HV.out _)
            clear hV5
            -- it is done
            have z3 := ((HH.out.2.2.2.1.same (HV.out.block bx hbU)).cell 3).trans rfl
            have z0 := ((HH.out.2.2.2.1.same (HV.out.block bx hbU)).cell 0).trans rfl
            go_wp2_with (at_builtin; refine wpList_append_ns _ rfl _ _ 29 rfl U.heap.size 5 i0 (.int .u8 0) 1 Try.underlying29 hi0 hz0 hz1 hz2 rfl (.slice none 0 0) 0 [] rfl (World.ownsRow_nil _ _ _ _) .u8 w.heap.size xA kx xc d HH.out.2.2.2.2.1 rfl (HH.out.2.2.2.2.2.1.below (HH.out.2.2.1.trans (HV.out.mono HH.out.2.2.1.size))) (by omega) (by omega) HV.out.size ?_; intro v7 w7 o7 g7 at7; rw [Nat.zero_add, List.nil_append] at o7; obtain ⟨A7, c7, rfl⟩ := own_form o7; have HZ : Hid (w7.ownsRow U.heap.size 5 1 (.slice A7 kx c7) kx (nums .u8 d) ∧ Below U.heap.size U w7) := Lib.hid ⟨o7, HV.out.grown g7 HV.out.size (fun j hj => by cases hj)⟩; clear o7 g7 at7; have BZ := HH.out.2.2.2.1.same (HZ.out.2.block bx hbU); have f3 := BZ.frozen 3; have u3 := (BZ.cell 3).trans rfl; have BX := BZ.set 3 (.slice A7 kx c7); have gX := gset w7 bx 3 (.slice A7 kx c7); obtain ⟨X, hX⟩ : ∃ V, w7.setCell ⟨bx, 3, none⟩ (.slice A7 kx c7) = V := ⟨_, rfl⟩; rw [hX] at BX gX; simp only [List.set_cons_zero, List.set_cons_succ] at BX)
            have hbX : Below w.heap.size w X := (HH.out.2.2.1.trans (HZ.out.2.mono HH.out.2.2.1.size)).grown gX (by have := HZ.out.2.size; have := HH.out.2.2.1.size; omega) fun j hj => by injection hj with hj; omega
            have hoX : X.ownsRow w.heap.size 5 1 (.slice A7 kx c7) kx (nums .u8 d) := own_base (own_keep HZ.out.1 fun g hg => gX.block g (HZ.out.1.lt g hg).2 fun e => own_ne HZ.out.1 BZ (by decide) (by rw [hg, e])) HH.out.2.2.1.size
            have m2 := ((HP.out.1.same (hbX.block mb HP.out.1.lt)).cell 2).trans rfl
            have m3 := ((HP.out.1.same ((hbX.alloc hbX.size (.cells #[.int .i64 2, .string s, .string t, .slice A7 kx c7, .int .i64 nn] 70)).block mb HP.out.1.lt)).cell 2).trans rfl
            have e0 := (BX.cell 0).trans rfl
            have e1 := (BX.cell 1).trans rfl
            have e2 := (BX.cell 2).trans rfl
            have e3 := (BX.cell 3).trans rfl
            have e4 := (BX.cell 4).trans rfl
            have ea0 : X.drew.cell? ⟨bx, 0, none⟩ = some (.int .i64 2) := e0
            have ea1 : X.drew.cell? ⟨bx, 1, none⟩ = some (.string s) := e1
            have ea2 : X.drew.cell? ⟨bx, 2, none⟩ = some (.string t) := e2
            have ea3 : X.drew.cell? ⟨bx, 3, none⟩ = some (.slice A7 kx c7) := e3
            have ea4 : X.drew.cell? ⟨bx, 4, none⟩ = some (.int .i64 nn) := e4
            have ma2 : X.drew.cell? ⟨mb, 2, none⟩ = some (.slice At nt ct) := m2
            have HX := Lib.hid (And.intro hbX hoX)
            have HTr := Lib.hid (own_keep HP.out.2.2.1.1.2.1 fun g hg => hbX.block g (HP.out.2.2.2.2 g (HP.out.2.2.1.1.2.2.1 g hg)))
            clear hbX hoX BX gX BZ
            go_wp2_with fail
            go_region_law (refine step_append_lies _ (by rfl) _ _ _ (by rfl) 0 70 j0 _ 5 72 Try.underlying34 hj0 jz0 jz1 jz2 (by rfl) (by omega) (.slice At nt ct) nt (tcs ts) (by rfl) (own_below HTr.out ((Below.refl _ X).drew.alloc (Nat.le_refl _) (.cells #[.int .i64 2, .string s, .string t, .slice A7 kx c7, .int .i64 nn] 70)) (Nat.le_refl _)) ⟨X.heap.size, 0, none⟩ 1 1 [.int .i64 2, .string s, .string t, .slice A7 kx c7, .int .i64 nn] (by rfl) (by rfl) (World.news_of_block (heap_alloc_new X.drew _)) (by simp [Value.oneCell']) (by omega) (by unfold maxLen; omega) (by omega) (Nat.zero_le _) (X.heap.size + 1) (by simp) ?_; intro g9 cap9 w9 o9 gr9 at9 hl9; have hv9 : Below w.heap.size w (X.drew.alloc (.cells #[.int .i64 2, .string s, .string t, .slice A7 kx c7, .int .i64 nn] 70)) := (HX.out.1.drew).alloc HX.out.1.size _; have hT9 := own_below HTr.out ((Below.refl _ X).drew.alloc (Nat.le_refl _) (.cells #[.int .i64 2, .string s, .string t, .slice A7 kx c7, .int .i64 nn] 70)) (Nat.le_refl _); have B9 := (HP.out.1.same (hv9.block mb HP.out.1.lt)).kept gr9 (fun e => own_ne hT9 (HP.out.1.same (hv9.block mb HP.out.1.lt)) (by decide) e.symm); have r0 := (B9.cell 2).trans rfl; have r1 := B9.frozen 2)
            all_goals
              have HG := Lib.hid (HDn.out _ w9 A7 c7 g9 cap9 (X.heap.size + 1) HE.out (by omega) hv9 (own_keep HX.out.2 fun g hg => ((Below.refl X.heap.size X).drew.alloc (Nat.le_refl _) _).block g (HX.out.2.lt g hg).2) o9 gr9 at9 (by have := HX.out.1.size; omega) hl9)
              clear hv9 hT9 B9 o9 gr9 at9 hl9
              go_wp2_with fail
              go_ret
              exact ⟨0, rfl, HG⟩
  · -- Rename
    have hcode := HCode.out
    rw [if_neg (by omega)] at hcode
    have hd0 := HD1.out (by omega)
    have hkx2 : kx ≤ 1073741824 := by have h1 := HH.out.2.2.2.2.1; rw [hd0] at h1; simp only [List.length_nil] at h1; omega
    have htk : okNm t := Decidable.byContradiction fun e => ht ⟨rfl, e⟩
    have H2 := doc_wrong t U
    rw [decide_eq_true htk] at H2
    have H2 := Lib.hid H2
    clear htk
    clear hs ht hd0
    go_enter Try.func44, Try.ntmps44
    go_wp2_with fail
    refine H1.out.mono ?_
    rintro e w2 ⟨rfl, hww2⟩
    obtain rfl := hww2.symm
    go_wp2_with fail
    refine H2.out.mono ?_
    rintro e w2 ⟨rfl, hw2⟩
    obtain rfl := hw2.symm
    go_wp2_with fail
    refine HF.out.mono ?_
    rintro e w3 ⟨A3, n3, c3, rfl, h3⟩
    have h3' := h3.out
    obtain ⟨l3, hl1, hl2, hl3⟩ := h3'
    have y1 := ((HH.out.2.2.2.1.same (hl3.block bx hbU)).cell 1).trans rfl
    have y0 := ((HH.out.2.2.2.1.same (hl3.block bx hbU)).cell 0).trans rfl
    have H4 := Lib.hid (doc_find hl1 s)
    have HL := Lib.hid (And.intro hl1 (And.intro hl2 hl3))
    have hpf := pos_find l3 s
    rcases hp : pos l3 s with _ | i
    · rw [hp] at hpf
      have hfn : find P.files s = none := by rw [← hl2, find_map, show find l3 s = none from hpf]; rfl
      rw [hfn] at hcode
      have HE := Lib.hid hcode
      rw [show posI l3 s = -1 by unfold posI; rw [hp]] at H4
      clear hcode hp hpf hfn hl1 hl2 hl3 h3
      go_wp2_with fail
      refine H4.out.mono ?_
      rintro e w4 ⟨rfl, hww4⟩
      obtain rfl := hww4.symm
      go_wp2_with fail
      go_ret
      exact ⟨71, rfl, Lib.hid (HR.out _ _ HE.out (by decide) (HH.out.2.2.1.trans (HL.out.2.2.mono HH.out.2.2.1.size)))⟩
    · rw [hp] at hpf
      obtain ⟨x, hx, _⟩ := hpf
      have hfn : find P.files s = some x.d := by rw [← hl2]; exact find_pos hp hx
      rw [hfn] at hcode
      rw [show posI l3 s = (i : Int) by unfold posI; rw [hp]] at H4
      obtain ⟨g, rfl, _, p1⟩ := hl1.at hx
      have hil : i < n3 := by have := (List.getElem?_eq_some_iff.1 hx).1; have := hl1.1; omega
      have hsm := hl1.small
      obtain ⟨ki, hki⟩ : ∃ k, x.d.length = k := ⟨_, rfl⟩
      simp only [Df.v] at p1
      rw [hki] at p1
      simp only [hki] at hcode
      have d0 : decide ((i : Int) < 0) = false := decide_eq_false (by omega)
      have d1 : (0 : Int) ≤ (i : Int) := by omega
      have d2 : (i : Int) < (n3 : Int) := by omega
      have y4 := ((HH.out.2.2.2.1.same (hl3.block bx hbU)).cell 4).trans rfl
      rw [if_neg (by omega)] at hcode
      have HE := Lib.hid hcode
      obtain ⟨V, hV⟩ : ∃ V, V = w3 := ⟨_, rfl⟩
      subst hV
      have HV := Lib.hid hl3
      clear hcode hp hx hfn hki hl1 hl2 hl3 h3
      go_wp2_with fail
      refine H4.out.mono ?_
      rintro e w4 ⟨rfl, hww4⟩
      obtain rfl := hww4.symm
      -- it is done
      have z3 := ((HH.out.2.2.2.1.same (HV.out.block bx hbU)).cell 3).trans rfl
      have z0 := ((HH.out.2.2.2.1.same (HV.out.block bx hbU)).cell 0).trans rfl
      go_wp2_with (at_builtin; refine wpList_append_ns _ rfl _ _ 29 rfl U.heap.size 5 i0 (.int .u8 0) 1 Try.underlying29 hi0 hz0 hz1 hz2 rfl (.slice none 0 0) 0 [] rfl (World.ownsRow_nil _ _ _ _) .u8 w.heap.size xA kx xc d HH.out.2.2.2.2.1 rfl (HH.out.2.2.2.2.2.1.below (HH.out.2.2.1.trans (HV.out.mono HH.out.2.2.1.size))) (by omega) (by omega) HV.out.size ?_; intro v7 w7 o7 g7 at7; rw [Nat.zero_add, List.nil_append] at o7; obtain ⟨A7, c7, rfl⟩ := own_form o7; have HZ : Hid (w7.ownsRow U.heap.size 5 1 (.slice A7 kx c7) kx (nums .u8 d) ∧ Below U.heap.size U w7) := Lib.hid ⟨o7, HV.out.grown g7 HV.out.size (fun j hj => by cases hj)⟩; clear o7 g7 at7; have BZ := HH.out.2.2.2.1.same (HZ.out.2.block bx hbU); have f3 := BZ.frozen 3; have u3 := (BZ.cell 3).trans rfl; have BX := BZ.set 3 (.slice A7 kx c7); have gX := gset w7 bx 3 (.slice A7 kx c7); obtain ⟨X, hX⟩ : ∃ V, w7.setCell ⟨bx, 3, none⟩ (.slice A7 kx c7) = V := ⟨_, rfl⟩; rw [hX] at BX gX; simp only [List.set_cons_zero, List.set_cons_succ] at BX)
      have hbX : Below w.heap.size w X := (HH.out.2.2.1.trans (HZ.out.2.mono HH.out.2.2.1.size)).grown gX (by have := HZ.out.2.size; have := HH.out.2.2.1.size; omega) fun j hj => by injection hj with hj; omega
      have hoX : X.ownsRow w.heap.size 5 1 (.slice A7 kx c7) kx (nums .u8 d) := own_base (own_keep HZ.out.1 fun g hg => gX.block g (HZ.out.1.lt g hg).2 fun e => own_ne HZ.out.1 BZ (by decide) (by rw [hg, e])) HH.out.2.2.1.size
      have m2 := ((HP.out.1.same (hbX.block mb HP.out.1.lt)).cell 2).trans rfl
      have m3 := ((HP.out.1.same ((hbX.alloc hbX.size (.cells #[.int .i64 3, .string s, .string t, .slice A7 kx c7, .int .i64 nn] 70)).block mb HP.out.1.lt)).cell 2).trans rfl
      have e0 := (BX.cell 0).trans rfl
      have e1 := (BX.cell 1).trans rfl
      have e2 := (BX.cell 2).trans rfl
      have e3 := (BX.cell 3).trans rfl
      have e4 := (BX.cell 4).trans rfl
      have ea0 : X.drew.cell? ⟨bx, 0, none⟩ = some (.int .i64 3) := e0
      have ea1 : X.drew.cell? ⟨bx, 1, none⟩ = some (.string s) := e1
      have ea2 : X.drew.cell? ⟨bx, 2, none⟩ = some (.string t) := e2
      have ea3 : X.drew.cell? ⟨bx, 3, none⟩ = some (.slice A7 kx c7) := e3
      have ea4 : X.drew.cell? ⟨bx, 4, none⟩ = some (.int .i64 nn) := e4
      have ma2 : X.drew.cell? ⟨mb, 2, none⟩ = some (.slice At nt ct) := m2
      have HX := Lib.hid (And.intro hbX hoX)
      have HTr := Lib.hid (own_keep HP.out.2.2.1.1.2.1 fun g hg => hbX.block g (HP.out.2.2.2.2 g (HP.out.2.2.1.1.2.2.1 g hg)))
      clear hbX hoX BX gX BZ
      go_wp2_with fail
      go_region_law (refine step_append_lies _ (by rfl) _ _ _ (by rfl) 0 70 j0 _ 5 72 Try.underlying34 hj0 jz0 jz1 jz2 (by rfl) (by omega) (.slice At nt ct) nt (tcs ts) (by rfl) (own_below HTr.out ((Below.refl _ X).drew.alloc (Nat.le_refl _) (.cells #[.int .i64 3, .string s, .string t, .slice A7 kx c7, .int .i64 nn] 70)) (Nat.le_refl _)) ⟨X.heap.size, 0, none⟩ 1 1 [.int .i64 3, .string s, .string t, .slice A7 kx c7, .int .i64 nn] (by rfl) (by rfl) (World.news_of_block (heap_alloc_new X.drew _)) (by simp [Value.oneCell']) (by omega) (by unfold maxLen; omega) (by omega) (Nat.zero_le _) (X.heap.size + 1) (by simp) ?_; intro g9 cap9 w9 o9 gr9 at9 hl9; have hv9 : Below w.heap.size w (X.drew.alloc (.cells #[.int .i64 3, .string s, .string t, .slice A7 kx c7, .int .i64 nn] 70)) := (HX.out.1.drew).alloc HX.out.1.size _; have hT9 := own_below HTr.out ((Below.refl _ X).drew.alloc (Nat.le_refl _) (.cells #[.int .i64 3, .string s, .string t, .slice A7 kx c7, .int .i64 nn] 70)) (Nat.le_refl _); have B9 := (HP.out.1.same (hv9.block mb HP.out.1.lt)).kept gr9 (fun e => own_ne hT9 (HP.out.1.same (hv9.block mb HP.out.1.lt)) (by decide) e.symm); have r0 := (B9.cell 2).trans rfl; have r1 := B9.frozen 2)
      all_goals
        have HG := Lib.hid (HDn.out _ w9 A7 c7 g9 cap9 (X.heap.size + 1) HE.out (by omega) hv9 (own_keep HX.out.2 fun g hg => ((Below.refl X.heap.size X).drew.alloc (Nat.le_refl _) _).block g (HX.out.2.lt g hg).2) o9 gr9 at9 (by have := HX.out.1.size; omega) hl9)
        clear hv9 hT9 B9 o9 gr9 at9 hl9
        go_wp2_with fail
        go_ret
        exact ⟨0, rfl, HG⟩
  · -- Remove
    have hcode := HCode.out
    rw [if_neg (by omega)] at hcode
    have hd0 := HD1.out (by omega)
    have hkx2 : kx ≤ 1073741824 := by have h1 := HH.out.2.2.2.2.1; rw [hd0] at h1; simp only [List.length_nil] at h1; omega
    clear hs ht hd0
    go_enter Try.func44, Try.ntmps44
    go_wp2_with fail
    refine H1.out.mono ?_
    rintro e w2 ⟨rfl, hww2⟩
    obtain rfl := hww2.symm
    go_wp2_with fail
    refine HF.out.mono ?_
    rintro e w3 ⟨A3, n3, c3, rfl, h3⟩
    have h3' := h3.out
    obtain ⟨l3, hl1, hl2, hl3⟩ := h3'
    have y1 := ((HH.out.2.2.2.1.same (hl3.block bx hbU)).cell 1).trans rfl
    have y0 := ((HH.out.2.2.2.1.same (hl3.block bx hbU)).cell 0).trans rfl
    have H4 := Lib.hid (doc_find hl1 s)
    have HL := Lib.hid (And.intro hl1 (And.intro hl2 hl3))
    have hpf := pos_find l3 s
    rcases hp : pos l3 s with _ | i
    · rw [hp] at hpf
      have hfn : find P.files s = none := by rw [← hl2, find_map, show find l3 s = none from hpf]; rfl
      rw [hfn] at hcode
      have HE := Lib.hid hcode
      rw [show posI l3 s = -1 by unfold posI; rw [hp]] at H4
      clear hcode hp hpf hfn hl1 hl2 hl3 h3
      go_wp2_with fail
      refine H4.out.mono ?_
      rintro e w4 ⟨rfl, hww4⟩
      obtain rfl := hww4.symm
      go_wp2_with fail
      go_ret
      exact ⟨71, rfl, Lib.hid (HR.out _ _ HE.out (by decide) (HH.out.2.2.1.trans (HL.out.2.2.mono HH.out.2.2.1.size)))⟩
    · rw [hp] at hpf
      obtain ⟨x, hx, _⟩ := hpf
      have hfn : find P.files s = some x.d := by rw [← hl2]; exact find_pos hp hx
      rw [hfn] at hcode
      rw [show posI l3 s = (i : Int) by unfold posI; rw [hp]] at H4
      obtain ⟨g, rfl, _, p1⟩ := hl1.at hx
      have hil : i < n3 := by have := (List.getElem?_eq_some_iff.1 hx).1; have := hl1.1; omega
      have hsm := hl1.small
      obtain ⟨ki, hki⟩ : ∃ k, x.d.length = k := ⟨_, rfl⟩
      simp only [Df.v] at p1
      rw [hki] at p1
      simp only [hki] at hcode
      have d0 : decide ((i : Int) < 0) = false := decide_eq_false (by omega)
      have d1 : (0 : Int) ≤ (i : Int) := by omega
      have d2 : (i : Int) < (n3 : Int) := by omega
      have y4 := ((HH.out.2.2.2.1.same (hl3.block bx hbU)).cell 4).trans rfl
      rw [if_neg (by omega)] at hcode
      have HE := Lib.hid hcode
      obtain ⟨V, hV⟩ : ∃ V, V = w3 := ⟨_, rfl⟩
      subst hV
      have HV := Lib.hid hl3
      clear hcode hp hx hfn hki hl1 hl2 hl3 h3
      go_wp2_with fail
      refine H4.out.mono ?_
      rintro e w4 ⟨rfl, hww4⟩
      obtain rfl := hww4.symm
      -- it is done
      have z3 := ((HH.out.2.2.2.1.same (HV.out.block bx hbU)).cell 3).trans rfl
      have z0 := ((HH.out.2.2.2.1.same (HV.out.block bx hbU)).cell 0).trans rfl
      go_wp2_with (at_builtin; refine wpList_append_ns _ rfl _ _ 29 rfl U.heap.size 5 i0 (.int .u8 0) 1 Try.underlying29 hi0 hz0 hz1 hz2 rfl (.slice none 0 0) 0 [] rfl (World.ownsRow_nil _ _ _ _) .u8 w.heap.size xA kx xc d HH.out.2.2.2.2.1 rfl (HH.out.2.2.2.2.2.1.below (HH.out.2.2.1.trans (HV.out.mono HH.out.2.2.1.size))) (by omega) (by omega) HV.out.size ?_; intro v7 w7 o7 g7 at7; rw [Nat.zero_add, List.nil_append] at o7; obtain ⟨A7, c7, rfl⟩ := own_form o7; have HZ : Hid (w7.ownsRow U.heap.size 5 1 (.slice A7 kx c7) kx (nums .u8 d) ∧ Below U.heap.size U w7) := Lib.hid ⟨o7, HV.out.grown g7 HV.out.size (fun j hj => by cases hj)⟩; clear o7 g7 at7; have BZ := HH.out.2.2.2.1.same (HZ.out.2.block bx hbU); have f3 := BZ.frozen 3; have u3 := (BZ.cell 3).trans rfl; have BX := BZ.set 3 (.slice A7 kx c7); have gX := gset w7 bx 3 (.slice A7 kx c7); obtain ⟨X, hX⟩ : ∃ V, w7.setCell ⟨bx, 3, none⟩ (.slice A7 kx c7) = V := ⟨_, rfl⟩; rw [hX] at BX gX; simp only [List.set_cons_zero, List.set_cons_succ] at BX)
      have hbX : Below w.heap.size w X := (HH.out.2.2.1.trans (HZ.out.2.mono HH.out.2.2.1.size)).grown gX (by have := HZ.out.2.size; have := HH.out.2.2.1.size; omega) fun j hj => by injection hj with hj; omega
      have hoX : X.ownsRow w.heap.size 5 1 (.slice A7 kx c7) kx (nums .u8 d) := own_base (own_keep HZ.out.1 fun g hg => gX.block g (HZ.out.1.lt g hg).2 fun e => own_ne HZ.out.1 BZ (by decide) (by rw [hg, e])) HH.out.2.2.1.size
      have m2 := ((HP.out.1.same (hbX.block mb HP.out.1.lt)).cell 2).trans rfl
      have m3 := ((HP.out.1.same ((hbX.alloc hbX.size (.cells #[.int .i64 4, .string s, .string t, .slice A7 kx c7, .int .i64 nn] 70)).block mb HP.out.1.lt)).cell 2).trans rfl
      have e0 := (BX.cell 0).trans rfl
      have e1 := (BX.cell 1).trans rfl
      have e2 := (BX.cell 2).trans rfl
      have e3 := (BX.cell 3).trans rfl
      have e4 := (BX.cell 4).trans rfl
      have ea0 : X.drew.cell? ⟨bx, 0, none⟩ = some (.int .i64 4) := e0
      have ea1 : X.drew.cell? ⟨bx, 1, none⟩ = some (.string s) := e1
      have ea2 : X.drew.cell? ⟨bx, 2, none⟩ = some (.string t) := e2
      have ea3 : X.drew.cell? ⟨bx, 3, none⟩ = some (.slice A7 kx c7) := e3
      have ea4 : X.drew.cell? ⟨bx, 4, none⟩ = some (.int .i64 nn) := e4
      have ma2 : X.drew.cell? ⟨mb, 2, none⟩ = some (.slice At nt ct) := m2
      have HX := Lib.hid (And.intro hbX hoX)
      have HTr := Lib.hid (own_keep HP.out.2.2.1.1.2.1 fun g hg => hbX.block g (HP.out.2.2.2.2 g (HP.out.2.2.1.1.2.2.1 g hg)))
      clear hbX hoX BX gX BZ
      go_wp2_with fail
      go_region_law (refine step_append_lies _ (by rfl) _ _ _ (by rfl) 0 70 j0 _ 5 72 Try.underlying34 hj0 jz0 jz1 jz2 (by rfl) (by omega) (.slice At nt ct) nt (tcs ts) (by rfl) (own_below HTr.out ((Below.refl _ X).drew.alloc (Nat.le_refl _) (.cells #[.int .i64 4, .string s, .string t, .slice A7 kx c7, .int .i64 nn] 70)) (Nat.le_refl _)) ⟨X.heap.size, 0, none⟩ 1 1 [.int .i64 4, .string s, .string t, .slice A7 kx c7, .int .i64 nn] (by rfl) (by rfl) (World.news_of_block (heap_alloc_new X.drew _)) (by simp [Value.oneCell']) (by omega) (by unfold maxLen; omega) (by omega) (Nat.zero_le _) (X.heap.size + 1) (by simp) ?_; intro g9 cap9 w9 o9 gr9 at9 hl9; have hv9 : Below w.heap.size w (X.drew.alloc (.cells #[.int .i64 4, .string s, .string t, .slice A7 kx c7, .int .i64 nn] 70)) := (HX.out.1.drew).alloc HX.out.1.size _; have hT9 := own_below HTr.out ((Below.refl _ X).drew.alloc (Nat.le_refl _) (.cells #[.int .i64 4, .string s, .string t, .slice A7 kx c7, .int .i64 nn] 70)) (Nat.le_refl _); have B9 := (HP.out.1.same (hv9.block mb HP.out.1.lt)).kept gr9 (fun e => own_ne hT9 (HP.out.1.same (hv9.block mb HP.out.1.lt)) (by decide) e.symm); have r0 := (B9.cell 2).trans rfl; have r1 := B9.frozen 2)
      all_goals
        have HG := Lib.hid (HDn.out _ w9 A7 c7 g9 cap9 (X.heap.size + 1) HE.out (by omega) hv9 (own_keep HX.out.2 fun g hg => ((Below.refl X.heap.size X).drew.alloc (Nat.le_refl _) _).block g (HX.out.2.lt g hg).2) o9 gr9 at9 (by have := HX.out.1.size; omega) hl9)
        clear hv9 hT9 B9 o9 gr9 at9 hl9
        go_wp2_with fail
        go_ret
        exact ⟨0, rfl, HG⟩
end
end Disk
end Go.Proofs.Ytdcppjpjlhbanaa
