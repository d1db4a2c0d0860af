/-
  Several texts of this family in one: QuorumAwake, QuorumPair, QuorumArgs.
-/
import Derived.Test.YtbhidndgnldheaaG16D
import Derived.Test.YtbhidndgnldheaaG16C
import Derived.Test.YtbhidndgnldheaaRingInts
import Derived.Test.YtbhidndgnldheaaArgW
import Derived.Test.YtbhidndgnldheaaVersArgs
/-
  The answers that the document fixes are given (layer 16).
-/
namespace Go.Proofs.Ytbhidndgnldheaa
namespace Quorum
open Go.RowKit Vers Span Blk
attribute [local go_sem ↓] Go.wp_at_zero Go.wp_at_succ

theorem lit2 (w : World) (x y : Int) : Ns .i64 (w.alloc (.cells #[.int .i64 x, .int .i64 y] 3)) (w.alloc (.cells #[.int .i64 x, .int .i64 y] 3)).heap.size (some ⟨w.heap.size, 0, none⟩) [x, y] := fun _ =>
  ⟨w.heap.size, 0, rfl, by simp, fun j hj => by
    obtain rfl | rfl : j = 0 ∨ j = 1 := by simp at hj; omega
    all_goals simp⟩
theorem lit3 (w : World) (x y z : Int) : Ns .i64 (w.alloc (.cells #[.int .i64 x, .int .i64 y, .int .i64 z] 3)) (w.alloc (.cells #[.int .i64 x, .int .i64 y, .int .i64 z] 3)).heap.size (some ⟨w.heap.size, 0, none⟩) [x, y, z] := fun _ =>
  ⟨w.heap.size, 0, rfl, by simp, fun j hj => by
    obtain rfl | rfl | rfl : j = 0 ∨ j = 1 ∨ j = 2 := by simp at hj; omega
    all_goals simp⟩
abbrev v1 : Vr := ⟨1, 1, [], false, ⟨#[]⟩⟩
theorem vs_one {W : World} {g : Nat} (h : Bn g 69 [.int .i64 1, .int .i64 1, .slice none 0 0, .bool false, .string ⟨#[]⟩] W) : Vs W 0 W.heap.size (some ⟨g, 0, none⟩) [v1] := fun _ => by
  refine ⟨g, 0, rfl, Nat.zero_le _, h.lt, fun j hj => ?_⟩
  obtain rfl : j = 0 := by simpa using hj
  exact ⟨none, 0, (h.cell 0).trans rfl, (h.cell 1).trans rfl, (h.cell 2).trans rfl, (h.cell 3).trans rfl, (h.cell 4).trans rfl, fun h => absurd h (by simp), by simp, by simp, Nat.zero_le _, fun h => absurd h (by simp)⟩
abbrev q1 : List En := [(3, false, []), (1, true, []), (2, false, [])]
abbrev q2 : List En := [(3, true, []), (1, true, []), (2, false, [])]
abbrev r1 : List En := [(1, true, [v1]), (2, false, [])]
abbrev r2 : List En := [(1, true, [v1]), (2, true, [])]
theorem aw1 : countF (startF [3, 1, 2]) 1 [] = (true, q1) := by decide
theorem aw2 : countF q1 1 [] = (false, q1) := by decide
theorem aw3 : countF q1 4 [] = (false, q1) := by decide
theorem aw4 : doneF 2 q1 = false := by decide
theorem aw5 : countF q1 3 [] = (true, q2) := by decide
theorem aw6 : waitsF q2 = [2] := by decide
theorem aw7 : doneF 2 q2 = true := by decide
theorem aw8 : gotF (startF [1, 2]) 1 [v1] = (true, r1) := by decide
theorem aw9 : gotF r1 2 [] = (true, r2) := by decide
theorem aw10 : versF r2 = [v1] := by decide
theorem aw11 : behindF r2 [v1] = [2] := by decide
theorem aw12 : doneF 2 r2 = true := by decide
set_option maxRecDepth 100000 in
set_option maxHeartbeats 2000000 in
theorem awake_any (w : World) : Calls Try.prog 8 #[] w (fun e w' => e = .returned (.bool true) ∧ Below w.heap.size w w') := by
  obtain ⟨W1, hW1⟩ : ∃ W, w.alloc (.cells #[.int .i64 3, .int .i64 1, .int .i64 2] 3) = W := ⟨_, rfl⟩
  have b1 : Below w.heap.size w W1 := by rw [← hW1]; exact (Below.refl _ w).alloc (Nat.le_refl _) _
  have n1 : Ns .i64 W1 W1.heap.size (some ⟨w.heap.size, 0, none⟩) [3, 1, 2] := by rw [← hW1]; exact lit3 w 3 1 2
  have H1 := Lib.hid (And.intro (newW_any (some ⟨w.heap.size, 0, none⟩) 3 3 [3, 1, 2] rfl 2 W1 n1 (by omega) (by omega)) b1)
  clear b1 n1
  go_enter Try.func8, Try.ntmps8
  go_wp2_with fail
  refine H1.out.1.mono ?_
  rintro e w2 (⟨no, _⟩ | ⟨_, rb, lb, cl, cb, ab, rfl, h2⟩)
  · exact absurd (by decide) no
  have H2 := Lib.hid (ack_any h2.out.1 (by rw [start_fst]; decide) 1 aw1)
  have B2 := Lib.hid (H1.out.2.trans (h2.out.2.mono H1.out.2.size))
  have F2 : Hid (∀ k, (W1.heap.size ≤ k ∧ k < w2.heap.size) → w.heap.size ≤ k) := Lib.hid fun k hk => Nat.le_trans H1.out.2.size hk.1
  clear H1
  go_wp2_with fail
  refine H2.out.mono ?_
  rintro e w3 ⟨rfl, h3⟩
  have H3 := Lib.hid (ack_any h3.out.1 (by decide) 1 aw2)
  have B3 := Lib.hid (B2.out.trans (h3.out.2.below F2.out B2.out.size))
  clear H2 h2
  go_wp2_with fail
  refine H3.out.mono ?_
  rintro e w4 ⟨rfl, h4⟩
  have H4 := Lib.hid (ack_any h4.out.1 (by decide) 4 aw3)
  have B4 := Lib.hid (B3.out.trans (h4.out.2.below F2.out B3.out.size))
  clear H3 h3 B2
  go_wp2_with fail
  refine H4.out.mono ?_
  rintro e w5 ⟨rfl, h5⟩
  have H5 := Lib.hid (doneW_any h5.out.1)
  have B5 := Lib.hid (B4.out.trans (h5.out.2.below F2.out B4.out.size))
  clear H4 h4 B3
  go_wp2_with fail
  rw [aw4] at H5
  refine H5.out.mono ?_
  rintro e w6 ⟨rfl, b6⟩
  have h6 := h5.out.1.below b6
  have H6 := Lib.hid (ack_any h6 (by decide) 3 aw5)
  have B6 := Lib.hid (B5.out.trans (b6.mono B5.out.size))
  clear H5 h5 B4 h6 b6
  go_wp2_with fail
  refine H6.out.mono ?_
  rintro e w7 ⟨rfl, h7⟩
  have H7 := Lib.hid (waitsW_any h7.out.1)
  have B7 := Lib.hid (B6.out.trans (h7.out.2.below F2.out B6.out.size))
  clear H6 B5
  go_wp2_with fail
  rw [aw6] at H7
  refine H7.out.mono ?_
  rintro e w8 ⟨Al, kl, rfl, hl, b8⟩
  have C8 := Lib.hid (h7.out.1.below b8)
  have B8 := Lib.hid (B7.out.trans (b8.mono B7.out.size))
  have L8 := Lib.hid (hl.out.1 (by decide))
  clear H7 h7 B6 B7 hl b8
  simp only [List.length_cons, List.length_nil, Nat.zero_add] at L8
  obtain ⟨W9, hW9⟩ : ∃ W, w8.alloc (.cells #[.int .i64 1, .int .i64 2] 3) = W := ⟨_, rfl⟩
  have b9 : Below w8.heap.size w8 W9 := by rw [← hW9]; exact (Below.refl _ w8).alloc (Nat.le_refl _) _
  have n9 : Ns .i64 W9 W9.heap.size (some ⟨w8.heap.size, 0, none⟩) [1, 2] := by rw [← hW9]; exact lit2 w8 1 2
  have H9 := Lib.hid (And.intro (newR_any (some ⟨w8.heap.size, 0, none⟩) 2 2 [1, 2] rfl 2 W9 n9 (by omega) (by omega)) b9)
  clear b9 n9
  go_wp2_with fail
  refine H9.out.1.mono ?_
  rintro e w10 (⟨no, _⟩ | ⟨_, rr, lr, kr, cr, ar, rfl, h10⟩)
  · exact absurd (by decide) no
  have B10 := Lib.hid (H9.out.2.trans (h10.out.2.2.mono H9.out.2.size))
  obtain ⟨V, hV⟩ : ∃ W, w10.alloc (.cells #[.int .i64 1, .int .i64 1, .slice none 0 0, .bool false, .string ⟨#[]⟩] 69) = W := ⟨_, rfl⟩
  have bV : Below w10.heap.size w10 V := by rw [← hV]; exact (Below.refl _ w10).alloc (Nat.le_refl _) _
  have NV : Bn w10.heap.size 69 [.int .i64 1, .int .i64 1, .slice none 0 0, .bool false, .string ⟨#[]⟩] V := by rw [← hV]; exact heap_alloc_new w10 _
  obtain ⟨vb, hvb⟩ : ∃ b, w10.heap.size = b := ⟨_, rfl⟩
  rw [hvb] at NV
  have H11 := Lib.hid (got_any (h10.out.1.below bV) (h10.out.2.1.below bV) (by rw [start_fst]; decide) 1 (some ⟨vb, 0, none⟩) 1 1 [v1] rfl (by omega) (vs_one NV) aw8)
  have B11 := Lib.hid (And.intro (B10.out.trans (bV.mono B10.out.size)) NV)
  have F11 : Hid (∀ k, (W9.heap.size ≤ k ∧ k < w10.heap.size) → w8.heap.size ≤ k ∧ k ≠ vb) := Lib.hid fun k hk => ⟨Nat.le_trans H9.out.2.size hk.1, by omega⟩
  have S11 : Hid (vb < V.heap.size) := Lib.hid NV.lt
  have HV := Lib.hid hV
  clear H9 h10 bV NV hV
  go_wp2_with fail
  rw [HV.out]
  refine H11.out.mono ?_
  rintro e w12 ⟨rfl, h12⟩
  obtain ⟨F12, ps12, c12, a12, s12⟩ := h12.out
  have o12 := s12.old B11.out.1 fun k hk => (F11.out k hk).1
  have N12 := B11.out.2.same (s12.1.block vb S11.out fun hk => (F11.out vb hk).2 rfl)
  have H12 := Lib.hid (got_any c12 a12 (by decide) 2 none 0 0 [] rfl (by omega) (Vs.nil none) aw9)
  have B12 := Lib.hid (And.intro o12 (And.intro N12 fun k (hk : F12 k) => show k ≠ vb from (s12.2 k hk).elim (fun h => (F11.out k h).2) fun h e => by have := S11.out; omega))
  clear H11 h12 c12 a12 s12 o12 N12 F11 B11 B10
  go_wp2_with fail
  refine H12.out.mono ?_
  rintro e w13 ⟨rfl, h13⟩
  obtain ⟨F13, ps13, c13, a13, s13⟩ := h13.out
  have o13 := (s13.old B12.out.1.1 B12.out.1.2).1
  have N13 := B12.out.2.1.same (s13.1.block vb B12.out.2.1.lt fun hk => B12.out.2.2 vb hk rfl)
  have H13 := Lib.hid (behind_any c13 a13)
  have B13 := Lib.hid (And.intro o13 (And.intro N13 (And.intro c13 a13)))
  clear H12 h13 c13 a13 s13 o13 N13 B12 S11
  rw [aw10, aw11] at H13
  go_wp2_with fail
  refine H13.out.mono ?_
  rintro e w14 ⟨Ab, kb, rfl, hb, b14⟩
  have L14 := Lib.hid (hb.out.1 (by decide))
  simp only [List.length_cons, List.length_nil, Nat.zero_add] at L14
  have o14 := B13.out.1.trans (b14.mono B13.out.1.size)
  have H14 := Lib.hid (doneW_any (C8.out.below o14))
  rw [aw7] at H14
  have B14 := Lib.hid (And.intro o14 (And.intro (bn_below B13.out.2.1 b14) (And.intro (B13.out.2.2.1.below b14) (B13.out.2.2.2.below b14))))
  clear H13 hb b14 o14 B13 C8
  go_wp2_with fail
  refine H14.out.mono ?_
  rintro e w15 ⟨rfl, b15⟩
  have o15 := B14.out.1.trans (b15.mono B14.out.1.size)
  have H15 := Lib.hid (doneR_any (B14.out.2.2.1.below b15))
  rw [aw12] at H15
  have B15 := Lib.hid (And.intro o15 (And.intro (bn_below B14.out.2.1 b15) (And.intro (B14.out.2.2.1.below b15) (And.intro (B14.out.2.2.2.below b15) b15))))
  obtain ⟨lb8, lo8, rfl, hlb8, hl8⟩ := L8.out
  have x8 : w15.cell? ⟨lb8, lo8, none⟩ = some (.int .i64 2) := (o15.cell (p := ⟨lb8, lo8 + 0, none⟩) hlb8).trans (hl8 0 (by simp))
  obtain ⟨lb14, lo14, rfl, hlb14, hl14⟩ := L14.out
  have x14 : Hid (w14.cell? ⟨lb14, lo14, none⟩ = some (.int .i64 2)) := Lib.hid (hl14 0 (by simp))
  clear H14 b15 o15 B14 L8 L14 hl8 hl14
  go_wp2_with fail
  refine H15.out.mono ?_
  rintro e w16 ⟨rfl, b16⟩
  have H16 := Lib.hid (vers_any (B15.out.2.2.1.below b16) (B15.out.2.2.2.1.below b16))
  rw [aw10] at H16
  have HB := Lib.hid (And.intro hlb14 b16)
  clear H15 hlb14 b16
  go_wp2_with fail
  refine H16.out.mono ?_
  rintro e w17 ⟨Av, kv, rfl, hv, b17⟩
  have N17 := bn_below (bn_below B15.out.2.1 HB.out.2) b17
  have H17 := Lib.hid (ref_sameV_any Av (some ⟨vb, 0, none⟩) kv 1 1 1 [v1] [v1] rfl rfl w17 (hv.out.2.less (Nat.zero_le _)) (vs_one N17) (by omega) (by omega))
  rw [decide_eq_true rfl] at H17
  have HE := Lib.hid (And.intro b17 N17)
  simp only [List.length_cons, List.length_nil, Nat.zero_add]
  clear hv b17 N17 H16
  go_wp2_with fail
  refine H17.out.mono ?_
  rintro e w18 ⟨rfl, b18⟩
  have o18 : Below w14.heap.size w14 w18 := ((B15.out.2.2.2.2.trans (HB.out.2.mono B15.out.2.2.2.2.size)).trans (HE.out.1.mono (B15.out.2.2.2.2.trans (HB.out.2.mono B15.out.2.2.2.2.size)).size)).trans (b18.mono (Nat.le_trans (Nat.le_trans B15.out.2.2.2.2.size HB.out.2.size) HE.out.1.size))
  have y14 := (o18.cell (p := ⟨lb14, lo14, none⟩) HB.out.1).trans x14.out
  have oE : Below w.heap.size w w18 := ((((B8.out.trans (B15.out.1.mono B8.out.size)).trans (HB.out.2.mono (B8.out.trans (B15.out.1.mono B8.out.size)).size))).trans (HE.out.1.mono (Nat.le_trans (B8.out.trans (B15.out.1.mono B8.out.size)).size HB.out.2.size))).trans (b18.mono (Nat.le_trans (Nat.le_trans (B8.out.trans (B15.out.1.mono B8.out.size)).size HB.out.2.size) HE.out.1.size))
  have HO := Lib.hid oE
  clear o18 oE H17 b18 HE B8
  go_wp2_with fail
  go_ret
  exact ⟨rfl, HO.out⟩
end Quorum
end Go.Proofs.Ytbhidndgnldheaa

/-
  Two askings in one world, each apart from the other and from the blocks X (layer 16).
-/
namespace Go.Proofs.Ytbhidndgnldheaa
namespace Quorum
open Go.RowKit Vers Span Blk

theorem count_fst {l : List En} {node : Int} {a : List Vr} {b : Bool} {l' : List En} (hc : countF l node a = (b, l')) : l'.map Prod.fst = l.map Prod.fst := by
  rcases place_count l node a with ⟨_, h⟩ | ⟨i, an, _, he, h⟩
  · rw [h] at hc
    injection hc with _ hc
    rw [← hc]
  · rw [h] at hc
    injection hc with _ hc
    rw [← hc, List.map_set]
    refine List.ext_getElem? fun j => ?_
    by_cases hij : i = j
    · subst hij
      have hi := (List.getElem?_eq_some_iff.1 he).1
      rw [List.getElem?_set_self (by simpa using hi), List.getElem?_map, he]
      rfl
    · rw [List.getElem?_set_ne hij]
theorem got_fst {l : List En} {node : Int} {a : List Vr} {b : Bool} {l' : List En} (hc : gotF l node a = (b, l')) : l'.map Prod.fst = l.map Prod.fst := by
  unfold gotF at hc
  split at hc
  · exact count_fst hc
  · injection hc with _ hc
    rw [← hc]
theorem mute_got {l : List En} {node : Int} {a : List Vr} {b : Bool} {l' : List En} (h : Mute l) (hc : gotF l node a = (b, l')) : Mute l' := by
  unfold gotF at hc
  split at hc
  · exact mute_count h hc
  · injection hc with _ hc
    rw [← hc]
    exact h
theorem len_fst {l l' : List En} (h : l'.map Prod.fst = l.map Prod.fst) : l'.length = l.length := by
  have := congrArg List.length h
  simpa using this

/-- The blocks X stay. -/
def Kept (X : Nat → Prop) (V V' : World) : Prop := V.heap.size ≤ V'.heap.size ∧ ∀ j, X j → V'.heap[j]? = V.heap[j]?
section
variable {X Y : Nat → Prop} {V V' V'' : World}
theorem Kept.refl (V : World) : Kept X V V := ⟨Nat.le_refl _, fun _ _ => rfl⟩
theorem Kept.trans (h : Kept X V V') (h' : Kept X V' V'') : Kept X V V'' := ⟨Nat.le_trans h.1 h'.1, fun j hj => (h'.2 j hj).trans (h.2 j hj)⟩
theorem Kept.bn {B : Nat} {t : TypeId} {cs : List Value} (hk : Kept X V V') (hX : X B) (h : Bn B t cs V) : Bn B t cs V' := h.same (hk.2 B hX)
theorem Kept.of_below (h : Below V.heap.size V V') (hX : ∀ k, X k → k < V.heap.size) : Kept X V V' := ⟨h.size, fun k hk => h.block k (hX k hk)⟩
theorem Kept.less (h : Kept X V V') (hY : ∀ k, Y k → X k) : Kept Y V V' := ⟨h.1, fun k hk => h.2 k (hY k hk)⟩
theorem Kept.ns {k : IntKind} {A : Option Addr} {zs : List Int} (hk : Kept X V V') (hX : 0 < zs.length → ∀ a, A = some a → X a.block) (h : Ns k V V.heap.size A zs) : Ns k V' V'.heap.size A zs := fun hp => by
  obtain ⟨b, off, e, hb, hc⟩ := h hp
  exact ⟨b, off, e, Nat.lt_of_lt_of_le hb hk.1, fun j hj => (World.cell?_of_block (hk.2 b (hX hp _ e))).trans (hc j hj)⟩
theorem Kept.vs {L B : Nat} {A : Option Addr} {l : List Vr} (hk : Kept X V V') (hX : ∀ k, L ≤ k → k < B → X k) (h : Vs V L B A l) : Vs V' L B A l := h.keep fun p h1 h2 => World.cell?_of_block (hk.2 p.block (hX _ h1 h2))
end

/-- One asking. -/
def Side (q : Prop) (T : TypeId) (F : Nat → Prop) (W : World) (rb : Nat) (m : Int) (l : List En) (n : Nat) : Prop :=
  (∃ lb cl cb ab x, Core T F W rb m l n lb cl cb ab x ∧ (q → ∃ ps, Ans F W l ps cb ab)) ∧ (l.map Prod.fst).Nodup
section
variable {q : Prop} {T : TypeId} {F : Nat → Prop} {W W' : World} {rb n : Nat} {m : Int} {l : List En}
theorem Side.lt (h : Side q T F W rb m l n) : ∀ k, F k → k < W.heap.size := by
  obtain ⟨⟨lb, cl, cb, ab, x, hc, _⟩, _⟩ := h
  exact hc.lt
theorem Side.keep (h : Side q T F W rb m l n) (hs : W.heap.size ≤ W'.heap.size) (hk : ∀ k, F k → W'.heap[k]? = W.heap[k]?) : Side q T F W' rb m l n := by
  obtain ⟨⟨lb, cl, cb, ab, x, hc, ha⟩, hn⟩ := h
  refine ⟨⟨lb, cl, cb, ab, x, hc.keep hs hk, fun hq => ?_⟩, hn⟩
  obtain ⟨ps, hp⟩ := ha hq
  exact ⟨ps, hp.keep hs (hk ab hc.2.2.2.1.2.2.2.1) fun k h1 _ _ => hk k h1⟩
end

/-- Both askings; all of them made since w. -/
def Pr (X : Nat → Prop) (w : World) (n : Nat) (q1 : Prop) (T1 : TypeId) (r1 : Nat) (m1 : Int) (l1 : List En) (q2 : Prop) (T2 : TypeId) (r2 : Nat) (m2 : Int) (l2 : List En) (W : World) : Prop :=
  ∃ F1 F2, Side q1 T1 F1 W r1 m1 l1 n ∧ Side q2 T2 F2 W r2 m2 l2 n ∧ (∀ k, F1 k → w.heap.size ≤ k ∧ ¬ F2 k) ∧ (∀ k, F2 k → w.heap.size ≤ k) ∧ Below w.heap.size w W ∧ ∀ k, X k → k < W.heap.size ∧ ¬ F1 k ∧ ¬ F2 k
section
variable {X Y : Nat → Prop} {w W W' : World} {n : Nat} {q1 : Prop} {T1 : TypeId} {r1 : Nat} {m1 : Int} {l1 : List En} {q2 : Prop} {T2 : TypeId} {r2 : Nat} {m2 : Int} {l2 : List En}
theorem Pr.swap (h : Pr X w n q1 T1 r1 m1 l1 q2 T2 r2 m2 l2 W) : Pr X w n q2 T2 r2 m2 l2 q1 T1 r1 m1 l1 W := by
  obtain ⟨F1, F2, h1, h2, h3, h4, h5, h6⟩ := h
  exact ⟨F2, F1, h2, h1, fun k hk => ⟨h4 k hk, fun h => (h3 k h).2 hk⟩, fun k hk => (h3 k hk).1, h5, fun k hk => ⟨(h6 k hk).1, (h6 k hk).2.2, (h6 k hk).2.1⟩⟩
theorem Pr.old (h : Pr X w n q1 T1 r1 m1 l1 q2 T2 r2 m2 l2 W) : Below w.heap.size w W := by
  obtain ⟨_, _, _, _, _, _, h5, _⟩ := h
  exact h5
theorem Pr.xlt (h : Pr X w n q1 T1 r1 m1 l1 q2 T2 r2 m2 l2 W) : ∀ k, X k → k < W.heap.size := by
  obtain ⟨_, _, _, _, _, _, _, h6⟩ := h
  exact fun k hk => (h6 k hk).1
theorem Pr.nodup (h : Pr X w n q1 T1 r1 m1 l1 q2 T2 r2 m2 l2 W) : (l1.map Prod.fst).Nodup := by
  obtain ⟨_, _, h1, _⟩ := h
  exact h1.2
theorem Pr.len (h : Pr X w n q1 T1 r1 m1 l1 q2 T2 r2 m2 l2 W) : l1.length = n ∧ n ≤ 8 := by
  obtain ⟨_, _, ⟨⟨_, _, _, _, _, hc, _⟩, _⟩, _⟩ := h
  exact ⟨hc.len, hc.1.2.2.2⟩
theorem Pr.less (h : Pr X w n q1 T1 r1 m1 l1 q2 T2 r2 m2 l2 W) (hY : ∀ k, Y k → X k) : Pr Y w n q1 T1 r1 m1 l1 q2 T2 r2 m2 l2 W := by
  obtain ⟨F1, F2, h1, h2, h3, h4, h5, h6⟩ := h
  exact ⟨F1, F2, h1, h2, h3, h4, h5, fun k hk => h6 k (hY k hk)⟩
theorem Pr.below (h : Pr X w n q1 T1 r1 m1 l1 q2 T2 r2 m2 l2 W) (hb : Below W.heap.size W W') : Pr X w n q1 T1 r1 m1 l1 q2 T2 r2 m2 l2 W' := by
  obtain ⟨F1, F2, h1, h2, h3, h4, h5, h6⟩ := h
  exact ⟨F1, F2, h1.keep hb.size fun k hk => hb.block k (h1.lt k hk), h2.keep hb.size fun k hk => hb.block k (h2.lt k hk), h3, h4, h5.trans (hb.mono h5.size), fun k hk => ⟨Nat.lt_of_lt_of_le (h6 k hk).1 hb.size, (h6 k hk).2⟩⟩
/-- What is new, and what is old, is none of theirs. -/
theorem Pr.hold (h : Pr X w n q1 T1 r1 m1 l1 q2 T2 r2 m2 l2 W) (hb : Below W.heap.size W W') : Pr (fun k => X k ∨ (W.heap.size ≤ k ∧ k < W'.heap.size) ∨ k < w.heap.size) w n q1 T1 r1 m1 l1 q2 T2 r2 m2 l2 W' := by
  obtain ⟨F1, F2, h1, h2, h3, h4, h5, h6⟩ := h
  refine ⟨F1, F2, h1.keep hb.size fun k hk => hb.block k (h1.lt k hk), h2.keep hb.size fun k hk => hb.block k (h2.lt k hk), h3, h4, h5.trans (hb.mono h5.size), fun k hk => ?_⟩
  rcases hk with hk | hk | hk
  · exact ⟨Nat.lt_of_lt_of_le (h6 k hk).1 hb.size, (h6 k hk).2⟩
  · exact ⟨hk.2, fun hf => by have := h1.lt k hf; omega, fun hf => by have := h2.lt k hf; omega⟩
  · exact ⟨by have := h5.size; have := hb.size; omega, fun hf => by have := (h3 k hf).1; omega, fun hf => by have := h4 k hf; omega⟩
/-- A change that turns none of theirs. -/
theorem Pr.other (h : Pr X w n q1 T1 r1 m1 l1 q2 T2 r2 m2 l2 W) {G : Nat → Prop} (hc : Chg G W W') (hG : ∀ k, G k → X k ∧ w.heap.size ≤ k) : Pr X w n q1 T1 r1 m1 l1 q2 T2 r2 m2 l2 W' := by
  obtain ⟨F1, F2, h1, h2, h3, h4, h5, h6⟩ := h
  exact ⟨F1, F2, h1.keep hc.size fun k hk => hc.block k (h1.lt k hk) fun hg => (h6 k (hG k hg).1).2.1 hk, h2.keep hc.size fun k hk => hc.block k (h2.lt k hk) fun hg => (h6 k (hG k hg).1).2.2 hk, h3, h4, h5.trans (hc.below (fun k hk => (hG k hk).2) h5.size), fun k hk => ⟨Nat.lt_of_lt_of_le (h6 k hk).1 hc.size, (h6 k hk).2⟩⟩
theorem Pr.one (h : Pr X w n q1 T1 r1 m1 l1 q2 T2 r2 m2 l2 W) : ∃ F1, Side q1 T1 F1 W r1 m1 l1 n ∧ (∀ k, F1 k → w.heap.size ≤ k) ∧ ∀ F' W' l', Side q1 T1 F' W' r1 m1 l' n → Stp F1 W F' W' → Pr X w n q1 T1 r1 m1 l' q2 T2 r2 m2 l2 W' ∧ Kept X W W' := by
  obtain ⟨F1, F2, h1, h2, h3, h4, h5, h6⟩ := h
  refine ⟨F1, h1, fun k hk => (h3 k hk).1, fun F' W' l' s hs => ⟨⟨F', F2, s, h2.keep hs.1.size fun k hk => hs.1.block k (h2.lt k hk) fun hf => (h3 k hf).2 hk, fun k hk => ?_, h4, h5.trans (hs.1.below (fun k hk => (h3 k hk).1) h5.size), fun k hk => ⟨Nat.lt_of_lt_of_le (h6 k hk).1 hs.1.size, fun hf => ?_, (h6 k hk).2.2⟩⟩, hs.1.size, fun k hk => hs.1.block k (h6 k hk).1 (h6 k hk).2.1⟩⟩
  · rcases hs.2 k hk with hf | hf
    · exact h3 k hf
    · exact ⟨Nat.le_trans h5.size hf, fun h => by have := h2.lt k h; omega⟩
  · rcases hs.2 k hf with hg | hg
    · exact (h6 k hk).2.1 hg
    · have := (h6 k hk).1
      omega
theorem Pr.new {F1 F2 : Nat → Prop} {V : World} (h1 : Side q1 T1 F1 V r1 m1 l1 n) (hf1 : ∀ k, F1 k → w.heap.size ≤ k) (hb : Below w.heap.size w V) (h2 : Side q2 T2 F2 W r2 m2 l2 n) (hf2 : ∀ k, F2 k → V.heap.size ≤ k) (hb2 : Below V.heap.size V W) : Pr (fun k => k < w.heap.size) w n q1 T1 r1 m1 l1 q2 T2 r2 m2 l2 W :=
  ⟨F1, F2, h1.keep hb2.size fun k hk => hb2.block k (h1.lt k hk), h2, fun k hk => ⟨hf1 k hk, fun h => by have := hf2 k h; have := h1.lt k hk; omega⟩, fun k hk => Nat.le_trans hb.size (hf2 k hk), hb.trans (hb2.mono hb.size), fun k hk => ⟨by have := hb.size; have := hb2.size; omega, fun h => by have := hf1 k h; omega, fun h => by have := hf2 k h; have := hb.size; omega⟩⟩
theorem Pr.ack (h : Pr X w n False T1 r1 m1 l1 q2 T2 r2 m2 l2 W) (node : Int) {b : Bool} {l' : List En} (hc : countF l1 node [] = (b, l')) :
    Calls Try.prog 11 #[hd r1, .int .i64 node] W (fun e w' => e = .returned (.bool b) ∧ Hid (Pr X w n False T1 r1 m1 l' q2 T2 r2 m2 l2 w' ∧ Kept X W w')) := by
  obtain ⟨F1, ⟨⟨lb, cl, cb, ab, x, hC, _⟩, hnd⟩, _, hstep⟩ := h.one
  refine (ack_any hC hnd node hc).mono ?_
  rintro e w' ⟨he, hh⟩
  exact ⟨he, Lib.hid (hstep F1 w' l' ⟨⟨lb, cl, cb, ab, x, hh.out.1, False.elim⟩, by rw [count_fst hc]; exact hnd⟩ ⟨hh.out.2, fun _ h => .inl h⟩)⟩
theorem Pr.ackA (h : Pr X w n False T1 r1 m1 l1 q2 T2 r2 m2 l2 W) (node : Int) {b : Bool} {l' : List En} (hc : countF l1 node [] = (b, l')) :
    Calls Try.prog 12 #[hd r1, .int .i64 node] W (fun e w' => e = .returned (.bool b) ∧ Hid (Pr X w n False T1 r1 m1 l' q2 T2 r2 m2 l2 w' ∧ Kept X W w')) := by
  obtain ⟨F1, ⟨⟨lb, cl, cb, ab, x, hC, _⟩, hnd⟩, _, hstep⟩ := h.one
  refine (ackA_any hC node hc).mono ?_
  rintro e w' ⟨he, hh⟩
  exact ⟨he, Lib.hid (hstep F1 w' l' ⟨⟨lb, cl, cb, ab, x, hh.out.1, False.elim⟩, by rw [count_fst hc]; exact hnd⟩ ⟨hh.out.2, fun _ h => .inl h⟩)⟩
theorem Pr.got (h : Pr X w n True T1 r1 m1 l1 q2 T2 r2 m2 l2 W) (node : Int) (Aa : Option Addr) (ca m : Nat) (an : List Vr) (hm : an.length = m) (hbig : m ≤ 140737488351328) (hv : Vs W 0 W.heap.size Aa an) {b : Bool} {l' : List En} (hc : gotF l1 node an = (b, l')) :
    Calls Try.prog 19 #[hd r1, .int .i64 node, .slice Aa m ca] W (fun e w' => e = .returned (.bool b) ∧ Hid (Pr X w n True T1 r1 m1 l' q2 T2 r2 m2 l2 w' ∧ Kept X W w')) := by
  obtain ⟨F1, ⟨⟨lb, cl, cb, ab, x, hC, ha⟩, hnd⟩, _, hstep⟩ := h.one
  obtain ⟨ps, hA⟩ := ha trivial
  refine (got_any hC hA hnd node Aa ca m an hm (by omega) hv hc).mono ?_
  rintro e w' ⟨he, hh⟩
  obtain ⟨F', ps', h1, h2, h3⟩ := hh.out
  exact ⟨he, Lib.hid (hstep F' w' l' ⟨⟨lb, cl, cb, ab, x, h1, fun _ => ⟨ps', h2⟩⟩, by rw [got_fst hc]; exact hnd⟩ h3)⟩
theorem Pr.gotA (h : Pr X w n True T1 r1 m1 l1 q2 T2 r2 m2 l2 W) (node : Int) (Aa : Option Addr) (ca m : Nat) (an : List Vr) (hm : an.length = m) (hbig : m ≤ 140737488351328) (hv : Vs W 0 w.heap.size Aa an) {b : Bool} {l' : List En} (hc : gotF l1 node an = (b, l')) :
    Calls Try.prog 20 #[hd r1, .int .i64 node, .slice Aa m ca] W (fun e w' => e = .returned (.bool b) ∧ Hid (Pr X w n True T1 r1 m1 l' q2 T2 r2 m2 l2 w' ∧ Kept X W w')) := by
  have hold := h.old
  have hx := h.xlt
  obtain ⟨F1, ⟨⟨lb, cl, cb, ab, x, hC, ha⟩, hnd⟩, hF, hstep⟩ := h.one
  obtain ⟨ps, hA⟩ := ha trivial
  cases b
  · have e1 : l' = l1 := by
      unfold gotF countF at hc
      split at hc
      · split at hc
        · injection hc with h1; cases h1
        · injection hc with _ h1; exact h1.symm
      · injection hc with _ h1; exact h1.symm
    subst e1
    refine (gotA_no hC hA node Aa ca m an hm (by omega) (hv.more hold.size) (by rw [hc])).mono ?_
    rintro e w' ⟨he, hb⟩
    exact ⟨he, Lib.hid ⟨h.below hb, Kept.of_below hb hx⟩⟩
  · refine (gotA_yes hC hA node Aa ca m an hm w.heap.size hv hold.size hF hc).mono ?_
    rintro e w' ⟨he, hh⟩
    obtain ⟨F', ps', h1, h2, h3⟩ := hh.out
    exact ⟨he, Lib.hid (hstep F' w' l' ⟨⟨lb, cl, cb, ab, x, h1, fun _ => ⟨ps', h2⟩⟩, by rw [got_fst hc]; exact hnd⟩ h3)⟩
theorem Pr.doneW (h : Pr X w n q1 T1 r1 m1 l1 q2 T2 r2 m2 l2 W) : Calls Try.prog 13 #[hd r1] W (fun e w' => e = .returned (.bool (doneF m1 l1)) ∧ Below W.heap.size W w') := by
  obtain ⟨F1, ⟨⟨lb, cl, cb, ab, x, hC, _⟩, _⟩, _⟩ := h.one
  exact doneW_any hC
theorem Pr.doneR (h : Pr X w n q1 T1 r1 m1 l1 q2 T2 r2 m2 l2 W) : Calls Try.prog 21 #[hd r1] W (fun e w' => e = .returned (.bool (doneF m1 l1)) ∧ Below W.heap.size W w') := by
  obtain ⟨F1, ⟨⟨lb, cl, cb, ab, x, hC, _⟩, _⟩, _⟩ := h.one
  exact doneR_any hC
theorem Pr.doneA (h : Pr X w n q1 T1 r1 m1 l1 q2 T2 r2 m2 l2 W) : Calls Try.prog 14 #[hd r1] W (fun e w' => e = .returned (.bool (doneF m1 l1)) ∧ Below W.heap.size W w') := by
  obtain ⟨F1, ⟨⟨lb, cl, cb, ab, x, hC, _⟩, _⟩, _⟩ := h.one
  exact doneA_any hC
theorem Pr.waitsW (h : Pr X w n q1 T1 r1 m1 l1 q2 T2 r2 m2 l2 W) : Calls Try.prog 16 #[hd r1] W (NewI (waitsF l1) W) := by
  obtain ⟨F1, ⟨⟨lb, cl, cb, ab, x, hC, _⟩, _⟩, _⟩ := h.one
  exact waitsW_any hC
theorem Pr.waitsR (h : Pr X w n q1 T1 r1 m1 l1 q2 T2 r2 m2 l2 W) : Calls Try.prog 22 #[hd r1] W (NewI (waitsF l1) W) := by
  obtain ⟨F1, ⟨⟨lb, cl, cb, ab, x, hC, _⟩, _⟩, _⟩ := h.one
  exact waitsR_any hC
theorem Pr.waitsA (h : Pr X w n q1 T1 r1 m1 l1 q2 T2 r2 m2 l2 W) : Calls Try.prog 17 #[hd r1] W (NewI (waitsF l1) W) := by
  obtain ⟨F1, ⟨⟨lb, cl, cb, ab, x, hC, _⟩, _⟩, _⟩ := h.one
  exact waitsA_any hC
theorem Pr.vers (h : Pr X w n True T1 r1 m1 l1 q2 T2 r2 m2 l2 W) : Calls Try.prog 24 #[hd r1] W (GotVs (versF l1) W) := by
  obtain ⟨F1, ⟨⟨lb, cl, cb, ab, x, hC, ha⟩, _⟩, _⟩ := h.one
  obtain ⟨ps, hA⟩ := ha trivial
  exact vers_any hC hA
theorem Pr.behind (h : Pr X w n True T1 r1 m1 l1 q2 T2 r2 m2 l2 W) : Calls Try.prog 26 #[hd r1] W (NewI (behindF l1 (versF l1)) W) := by
  obtain ⟨F1, ⟨⟨lb, cl, cb, ab, x, hC, ha⟩, _⟩, _⟩ := h.one
  obtain ⟨ps, hA⟩ := ha trivial
  exact behind_any hC hA
theorem Pr.allA (h : Pr X w n True T1 r1 m1 l1 q2 T2 r2 m2 l2 W) (hm : Mute l1) : Calls Try.prog 25 #[hd r1] W (GotA (versF l1) W) := by
  obtain ⟨F1, ⟨⟨lb, cl, cb, ab, x, hC, ha⟩, _⟩, _⟩ := h.one
  obtain ⟨ps, hA⟩ := ha trivial
  have := allA_any hC hA
  rwa [doc_vers l1 hm] at this
theorem Pr.behindA (h : Pr X w n True T1 r1 m1 l1 q2 T2 r2 m2 l2 W) (hm : Mute l1) : Calls Try.prog 27 #[hd r1] W (NewI (behindF l1 (versF l1)) W) := by
  obtain ⟨F1, ⟨⟨lb, cl, cb, ab, x, hC, ha⟩, _⟩, _⟩ := h.one
  obtain ⟨ps, hA⟩ := ha trivial
  have := behindA_any hC hA
  rwa [doc_vers l1 hm] at this
end
/-- What New answers, as one side. -/
theorem new_sideW {ls : List Int} {need : Int} {n rb lb cl cb ab : Nat} {w w' : World} (ho : okL ls need) (h : Core 37 (fun k => w.heap.size ≤ k ∧ k < w'.heap.size) w' rb need (startF ls) n lb cl cb ab []) : Side False 37 (fun k => w.heap.size ≤ k ∧ k < w'.heap.size) w' rb need (startF ls) n :=
  ⟨⟨lb, cl, cb, ab, [], h, False.elim⟩, by rw [start_fst]; exact ho.2.2⟩
theorem new_sideR {T : TypeId} {ls : List Int} {need : Int} {n rb lb cl cb ab : Nat} {x : List Value} {ps : List Plc} {w w' : World} (ho : okL ls need) (h : Core T (fun k => w.heap.size ≤ k ∧ k < w'.heap.size) w' rb need (startF ls) n lb cl cb ab x) (ha : Ans (fun k => w.heap.size ≤ k ∧ k < w'.heap.size) w' (startF ls) ps cb ab) : Side True T (fun k => w.heap.size ≤ k ∧ k < w'.heap.size) w' rb need (startF ls) n :=
  ⟨⟨lb, cl, cb, ab, x, h, fun _ => ⟨ps, ha⟩⟩, by rw [start_fst]; exact ho.2.2⟩
theorem Side.weak {q : Prop} {T : TypeId} {F : Nat → Prop} {W : World} {rb n : Nat} {m : Int} {l : List En} (h : Side q T F W rb m l n) : Side False T F W rb m l n := by
  obtain ⟨⟨lb, cl, cb, ab, x, hc, _⟩, hn⟩ := h
  exact ⟨⟨lb, cl, cb, ab, x, hc, False.elim⟩, hn⟩
end Quorum
end Go.Proofs.Ytbhidndgnldheaa

/-
  Answers of nodes among a law's arguments (layer 16).
-/
namespace Go.Proofs.Ytbhidndgnldheaa
namespace Quorum
open Go.ChangeShapes Go.WideShapes Go.ChangeAt Go.RowKit Go.Joins Go.Deep Vers Span Blk
/-- A node, its versions and where they lie; its records by their slice alone. -/
abbrev Rp := (Int × List Vr) × Plc × (Option Addr × Nat × Nat)
def rpc (x : Rp) : List Value := [.int .i64 x.1.1, .slice x.2.1.1 x.1.2.length x.2.1.2, .slice x.2.2.1 x.2.2.2.1 x.2.2.2.2]
abbrev rp0 : Rp := ((0, []), (none, 0), (none, 0, 0))
abbrev vcc (p : Vr × Option Addr × Nat) : List Value := [.int .i64 p.1.s, .int .i64 p.1.n, .slice p.2.1 p.1.past.length p.2.2, .bool p.1.gone, .string p.1.val]
abbrev z0 : Vr × Option Addr × Nat := (v0, none, 0)
theorem cells_rep : Try.prog.cellsOf 50 = 3 := by kernel_rfl
theorem bytes_rep : Try.prog.bytesOf 50 = 56 := by kernel_rfl
theorem cells_vs : Try.prog.cellsOf 47 = 1 := by kernel_rfl
theorem cells_recs : Try.prog.cellsOf 48 = 1 := by kernel_rfl
/-- Answers, read from the address A on. -/
def Rs (w : World) (A : Option Addr) (l : List Rp) : Prop :=
  (0 < l.length → ∃ b off, A = some ⟨b, off, none⟩ ∧ b < w.heap.size ∧ ∀ (j : Nat) (x : Rp), l[j]? = some x → ∀ r u, (rpc x)[r]? = some u → w.cell? ⟨b, off + j * 3 + r, none⟩ = some u) ∧
  ∀ x ∈ l, Vs w 0 w.heap.size x.2.1.1 x.1.2 ∧ x.1.2.length ≤ x.2.1.2 ∧ x.1.2.length * 64 ≤ 140737488351232
section
variable {H : Type} {enc : TypeId × Value → H} {W : World}
set_option maxRecDepth 100000 in
/-- Versions by their cell. -/
theorem vs_cell {n : Nat} {cs : List Value} {D : DataW H} {Pl : List MemPlace} (h : DataW.trod enc Try.prog W 0 (fun _ => true) true n 47 cs = some (D, Pl)) (hw : Wgt.Wt Try.prog 47 D) :
    ∃ (A : Option Addr) (c : Nat) (l : List Vr), cs = [.slice A l.length c] ∧ Vs W 0 W.heap.size A l ∧ l.length ≤ c ∧ l.length * 64 ≤ 140737488351232 := by
  obtain ⟨A, c, l, rfl, h1, h2, h3, h4⟩ := Wgt.slice_at Try.underlying47 h hw cells_ver bytes_ver (by omega) vcc (fun p => Pa W 0 W.heap.size p.2.1 p.2.2 p.1) z0 (fun _ => rfl) (fun n cs D Pl h hw => by
    obtain ⟨v, A, c, e, hp, _⟩ := ver_at h hw
    exact ⟨(v, A, c), e, hp⟩)
  refine ⟨A, c, l.map Prod.fst, by rw [List.length_map], fun hp => ?_, by rw [List.length_map]; exact h1, by rw [List.length_map]; exact h2⟩
  rw [List.length_map] at hp
  obtain ⟨b, off, e, hb, hat⟩ := h4 hp
  refine ⟨b, off, e, Nat.zero_le _, hb, fun j hj => ?_⟩
  rw [List.length_map] at hj
  have hm : l.getD j z0 ∈ l := by
    rw [List.getD_eq_getElem?_getD, List.getElem?_eq_getElem hj]
    exact List.getElem_mem _
  have hg : (l.map Prod.fst).getD j v0 = (l.getD j z0).1 := by simp [List.getD_eq_getElem?_getD, hj]
  rw [hg]
  exact ⟨(l.getD j z0).2.1, (l.getD j z0).2.2, hat j hj 0 _ rfl, hat j hj 1 _ rfl, hat j hj 2 _ rfl, hat j hj 3 _ rfl, hat j hj 4 _ rfl, h3 _ hm⟩
set_option maxRecDepth 100000 in
/-- A slice's cell, whatever it holds. -/
theorem recs_cell {n : Nat} {cs : List Value} {D : DataW H} {Pl : List MemPlace} (h : DataW.trod enc Try.prog W 0 (fun _ => true) true n 48 cs = some (D, Pl)) :
    ∃ (A : Option Addr) (n c : Nat), cs = [.slice A n c] := by
  rcases open_slice Try.underlying48 h with ⟨rfl, _⟩ | ⟨a, len, cap, m, n', D', Pl', rfl, _⟩
  · exact ⟨none, 0, 0, rfl⟩
  · exact ⟨some a, len, cap, rfl⟩
set_option maxRecDepth 100000 in
theorem rep_at {n : Nat} {cs : List Value} {D : DataW H} {Pl : List MemPlace} (h : DataW.trod enc Try.prog W 0 (fun _ => true) true n 50 cs = some (D, Pl)) (hw : Wgt.Wt Try.prog 50 D) :
    ∃ x : Rp, cs = rpc x ∧ (Vs W 0 W.heap.size x.2.1.1 x.1.2 ∧ x.1.2.length ≤ x.2.1.2 ∧ x.1.2.length * 64 ≤ 140737488351232) := by
  obtain ⟨y0, y1, y2, m, hx, hl, h0, h1, h2⟩ := trod_struct3 Try.underlying50 h
  rw [cells_rep] at hl
  match cs, hl with
  | [q0, q1, q2], _ =>
    simp only [cells_int, cells_vs, cells_recs, List.drop_zero, List.take_succ_cons, List.take_zero, List.drop_succ_cons] at h0 h1 h2
    obtain ⟨f1, e1, _, w1⟩ := DataW.trod_int Try.underlying3 h0
    have hxx : D = _ := congrArg Prod.fst hx
    have hww := Wgt.wt_struct Try.underlying50 (hxx ▸ hw)
    obtain ⟨A, c, l, e2, v1, v2, v3⟩ := vs_cell (D := y1.1) (Pl := y1.2) h1 (hww 1 47 y1.1 rfl rfl)
    obtain ⟨A', k', c', e3⟩ := recs_cell (D := y2.1) (Pl := y2.2) h2
    simp only [List.cons.injEq, and_true] at e1 e2 e3
    subst e1 e2 e3
    exact ⟨((f1, l), (A, c), (A', k', c')), rfl, v1, v2, v3⟩
set_option maxRecDepth 100000 in
theorem arg_reps {v : Value} {d : DataW H} {p : List MemPlace} {r : Reach} {b0 : Nat} (hv : Value.okWide Try.prog W r b0 42 v) (h : DataW.Trod enc Try.prog W 0 (fun _ => true) true 42 v d p) (hw : Wgt.Wt Try.prog 42 d) :
    ∃ (A : Option Addr) (c : Nat) (l : List Rp), v = .slice A l.length c ∧ Rs W A l ∧ l.length ≤ c ∧ l.length * 56 ≤ 140737488351232 := by
  obtain ⟨A, c, l, rfl, hc, hb, hq, hp⟩ := Wgt.arg_slice Try.underlying42 hv h hw cells_rep bytes_rep (by omega) rpc (fun x => Vs W 0 W.heap.size x.2.1.1 x.1.2 ∧ x.1.2.length ≤ x.2.1.2 ∧ x.1.2.length * 64 ≤ 140737488351232) rp0 (fun _ => rfl) (fun n cs D Pl h hw => rep_at h hw)
  refine ⟨A, c, l, rfl, ⟨fun h0 => ?_, hq⟩, hc, hb⟩
  obtain ⟨b, off, e, hbl, hat⟩ := hp h0
  refine ⟨b, off, e, hbl, fun j x hx => ?_⟩
  have hj := (List.getElem?_eq_some_iff.1 hx).1
  have hg : l.getD j rp0 = x := by rw [List.getD_eq_getElem?_getD, hx]; rfl
  have h1 := hat j hj
  rwa [hg] at h1
end
end Quorum
end Go.Proofs.Ytbhidndgnldheaa
