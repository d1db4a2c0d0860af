/-
  VersTwins (P5.2): two unlike versions with one dot are never joined, whatever stands beside them. For every input.
-/
import Derived.Test.YthiiganfoecmnaaVersAwake
import Derived.Test.YthiiganfoecmnaaVersArgs
import Derived.Test.YthiiganfoecmnaaVersRightOneRef
import Derived.Test.YthiiganfoecmnaaVersHas
namespace Go.Proofs.Ythiiganfoecmnaa
namespace VersTwins
open Go.ChangeShapes Go.WideShapes Go.ChangeAt Go.RowKit Span Vers
attribute [local go_sem ↓] Go.wp_at_zero Go.wp_at_succ

theorem in_stay {a x : List Vr} {v : Vr} (h : mergeF a [v] = (x, 0)) (hx : hasD x v.s v.n) : RightV x ∧ v ∈ x := by
  obtain ⟨ra, rv, nt, hxe, rx⟩ := merge_right h
  refine ⟨rx, ?_⟩
  obtain ⟨u, hu, es, en⟩ := hx
  have hq := hu
  rw [hxe] at hq
  have : u = v := by
    rcases (((stay_is ra rv nt).2 u).1 hq).1 with h1 | h1
    · exact Decidable.byContradiction fun hne => nt ⟨u, h1, v, by simp, ⟨es, en⟩, hne⟩
    · simpa using h1
  rw [← this]
  exact hu
theorem twin_both {a b x y : List Vr} {v w : Vr} (h1 : mergeF a [v] = (x, 0)) (h2 : mergeF b [w] = (y, 0)) (hs : same v w) (hne : v ≠ w) (hx : hasD x v.s v.n) (hy : hasD y v.s v.n) : mergeF x y = ([], 50) ∧ lacksF x y = false := by
  obtain ⟨rx, hvx⟩ := in_stay h1 hx
  obtain ⟨ry, hwy⟩ := in_stay h2 (by rw [← hs.1, ← hs.2]; exact hy)
  have hm := merge_twin rx ry ⟨v, hvx, w, hwy, hs, hne⟩
  exact ⟨hm, by unfold lacksF; rw [hm]; simp⟩

/-- An answer of Merge, read: n is how long it is. -/
theorem post_read {B : Nat} {L : List Vr} {E : Int} {k : Nat} (hk : L.length = k) (w : World) (e : Ending) (w' : World) (h : Merged B (L, E) w e w') :
    ∃ A c, e = .returned (.tuple #[.slice A k c, .int .i64 E]) ∧ k ≤ c ∧ Vs w' 0 w'.heap.size A L ∧ Below w.heap.size w w' := by
  obtain ⟨A, c, rfl, hc, o, b⟩ := h
  exact ⟨A, c, by rw [← hk], by rw [← hk]; exact hc, o.less (Nat.zero_le _), b⟩

/-- What the other version's value is. -/
def otherVal (x : ByteArray) : ByteArray := if x = ⟨#[111, 116, 104, 101, 114]⟩ then ⟨#[97, 110, 111, 116, 104, 101, 114]⟩ else ⟨#[111, 116, 104, 101, 114]⟩
theorem other_ne (x : ByteArray) : x ≠ otherVal x := by
  unfold otherVal
  split
  · rename_i h; rw [h]; decide
  · assumption
theorem other_size (x : ByteArray) : (otherVal x).size ≤ 7 := by
  unfold otherVal
  split <;> decide

/-- The cells of a version's box. -/
def Bx (V : World) (m : Nat) (s n : Int) (A : Option Addr) (k c : Nat) (g : Bool) (x : ByteArray) : Prop := m < V.heap.size ∧ V.cell? ⟨m, 0, none⟩ = some (.int .i64 s) ∧ V.cell? ⟨m, 1, none⟩ = some (.int .i64 n) ∧ V.cell? ⟨m, 2, none⟩ = some (.slice A k c) ∧ V.cell? ⟨m, 3, none⟩ = some (.bool g) ∧ V.cell? ⟨m, 4, none⟩ = some (.string x)
theorem Bx.below {V V' : World} {m : Nat} {s n : Int} {A : Option Addr} {k c : Nat} {g : Bool} {x : ByteArray} (h : Bx V m s n A k c g x) (b : Below V.heap.size V V') : Bx V' m s n A k c g x :=
  ⟨Nat.lt_of_lt_of_le h.1 b.size, five_below h.1 b h.2⟩

set_option maxRecDepth 100000 in
set_option maxHeartbeats 4000000 in
/-- The rest, once both versions are laid. -/
theorem walk (w : World) (A : Option Addr) (c : Nat) (a : List Vr) (hr : Vs w 0 w.heap.size A a) (hbig : a.length * 64 ≤ 140737488351232) (_hlc : a.length ≤ c)
    (A' : Option Addr) (c' : Nat) (b : List Vr) (hr' : Vs w 0 w.heap.size A' b) (hbig' : b.length * 64 ≤ 140737488351232) (_hlc' : b.length ≤ c')
    (v : Vr) (Av : Option Addr) (cv : Nat) (hp : Pa w 0 w.heap.size Av cv v) (hpb : v.past.length * 24 ≤ 140737488351232) (hvb : v.val.size ≤ 140737488351232) :
    Calls Try.prog 7 #[.slice A a.length c, .slice A' b.length c', vv Av cv v] w fun e w' => e = .returned (.bool true) ∧ Below w.heap.size w w' := by
  obtain ⟨s, n, p, g, x⟩ := v
  obtain ⟨m, hm⟩ : ∃ m, a.length = m := ⟨_, rfl⟩
  obtain ⟨m', hm'⟩ : ∃ m', b.length = m' := ⟨_, rfl⟩
  obtain ⟨k, hk⟩ : ∃ k, p.length = k := ⟨_, rfl⟩
  have hS : ∀ W, Below w.heap.size w W → Vs W 0 W.heap.size A a ∧ Vs W 0 W.heap.size A' b ∧ Pa W 0 W.heap.size Av cv ⟨s, n, p, g, x⟩ := fun W h => ⟨(hr.below h).more h.size, (hr'.below h).more h.size, (hp.below h).more h.size⟩
  have h0 := fun W h => ref_rightone_any Av cv k s n p g x hk W (hS W h).2.2.1 (by have := hp.2.2.1; simp only at this; omega) hp.2.2.2.1
  unfold vv
  simp only
  rw [hm, hm', hk]
  simp only at hpb hvb
  rw [hk] at hpb
  rw [hm] at hbig
  rw [hm'] at hbig'
  have HS := Lib.hid hS
  have HL := Lib.hid (And.intro hm (And.intro hm' hk))
  obtain ⟨Q, hQ⟩ : ∃ Q, decide (okV ⟨s, n, p, g, x⟩) = Q := ⟨_, rfl⟩
  rw [hQ] at h0
  have H0 := Lib.hid h0
  clear h0 hr hr' hp hS hm hm' hk hQ
  go_enter Try.func7, Try.ntmps7
  go_wp2_with fail
  obtain ⟨m0, hm0⟩ : ∃ m, w.heap.size = m := ⟨_, rfl⟩
  obtain ⟨W0, hW0⟩ : ∃ W, w.alloc (.cells #[.int .i64 s, .int .i64 n, .slice Av k cv, .bool g, .string x] 28) = W := ⟨_, rfl⟩
  have B0 : Below w.heap.size w W0 := by rw [← hW0]; exact (Below.refl _ w).alloc (Nat.le_refl _) _
  have X0 : Bx W0 m0 s n Av k cv g x := by rw [← hW0, ← hm0]; exact ⟨by simp, by simp, by simp, by simp, by simp, by simp⟩
  rw [hW0, hm0]
  clear hW0 hm0
  refine (awake_any W0).mono ?_
  rintro e w1 ⟨rfl, b1⟩
  have B1 := Lib.hid (B0.trans (b1.mono B0.size))
  have X1 := Lib.hid (X0.below b1)
  have H0' := Lib.hid (H0.out w1 B1.out)
  clear B0 X0 b1 H0
  obtain ⟨lx, x0, x1, x2, x3, x4⟩ := X1.out
  go_wp2_with fail
  refine H0'.out.mono ?_
  rintro e w2 ⟨rfl, b2⟩
  have B2 := Lib.hid (B1.out.trans (b2.mono B1.out.size))
  have X2 := Lib.hid (X1.out.below b2)
  clear B1 X1 b2 H0' lx x0 x1 x2 x3 x4
  rcases Q with _ | _
  · go_wp2_with fail
    refine (awake_any w2).mono ?_
    rintro e w3 ⟨rfl, b3⟩
    have B3 := Lib.hid (B2.out.trans (b3.mono B2.out.size))
    clear b3
    go_wp2_with fail
    go_ret
    exact ⟨rfl, B3.out⟩
  obtain ⟨lx, x0, x1, x2, x3, x4⟩ := X2.out
  rcases g with _ | _
  rotate_left
  · go_wp2_with fail
    refine (awake_any w2).mono ?_
    rintro e w3 ⟨rfl, b3⟩
    have B3 := Lib.hid (B2.out.trans (b3.mono B2.out.size))
    clear b3
    go_wp2_with fail
    go_ret
    exact ⟨rfl, B3.out⟩
  by_cases hval : x = ⟨#[111, 116, 104, 101, 114]⟩
  · have hu := Lib.hid (show x ≠ ⟨#[97, 110, 111, 116, 104, 101, 114]⟩ by rw [hval]; decide)
    have g1 : (x.toList == [111, 116, 104, 101, 114]) = true := by
      have h := str_eq x ⟨#[111, 116, 104, 101, 114]⟩
      rw [show (⟨#[111, 116, 104, 101, 114]⟩ : ByteArray).toList = [111, 116, 104, 101, 114] by rw [Lib.toList_data]] at h
      rw [decide_eq_true hval] at h
      exact h
    clear hval
    go_wp2_with fail
    clear lx x0 x1 x2 x3 x4 g1
    obtain ⟨u, hlit⟩ : ∃ u : ByteArray, ⟨#[97, 110, 111, 116, 104, 101, 114]⟩ = u := ⟨_, rfl⟩
    have hus : Hid (u.size ≤ 7) := Lib.hid (by rw [← hlit]; decide)
    rw [hlit] at hu ⊢
    clear hlit
    obtain ⟨m1, hm1⟩ : ∃ m, w2.heap.size = m := ⟨_, rfl⟩
    obtain ⟨W3, hW3⟩ : ∃ W, w2.alloc (.cells #[.int .i64 s, .int .i64 n, .slice Av k cv, .bool false, .string u] 28) = W := ⟨_, rfl⟩
    obtain ⟨W4, hW4⟩ : ∃ W, W3.alloc (.cells #[.int .i64 s, .int .i64 n, .slice Av k cv, .bool false, .string x] 28) = W := ⟨_, rfl⟩
    have s3 : W3.heap.size = m1 + 1 := by rw [← hW3, ← hm1]; simp
    have s4 : W4.heap.size = m1 + 2 := by rw [← hW4]; simp [s3]
    have b3 : Below w2.heap.size w2 W3 := by rw [← hW3]; exact (Below.refl _ w2).alloc (Nat.le_refl _) _
    have b4 : Below W3.heap.size W3 W4 := by rw [← hW4]; exact (Below.refl _ W3).alloc (Nat.le_refl _) _
    have b24 : Below w2.heap.size w2 W4 := b3.trans (b4.mono b3.size)
    have Y3 : Bx W3 m1 s n Av k cv false u := by rw [← hW3, ← hm1]; exact ⟨by simp, by simp, by simp, by simp, by simp, by simp⟩
    have Y4 := Lib.hid (Y3.below b4)
    have X4 := Lib.hid (X2.out.below b24)
    have B4 := Lib.hid (B2.out.trans (b24.mono B2.out.size))
    have hpa := (HS.out W3 (B2.out.trans (b3.mono B2.out.size))).2.2
    have v4 : Vs W4 0 W4.heap.size (some ⟨m1 + 1, 0, none⟩) [⟨s, n, p, false, x⟩] := by
      have h := vs_lit1 W3 s n p false x Av k cv HL.out.2.2 hpa
      rw [hW4, s3] at h
      exact h.more (by omega)
    have hmg := ref_merge_any A (some ⟨m1 + 1, 0, none⟩) c 1 m 1 a [⟨s, n, p, false, x⟩] HL.out.1 rfl W4 (HS.out W4 B4.out).1 v4 (by omega) (by omega)
    have hln1 := merge_len a [⟨s, n, p, false, x⟩]
    obtain ⟨⟨xs, E1⟩, hR1⟩ : ∃ R, mergeF a [⟨s, n, p, false, x⟩] = R := ⟨_, rfl⟩
    rw [hR1] at hmg hln1
    simp only at hln1
    obtain ⟨k1, hk1⟩ : ∃ k, xs.length = k := ⟨_, rfl⟩
    rw [hk1] at hln1
    have HM1 := Lib.hid hmg
    have HR1 := Lib.hid (And.intro hR1 hk1)
    rw [hW3, hW4, hm1]
    clear hW3 hW4 hm1 s3 s4 b3 b4 b24 Y3 hpa v4 hmg hR1 hk1 X2 B2
    refine HM1.out.mono ?_
    intro e w5 hp5
    obtain ⟨A5, c5, rfl, hc5, v5, b5⟩ := post_read HR1.out.2 _ _ _ hp5
    have X5 := Lib.hid (X4.out.below b5)
    have Y5 := Lib.hid (Y4.out.below b5)
    have B5 := Lib.hid (B4.out.trans (b5.mono B4.out.size))
    have V5 := Lib.hid v5
    clear hp5 v5 b5 X4 Y4 B4 HM1
    obtain ⟨ly, y0, y1, y2, y3, y4⟩ := Y5.out
    go_wp2_with fail
    clear ly y0 y1 y2 y3 y4
    obtain ⟨m5, hm5⟩ : ∃ m, w5.heap.size = m := ⟨_, rfl⟩
    obtain ⟨W6, hW6⟩ : ∃ W, w5.alloc (.cells #[.int .i64 s, .int .i64 n, .slice Av k cv, .bool false, .string u] 28) = W := ⟨_, rfl⟩
    have s6 : W6.heap.size = m5 + 1 := by rw [← hW6, ← hm5]; simp
    have b6 : Below w5.heap.size w5 W6 := by rw [← hW6]; exact (Below.refl _ w5).alloc (Nat.le_refl _) _
    have X6 := Lib.hid (X5.out.below b6)
    have B6 := Lib.hid (B5.out.trans (b6.mono B5.out.size))
    have V6 := Lib.hid ((V5.out.below b6).more b6.size)
    have hpu : Pa w5 0 w5.heap.size Av cv ⟨s, n, p, false, u⟩ := by
      have h := (HS.out w5 B5.out).2.2
      exact ⟨h.1, h.2.1, h.2.2.1, by have := hus.out; simp only; omega, h.2.2.2.2⟩
    have v6 : Vs W6 0 W6.heap.size (some ⟨m5, 0, none⟩) [⟨s, n, p, false, u⟩] := by
      have h := vs_lit1 w5 s n p false u Av k cv HL.out.2.2 hpu
      rw [hW6, hm5] at h
      exact h.more (by omega)
    have hmg := ref_merge_any A' (some ⟨m5, 0, none⟩) c' 1 m' 1 b [⟨s, n, p, false, u⟩] HL.out.2.1 rfl W6 (HS.out W6 B6.out).2.1 v6 (by omega) (by omega)
    have hln2 := merge_len b [⟨s, n, p, false, u⟩]
    obtain ⟨⟨ys, E2⟩, hR2⟩ : ∃ R, mergeF b [⟨s, n, p, false, u⟩] = R := ⟨_, rfl⟩
    rw [hR2] at hmg hln2
    simp only at hln2
    obtain ⟨k2, hk2⟩ : ∃ k, ys.length = k := ⟨_, rfl⟩
    rw [hk2] at hln2
    have HM2 := Lib.hid hmg
    have HR2 := Lib.hid (And.intro hR2 hk2)
    rw [hW6, hm5]
    clear hW6 hm5 s6 b6 hpu v6 hmg hR2 hk2 X5 Y5 B5 V5
    refine HM2.out.mono ?_
    intro e w7 hp7
    obtain ⟨A7, c7, rfl, hc7, v7, b7⟩ := post_read HR2.out.2 _ _ _ hp7
    have X7 := Lib.hid (X6.out.below b7)
    have B7 := Lib.hid (B6.out.trans (b7.mono B6.out.size))
    have V7 := Lib.hid ((V6.out.below b7).more b7.size)
    have V7' := Lib.hid v7
    clear hp7 v7 b7 X6 B6 V6 HM2
    by_cases hE1 : E1 = 0
    rotate_left
    · have g1 : (E1 == 0) = false := by simpa using hE1
      have g2 : (E1 != 0) = true := by simpa using hE1
      go_wp2_with fail
      go_ret
      exact ⟨rfl, B7.out⟩
    subst hE1
    by_cases hE2 : E2 = 0
    rotate_left
    · have g1 : (E2 == 0) = false := by simpa using hE2
      have g2 : (E2 != 0) = true := by simpa using hE2
      go_wp2_with fail
      go_ret
      exact ⟨rfl, B7.out⟩
    subst hE2
    obtain ⟨lx, x0, x1, x2, x3, x4⟩ := X7.out
    have hh1 := has_any A5 c5 k1 xs HR1.out.2 s n w7 V7.out (by omega)
    obtain ⟨Q1, hQ1⟩ : ∃ Q, decide (hasD xs s n) = Q := ⟨_, rfl⟩
    rw [hQ1] at hh1
    have HH1 := Lib.hid hh1
    have HQ1 := Lib.hid hQ1
    clear hh1 hQ1
    go_wp2_with fail
    clear lx x0 x1 x2 x3 x4
    refine HH1.out.mono ?_
    rintro e w8 ⟨rfl, b8⟩
    have X8 := Lib.hid (X7.out.below b8)
    have B8 := Lib.hid (B7.out.trans (b8.mono B7.out.size))
    have V8 := Lib.hid ((V7.out.below b8).more b8.size)
    have V8' := Lib.hid ((V7'.out.below b8).more b8.size)
    clear X7 B7 V7 V7' b8 HH1
    rcases Q1 with _ | _
    · go_wp2_with fail
      go_ret
      exact ⟨rfl, B8.out⟩
    obtain ⟨lx, x0, x1, x2, x3, x4⟩ := X8.out
    have hh1 := has_any A7 c7 k2 ys HR2.out.2 s n w8 V8'.out (by omega)
    obtain ⟨Q2, hQ2⟩ : ∃ Q, decide (hasD ys s n) = Q := ⟨_, rfl⟩
    rw [hQ2] at hh1
    have HH1 := Lib.hid hh1
    have HQ2 := Lib.hid hQ2
    clear hh1 hQ2
    go_wp2_with fail
    clear lx x0 x1 x2 x3 x4
    refine HH1.out.mono ?_
    rintro e w9 ⟨rfl, b9⟩
    have B9 := Lib.hid (B8.out.trans (b9.mono B8.out.size))
    have V9 := Lib.hid ((V8.out.below b9).more b9.size)
    have V9' := Lib.hid ((V8'.out.below b9).more b9.size)
    clear X8 B8 V8 V8' b9 HH1
    rcases Q2 with _ | _
    · go_wp2_with fail
      go_ret
      exact ⟨rfl, B9.out⟩
    have hfin := twin_both HR1.out.1 HR2.out.1 ⟨rfl, rfl⟩ (fun h => hu.out (congrArg Vr.val h)) (of_decide_eq_true HQ1.out) (of_decide_eq_true HQ2.out)
    have hmg := merge_any A5 A7 c5 c7 k1 k2 xs ys HR1.out.2 HR2.out.2 hc5 hc7 w9 V9.out V9'.out (by omega) (by omega)
    rw [hfin.1] at hmg
    have HM3 := Lib.hid (hmg.mono fun e w' h => post_read (k := 0) rfl _ _ _ h)
    have HF := Lib.hid hfin.2
    clear hfin hmg
    go_wp2_with fail
    refine HM3.out.mono ?_
    rintro e wa ⟨Aa, ca, rfl, _, _, ba⟩
    have Ba := Lib.hid (B9.out.trans (ba.mono B9.out.size))
    have hl := lacks_any A5 A7 c5 c7 k1 k2 xs ys HR1.out.2 HR2.out.2 hc5 hc7 wa ((V9.out.below ba).more ba.size) ((V9'.out.below ba).more ba.size) (by omega) (by omega)
    rw [HF.out] at hl
    have HLk := Lib.hid hl
    clear hl ba B9 V9 V9' HM3
    go_wp2_with fail
    refine HLk.out.mono ?_
    rintro e wb ⟨rfl, bb⟩
    have Bb := Lib.hid (Ba.out.trans (bb.mono Ba.out.size))
    clear bb Ba HLk
    go_wp2_with fail
    go_ret
    exact ⟨rfl, Bb.out⟩
  · have hu := Lib.hid hval
    have g1 : (x.toList == [111, 116, 104, 101, 114]) = false := by
      have h := str_eq x ⟨#[111, 116, 104, 101, 114]⟩
      rw [show (⟨#[111, 116, 104, 101, 114]⟩ : ByteArray).toList = [111, 116, 104, 101, 114] by rw [Lib.toList_data]] at h
      rw [decide_eq_false hval] at h
      exact h
    clear hval
    go_wp2_with fail
    clear lx x0 x1 x2 x3 x4 g1
    obtain ⟨u, hlit⟩ : ∃ u : ByteArray, ⟨#[111, 116, 104, 101, 114]⟩ = u := ⟨_, rfl⟩
    have hus : Hid (u.size ≤ 7) := Lib.hid (by rw [← hlit]; decide)
    rw [hlit] at hu ⊢
    clear hlit
    obtain ⟨m1, hm1⟩ : ∃ m, w2.heap.size = m := ⟨_, rfl⟩
    obtain ⟨W3, hW3⟩ : ∃ W, w2.alloc (.cells #[.int .i64 s, .int .i64 n, .slice Av k cv, .bool false, .string u] 28) = W := ⟨_, rfl⟩
    obtain ⟨W4, hW4⟩ : ∃ W, W3.alloc (.cells #[.int .i64 s, .int .i64 n, .slice Av k cv, .bool false, .string x] 28) = W := ⟨_, rfl⟩
    have s3 : W3.heap.size = m1 + 1 := by rw [← hW3, ← hm1]; simp
    have s4 : W4.heap.size = m1 + 2 := by rw [← hW4]; simp [s3]
    have b3 : Below w2.heap.size w2 W3 := by rw [← hW3]; exact (Below.refl _ w2).alloc (Nat.le_refl _) _
    have b4 : Below W3.heap.size W3 W4 := by rw [← hW4]; exact (Below.refl _ W3).alloc (Nat.le_refl _) _
    have b24 : Below w2.heap.size w2 W4 := b3.trans (b4.mono b3.size)
    have Y3 : Bx W3 m1 s n Av k cv false u := by rw [← hW3, ← hm1]; exact ⟨by simp, by simp, by simp, by simp, by simp, by simp⟩
    have Y4 := Lib.hid (Y3.below b4)
    have X4 := Lib.hid (X2.out.below b24)
    have B4 := Lib.hid (B2.out.trans (b24.mono B2.out.size))
    have hpa := (HS.out W3 (B2.out.trans (b3.mono B2.out.size))).2.2
    have v4 : Vs W4 0 W4.heap.size (some ⟨m1 + 1, 0, none⟩) [⟨s, n, p, false, x⟩] := by
      have h := vs_lit1 W3 s n p false x Av k cv HL.out.2.2 hpa
      rw [hW4, s3] at h
      exact h.more (by omega)
    have hmg := ref_merge_any A (some ⟨m1 + 1, 0, none⟩) c 1 m 1 a [⟨s, n, p, false, x⟩] HL.out.1 rfl W4 (HS.out W4 B4.out).1 v4 (by omega) (by omega)
    have hln1 := merge_len a [⟨s, n, p, false, x⟩]
    obtain ⟨⟨xs, E1⟩, hR1⟩ : ∃ R, mergeF a [⟨s, n, p, false, x⟩] = R := ⟨_, rfl⟩
    rw [hR1] at hmg hln1
    simp only at hln1
    obtain ⟨k1, hk1⟩ : ∃ k, xs.length = k := ⟨_, rfl⟩
    rw [hk1] at hln1
    have HM1 := Lib.hid hmg
    have HR1 := Lib.hid (And.intro hR1 hk1)
    rw [hW3, hW4, hm1]
    clear hW3 hW4 hm1 s3 s4 b3 b4 b24 Y3 hpa v4 hmg hR1 hk1 X2 B2
    refine HM1.out.mono ?_
    intro e w5 hp5
    obtain ⟨A5, c5, rfl, hc5, v5, b5⟩ := post_read HR1.out.2 _ _ _ hp5
    have X5 := Lib.hid (X4.out.below b5)
    have Y5 := Lib.hid (Y4.out.below b5)
    have B5 := Lib.hid (B4.out.trans (b5.mono B4.out.size))
    have V5 := Lib.hid v5
    clear hp5 v5 b5 X4 Y4 B4 HM1
    obtain ⟨ly, y0, y1, y2, y3, y4⟩ := Y5.out
    go_wp2_with fail
    clear ly y0 y1 y2 y3 y4
    obtain ⟨m5, hm5⟩ : ∃ m, w5.heap.size = m := ⟨_, rfl⟩
    obtain ⟨W6, hW6⟩ : ∃ W, w5.alloc (.cells #[.int .i64 s, .int .i64 n, .slice Av k cv, .bool false, .string u] 28) = W := ⟨_, rfl⟩
    have s6 : W6.heap.size = m5 + 1 := by rw [← hW6, ← hm5]; simp
    have b6 : Below w5.heap.size w5 W6 := by rw [← hW6]; exact (Below.refl _ w5).alloc (Nat.le_refl _) _
    have X6 := Lib.hid (X5.out.below b6)
    have B6 := Lib.hid (B5.out.trans (b6.mono B5.out.size))
    have V6 := Lib.hid ((V5.out.below b6).more b6.size)
    have hpu : Pa w5 0 w5.heap.size Av cv ⟨s, n, p, false, u⟩ := by
      have h := (HS.out w5 B5.out).2.2
      exact ⟨h.1, h.2.1, h.2.2.1, by have := hus.out; simp only; omega, h.2.2.2.2⟩
    have v6 : Vs W6 0 W6.heap.size (some ⟨m5, 0, none⟩) [⟨s, n, p, false, u⟩] := by
      have h := vs_lit1 w5 s n p false u Av k cv HL.out.2.2 hpu
      rw [hW6, hm5] at h
      exact h.more (by omega)
    have hmg := ref_merge_any A' (some ⟨m5, 0, none⟩) c' 1 m' 1 b [⟨s, n, p, false, u⟩] HL.out.2.1 rfl W6 (HS.out W6 B6.out).2.1 v6 (by omega) (by omega)
    have hln2 := merge_len b [⟨s, n, p, false, u⟩]
    obtain ⟨⟨ys, E2⟩, hR2⟩ : ∃ R, mergeF b [⟨s, n, p, false, u⟩] = R := ⟨_, rfl⟩
    rw [hR2] at hmg hln2
    simp only at hln2
    obtain ⟨k2, hk2⟩ : ∃ k, ys.length = k := ⟨_, rfl⟩
    rw [hk2] at hln2
    have HM2 := Lib.hid hmg
    have HR2 := Lib.hid (And.intro hR2 hk2)
    rw [hW6, hm5]
    clear hW6 hm5 s6 b6 hpu v6 hmg hR2 hk2 X5 Y5 B5 V5
    refine HM2.out.mono ?_
    intro e w7 hp7
    obtain ⟨A7, c7, rfl, hc7, v7, b7⟩ := post_read HR2.out.2 _ _ _ hp7
    have X7 := Lib.hid (X6.out.below b7)
    have B7 := Lib.hid (B6.out.trans (b7.mono B6.out.size))
    have V7 := Lib.hid ((V6.out.below b7).more b7.size)
    have V7' := Lib.hid v7
    clear hp7 v7 b7 X6 B6 V6 HM2
    by_cases hE1 : E1 = 0
    rotate_left
    · have g1 : (E1 == 0) = false := by simpa using hE1
      have g2 : (E1 != 0) = true := by simpa using hE1
      go_wp2_with fail
      go_ret
      exact ⟨rfl, B7.out⟩
    subst hE1
    by_cases hE2 : E2 = 0
    rotate_left
    · have g1 : (E2 == 0) = false := by simpa using hE2
      have g2 : (E2 != 0) = true := by simpa using hE2
      go_wp2_with fail
      go_ret
      exact ⟨rfl, B7.out⟩
    subst hE2
    obtain ⟨lx, x0, x1, x2, x3, x4⟩ := X7.out
    have hh1 := has_any A5 c5 k1 xs HR1.out.2 s n w7 V7.out (by omega)
    obtain ⟨Q1, hQ1⟩ : ∃ Q, decide (hasD xs s n) = Q := ⟨_, rfl⟩
    rw [hQ1] at hh1
    have HH1 := Lib.hid hh1
    have HQ1 := Lib.hid hQ1
    clear hh1 hQ1
    go_wp2_with fail
    clear lx x0 x1 x2 x3 x4
    refine HH1.out.mono ?_
    rintro e w8 ⟨rfl, b8⟩
    have X8 := Lib.hid (X7.out.below b8)
    have B8 := Lib.hid (B7.out.trans (b8.mono B7.out.size))
    have V8 := Lib.hid ((V7.out.below b8).more b8.size)
    have V8' := Lib.hid ((V7'.out.below b8).more b8.size)
    clear X7 B7 V7 V7' b8 HH1
    rcases Q1 with _ | _
    · go_wp2_with fail
      go_ret
      exact ⟨rfl, B8.out⟩
    obtain ⟨lx, x0, x1, x2, x3, x4⟩ := X8.out
    have hh1 := has_any A7 c7 k2 ys HR2.out.2 s n w8 V8'.out (by omega)
    obtain ⟨Q2, hQ2⟩ : ∃ Q, decide (hasD ys s n) = Q := ⟨_, rfl⟩
    rw [hQ2] at hh1
    have HH1 := Lib.hid hh1
    have HQ2 := Lib.hid hQ2
    clear hh1 hQ2
    go_wp2_with fail
    clear lx x0 x1 x2 x3 x4
    refine HH1.out.mono ?_
    rintro e w9 ⟨rfl, b9⟩
    have B9 := Lib.hid (B8.out.trans (b9.mono B8.out.size))
    have V9 := Lib.hid ((V8.out.below b9).more b9.size)
    have V9' := Lib.hid ((V8'.out.below b9).more b9.size)
    clear X8 B8 V8 V8' b9 HH1
    rcases Q2 with _ | _
    · go_wp2_with fail
      go_ret
      exact ⟨rfl, B9.out⟩
    have hfin := twin_both HR1.out.1 HR2.out.1 ⟨rfl, rfl⟩ (fun h => hu.out (congrArg Vr.val h)) (of_decide_eq_true HQ1.out) (of_decide_eq_true HQ2.out)
    have hmg := merge_any A5 A7 c5 c7 k1 k2 xs ys HR1.out.2 HR2.out.2 hc5 hc7 w9 V9.out V9'.out (by omega) (by omega)
    rw [hfin.1] at hmg
    have HM3 := Lib.hid (hmg.mono fun e w' h => post_read (k := 0) rfl _ _ _ h)
    have HF := Lib.hid hfin.2
    clear hfin hmg
    go_wp2_with fail
    refine HM3.out.mono ?_
    rintro e wa ⟨Aa, ca, rfl, _, _, ba⟩
    have Ba := Lib.hid (B9.out.trans (ba.mono B9.out.size))
    have hl := lacks_any A5 A7 c5 c7 k1 k2 xs ys HR1.out.2 HR2.out.2 hc5 hc7 wa ((V9.out.below ba).more ba.size) ((V9'.out.below ba).more ba.size) (by omega) (by omega)
    rw [HF.out] at hl
    have HLk := Lib.hid hl
    clear hl ba B9 V9 V9' HM3
    go_wp2_with fail
    refine HLk.out.mono ?_
    rintro e wb ⟨rfl, bb⟩
    have Bb := Lib.hid (Ba.out.trans (bb.mono Ba.out.size))
    clear bb Ba HLk
    go_wp2_with fail
    go_ret
    exact ⟨rfl, Bb.out⟩
-- ROW BEGIN
/-- What the walk gives, shut again. -/
theorem contract (H : Type) (enc : TypeId × Value → H) (W : World) (base : Nat) (args : Array Value) (ds gs : List (DataW H)) (before : List MemPlace)
    (hval : ∀ (j : Nat) t v, Try.f7.params[j]? = some t → args[j]? = some v → Value.okWide Try.prog W .any base t v)
    (hW : DataW.Whole enc Try.prog Try.f7.params.toList Rows.versTwinsSpec.vars false W args.toList ds gs before)
    (hsz : (DataW.weightsEach Try.prog (Try.f7.params.toList ++ Rows.versTwinsSpec.plain.varTypes Try.prog) (ds ++ gs)).all (· ≤ reachBytes) = true) :
    Calls Try.prog 7 args W fun e W' => ∃ v, e = .returned v ∧ Rows.versTwinsSpec.post enc Try.prog Try.f7 false true false false W args v W' := by
  have hW' := hW
  obtain ⟨p, q, hA0, hV, hbef, _, _⟩ := hW
  have hA : DataW.TrodAll enc Try.prog W 0 (fun _ => true) true Try.f7.params.toList args.toList ds p := hA0
  have hA1 := hA
  rw [Try.params7] at hA hval hsz
  obtain ⟨v0, vs0, d0, ds0, p0, q0, hargs, rfl, rfl, h0, r0⟩ := trodAll_cons hA
  obtain ⟨v1, vs1, d1, ds1, p1, q1, rfl, rfl, rfl, h1, r1⟩ := trodAll_cons r0
  obtain ⟨v2, vs2, d2, ds2, p2, q2, rfl, rfl, rfl, h2, r2⟩ := trodAll_cons r1
  obtain ⟨rfl, rfl, rfl⟩ := trodAll_nil r2
  obtain rfl : args = #[v0, v1, v2] := by cases args; simp_all
  obtain ⟨rfl, rfl⟩ := trodVars_none hV
  clear hA hargs
  obtain ⟨A0, c0, a0, rfl, n0, l0, b0⟩ := Vers.open_vs (hval 0 22 v0 rfl rfl) h0 (Vers.wt_arg hsz (j := 0) rfl rfl)
  obtain ⟨A1, c1, a1, rfl, n1, l1, b1⟩ := Vers.open_vs (hval 1 22 v1 rfl rfl) h1 (Vers.wt_arg hsz (j := 1) rfl rfl)
  obtain ⟨a2, A2, c2, rfl, n2, l2, b2, w2, x2⟩ := Vers.open_ver (hval 2 28 v2 rfl rfl) h2 (Vers.wt_arg hsz (j := 2) rfl rfl)
  refine (walk W A0 c0 a0 n0 b0 l0 A1 c1 a1 n1 b1 l1 a2 A2 c2 n2 l2 b2).mono fun e W' ⟨he, hb⟩ => ?_
  subst he
  exact ⟨_, rfl, law_post Facts.laid (by rfl) Try.underlying4 (by rw [Try.params7]; decide +kernel) hW' hA1 rfl hbef rfl rfl rfl hb⟩

set_option maxRecDepth 100000 in
theorem lifted (os : Os) (started : os.Started) (H : Type) (enc : TypeId × Value → H) :
    ReturnsInHanded {} Try.checked os 7 .any (Rows.versTwinsSpec.pre6 enc Try.prog Try.f7 Rows.versTwinsRow.domain false) (Rows.versTwinsSpec.post enc Try.prog Try.f7 false true false false) := by
  refine returnsInHanded_of_change_sized (C := Try.checked) Facts.own started (by kernel_rfl) Try.func7
    (ChangeSpec.witness6 (enc := enc) (C := Try.checked) false ⟨#[], #[.slice none 0 0, .slice none 0 0, .agg #[.int .i64 0, .int .i64 0, .slice none 0 0, .bool false, .string ⟨#[]⟩]], []⟩ 8 (by kernel_rfl) (by kernel_rfl) (by kernel_rfl) (by kernel_rfl)) ?_
  intro W base args ds gs before hval hW _ hsz _
  exact contract H enc W base args ds gs before hval hW hsz

theorem holds : Rows.VersTwinsSaid :=
  OpenClaim.holds_of_wide 7 Try.f7 rfl rfl rfl rfl rfl rfl rfl ⟨rfl, rfl, rfl, rfl, rfl⟩ rfl rfl rfl rfl rfl (by kernel_rfl) Try.func7 (by kernel_rfl)
    (of_decide_eq_true (by kernel_rfl)) (by unfold Func.isWrapper; first | (rw [if_pos (by decide +kernel)]; kernel_rfl) | (rw [if_neg (by decide +kernel)]; exact ⟨rfl, rfl⟩))
    (fun os started H enc _ => lifted os started H enc)
-- ROW END
end VersTwins
end Go.Proofs.Ythiiganfoecmnaa
