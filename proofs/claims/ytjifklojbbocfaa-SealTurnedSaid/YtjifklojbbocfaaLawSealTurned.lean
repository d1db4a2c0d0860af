/-
  SealTurned (P13.2): a token whose mark is turned anywhere is refused as forged; one that is cut off is refused. For every input.
-/
import Derived.Test.YtjifklojbbocfaaSealAwake
import Derived.Test.YtjifklojbbocfaaSealArgs
import Derived.Test.YtjifklojbbocfaaRow
import Derived.BigRegion
namespace Go.Proofs.Ytjifklojbbocfaa
namespace SealTurned
open Go.ChangeShapes Go.WideShapes Go.ChangeAt Go.RowKit Num Span Ring Seal Go.Proofs.Ytjifklojbbocfaa.Code
attribute [local go_sem ↓] Go.wp_at_zero Go.wp_at_succ

theorem own_set {w : World} {base : Nat} {e : TypeId} {A : Option Addr} {c n : Nat} {zs : List Int} (hn : zs.length = n) (h : w.ownsRow base e 1 (.slice A n c) n (nums .u8 zs)) {k : Nat} (hk : k < n) :
    ∃ G, A = some ⟨G, 0, none⟩ ∧ base ≤ G ∧ G < w.heap.size ∧ w.cell? ⟨G, k, none⟩ = some (.int .u8 (zs.getD k 0)) ∧ w.frozen? ⟨G, k, none⟩ = false ∧ ∀ y, Ns .u8 (w.setCell ⟨G, k, none⟩ (.int .u8 y)) w.heap.size A (zs.set k y) := by
  subst hn
  obtain ⟨G, rfl, hG, hGl, hR⟩ := own_rw h (by omega)
  obtain ⟨b, off, he, _, hc⟩ := own_ns h (by omega)
  injection he with he
  injection he with e1 e2
  subst e1 e2
  have hcell := hc k hk
  rw [Nat.zero_add] at hcell
  refine ⟨G, rfl, hG, hGl, hcell, hR.frozen k, fun y hp => ⟨G, 0, rfl, hGl, fun j hj => ?_⟩⟩
  rw [List.length_set] at hj
  rw [Nat.zero_add]
  obtain ⟨cur, t, h1, h2⟩ := hR
  by_cases hjk : k = j
  · subst hjk
    obtain ⟨z, hz⟩ := h2 k hk
    have hlt := (Array.getElem?_eq_some_iff.1 hz).1
    simp [World.cell?, World.setCell, Array.getElem?_modify, h1, List.getD_eq_getElem?_getD, hk, hlt]
  · have hcj := hc j hj
    rw [Nat.zero_add] at hcj
    have e3 : (zs.set k y).getD j 0 = zs.getD j 0 := by simp [List.getD_eq_getElem?_getD, List.getElem?_set_ne hjk]
    rw [e3, ← hcj]
    exact World.cell?_setCell_other _ _ _ _ (fun e => hjk (by injection e))

theorem xor_turns {a x : Int} (ha : 0 ≤ a ∧ a ≤ 255) (hx : 1 ≤ x ∧ x ≤ 255) : (0 ≤ bits .xor .u8 a x ∧ bits .xor .u8 a x ≤ 255) ∧ bits .xor .u8 a x ≠ a := by
  rw [u8_xor a x (by omega) (by omega) (by omega) (by omega)]
  have h1 := Nat.xor_lt_two_pow (n := 8) (x := a.toNat) (y := x.toNat) (by omega) (by omega)
  refine ⟨⟨by omega, by omega⟩, fun h => ?_⟩
  have h2 : a.toNat ^^^ x.toNat = a.toNat := by omega
  have h3 : a.toNat ^^^ (a.toNat ^^^ x.toNat) = 0 := by rw [h2, Nat.xor_self]
  rw [← Nat.xor_assoc, Nat.xor_self, Nat.zero_xor] at h3
  omega
theorem set_bytes {zs : List Int} (h : ∀ z ∈ zs, 0 ≤ z ∧ z ≤ 255) {k : Nat} {y : Int} (hy : 0 ≤ y ∧ y ≤ 255) : ∀ z ∈ zs.set k y, 0 ≤ z ∧ z ≤ 255 := by
  intro z hz
  rcases List.mem_or_eq_of_mem_set hz with h1 | h1
  · exact h z h1
  · rw [h1]; exact hy

set_option maxRecDepth 100000 in
set_option maxHeartbeats 2000000 in
theorem walk (w : World) (s : ByteArray) (g : Int) (hg : -9223372036854775808 ≤ g ∧ g ≤ 9223372036854775807) (hs : s.size ≤ 140737488351232)
    (A : Option Addr) (c : Nat) (l : List Sp) (hr : Ss w w.heap.size A l) (hbig : l.length ≤ 140737488355328) (_hlc : l.length ≤ c) (t0 t1 t2 : Int) (ht0 : 0 ≤ t0 ∧ t0 ≤ 255) (ht1 : 0 ≤ t1 ∧ t1 ≤ 255) (ht2 : 0 ≤ t2 ∧ t2 ≤ 255) :
    Calls Try.prog 7 #[.agg #[.string s, .int .i64 g], .slice A l.length c, .agg #[.int .u8 t0, .int .u8 t1, .int .u8 t2]] w fun e w' => e = .returned (.bool true) ∧ Below w.heap.size w w' := by
  obtain ⟨i0, hi0, hz0, hz1, hz2⟩ := info_parts Facts.info5
  have h1 := fun W (hW : Ss W W.heap.size A l) => seal_any s hs g hg A c _ l rfl W hW hbig
  obtain ⟨m, hm⟩ : ∃ m, l.length = m := ⟨_, rfl⟩
  rw [hm] at h1 ⊢
  have hS : ∀ W, Below w.heap.size w W → Ss W W.heap.size A l := fun W h => (hr.below h).more h.size
  obtain ⟨B, hB⟩ : ∃ B, w.heap.size = B := ⟨_, rfl⟩
  obtain ⟨W, hW⟩ : ∃ W, (w.alloc (.cells #[.string s, .int .i64 g] 23)).alloc (.cells #[.int .u8 t0, .int .u8 t1, .int .u8 t2] 42) = W := ⟨_, rfl⟩
  have hb0 : Below w.heap.size w W := by rw [← hW]; exact ((Below.refl _ w).alloc (Nat.le_refl _) _).alloc (by simp) _
  have q0 : W.cell? ⟨B, 0, none⟩ = some (.string s) := by rw [← hW, ← hB]; simp
  have q1 : W.cell? ⟨B, 1, none⟩ = some (.int .i64 g) := by rw [← hW, ← hB]; simp
  have q2 : W.cell? ⟨B + 1, 0, none⟩ = some (.int .u8 t0) := by rw [← hW, ← hB]; simp
  have q3 : W.cell? ⟨B + 1, 1, none⟩ = some (.int .u8 t1) := by rw [← hW, ← hB]; simp
  have q4 : W.cell? ⟨B + 1, 2, none⟩ = some (.int .u8 t2) := by rw [← hW, ← hB]; simp
  have hBW : B + 1 < W.heap.size := by rw [← hW, ← hB]; simp
  have hq : ∀ V, Below W.heap.size W V → V.cell? ⟨B, 0, none⟩ = some (.string s) ∧ V.cell? ⟨B, 1, none⟩ = some (.int .i64 g) ∧ V.cell? ⟨B + 1, 0, none⟩ = some (.int .u8 t0) ∧ V.cell? ⟨B + 1, 1, none⟩ = some (.int .u8 t1) ∧ V.cell? ⟨B + 1, 2, none⟩ = some (.int .u8 t2) := fun V h =>
    ⟨(h.cell (p := ⟨B, 0, none⟩) (by show B < _; omega)).trans q0, (h.cell (p := ⟨B, 1, none⟩) (by show B < _; omega)).trans q1, (h.cell (p := ⟨B + 1, 0, none⟩) hBW).trans q2, (h.cell (p := ⟨B + 1, 1, none⟩) hBW).trans q3, (h.cell (p := ⟨B + 1, 2, none⟩) hBW).trans q4⟩
  have H0 := Lib.hid (And.intro hW (And.intro hb0 (And.intro hS (And.intro hm (And.intro hq hBW)))))
  by_cases hok : okKey s g ∧ Right l
  · obtain ⟨hk, hR⟩ := hok
    rw [seal_ok hk hR] at h1
    have hml := markL_len s (bodyL g l)
    have hbt := seal_bytes s g l
    have hdl := bodyL_len (g := g) hR.1
    have hmb : ∀ z ∈ markL s (bodyL g l), 0 ≤ z ∧ z ≤ 255 := markL_bytes _ _
    have hot := fun (M' : List Int) (h8 : M'.length = 8) => open_token (s' := s) (g' := g) hk hg.2 hR hk M' h8
    have hoc := fun (k : Nat) (k1 : 1 ≤ k) (k8 : k ≤ 8) (zs : List Int) (hz : k ≤ zs.length) => open_cut hk k k1 k8 hz
    rw [seal_ok hk hR] at hbt
    simp only at hbt
    obtain ⟨M, hM⟩ : ∃ M, markL s (bodyL g l) = M := ⟨_, rfl⟩
    rw [hM] at h1 hml hbt hot hmb
    obtain ⟨D, hD⟩ : ∃ D, bodyL g l = D := ⟨_, rfl⟩
    rw [hD] at h1 hbt hot hdl
    obtain ⟨d, hd⟩ : ∃ d, D.length = d := ⟨_, rfl⟩
    have hL : (D ++ M).length = d + 8 := by rw [List.length_append, hd, hml]
    have hd1 : d ≤ 27675 := by omega
    obtain ⟨J, hJ⟩ : ∃ J : Nat, t0 % 8 = J := ⟨(t0 % 8).toNat, by omega⟩
    obtain ⟨K, hK⟩ : ∃ K : Nat, t2 % 8 = K := ⟨(t2 % 8).toNat, by omega⟩
    have hJ8 : J < 8 := by omega
    have hK8 : K < 8 := by omega
    have j1 : t0.tmod 8 = J := by rw [Int.tmod_eq_emod_of_nonneg ht0.1]; exact hJ
    have j3 : t2.tmod 8 = K := by rw [Int.tmod_eq_emod_of_nonneg ht2.1]; exact hK
    have j2 : IntKind.u8.wrap (J : Int) = J := by
      have e : IntKind.u8.wrap (J : Int) = (J : Int) % 256 := by simp [IntKind.wrap, IntKind.signed, IntKind.bits]
      rw [e]; omega
    have j4 : IntKind.u8.wrap (K : Int) = K := by
      have e : IntKind.u8.wrap (K : Int) = (K : Int) % 256 := by simp [IntKind.wrap, IntKind.signed, IntKind.bits]
      rw [e]; omega
    have ha : 0 ≤ M.getD J 0 ∧ M.getD J 0 ≤ 255 := by
      rw [List.getD_eq_getElem?_getD, List.getElem?_eq_getElem (show J < M.length by omega), Option.getD_some]
      exact hmb _ (List.getElem_mem _)
    have hget : (D ++ M).getD (d + J) 0 = M.getD J 0 := by
      rw [List.getD_eq_getElem?_getD, List.getD_eq_getElem?_getD, List.getElem?_append_right (by omega), hd, Nat.add_sub_cancel_left]
    have hset : ∀ y, (D ++ M).set (d + J) y = D ++ M.set J y := fun y => by rw [List.set_append_right _ _ (by omega), hd, Nat.add_sub_cancel_left]
    have h2 : ∀ (x : Int), 1 ≤ x → x ≤ 255 → ∀ (A' : Option Addr) (c' : Nat) (_hc : d + 8 ≤ c') (V : World), Ns .u8 V V.heap.size A' ((D ++ M).set (d + J) (bits .xor .u8 (M.getD J 0) x)) → Calls Try.prog 14 #[.string s, .int .i64 g, .slice A' (d + 8) c'] V (GotSet V.heap.size ([], 132) V) := fun x x1 x2 A' c' hc' V hV => by
      obtain ⟨hy, hne⟩ := xor_turns ha ⟨x1, x2⟩
      have h := open_any s hs g A' c' (d + 8) _ (by rw [List.length_set, hL]) V hV (set_bytes hbt hy) hc' (by omega)
      rw [hset, hot _ (by rw [List.length_set, hml]), if_neg (by simp), if_pos (fun e => hne (by
        have e2 := congrArg (fun l => l.getD J 0) e
        simpa [List.getD_eq_getElem?_getD, List.getElem?_set_self (show J < M.length by omega)] using e2))] at h
      exact h
    have h3 : ∀ (A' : Option Addr) (c' : Nat) (_hc : d + 8 ≤ c') (V : World), Ns .u8 V V.heap.size A' (D ++ M) → Calls Try.prog 14 #[.string s, .int .i64 g, .slice A' (1 + K) c'] V (GotSet V.heap.size ([], 130) V) := fun A' c' hc' V hV => by
      have h := open_any s hs g A' c' (1 + K) ((D ++ M).take (1 + K)) (by rw [List.length_take, hL]; omega) V (hV.take _) (take_bytes hbt _) (by omega) (by omega)
      rw [hoc (1 + K) (by omega) (by omega) _ (by omega)] at h
      exact h
    have k1 := fun A' c' (hc' : d + 8 ≤ c') => Cut.cut_h A' (d + 8) c' (1 + K) ((1 + K : Nat) : Int) rfl (by omega) hc'
    obtain ⟨k, hk1⟩ : ∃ k : Nat, (1 : Int) + (K : Int) = (k : Int) := ⟨1 + K, by omega⟩
    have hkK : 1 + K = k := by omega
    rw [hkK] at h3 k1
    have hk9 : 1 ≤ k ∧ k ≤ 8 := by omega
    obtain ⟨hk9, hk8⟩ := hk9
    have hd8 : (0 : Int) ≤ (d : Int) + J ∧ (d : Int) + J < (d : Int) + 8 := by omega
    have H1 := Lib.hid (And.intro h1 (And.intro h2 (And.intro h3 (And.intro k1 (And.intro hL hget)))))
    clear hkK h1 h2 h3 k1 hml hbt hot hoc hmb hM hD hd hL hk hR hS hb0 hW hr hm hq q0 q1 q2 q3 q4 hdl ha hget hset hJ hK ht2 ht0
    by_cases ht : t1 = 0
    · subst ht
      have ht1 : True := trivial
      go_enter Try.func7, Try.ntmps7
      go_wp2_with fail
      rw [H0.out.1]
      refine (H1.out.1 W (H0.out.2.2.1 W H0.out.2.1)).mono ?_
      intro e w1 hp
      obtain ⟨A1, c1, rfl, n1, hc1, d1⟩ := hp.read
      rw [show (D ++ M, (0 : Int)).1 = D ++ M from rfl, H1.out.2.2.2.2.1] at hc1 ⊢
      have HA := Lib.hid (And.intro (H0.out.2.1.trans (d1.mono H0.out.2.1.size)) (And.intro n1 d1))
      clear n1 d1 hp
      go_wp2_with fail
      refine (awake_any w1).mono ?_
      rintro e w2 ⟨rfl, d2⟩
      have e2 := HA.out.2.2.trans (d2.mono HA.out.2.2.size)
      obtain ⟨r0, r1, r2, r3, r4⟩ := H0.out.2.2.2.2.1 w2 e2
      have HB := Lib.hid (And.intro (HA.out.1.trans (d2.mono HA.out.1.size)) (And.intro ((HA.out.2.1.below d2).more d2.size) e2))
      clear d2 e2
      go_wp2_with (first
        | (at_builtin; refine wpList_append_ns _ rfl (.tmp 39) (.tmp 40) 25 rfl w2.heap.size 5 i0 (.int .u8 0) 1 Try.underlying25 hi0 hz0 hz1 hz2 rfl (.slice none 0 0) (0) ([]) rfl (World.ownsRow_nil _ _ _ _) .u8 _ A1 (d + 8) c1 (D ++ M) H1.out.2.2.2.2.1 rfl HB.out.2.1 (by omega) (by omega) (Nat.le_refl _) ?_; intro v3 w3 o3 g3 at3; have d3 : Below w2.heap.size w2 w3 := (Below.refl _ _).grown g3 (Nat.le_refl _) (by simp [Value.ownBlock]))
        | fail)
      obtain ⟨A3, c3, rfl⟩ := own_form o3
      have hlc := (own_len o3).2
      rw [Nat.zero_add] at o3 hlc ⊢
      obtain ⟨G, rfl, hG1, hG2, x0, x1, hset⟩ := own_set (k := d + J) H1.out.2.2.2.2.1 (by simpa using o3) (by omega)
      rw [H1.out.2.2.2.2.2] at x0
      have e3 := HB.out.2.2.trans (d3.mono HB.out.2.2.size)
      obtain ⟨p0, p1, p2, p3, p4⟩ := H0.out.2.2.2.2.1 w3 e3
      obtain ⟨a, hae⟩ : ∃ a, M.getD J 0 = a := ⟨_, rfl⟩
      rw [hae] at x0
      have HC := Lib.hid (And.intro (HB.out.1.trans (d3.mono HB.out.1.size)) (And.intro ((HB.out.2.1.below d3).more d3.size) (And.intro e3 (And.intro hset (And.intro hae d3)))))
      have hGW : B + 1 < G := by have := H0.out.2.2.2.2.2; have := HB.out.2.2.size; omega
      have hBG : B ≠ G ∧ B + 1 ≠ G := by omega
      obtain ⟨hBG1, hBG2⟩ := hBG
      clear o3 hset e3 d3 r0 r1 r2 r3 r4 g3 at3 hae
      go_region
      obtain ⟨w4, hw4⟩ : ∃ w4, (w3.setCell ⟨G, d + J, none⟩ (.int .u8 (bits .xor .u8 a 1))).drew = w4 := ⟨_, rfl⟩
      rw [hw4]
      have n4 : Ns .u8 w4 w4.heap.size (some ⟨G, 0, none⟩) ((D ++ M).set (d + J) (bits .xor .u8 (M.getD J 0) 1)) := by
        rw [← hw4, HC.out.2.2.2.2.1]
        exact Ns.drew ((HC.out.2.2.2.1 (bits .xor .u8 a 1)).more ((grown_set _ _ _ _).size))
      have d4 : Below w2.heap.size w2 w4 := by rw [← hw4]; exact (HC.out.2.2.2.2.2.setCell hG1 _).drew
      have b4 : Below w.heap.size w w4 := HB.out.1.trans (d4.mono HB.out.1.size)
      have e4 := HB.out.2.2.trans (d4.mono HB.out.2.2.size)
      obtain ⟨r0, r1, r2, r3, r4⟩ := H0.out.2.2.2.2.1 w4 e4
      have HD := Lib.hid (And.intro b4 (And.intro ((HB.out.2.1.below d4).more d4.size) (And.intro e4 n4)))
      clear p0 p1 p2 p3 p4 x0 x1 hw4 n4 d4 b4 e4 HC
      go_wp2_with fail
      refine (H1.out.2.1 1 (by omega) (by omega) _ c3 hlc w4 HD.out.2.2.2).mono ?_
      rintro e w5 ⟨A5, c5, rfl, _, d5⟩
      have e5 := HD.out.2.2.1.trans (d5.mono HD.out.2.2.1.size)
      obtain ⟨p0, p1, p2, p3, p4⟩ := H0.out.2.2.2.2.1 w5 e5
      have HE := Lib.hid (And.intro (HD.out.1.trans (d5.mono HD.out.1.size)) (And.intro ((HD.out.2.1.below d5).more d5.size) e5))
      have kk := H1.out.2.2.2.1 A1 c1 hc1
      have hwK : IntKind.i64.wrap (K : Int) = K := Go.IntWalk.i64_in _ (by omega)
      have hwk : IntKind.i64.wrap (k : Int) = k := Go.IntWalk.i64_in _ (by omega)
      clear d5 e5 r0 r1 r2 r3 r4 p2 p3
      go_wp2_with fail
      go_region_held3 (fun V => V.cell? ⟨B, 0, none⟩ = some (.string s) ∧ V.cell? ⟨B, 1, none⟩ = some (.int .i64 g) ∧ V.cell? ⟨B + 1, 2, none⟩ = some (.int .u8 t2))
        (first
          | exact ⟨p0, p1, p4⟩
          | exact ⟨y0, y1, y4⟩)
        (first
          | (go_at_call 14; refine (H1.out.2.2.1 A1 c1 hc1 w5.drew HE.out.2.1.drew).mono ?_; rintro e w6 ⟨A6, c6, rfl, _, d6⟩; have e6 : Below W.heap.size W w6 := HE.out.2.2.trans (((Below.refl _ w5).drew.trans d6).mono HE.out.2.2.size); obtain ⟨y0, y1, y2, y3, y4⟩ := H0.out.2.2.2.2.1 w6 e6))
      all_goals
        have HF := Lib.hid (HE.out.1.trans (((Below.refl _ w5).drew.trans d6).mono HE.out.1.size))
        clear d6 e6
        go_wp2_with fail
        go_ret
        exact ⟨rfl, HF.out⟩
    · have htn : (t1 == 0) = false := by simpa using ht
      go_enter Try.func7, Try.ntmps7
      go_wp2_with fail
      rw [H0.out.1]
      refine (H1.out.1 W (H0.out.2.2.1 W H0.out.2.1)).mono ?_
      intro e w1 hp
      obtain ⟨A1, c1, rfl, n1, hc1, d1⟩ := hp.read
      rw [show (D ++ M, (0 : Int)).1 = D ++ M from rfl, H1.out.2.2.2.2.1] at hc1 ⊢
      have HA := Lib.hid (And.intro (H0.out.2.1.trans (d1.mono H0.out.2.1.size)) (And.intro n1 d1))
      clear n1 d1 hp
      go_wp2_with fail
      refine (awake_any w1).mono ?_
      rintro e w2 ⟨rfl, d2⟩
      have e2 := HA.out.2.2.trans (d2.mono HA.out.2.2.size)
      obtain ⟨r0, r1, r2, r3, r4⟩ := H0.out.2.2.2.2.1 w2 e2
      have HB := Lib.hid (And.intro (HA.out.1.trans (d2.mono HA.out.1.size)) (And.intro ((HA.out.2.1.below d2).more d2.size) e2))
      clear d2 e2
      go_wp2_with (first
        | (at_builtin; refine wpList_append_ns _ rfl (.tmp 39) (.tmp 40) 25 rfl w2.heap.size 5 i0 (.int .u8 0) 1 Try.underlying25 hi0 hz0 hz1 hz2 rfl (.slice none 0 0) (0) ([]) rfl (World.ownsRow_nil _ _ _ _) .u8 _ A1 (d + 8) c1 (D ++ M) H1.out.2.2.2.2.1 rfl HB.out.2.1 (by omega) (by omega) (Nat.le_refl _) ?_; intro v3 w3 o3 g3 at3; have d3 : Below w2.heap.size w2 w3 := (Below.refl _ _).grown g3 (Nat.le_refl _) (by simp [Value.ownBlock]))
        | fail)
      obtain ⟨A3, c3, rfl⟩ := own_form o3
      have hlc := (own_len o3).2
      rw [Nat.zero_add] at o3 hlc ⊢
      obtain ⟨G, rfl, hG1, hG2, x0, x1, hset⟩ := own_set (k := d + J) H1.out.2.2.2.2.1 (by simpa using o3) (by omega)
      rw [H1.out.2.2.2.2.2] at x0
      have e3 := HB.out.2.2.trans (d3.mono HB.out.2.2.size)
      obtain ⟨p0, p1, p2, p3, p4⟩ := H0.out.2.2.2.2.1 w3 e3
      obtain ⟨a, hae⟩ : ∃ a, M.getD J 0 = a := ⟨_, rfl⟩
      rw [hae] at x0
      have HC := Lib.hid (And.intro (HB.out.1.trans (d3.mono HB.out.1.size)) (And.intro ((HB.out.2.1.below d3).more d3.size) (And.intro e3 (And.intro hset (And.intro hae d3)))))
      have hGW : B + 1 < G := by have := H0.out.2.2.2.2.2; have := HB.out.2.2.size; omega
      have hBG : B ≠ G ∧ B + 1 ≠ G := by omega
      obtain ⟨hBG1, hBG2⟩ := hBG
      clear o3 hset e3 d3 r0 r1 r2 r3 r4 g3 at3 hae
      go_region
      obtain ⟨w4, hw4⟩ : ∃ w4, (w3.setCell ⟨G, d + J, none⟩ (.int .u8 (bits .xor .u8 a t1))).drew = w4 := ⟨_, rfl⟩
      rw [hw4]
      have n4 : Ns .u8 w4 w4.heap.size (some ⟨G, 0, none⟩) ((D ++ M).set (d + J) (bits .xor .u8 (M.getD J 0) t1)) := by
        rw [← hw4, HC.out.2.2.2.2.1]
        exact Ns.drew ((HC.out.2.2.2.1 (bits .xor .u8 a t1)).more ((grown_set _ _ _ _).size))
      have d4 : Below w2.heap.size w2 w4 := by rw [← hw4]; exact (HC.out.2.2.2.2.2.setCell hG1 _).drew
      have b4 : Below w.heap.size w w4 := HB.out.1.trans (d4.mono HB.out.1.size)
      have e4 := HB.out.2.2.trans (d4.mono HB.out.2.2.size)
      obtain ⟨r0, r1, r2, r3, r4⟩ := H0.out.2.2.2.2.1 w4 e4
      have HD := Lib.hid (And.intro b4 (And.intro ((HB.out.2.1.below d4).more d4.size) (And.intro e4 n4)))
      clear p0 p1 p2 p3 p4 x0 x1 hw4 n4 d4 b4 e4 HC
      go_wp2_with fail
      refine (H1.out.2.1 t1 (by omega) (by omega) _ c3 hlc w4 HD.out.2.2.2).mono ?_
      rintro e w5 ⟨A5, c5, rfl, _, d5⟩
      have e5 := HD.out.2.2.1.trans (d5.mono HD.out.2.2.1.size)
      obtain ⟨p0, p1, p2, p3, p4⟩ := H0.out.2.2.2.2.1 w5 e5
      have HE := Lib.hid (And.intro (HD.out.1.trans (d5.mono HD.out.1.size)) (And.intro ((HD.out.2.1.below d5).more d5.size) e5))
      have kk := H1.out.2.2.2.1 A1 c1 hc1
      have hwK : IntKind.i64.wrap (K : Int) = K := Go.IntWalk.i64_in _ (by omega)
      have hwk : IntKind.i64.wrap (k : Int) = k := Go.IntWalk.i64_in _ (by omega)
      clear d5 e5 r0 r1 r2 r3 r4 p2 p3
      go_wp2_with fail
      go_region_held3 (fun V => V.cell? ⟨B, 0, none⟩ = some (.string s) ∧ V.cell? ⟨B, 1, none⟩ = some (.int .i64 g) ∧ V.cell? ⟨B + 1, 2, none⟩ = some (.int .u8 t2))
        (first
          | exact ⟨p0, p1, p4⟩
          | exact ⟨y0, y1, y4⟩)
        (first
          | (go_at_call 14; refine (H1.out.2.2.1 A1 c1 hc1 w5.drew HE.out.2.1.drew).mono ?_; rintro e w6 ⟨A6, c6, rfl, _, d6⟩; have e6 : Below W.heap.size W w6 := HE.out.2.2.trans (((Below.refl _ w5).drew.trans d6).mono HE.out.2.2.size); obtain ⟨y0, y1, y2, y3, y4⟩ := H0.out.2.2.2.2.1 w6 e6))
      all_goals
        have HF := Lib.hid (HE.out.1.trans (((Below.refl _ w5).drew.trans d6).mono HE.out.1.size))
        clear d6 e6
        go_wp2_with fail
        go_ret
        exact ⟨rfl, HF.out⟩
  · rw [seal_bad hok] at h1
    have H1 := Lib.hid h1
    clear h1 hok hS hb0 hW hr hm hq q0 q1 q2 q3 q4
    go_enter Try.func7, Try.ntmps7
    go_wp2_with fail
    rw [H0.out.1]
    refine (H1.out W (H0.out.2.2.1 W H0.out.2.1)).mono ?_
    intro e w1 hp
    obtain ⟨A1, c1, rfl, n1, hc1, d1⟩ := hp.read
    have HA := Lib.hid (H0.out.2.1.trans (d1.mono H0.out.2.1.size))
    clear n1 d1 hp hc1
    go_wp2_with fail
    refine (awake_any w1).mono ?_
    rintro e w2 ⟨rfl, d2⟩
    have HB := Lib.hid (HA.out.trans (d2.mono HA.out.size))
    clear d2
    go_wp2_with fail
    refine (awake_any w2).mono ?_
    rintro e w3 ⟨rfl, d3⟩
    have HC := Lib.hid (HB.out.trans (d3.mono HB.out.size))
    clear d3
    go_wp2_with fail
    go_ret
    exact ⟨rfl, HC.out⟩
-- ROW BEGIN
/-- What the walk gives, shut again. -/
theorem contract (H : Type) (enc : TypeId × Value → H) (W : World) (base : Nat) (args : Array Value) (ds gs : List (DataW H)) (before : List MemPlace)
    (hval : ∀ (j : Nat) t v, Try.f7.params[j]? = some t → args[j]? = some v → Value.okWide Try.prog W .any base t v)
    (hW : DataW.Whole enc Try.prog Try.f7.params.toList Rows.sealTurnedSpec.vars false W args.toList ds gs before)
    (hsz : (DataW.weightsEach Try.prog (Try.f7.params.toList ++ Rows.sealTurnedSpec.plain.varTypes Try.prog) (ds ++ gs)).all (· ≤ reachBytes) = true) :
    Calls Try.prog 7 args W fun e W' => ∃ v, e = .returned v ∧ Rows.sealTurnedSpec.post enc Try.prog Try.f7 false true false false W args v W' := by
  have hW' := hW
  obtain ⟨p, q, hA0, hV, hbef, _, _⟩ := hW
  have hA : DataW.TrodAll enc Try.prog W 0 (fun _ => true) true Try.f7.params.toList args.toList ds p := hA0
  have hA1 := hA
  rw [Try.params7] at hA hval hsz
  obtain ⟨v0, vs0, d0, ds0, p0, q0, hargs, rfl, rfl, h0, r0⟩ := trodAll_cons hA
  obtain ⟨v1, vs1, d1, ds1, p1, q1, rfl, rfl, rfl, h1, r1⟩ := trodAll_cons r0
  obtain ⟨v2, vs2, d2, ds2, p2, q2, rfl, rfl, rfl, h2, r2⟩ := trodAll_cons r1
  obtain ⟨rfl, rfl, rfl⟩ := trodAll_nil r2
  obtain rfl : args = #[v0, v1, v2] := by cases args; simp_all
  obtain ⟨rfl, rfl⟩ := trodVars_none hV
  clear hA hargs
  obtain ⟨a0, g0, rfl, w0, b0, u0⟩ := Seal.arg_key (hval 0 23 v0 rfl rfl) h0 (Wgt.wt_arg hsz (j := 0) rfl rfl)
  obtain ⟨A1, c1, a1, rfl, n1, l1, o1⟩ := Span.open_ss Try.underlying24 Try.underlying45 (by kernel_rfl) Span.cells_span Try.underlying3 Try.underlying2 Try.underlying2 (hval 1 24 v1 rfl rfl) h1
  have b1 := Span.reach_ss hsz (j := 1) rfl rfl Try.underlying24 Span.bytes_span l1 o1
  obtain ⟨a2, y2, z2, rfl, w2, u2, x2⟩ := Seal.arg_turn (hval 2 42 v2 rfl rfl) h2
  refine (walk W a0 g0 (wf_int w0) b0 A1 c1 a1 n1 (by omega) l1 a2 y2 z2 w2 u2 x2).mono fun e W' ⟨he, hb⟩ => ?_
  subst he
  exact ⟨_, rfl, law_post Facts.laid (by rfl) Try.underlying4 (by rw [Try.params7]; decide +kernel) hW' hA1 rfl hbef rfl rfl rfl hb⟩

set_option maxRecDepth 100000 in
theorem lifted (os : Os) (started : os.Started) (H : Type) (enc : TypeId × Value → H) :
    ReturnsInHanded {} Try.checked os 7 .any (Rows.sealTurnedSpec.pre6 enc Try.prog Try.f7 Rows.sealTurnedRow.domain false) (Rows.sealTurnedSpec.post enc Try.prog Try.f7 false true false false) := by
  refine returnsInHanded_of_change_sized (C := Try.checked) Facts.own started (by kernel_rfl) Try.func7
    (ChangeSpec.witness6 (enc := enc) (C := Try.checked) false ⟨#[], #[.agg #[.string ⟨#[]⟩, .int .i64 0], .slice none 0 0, .agg #[.int .u8 0, .int .u8 0, .int .u8 0]], []⟩ 8 (by kernel_rfl) (by kernel_rfl) (by kernel_rfl) (by kernel_rfl)) ?_
  intro W base args ds gs before hval hW _ hsz _
  exact contract H enc W base args ds gs before hval hW hsz

theorem holds : Rows.SealTurnedSaid :=
  OpenClaim.holds_of_wide 7 Try.f7 rfl rfl rfl rfl rfl rfl rfl ⟨rfl, rfl, rfl, rfl, rfl⟩ rfl rfl rfl rfl rfl (by kernel_rfl) Try.func7 (by kernel_rfl)
    (of_decide_eq_true (by kernel_rfl)) (by unfold Func.isWrapper; first | (rw [if_pos (by decide +kernel)]; kernel_rfl) | (rw [if_neg (by decide +kernel)]; exact ⟨rfl, rfl⟩))
    (fun os started H enc _ => lifted os started H enc)
-- ROW END
end SealTurned
end Go.Proofs.Ytjifklojbbocfaa
