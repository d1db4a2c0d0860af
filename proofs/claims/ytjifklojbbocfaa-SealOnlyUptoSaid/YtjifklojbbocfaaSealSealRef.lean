/-
  firthref13.Seal tells sealF.
-/
import Derived.Test.YtjifklojbbocfaaSealSeal
namespace Go.Proofs.Ytjifklojbbocfaa
namespace Seal
open Go.RowKit Num Span Ring Go.Proofs.Ytjifklojbbocfaa.Code
attribute [local go_sem ↓] Go.wp_at_zero Go.wp_at_succ

/-- Bytes and an error, to be read. -/
def ROut (B : Nat) (r : List Int × Int) (w : World) (e : Ending) (w' : World) : Prop :=
  ∃ A c, e = .returned (.tuple #[.slice A r.1.length c, .int .i64 r.2]) ∧ Ns .u8 w' w'.heap.size A r.1 ∧ r.1.length ≤ c ∧ Below B w w'
theorem SOut.read {B : Nat} {r : List Int × Int} {w w' : World} {e : Ending} (h : SOut B r w e w') : ROut B r w e w' := by
  obtain ⟨v, rfl, h | h, hb⟩ := h
  · obtain ⟨rfl, rfl⟩ := h
    exact ⟨none, 0, rfl, Ns.nil _, by simp, hb⟩
  · obtain ⟨A, c, rfl, hN, hc⟩ := h.2.ns
    exact ⟨A, c, rfl, hN, hc, hb⟩

set_option maxRecDepth 100000 in
set_option maxHeartbeats 1000000 in
theorem ref_seal_any (s : ByteArray) (hs : s.size ≤ 140737488351232) (g : Int) (hg : -9223372036854775808 ≤ g ∧ g ≤ 9223372036854775807) (A : Option Addr) (c m : Nat) (l : List Sp) (hm : l.length = m) (w : World) (hr : Ss w w.heap.size A l) (hbig : m ≤ 140737488355328) :
    Calls Try.prog 10 #[.string s, .int .i64 g, .slice A m c] w (ROut w.heap.size (sealF s g l) w) := by
  obtain ⟨i0, hi0, hz0, hz1, hz2⟩ := info_parts Facts.info5
  have h1 := may_any s g hs w
  by_cases hk : okKey s g
  · rw [show decide (okKey s g) = true from decide_eq_true hk] at h1
    have h2 := ref_right_any A c m l hm w hr hbig
    by_cases hR : Right l
    · rw [show decide (Right l) = true from decide_eq_true hR] at h2
      rw [seal_ok hk hR]
      have hg0 : 0 ≤ g := hk.2.2
      have hp1 := fun W => ref_putnum_pos 1 (by omega) W
      have hpg := fun W => ref_putnum_pos g ⟨hg0, hg.2⟩ W
      have l1 := putL_len 1
      have l2 := putL_len g
      have l3 := setL_len hR.1
      have l4 := bodyL_len (g := g) hR.1
      have b4 := bodyL_bytes hg0 hR
      have hB : putL 1 ++ putL g ++ setL l = bodyL g l := rfl
      have hml := markL_len s (bodyL g l)
      have hmk := fun (A : Option Addr) (c n : Nat) (hn : (bodyL g l).length = n) (W : World) (hW : Ns .u8 W W.heap.size A (bodyL g l)) => ref_mark_any s (by unfold okKey at hk; omega) A c n (bodyL g l) hn b4 W hW (by omega)
      have hps := fun (W : World) (hW : Ss W W.heap.size A l) => ref_putset_any A c m l hm hR.2.1 W hW (by have := hR.1; omega)
      obtain ⟨M, hM⟩ : ∃ M, markL s (bodyL g l) = M := ⟨_, rfl⟩
      rw [hM] at hml hmk ⊢
      obtain ⟨D, hD⟩ : ∃ D, bodyL g l = D := ⟨_, rfl⟩
      rw [hD] at hB b4 l4 hmk ⊢
      obtain ⟨P1, hP1⟩ : ∃ P, putL 1 = P := ⟨_, rfl⟩
      rw [hP1] at hp1 l1 hB
      obtain ⟨P2, hP2⟩ : ∃ P, putL g = P := ⟨_, rfl⟩
      rw [hP2] at hpg l2 hB
      obtain ⟨P3, hP3⟩ : ∃ P, setL l = P := ⟨_, rfl⟩
      rw [hP3] at hps l3 hB
      obtain ⟨p1, hp1l⟩ : ∃ p, P1.length = p := ⟨_, rfl⟩
      obtain ⟨p2, hp2l⟩ : ∃ p, P2.length = p := ⟨_, rfl⟩
      obtain ⟨p3, hp3l⟩ : ∃ p, P3.length = p := ⟨_, rfl⟩
      have hdl : D.length = p1 + p2 + p3 := by rw [← hB]; simp only [List.length_append, hp1l, hp2l, hp3l]
      have hmk' := fun A c W hW => hmk A c (p1 + p2 + p3) hdl W hW
      have H1 := Lib.hid h1
      have H2 := Lib.hid (And.intro h2 (And.intro hp1l (And.intro hp2l (And.intro hp3l hr))))
      have H3 := Lib.hid (And.intro hp1 (And.intro hpg (And.intro hps hmk')))
      have H4 := Lib.hid (And.intro hml (And.intro hB hdl))
      have hsm : p1 ≤ 9 ∧ p2 ≤ 9 ∧ p3 ≤ 27657 := by omega
      obtain ⟨s1, s2, s3⟩ := hsm
      clear h1 h2 hp1 hpg hps hmk hmk' hml hdl hp1l hp2l hp3l hP1 hP2 hP3 hD hM hB b4 l1 l2 l3 l4 hR hk hr hm
      go_enter Try.func10, Try.ntmps10
      go_wp2_with fail
      refine H1.out.mono ?_
      rintro e w' ⟨rfl, rfl⟩
      go_wp2_with fail
      refine H2.out.1.mono ?_
      rintro e w1 ⟨rfl, d1⟩
      have hs1 := d1.size
      have HX := Lib.hid d1
      clear d1
      go_wp2_with fail
      refine (H3.out.1 w1).mono ?_
      rintro e w2 ⟨A2, c2, rfl, o2, d2⟩
      rw [H2.out.2.1]
      have HA := Lib.hid (And.intro (own_base o2 hs1) (HX.out.trans (d2.mono hs1)))
      clear o2 d2
      go_wp2_with fail
      refine (H3.out.2.1 w2).mono ?_
      rintro e w3 ⟨A3, c3, rfl, o3, d3⟩
      rw [H2.out.2.2.1]
      have o23 := own_below HA.out.1 d3 (Nat.le_refl _)
      have b3 := HA.out.2.trans (d3.mono HA.out.2.size)
      have n3 := own_ns o3
      have hs3 := b3.size
      clear o3 d3
      rw [H2.out.2.1] at o23
      go_wp2_with (first
        | (at_builtin; refine wpList_append_ns _ rfl (.tmp 20) (.tmp 22) 25 rfl w.heap.size 5 i0 (.int .u8 0) 1 Try.underlying25 hi0 hz0 hz1 hz2 rfl _ p1 (nums .u8 P1) rfl o23 .u8 _ A3 p2 c3 P2 H2.out.2.2.1 rfl n3 (by omega) (by omega) (by omega) ?_; intro v4 w4 o4 g4 at4; have b4 : Below w.heap.size w w4 := b3.grown g4 (by omega) (fun k hk => (o23.lt k hk).1); have hs4 := b4.size)
        | fail)
      have HB := Lib.hid (And.intro o4 b4)
      clear o23 b3 n3 o4 b4 g4 at4
      refine (H3.out.2.2.1 w4 ((H2.out.2.2.2.2.below HB.out.2).more hs4)).mono ?_
      rintro e w5 ⟨A5, c5, rfl, o5, d5⟩
      rw [H2.out.2.2.2.1]
      have o45 := own_below HB.out.1 d5 (Nat.le_refl _)
      have b5 := HB.out.2.trans (d5.mono hs4)
      have n5 := own_ns o5
      have hs5 := b5.size
      clear o5 d5
      go_wp2_with (first
        | (at_builtin; refine wpList_append_ns _ rfl (.tmp 24) (.tmp 26) 25 rfl w.heap.size 5 i0 (.int .u8 0) 1 Try.underlying25 hi0 hz0 hz1 hz2 rfl _ (p1 + p2) (nums .u8 P1 ++ nums .u8 P2) rfl o45 .u8 _ A5 p3 c5 P3 H2.out.2.2.2.1 rfl n5 (by omega) (by omega) (by omega) ?_; intro v6 w6 o6 g6 at6; have b6 : Below w.heap.size w w6 := b5.grown g6 (by omega) (fun k hk => (o45.lt k hk).1); have hs6 := b6.size)
        | fail)
      obtain ⟨A6, c6, rfl⟩ := own_form o6
      have o6' : w6.ownsRow w.heap.size 5 1 (.slice A6 (p1 + p2 + p3) c6) D.length (nums .u8 D) := by
        rw [H4.out.2.2, ← H4.out.2.1]
        simpa [nums] using o6
      have n6 := own_ns o6'
      have HC := Lib.hid (And.intro o6' b6)
      clear o45 b5 n5 o6 o6' b6 g6 at6
      refine (H3.out.2.2.2 A6 c6 w6 n6).mono ?_
      rintro e w7 ⟨A7, c7, rfl, o7, d7⟩
      rw [H4.out.1]
      have o67 := own_below HC.out.1 d7 (Nat.le_refl _)
      rw [H4.out.2.2] at o67
      have b7 := HC.out.2.trans (d7.mono hs6)
      have n7 := own_ns o7
      have hs7 := b7.size
      clear o7 d7
      go_wp2_with (first
        | (at_builtin; refine wpList_append_ns _ rfl (.tmp 31) (.tmp 32) 25 rfl w.heap.size 5 i0 (.int .u8 0) 1 Try.underlying25 hi0 hz0 hz1 hz2 rfl _ (p1 + p2 + p3) (nums .u8 D) rfl o67 .u8 _ A7 8 c7 M H4.out.1 rfl n7 (by omega) (by omega) (by omega) ?_; intro v8 w8 o8 g8 at8; have b8 : Below w.heap.size w w8 := b7.grown g8 (by omega) (fun k hk => (o67.lt k hk).1))
        | fail)
      obtain ⟨A8, c8, rfl⟩ := own_form o8
      have n8 : Ns .u8 w8 w8.heap.size A8 (D ++ M) := own_ns (n := p1 + p2 + p3 + 8) (c := c8) (by rw [List.length_append, H4.out.2.2, H4.out.1]; simpa [nums] using o8)
      have hle := (own_len o8).2
      have HE := Lib.hid (And.intro n8 b8)
      clear o67 b7 n7 o8 b8 g8 at8 n8
      go_ret2
      refine ⟨A8, c8, ?_, HE.out.1, ?_, HE.out.2⟩
      · rw [List.length_append, H4.out.2.2, H4.out.1]; rfl
      · rw [List.length_append, H4.out.2.2, H4.out.1]; exact hle
    · rw [show decide (Right l) = false from decide_eq_false hR] at h2
      rw [seal_bad (fun h => hR h.2)]
      have H1 := Lib.hid h1
      have H2 := Lib.hid h2
      clear h1 h2 hR hk hr hm
      go_enter Try.func10, Try.ntmps10
      go_wp2_with fail
      refine H1.out.mono ?_
      rintro e w' ⟨rfl, rfl⟩
      go_wp2_with fail
      refine H2.out.mono ?_
      rintro e w1 ⟨rfl, d1⟩
      have HX := Lib.hid d1
      clear d1
      go_wp2_with fail
      go_ret2
      exact ⟨none, 0, rfl, Ns.nil _, by simp, HX.out⟩
  · rw [show decide (okKey s g) = false from decide_eq_false hk] at h1
    rw [seal_bad (fun h => hk h.1)]
    have H1 := Lib.hid h1
    clear h1 hk hr hm
    go_enter Try.func10, Try.ntmps10
    go_wp2_with fail
    refine H1.out.mono ?_
    rintro e w' ⟨rfl, rfl⟩
    go_wp2_with fail
    go_ret2
    exact ⟨none, 0, rfl, Ns.nil _, by simp, Below.refl _ _⟩
end Seal
end Go.Proofs.Ytjifklojbbocfaa
