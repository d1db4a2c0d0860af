/-
  seal.Seal and firthref13.Seal tell sealF.
-/
import Derived.Test.YtjifklojbbocfaaSealMk
import Derived.Test.YtjifklojbbocfaaSealMkRef
import Derived.Test.YtjifklojbbocfaaCodeWrRef
import Derived.Test.YtjifklojbbocfaaCodeRdRef
import Derived.Test.YtjifklojbbocfaaReadPlain
namespace Go.Proofs.Ytjifklojbbocfaa
namespace Seal
open Go.RowKit Num Span Ring Go.Proofs.Ytjifklojbbocfaa.Code
attribute [local go_sem ↓] Go.wp_at_zero Go.wp_at_succ

def okS (s : ByteArray) : Prop := 1 ≤ s.size ∧ s.size ≤ 64
instance (s : ByteArray) : Decidable (okS s) := by unfold okS; infer_instance
theorem okKey_is (s : ByteArray) (g : Int) : okKey s g ↔ okS s ∧ 0 ≤ g := by unfold okKey okS; omega

theorem secret_any (s : ByteArray) (hs : s.size ≤ 140737488351232) (w : World) :
    Calls Try.prog 18 #[.string s] w fun e w' => e = .returned (.bool (decide (okS s))) ∧ w = w' := by
  obtain ⟨n, hn⟩ : ∃ n, s.size = n := ⟨_, rfl⟩
  have hd : decide (okS s) = decide (1 ≤ n ∧ n ≤ 64) := decide_eq_decide.2 (by unfold okS; omega)
  rw [hd]
  clear hd
  rw [hn] at hs
  have h0 : n = 0 ∨ (1 ≤ n ∧ n ≤ 64) ∨ 64 < n := by omega
  rcases h0 with h0 | h0 | h0
  · have hr : decide (1 ≤ n ∧ n ≤ 64) = false := decide_eq_false (by omega)
    rw [hr]
    subst h0
    go_enter Try.func18, Try.ntmps18
    go_wp2
    go_ret
    exact ⟨rfl, rfl⟩
  · have hr : decide (1 ≤ n ∧ n ≤ 64) = true := decide_eq_true h0
    rw [hr]
    obtain ⟨h1, h2⟩ := h0
    have e1 : decide ((n : Int) ≤ 64) = true := decide_eq_true (by omega)
    go_enter Try.func18, Try.ntmps18
    go_wp2
    go_ret
    exact ⟨rfl, rfl⟩
  · have hr : decide (1 ≤ n ∧ n ≤ 64) = false := decide_eq_false (by omega)
    rw [hr]
    have h1 : 1 ≤ n := by omega
    have e1 : decide ((n : Int) ≤ 64) = false := decide_eq_false (by omega)
    go_enter Try.func18, Try.ntmps18
    go_wp2
    go_ret
    exact ⟨rfl, rfl⟩

theorem may_any (s : ByteArray) (g : Int) (hs : s.size ≤ 140737488351232) (w : World) :
    Calls Try.prog 17 #[.string s, .int .i64 g] w fun e w' => e = .returned (.bool (decide (okKey s g))) ∧ w = w' := by
  rcases Nat.eq_zero_or_pos s.size with h0 | h0
  · have hr : decide (okKey s g) = false := decide_eq_false (by unfold okKey; omega)
    rw [hr]
    rw [str_empty h0]
    go_enter Try.func17, Try.ntmps17
    go_wp2
    go_ret
    exact ⟨rfl, rfl⟩
  · have hne := str_some h0
    obtain ⟨n, hn⟩ : ∃ n, s.size = n := ⟨_, rfl⟩
    have hd : decide (okKey s g) = decide (n ≤ 64 ∧ 0 ≤ g) := decide_eq_decide.2 (by unfold okKey; omega)
    rw [hd]
    clear hd
    rw [hn] at hs h0
    by_cases h1 : n ≤ 64
    · by_cases h2 : 0 ≤ g
      · have hr : decide (n ≤ 64 ∧ 0 ≤ g) = true := decide_eq_true ⟨h1, h2⟩
        rw [hr]
        go_enter Try.func17, Try.ntmps17
        go_wp2
        go_ret
        exact ⟨rfl, rfl⟩
      · have hr : decide (n ≤ 64 ∧ 0 ≤ g) = false := decide_eq_false (by omega)
        rw [hr]
        have h2' : g < 0 := by omega
        go_enter Try.func17, Try.ntmps17
        go_wp2
        go_ret
        exact ⟨rfl, rfl⟩
    · have hr : decide (n ≤ 64 ∧ 0 ≤ g) = false := decide_eq_false (by omega)
      rw [hr]
      have h1' : 64 < n := by omega
      go_enter Try.func17, Try.ntmps17
      go_wp2
      go_ret
      exact ⟨rfl, rfl⟩

/-- A token that may be written, or none. -/
def SOut (B : Nat) (r : List Int × Int) (w : World) (e : Ending) (w' : World) : Prop :=
  ∃ v, e = .returned (.tuple #[v, .int .i64 r.2]) ∧ ((r = ([], 1) ∧ v = .slice none 0 0) ∨ (r.2 = 0 ∧ Fb B w' v r.1)) ∧ Below B w w'

set_option maxRecDepth 100000 in
set_option maxHeartbeats 1000000 in
theorem seal_any (s : ByteArray) (hs : s.size ≤ 140737488351232) (g : Int) (hg : -9223372036854775808 ≤ g ∧ g ≤ 9223372036854775807) (A : Option Addr) (c m : Nat) (l : List Sp) (hm : l.length = m) (w : World) (hr : Ss w w.heap.size A l) (hbig : m ≤ 140737488355328) :
    Calls Try.prog 9 #[.string s, .int .i64 g, .slice A m c] w (SOut w.heap.size (sealF s g l) w) := by
  have h1 := secret_any s hs w
  by_cases hS : okS s
  · rw [show decide (okS s) = true from decide_eq_true hS] at h1
    by_cases hg0 : 0 ≤ g
    · have h2 := putset_any A c m l hm w hr hbig
      by_cases hR : Right l
      · have hF : putSetF l = (setL l, 0) := by unfold putSetF; rw [if_pos hR]
        have hk : okKey s g := (okKey_is s g).2 ⟨hS, hg0⟩
        rw [hF] at h2
        rw [seal_ok hk hR]
        have hp1 := fun W => putnum_pos 1 (by omega) W
        have hpg := fun W => putnum_pos g ⟨hg0, hg.2⟩ W
        have l1 := putL_len 1
        have l2 := putL_len g
        have l3 := setL_len hR.1
        have l4 := bodyL_len (g := g) hR.1
        have b1 := putL_bytes 1 (by omega)
        have b2 := putL_bytes g hg0
        have b3 := setL_fine hR.2.1
        have b4 := bodyL_bytes hg0 hR
        have hB : [putL 1, putL g, setL l].flatten = bodyL g l := by unfold bodyL; simp
        have hml := markL_len s (bodyL g l)
        have hmk := fun (A : Option Addr) (c n : Nat) (hn : (bodyL g l).length = n) (W : World) (hW : Ns .u8 W W.heap.size A (bodyL g l)) => mark_any s (by unfold okS at hS; omega) A c n (bodyL g l) hn b4 W hW (by omega)
        obtain ⟨M, hM⟩ : ∃ M, markL s (bodyL g l) = M := ⟨_, rfl⟩
        rw [hM] at hml hmk ⊢
        obtain ⟨D, hD⟩ : ∃ D, bodyL g l = D := ⟨_, rfl⟩
        rw [hD] at hB b4 l4 hmk ⊢
        obtain ⟨P1, hP1⟩ : ∃ P, putL 1 = P := ⟨_, rfl⟩
        rw [hP1] at hp1 l1 b1 hB
        obtain ⟨P2, hP2⟩ : ∃ P, putL g = P := ⟨_, rfl⟩
        rw [hP2] at hpg l2 b2 hB
        obtain ⟨P3, hP3⟩ : ∃ P, setL l = P := ⟨_, rfl⟩
        rw [hP3] at h2 l3 b3 hB
        obtain ⟨d, hd⟩ : ∃ d, D.length = d := ⟨_, rfl⟩
        obtain ⟨p1, hp1l⟩ : ∃ p, P1.length = p := ⟨_, rfl⟩
        obtain ⟨p2, hp2l⟩ : ∃ p, P2.length = p := ⟨_, rfl⟩
        obtain ⟨p3, hp3l⟩ : ∃ p, P3.length = p := ⟨_, rfl⟩
        have hJ : ∀ (W : World) (A1 A2 A3 : Option Addr) (c1 c2 c3 : Nat), Ns .u8 W W.heap.size A1 P1 → Ns .u8 W W.heap.size A2 P2 → Ns .u8 W W.heap.size A3 P3 →
            Calls Try.prog 20 #[.slice (some ⟨W.heap.size, 0, none⟩) 3 3, .slice none 0 0] (W.alloc (.cells #[.slice A1 p1 c1, .slice A2 p2 c2, .slice A3 p3 c3] 25)) fun e w' => ∃ A' c', e = .returned (.slice A' d c') ∧ Fb W.heap.size w' (.slice A' d c') D ∧ d ≤ c' ∧ Below (W.heap.size + 1) (W.alloc (.cells #[.slice A1 p1 c1, .slice A2 p2 c2, .slice A3 p3 c3] 25)) w' := fun W A1 A2 A3 c1 c2 c3 n1 n2 n3 => by
          have h := bjoin_any W.heap.size 0 3 3 _ [P1, P2, P3] _ rfl (by omega) (by omega) (parts_three (c0 := c1) (c1 := c2) (c2 := c3) 25 (Nat.le_refl _) n1 n2 n3 b1 b2 b3) (Nat.le_refl _) (by rw [hB]; omega) (by rw [hB]; omega) 0
          rw [hB, hp1l, hp2l, hp3l] at h
          refine h.mono ?_
          rintro e w' ⟨v, rfl, hf, hb⟩
          obtain ⟨A', c', rfl, _, hc⟩ := hf.ns
          rw [hd] at hf hc ⊢
          exact ⟨A', c', rfl, hf.less (by simp), hc, by simpa using hb⟩
        have hmk' := fun A c W hW => hmk A c d hd W hW
        have H1 := Lib.hid h1
        have H2 := Lib.hid (And.intro h2 (And.intro hp1l (And.intro hp2l hp3l)))
        have H3 := Lib.hid (And.intro hp1 (And.intro hpg (And.intro hJ hmk')))
        have H4 := Lib.hid (And.intro hd hml)
        have hdl : d ≤ 27675 := by omega
        clear h1 h2 hp1 hpg hJ hmk hmk' hd hml hp1l hp2l hp3l hP1 hP2 hP3 hD hM hB b1 b2 b3 b4 l1 l2 l3 l4 hR hF hk hr hm hS
        go_enter Try.func9, Try.ntmps9
        go_wp2_with fail
        refine H1.out.mono ?_
        rintro e w' ⟨rfl, rfl⟩
        go_wp2_with fail
        refine H2.out.1.mono ?_
        rintro e w1 ⟨A1, c1, rfl, o1, d1⟩
        rw [H2.out.2.2.2]
        have HA := Lib.hid (And.intro (own_ns o1) d1)
        clear o1 d1
        go_wp2_with fail
        refine (H3.out.1 w1).mono ?_
        rintro e w2 ⟨A2, c2, rfl, o2, d2⟩
        rw [H2.out.2.1]
        have HB := Lib.hid (And.intro (own_ns o2) d2)
        clear o2 d2
        go_wp2_with fail
        refine (H3.out.2.1 w2).mono ?_
        rintro e w3 ⟨A3, c3, rfl, o3, d3⟩
        rw [H2.out.2.2.1]
        have d13 := HB.out.2.trans (d3.mono HB.out.2.size)
        have HC := Lib.hid (And.intro (H3.out.2.2.1 w3 A2 A3 A1 c2 c3 c1 ((HB.out.1.below d3).more d3.size) (own_ns o3) ((HA.out.1.below d13).more d13.size)) (HA.out.2.trans (d13.mono HA.out.2.size)))
        clear o3 d3 d13
        go_wp2_with fail
        refine HC.out.1.mono ?_
        rintro e w4 ⟨A4, c4, rfl, hf4, hdc, d4⟩
        have d4' := (HC.out.2.alloc HC.out.2.size (.cells #[.slice A2 p1 c2, .slice A3 p2 c3, .slice A1 p3 c1] 25)).trans (d4.mono (by have := HC.out.2.size; omega))
        obtain ⟨A4', c4', hv4, n4, _⟩ := hf4.ns
        rw [H4.out.1] at hv4
        injection hv4 with hv4a _ hv4c
        subst hv4a
        subst hv4c
        have HD := Lib.hid (And.intro (H3.out.2.2.2 A4 c4 w4 n4) (And.intro (hf4.less HC.out.2.size) d4'))
        clear hf4 d4 d4' n4 hdc
        go_wp2_with fail
        refine HD.out.1.mono ?_
        rintro e w5 ⟨A5, c5, rfl, o5, d5⟩
        rw [H4.out.2]
        have hf5 := HD.out.2.1.below d5
        have b5 := HD.out.2.2.trans (d5.mono HD.out.2.2.size)
        obtain ⟨i0, hi0, hz0, hz1, hz2⟩ := info_parts Facts.info5
        have n5 := own_ns o5
        obtain ⟨pb, po, hpa, _, _⟩ := n5 (by rw [H4.out.2]; omega)
        obtain ⟨v6, w6, hrun, hf6, b6⟩ := run_append_fb (P := Try.prog) 25 25 5 i0 (.int .u8 0) Try.underlying25 hi0 hz0 hz1 hz2 rfl hf5 b5.size c5 n5 (fun e => by rw [hpa] at e; cases e) (by rw [H4.out.1, H4.out.2]; omega)
        rw [H4.out.2] at hrun
        have HE := Lib.hid (And.intro hf6 (b5.trans (b6.mono (Nat.le_refl _))))
        clear hf5 b5 n5 hf6 b6 o5 d5 hpa
        go_wp2_with (at_builtin; refine Lib.wpList_append_run_sl _ rfl (.tmp 32) (.tmp 35) 25 rfl (.slice A4 d c4) (.slice A5 8 c5) rfl rfl hrun ?_)
        go_ret2
        exact ⟨v6, rfl, .inr ⟨rfl, HE.out.1⟩, HE.out.2⟩
      · have hF : putSetF l = ([], 1) := by unfold putSetF; rw [if_neg hR]
        rw [hF] at h2
        rw [seal_bad (fun h => hR h.2)]
        have H1 := Lib.hid h1
        have H2 := Lib.hid h2
        clear h1 h2 hF hR hS hr hm
        go_enter Try.func9, Try.ntmps9
        go_wp2_with fail
        refine H1.out.mono ?_
        rintro e w' ⟨rfl, rfl⟩
        go_wp2_with fail
        refine H2.out.mono ?_
        rintro e w1 ⟨A1, c1, rfl, o1, d1⟩
        have HD := Lib.hid d1
        clear o1 d1
        go_wp2_with fail
        go_ret2
        exact ⟨_, rfl, .inl ⟨rfl, rfl⟩, HD.out⟩
    · rw [seal_bad (fun h => hg0 h.1.2.2)]
      have hg1 : g < 0 := by omega
      have H1 := Lib.hid h1
      clear h1 hg0 hS hr hm
      go_enter Try.func9, Try.ntmps9
      go_wp2_with fail
      refine H1.out.mono ?_
      rintro e w' ⟨rfl, rfl⟩
      go_wp2_with fail
      go_ret2
      exact ⟨_, rfl, .inl ⟨rfl, rfl⟩, Below.refl _ _⟩
  · rw [show decide (okS s) = false from decide_eq_false hS] at h1
    rw [seal_bad (fun h => hS ((okKey_is s g).1 h.1).1)]
    have H1 := Lib.hid h1
    clear h1 hS hr hm
    go_enter Try.func9, Try.ntmps9
    go_wp2_with fail
    refine H1.out.mono ?_
    rintro e w' ⟨rfl, rfl⟩
    go_wp2_with fail
    go_ret2
    exact ⟨_, rfl, .inl ⟨rfl, rfl⟩, Below.refl _ _⟩
end Seal
end Go.Proofs.Ytjifklojbbocfaa
