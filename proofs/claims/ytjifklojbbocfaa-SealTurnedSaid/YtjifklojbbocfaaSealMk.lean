/-
  seal.Mark tells markL.
-/
import Derived.Test.YtjifklojbbocfaaSealMark
namespace Go.Proofs.Ytjifklojbbocfaa
namespace Seal
open Go.RowKit Num Span Ring Go.Proofs.Ytjifklojbbocfaa.Code
attribute [local go_sem ↓] Go.wp_at_zero Go.wp_at_succ

/-- The k-th byte of a mark, by a shift. -/
theorem be8_shift {h : Int} (hu : U h) (k : Nat) (hk : k < 8) : (be8 h).getD k 0 = h / 2 ^ (8 * (7 - k)) % 256 := by
  obtain ⟨h0, h1⟩ := hu
  match k, hk with
  | 0, _ => simp [be8]; omega
  | 1, _ => simp [be8]
  | 2, _ => simp [be8]
  | 3, _ => simp [be8]
  | 4, _ => simp [be8]
  | 5, _ => simp [be8]
  | 6, _ => simp [be8]
  | 7, _ => simp [be8]

set_option maxRecDepth 100000 in
theorem mark_any (s : ByteArray) (hs : s.size ≤ 17592186044416) (A : Option Addr) (c n : Nat) (zs : List Int) (hn : zs.length = n) (hby : ∀ z ∈ zs, 0 ≤ z ∧ z ≤ 255) (w : World) (hr : Ns .u8 w w.heap.size A zs) (hbig : n ≤ 17592186044416) :
    Calls Try.prog 12 #[.string s, .slice A n c] w (MadeNs 5 .u8 (markL s zs) w) := by
  have h1 := puttext s (by omega) w
  have hTb := textL_bytes s
  have hTl := textL_len s
  have hI : innerL s zs = hashL (textL s ++ zs) := rfl
  have hIu : U (innerL s zs) := hash_range _
  have hO : outerL s zs = hashL (textL s ++ putL (innerL s zs / 4294967296) ++ putL (innerL s zs % 4294967296) ++ textL s) := rfl
  have hOu : U (outerL s zs) := hash_range _
  have hM : markL s zs = be8 (outerL s zs) := rfl
  obtain ⟨I, hIe⟩ : ∃ I, innerL s zs = I := ⟨_, rfl⟩
  obtain ⟨O, hOe⟩ : ∃ O, outerL s zs = O := ⟨_, rfl⟩
  obtain ⟨T, hTe⟩ : ∃ T, textL s = T := ⟨_, rfl⟩
  rw [hIe, hTe] at hI
  rw [hIe] at hIu
  rw [hOe, hIe, hTe] at hO
  rw [hOe] at hOu hM
  rw [hTe] at h1 hTb hTl
  rw [hM]
  clear hM hIe hOe hTe
  obtain ⟨hI0, hI1⟩ := hIu
  have hPu := fun W => putnum_pos (I / 4294967296) (by omega) W
  have hPl := fun W => putnum_pos (I % 4294967296) (by omega) W
  have l1 := putL_len (I / 4294967296)
  have l2 := putL_len (I % 4294967296)
  have b1 := putL_bytes (I / 4294967296) (by omega)
  have b2 := putL_bytes (I % 4294967296) (by omega)
  obtain ⟨P1, hP1⟩ : ∃ P, putL (I / 4294967296) = P := ⟨_, rfl⟩
  obtain ⟨P2, hP2⟩ : ∃ P, putL (I % 4294967296) = P := ⟨_, rfl⟩
  rw [hP1] at hPu hO l1 b1
  rw [hP2] at hPl hO l2 b2
  clear hP1 hP2
  have q1 : IntKind.i64.wrap (I / 4294967296) = I / 4294967296 := Go.IntWalk.i64_in _ (by omega)
  have q2 : IntKind.i64.wrap (I % 4294967296) = I % 4294967296 := Go.IntWalk.i64_in _ (by omega)
  have q3 : bits .and .u64 I 4294967295 = I % 4294967296 := and_half ⟨hI0, hI1⟩
  have hS2 : ∀ (W : World) (A1 : Option Addr) (c1 tl : Nat), T.length = tl → Ns .u8 W W.heap.size A1 T → Ns .u8 W W.heap.size A zs →
      Calls Try.prog 26 #[.slice (some ⟨W.heap.size, 0, none⟩) 2 2] (W.alloc (.cells #[.slice A1 tl c1, .slice A n c] 25)) fun e w' => e = .returned (.int .u64 I) ∧ Below (W.heap.size + 1) (W.alloc (.cells #[.slice A1 tl c1, .slice A n c] 25)) w' := fun W A1 c1 tl htl hN1 hN2 => by
    have h := shash_any W.heap.size 2 _ [T, zs] _ rfl (by omega) (by omega) (parts_two (c := c1) (c' := c) 25 (Nat.le_refl _) hN1 hN2 hTb hby) (by simp; omega) (by simp; omega)
    rw [htl, hn, show [T, zs].flatten = T ++ zs by simp, ← hI] at h
    simpa using h
  have hS4 : ∀ (W : World) (A1 A2 A3 : Option Addr) (c1 c2 c3 tl p1 p2 : Nat), T.length = tl → P1.length = p1 → P2.length = p2 → Ns .u8 W W.heap.size A1 T → Ns .u8 W W.heap.size A2 P1 → Ns .u8 W W.heap.size A3 P2 →
      Calls Try.prog 26 #[.slice (some ⟨W.heap.size, 0, none⟩) 4 4] (W.alloc (.cells #[.slice A1 tl c1, .slice A2 p1 c2, .slice A3 p2 c3, .slice A1 tl c1] 25)) fun e w' => e = .returned (.int .u64 O) ∧ Below (W.heap.size + 1) (W.alloc (.cells #[.slice A1 tl c1, .slice A2 p1 c2, .slice A3 p2 c3, .slice A1 tl c1] 25)) w' := fun W A1 A2 A3 c1 c2 c3 tl p1 p2 htl hp1 hp2 hN1 hN2 hN3 => by
    have h := shash_any W.heap.size 4 _ [T, P1, P2, T] _ rfl (by omega) (by omega) (parts_four (c0 := c1) (c1 := c2) (c2 := c3) (c3 := c1) 25 (Nat.le_refl _) hN1 hN2 hN3 hN1 hTb b1 b2 hTb) (by simp; omega) (by simp; omega)
    rw [htl, hp1, hp2, show [T, P1, P2, T].flatten = T ++ P1 ++ P2 ++ T by simp, ← hO] at h
    simpa using h
  obtain ⟨tl, htl⟩ : ∃ tl, T.length = tl := ⟨_, rfl⟩
  obtain ⟨p1, hp1⟩ : ∃ p, P1.length = p := ⟨_, rfl⟩
  obtain ⟨p2, hp2⟩ : ∃ p, P2.length = p := ⟨_, rfl⟩
  have hsh := fun k hk => be8_shift hOu k hk
  have H1 := Lib.hid h1
  have H2 := Lib.hid (And.intro hS2 (And.intro htl (And.intro hr hn)))
  have H3 := Lib.hid (And.intro hPu (And.intro hPl hp1))
  have H4 := Lib.hid (And.intro hS4 (And.intro hp2 hsh))
  clear h1 hS2 hS4 hPu hPl hTb hTl hI hO hOu b1 b2 l1 l2 hr hby hn htl hp1 hp2 hsh
  go_enter Try.func12, Try.ntmps12
  go_wp2_with fail
  refine H1.out.mono ?_
  rintro e w1 ⟨A1, c1, rfl, o1, d1⟩
  have n1 := own_ns o1
  rw [H2.out.2.1]
  have m1 := (H2.out.2.2.1.below d1).more d1.size
  have HA := Lib.hid (And.intro (H2.out.1 w1 A1 c1 tl H2.out.2.1 n1 m1) (And.intro n1 d1))
  clear o1 n1 m1 d1 H1
  go_wp2_with fail
  refine HA.out.1.mono ?_
  rintro e w2 ⟨rfl, d2⟩
  have d2' : Below w1.heap.size w1 w2 := ((Below.refl _ w1).alloc (Nat.le_refl _) _).trans (d2.mono (by omega))
  have HB := Lib.hid d2'
  clear d2 d2'
  go_wp2_with fail
  refine (H3.out.1 w2).mono ?_
  rintro e w3 ⟨A2, c2, rfl, o2, d3⟩
  rw [H3.out.2.2]
  have HC := Lib.hid (And.intro (own_ns o2) d3)
  clear o2 d3
  go_wp2_with fail
  refine (H3.out.2.1 w3).mono ?_
  rintro e w4 ⟨A3, c3, rfl, o3, d4⟩
  rw [H4.out.2.1]
  have d23 := HC.out.2.trans (d4.mono HC.out.2.size)
  have d13 := HB.out.trans (d23.mono HB.out.size)
  have HD := Lib.hid (And.intro (H4.out.1 w4 A1 A2 A3 c1 c2 c3 tl p1 p2 H2.out.2.1 H3.out.2.2 H4.out.2.1 ((HA.out.2.1.below d13).more d13.size) ((HC.out.1.below d4).more d4.size) (own_ns o3)) (And.intro (HA.out.2.2.trans (d13.mono HA.out.2.2.size)) d4))
  clear o3 d4 d23 d13
  go_wp2_with fail
  refine HD.out.1.mono ?_
  rintro e w5 ⟨rfl, d5⟩
  have d5' : Below w.heap.size w w5 := (HD.out.2.1.alloc HD.out.2.1.size _).trans (d5.mono (by have := HD.out.2.1.size; omega))
  obtain ⟨g, hg⟩ : ∃ g, w5.heap.size = g := ⟨_, rfl⟩
  have HE := Lib.hid (And.intro d5' hg)
  clear d5 d5'
  have hmk : ∀ W : World, (Instr.makeSlice 25 (.int .i64 8) (.int .i64 8)).run Try.prog W = .ok (.slice (some ⟨W.heap.size, 0, none⟩) 8 8) (W.alloc (.cells #[.int .u8 0, .int .u8 0, .int .u8 0, .int .u8 0, .int .u8 0, .int .u8 0, .int .u8 0, .int .u8 0] 5)) := fun W => by kernel_rfl
  have hMk0 : Mk w5.heap.size O 0 (w5.alloc (.cells #[.int .u8 0, .int .u8 0, .int .u8 0, .int .u8 0, .int .u8 0, .int .u8 0, .int .u8 0, .int .u8 0] 5)) := heap_alloc_new w5 _
  have hbk0 : Below w.heap.size w (w5.alloc (.cells #[.int .u8 0, .int .u8 0, .int .u8 0, .int .u8 0, .int .u8 0, .int .u8 0, .int .u8 0, .int .u8 0] 5)) := HE.out.1.alloc HE.out.1.size _
  rw [HE.out.2] at hMk0
  have HM0 := Lib.hid (And.intro hMk0 hbk0)
  clear hMk0 hbk0
  go_wp2_with fail
  go_loopw [31] (fun q wr => ∃ k : Nat, k ≤ 8 ∧ q = .int .i64 k ∧ Mk g O k wr ∧ Below w.heap.size w wr) (fun q _ => 8 - (intOf q).toNat)
  case atStart => exact ⟨0, by omega, rfl, HM0.out.1, HM0.out.2⟩
  case round =>
    obtain ⟨k, hk, rfl, hm, hb⟩ := hrel
    have hgw : w.heap.size ≤ g := by have h1 := HE.out.1.size; have h2 := HE.out.2; omega
    by_cases h8 : k < 8
    · have hsh := H4.out.2.2
      obtain ⟨u, hu⟩ := hm.cell h8
      have hf := hm.frozen k
      have hst := fun x hx => hm.set h8 x hx
      have hbs := fun x => hb.setCell (p := ⟨g, k, none⟩) hgw (.int .u8 x)
      obtain ⟨j, hj⟩ : ∃ j, k + 1 = j := ⟨_, rfl⟩
      rw [hj] at hst
      have HH := Lib.hid (And.intro hst (And.intro hbs (And.intro hsh hj)))
      clear hst hbs hsh hm hb hj
      have h8' : k = 0 ∨ k = 1 ∨ k = 2 ∨ k = 3 ∨ k = 4 ∨ k = 5 ∨ k = 6 ∨ k = 7 := by omega
      rcases h8' with rfl | rfl | rfl | rfl | rfl | rfl | rfl | rfl
      all_goals
        go_wp2_with fail
        have hsh := HH.out.2.2.1 _ (show _ < 8 from by omega)
        have hj := HH.out.2.2.2
        refine ⟨⟨j, by omega, by rw [← hj]; rfl, HH.out.1 _ ?_, HH.out.2.1 _⟩, by simp only [intOf]; omega⟩
        refine hsh.trans ?_
        simp
    · have hk8 : k = 8 := by omega
      subst hk8
      have ho := hm.own hgw
      have HH := Lib.hid (And.intro ho hb)
      clear ho hm hb
      go_wp2_with fail
      go_ret
      exact ⟨_, _, rfl, HH.out.1, HH.out.2⟩
end Seal
end Go.Proofs.Ytjifklojbbocfaa
