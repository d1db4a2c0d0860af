/-
  firthref13.Mark tells markL.
-/
import Derived.Test.YtjifklojbbocfaaSealMark
namespace Go.Proofs.Ytjifklojbbocfaa
namespace Seal
open Go.RowKit Num Span Ring Go.Proofs.Ytjifklojbbocfaa.Code
attribute [local go_sem ↓] Go.wp_at_zero Go.wp_at_succ

theorem quo_at {h d : Int} (hu : U h) (hd : 1 ≤ d) : IntKind.u64.wrap (h.tdiv d) = h / d := by
  rw [Int.tdiv_eq_ediv_of_nonneg hu.1]
  refine wrap_u ⟨Int.ediv_nonneg hu.1 (by omega), ?_⟩
  have h1 : h / d ≤ h := Int.ediv_le_self d hu.1
  have h2 := hu.2
  omega
theorem rem_at {h d : Int} (hu : U h) : h.tmod d = h % d := Int.tmod_eq_emod_of_nonneg hu.1

/-- What is left of a mark's number behind k bytes. -/
def leftM (h : Int) (k : Nat) : Int := h * 256 ^ k % 18446744073709551616
theorem leftM_u (h : Int) (k : Nat) : U (leftM h k) := by unfold leftM U; omega
theorem leftM_zero {h : Int} (hu : U h) : leftM h 0 = h := by
  obtain ⟨h0, h1⟩ := hu
  unfold leftM
  simp
  omega
theorem leftM_more (h : Int) (k : Nat) : IntKind.u64.wrap (leftM h k * 256) = leftM h (k + 1) := by
  have e : IntKind.u64.wrap (leftM h k * 256) = leftM h k * 256 % 18446744073709551616 := by simp [IntKind.wrap, IntKind.signed, IntKind.bits]
  rw [e]
  unfold leftM
  rw [Int.pow_succ, ← Int.mul_assoc]
  generalize h * 256 ^ k = x
  omega
theorem leftM_top {h : Int} (hu : U h) (k : Nat) (hk : k < 8) : (be8 h).getD k 0 = leftM h k / 72057594037927936 := by
  obtain ⟨h0, h1⟩ := hu
  unfold leftM
  match k, hk with
  | 0, _ => simp [be8]; omega
  | 1, _ => simp [be8]; omega
  | 2, _ => simp [be8]; omega
  | 3, _ => simp [be8]; omega
  | 4, _ => simp [be8]; omega
  | 5, _ => simp [be8]; omega
  | 6, _ => simp [be8]; omega
  | 7, _ => simp [be8]; omega
theorem be8_take {h : Int} (k : Nat) (hk : k < 8) : (be8 h).take (k + 1) = (be8 h).take k ++ [(be8 h).getD k 0] := by
  rw [List.take_succ_eq_append_getElem (by rw [be8_len]; exact hk)]
  simp [List.getD_eq_getElem?_getD, List.getElem?_eq_getElem (show k < (be8 h).length by rw [be8_len]; exact hk)]

set_option maxRecDepth 100000 in
theorem ref_mark_any (s : ByteArray) (hs : s.size ≤ 17592186044416) (A : Option Addr) (c n : Nat) (zs : List Int) (hn : zs.length = n) (hby : ∀ z ∈ zs, 0 ≤ z ∧ z ≤ 255) (w : World) (hr : Ns .u8 w w.heap.size A zs) (hbig : n ≤ 17592186044416) :
    Calls Try.prog 13 #[.string s, .slice A n c] w (MadeNs 5 .u8 (markL s zs) w) := by
  obtain ⟨i0, hi0, hz0, hz1, hz2⟩ := info_parts Facts.info5
  have h1 := ref_puttext s (by omega) w
  have hTb := textL_bytes s
  have hTl := textL_len s
  have hI : innerL s zs = hashL (textL s ++ zs) := rfl
  have hIu : U (innerL s zs) := hash_range _
  have hO : outerL s zs = hashL (textL s ++ putL (innerL s zs / 4294967296) ++ putL (innerL s zs % 4294967296) ++ textL s) := rfl
  have hOu : U (outerL s zs) := hash_range _
  have hM : markL s zs = be8 (outerL s zs) := rfl
  obtain ⟨I, hIe⟩ : ∃ I, innerL s zs = I := ⟨_, rfl⟩
  obtain ⟨O, hOe⟩ : ∃ O, outerL s zs = O := ⟨_, rfl⟩
  obtain ⟨T, hTe⟩ : ∃ T, textL s = T := ⟨_, rfl⟩
  rw [hIe, hTe] at hI
  rw [hIe] at hIu
  rw [hOe, hIe, hTe] at hO
  rw [hOe] at hOu hM
  rw [hTe] at h1 hTb hTl
  rw [hM]
  clear hM hIe hOe hTe
  have q1' : IntKind.u64.wrap (I.tdiv 4294967296) = I / 4294967296 := quo_at hIu (by omega)
  have q2' : I.tmod 4294967296 = I % 4294967296 := rem_at hIu
  have q2'' : IntKind.u64.wrap (I % 4294967296) = I % 4294967296 := wrap_u (by obtain ⟨hI0, hI1⟩ := hIu; exact ⟨by omega, by omega⟩)
  obtain ⟨hI0, hI1⟩ := hIu
  have hPu := fun W => ref_putnum_pos (I / 4294967296) (by omega) W
  have hPl := fun W => ref_putnum_pos (I % 4294967296) (by omega) W
  have l1 := putL_len (I / 4294967296)
  have l2 := putL_len (I % 4294967296)
  have b1 := putL_bytes (I / 4294967296) (by omega)
  have b2 := putL_bytes (I % 4294967296) (by omega)
  obtain ⟨P1, hP1⟩ : ∃ P, putL (I / 4294967296) = P := ⟨_, rfl⟩
  obtain ⟨P2, hP2⟩ : ∃ P, putL (I % 4294967296) = P := ⟨_, rfl⟩
  rw [hP1] at hPu hO l1 b1
  rw [hP2] at hPl hO l2 b2
  clear hP1 hP2
  have q1 : IntKind.i64.wrap (I / 4294967296) = I / 4294967296 := Go.IntWalk.i64_in _ (by omega)
  have q2 : IntKind.i64.wrap (I % 4294967296) = I % 4294967296 := Go.IntWalk.i64_in _ (by omega)
  obtain ⟨tl, htl⟩ : ∃ tl, T.length = tl := ⟨_, rfl⟩
  obtain ⟨p1, hp1⟩ : ∃ p, P1.length = p := ⟨_, rfl⟩
  obtain ⟨p2, hp2⟩ : ∃ p, P2.length = p := ⟨_, rfl⟩
  have hbI : ∀ z ∈ T ++ zs, 0 ≤ z ∧ z ≤ 255 := fun z hz => (List.mem_append.1 hz).elim (hTb z) (hby z)
  have hbO : ∀ z ∈ T ++ P1 ++ P2 ++ T, 0 ≤ z ∧ z ≤ 255 := fun z hz => (List.mem_append.1 hz).elim (fun hz => (List.mem_append.1 hz).elim (fun hz => (List.mem_append.1 hz).elim (hTb z) (b1 z)) (b2 z)) (hTb z)
  have hH1 := fun (A : Option Addr) (c : Nat) (W : World) (hW : Ns .u8 W W.heap.size A (T ++ zs)) => ref_hash_any A c (tl + n) (T ++ zs) (by rw [List.length_append, htl, hn]) hbI W hW (by omega)
  have hH2 := fun (A : Option Addr) (c : Nat) (W : World) (hW : Ns .u8 W W.heap.size A (T ++ P1 ++ P2 ++ T)) => ref_hash_any A c (tl + p1 + p2 + tl) (T ++ P1 ++ P2 ++ T) (by simp only [List.length_append, htl, hp1, hp2]) hbO W hW (by omega)
  rw [← hI] at hH1
  rw [← hO] at hH2
  have hsh := fun k hk => (be8_take (h := O) k hk)
  have hsh2 := fun k hk => leftM_top hOu k hk
  have hz := leftM_zero hOu
  have H1 := Lib.hid h1
  have H2 := Lib.hid (And.intro hH1 (And.intro htl (And.intro hr hn)))
  have H3 := Lib.hid (And.intro hPu (And.intro hPl (And.intro hp1 hp2)))
  have H4 := Lib.hid (And.intro hH2 (And.intro hsh (And.intro hsh2 hz)))
  have hsm : tl ≤ 17592186044425 ∧ p1 ≤ 9 ∧ p2 ≤ 9 := by omega
  obtain ⟨s1, s2, s3⟩ := hsm
  clear h1 hH1 hH2 hPu hPl hTb hTl hI hO hOu b1 b2 l1 l2 hr hby hn htl hp1 hp2 hsh hsh2 hbI hbO hz hs
  go_enter Try.func13, Try.ntmps13
  go_wp2_with fail
  refine H1.out.mono ?_
  rintro e w1 ⟨A1, c1, rfl, o1, d1⟩
  rw [H2.out.2.1]
  obtain ⟨B1, hB1⟩ : ∃ B1, w1.heap.size = B1 := ⟨_, rfl⟩
  have n1 := own_ns o1
  rw [hB1] at n1
  have HA := Lib.hid (And.intro n1 (And.intro d1 (And.intro H2.out.2.1 (And.intro H2.out.2.2.2 ((H2.out.2.2.1.below d1).more d1.size)))))
  clear n1 d1 o1 H1
  go_wp2_with (first
    | (at_builtin; refine wpList_append_ns _ rfl (.tmp 13) (.tmp 14) 25 rfl B1 5 i0 (.int .u8 0) 1 Try.underlying25 hi0 hz0 hz1 hz2 rfl (.slice none 0 0) (0) ([]) rfl (World.ownsRow_nil _ _ _ _) .u8 B1 A1 tl c1 T HA.out.2.2.1 rfl HA.out.1 (by omega) (by omega) (by omega) ?_; intro v2 w2 o2 g2 at2; have b2 : Below B1 w1 w2 := (Below.refl _ _).grown g2 (by omega) (by simp [Value.ownBlock]); have hs2 := b2.size)
    | (at_builtin; refine wpList_append_ns _ rfl (.tmp 16) (.tmp 17) 25 rfl B1 5 i0 (.int .u8 0) 1 Try.underlying25 hi0 hz0 hz1 hz2 rfl _ (0 + tl) ([] ++ nums .u8 T) rfl o2 .u8 _ A n c zs HA.out.2.2.2.1 rfl (HA.out.2.2.2.2.below (b2.mono (by omega))) (by omega) (by omega) (by have := b2.size; omega) ?_; intro v3 w3 o3 g3 at3; have b3 : Below B1 w1 w3 := b2.grown g3 (by omega) (fun k hk => (o2.lt k hk).1))
    | fail)
  obtain ⟨A3, c3, rfl⟩ := own_form o3
  have n3 : Ns .u8 w3 w3.heap.size A3 (T ++ zs) := own_ns (n := 0 + tl + n) (c := c3) (by rw [List.length_append, HA.out.2.2.1, HA.out.2.2.2.1]; simpa [nums, Nat.add_assoc] using o3)
  have HB := Lib.hid (And.intro (H2.out.1 A3 c3 w3 n3) b3)
  rw [show 0 + tl + n = tl + n by omega]
  clear o2 g2 at2 b2 o3 g3 at3 n3 b3
  refine HB.out.1.mono ?_
  rintro e w' ⟨rfl, rfl⟩
  have b3 := HB.out.2
  have hs3 := b3.size
  go_wp2_with (first
    | (at_builtin; refine wpList_append_ns _ rfl (.tmp 21) (.tmp 22) 25 rfl B1 5 i0 (.int .u8 0) 1 Try.underlying25 hi0 hz0 hz1 hz2 rfl (.slice none 0 0) (0) ([]) rfl (World.ownsRow_nil _ _ _ _) .u8 B1 A1 tl c1 T HA.out.2.2.1 rfl (HA.out.1.below b3) (by omega) (by omega) (by omega) ?_; intro v4 w4 o4 g4 at4; have b4 : Below B1 w1 w4 := b3.grown g4 (by omega) (by simp [Value.ownBlock]))
    | fail)
  have hs4 := b4.size
  have HC := Lib.hid (And.intro o4 b4)
  clear o4 b4 g4 at4 b3
  refine (H3.out.1 w4).mono ?_
  rintro e w5 ⟨A5, c5, rfl, o5, d5⟩
  rw [H3.out.2.2.1]
  have o45 := own_below HC.out.1 d5 (Nat.le_refl _)
  have b5 := HC.out.2.trans (d5.mono (by omega))
  have n5 := own_ns o5
  have hs5 := b5.size
  go_wp2_with (first
    | (at_builtin; refine wpList_append_ns _ rfl (.tmp 24) (.tmp 28) 25 rfl B1 5 i0 (.int .u8 0) 1 Try.underlying25 hi0 hz0 hz1 hz2 rfl _ (0 + tl) ([] ++ nums .u8 T) rfl o45 .u8 _ A5 p1 c5 P1 H3.out.2.2.1 rfl n5 (by omega) (by omega) (by omega) ?_; intro v6 w6 o6 g6 at6; have b6 : Below B1 w1 w6 := b5.grown g6 (by omega) (fun k hk => (o45.lt k hk).1))
    | fail)
  have hs6 := b6.size
  have HD := Lib.hid (And.intro o6 b6)
  clear o5 o45 n5 b5 d5 o6 b6 g6 at6
  refine (H3.out.2.1 w6).mono ?_
  rintro e w7 ⟨A7, c7, rfl, o7, d7⟩
  rw [H3.out.2.2.2]
  have o67 := own_below HD.out.1 d7 (Nat.le_refl _)
  have b7 := HD.out.2.trans (d7.mono (by omega))
  have n7 := own_ns o7
  have hs7 := b7.size
  go_wp2_with (first
    | (at_builtin; refine wpList_append_ns _ rfl (.tmp 30) (.tmp 34) 25 rfl B1 5 i0 (.int .u8 0) 1 Try.underlying25 hi0 hz0 hz1 hz2 rfl _ (0 + tl + p1) ([] ++ nums .u8 T ++ nums .u8 P1) rfl o67 .u8 _ A7 p2 c7 P2 H3.out.2.2.2 rfl n7 (by omega) (by omega) (by omega) ?_; intro v8 w8 o8 g8 at8; have b8 : Below B1 w1 w8 := b7.grown g8 (by omega) (fun k hk => (o67.lt k hk).1); have hs8 := b8.size)
    | (at_builtin; refine wpList_append_ns _ rfl (.tmp 36) (.tmp 37) 25 rfl B1 5 i0 (.int .u8 0) 1 Try.underlying25 hi0 hz0 hz1 hz2 rfl _ (0 + tl + p1 + p2) ([] ++ nums .u8 T ++ nums .u8 P1 ++ nums .u8 P2) rfl o8 .u8 B1 A1 tl c1 T HA.out.2.2.1 rfl (HA.out.1.below b8) (by omega) (by omega) (by omega) ?_; intro v9 w9 o9 g9 at9; have b9 : Below B1 w1 w9 := b8.grown g9 (by omega) (fun k hk => (o8.lt k hk).1))
    | fail)
  obtain ⟨A9, c9, rfl⟩ := own_form o9
  have n9 : Ns .u8 w9 w9.heap.size A9 (T ++ P1 ++ P2 ++ T) := own_ns (n := 0 + tl + p1 + p2 + tl) (c := c9) (by simp only [List.length_append, HA.out.2.2.1, H3.out.2.2.1, H3.out.2.2.2]; simpa [nums, Nat.add_assoc] using o9)
  have HE := Lib.hid (And.intro (H4.out.1 A9 c9 w9 n9) (HA.out.2.1.trans (b9.mono (by have := HA.out.2.1.size; omega))))
  rw [show 0 + tl + p1 + p2 + tl = tl + p1 + p2 + tl by omega]
  clear o67 o7 n7 b7 d7 o8 b8 g8 at8 o9 b9 g9 at9 n9 HB HC HD HA H2 H3
  refine HE.out.1.mono ?_
  rintro e w' ⟨rfl, rfl⟩
  go_wp2_with fail
  go_loopw [7, 9, 10] (fun hv v q wr => ∃ k : Nat, k ≤ 8 ∧ q = .int .i64 k ∧ hv = .int .u64 (leftM O k) ∧ wr.ownsRow w.heap.size 5 1 v k (nums .u8 ((be8 O).take k)) ∧ Below w.heap.size w wr) (fun _ _ q _ => 8 - (intOf q).toNat)
  case atStart => exact ⟨0, by omega, rfl, by rw [H4.out.2.2.2], by simpa [nums] using World.ownsRow_nil _ _ _ _, HE.out.2⟩
  case round =>
    obtain ⟨k, hk, rfl, rfl, ho, hb⟩ := hrel
    have hsz := hb.size
    by_cases h8 : k < 8
    · have htk := H4.out.2.1 k h8
      have htp := H4.out.2.2.1 k h8
      have hmo := leftM_more O k
      have hlu := leftM_u O k
      have hq := quo_at hlu (d := 72057594037927936) (by omega)
      obtain ⟨M, hM⟩ : ∃ M, leftM O k = M := ⟨_, rfl⟩
      rw [hM] at htp hmo hlu hq ⊢
      obtain ⟨M0, M1⟩ := hlu
      have hu8 : IntKind.u8.wrap (M / 72057594037927936) = M / 72057594037927936 := by
        have e : IntKind.u8.wrap (M / 72057594037927936) = M / 72057594037927936 % 256 := by simp [IntKind.wrap, IntKind.signed, IntKind.bits]
        rw [e]
        omega
      have HH := Lib.hid (And.intro (htk.trans (by rw [htp])) hmo)
      clear htk htp hmo hM
      go_wp2_with (at_builtin; refine wpList_append_one _ rfl (.tmp 45) (.tmp 49) 25 rfl w.heap.size 5 i0 (.int .u8 0) 1 Try.underlying25 hi0 hz0 hz1 hz2 rfl _ k (nums .u8 ((be8 O).take k)) rfl ho (.int .u8 (M / 72057594037927936)) 1 rfl rfl (by omega) (by omega) hsz ?_; intro v6 w6 o6 g6 at6)
      case roundEnd =>
        refine ⟨⟨k + 1, by omega, rfl, by rw [← HH.out.2], ?_, hb.grown g6 hsz (fun j hj => (ho.lt j hj).1)⟩, by simp only [intOf]; omega⟩
        rw [HH.out.1]
        simpa [nums] using o6
    · have hk8 : k = 8 := by omega
      subst hk8
      obtain ⟨A2, c2, rfl⟩ := own_form ho
      have HH := Lib.hid (And.intro ho hb)
      clear ho hb
      go_wp2_with fail
      go_ret
      exact ⟨A2, c2, rfl, HH.out.1, HH.out.2⟩
end Seal
end Go.Proofs.Ytjifklojbbocfaa
