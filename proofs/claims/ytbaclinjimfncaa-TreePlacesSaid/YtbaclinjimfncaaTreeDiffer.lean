/-
  The document's place of a key, and where two lists of hashes differ (the seat of TreePlaces).
-/
import Derived.Test.YtbaclinjimfncaaTreeTell
namespace Go.Proofs.Ytbaclinjimfncaa
namespace Tree
open Go.RowKit Vers Num Ring Disk Blk
open Go.Proofs.Ytbaclinjimfncaa.Code hiding Bn
attribute [local go_sem ↓] Go.wp_at_zero Go.wp_at_succ

set_option maxRecDepth 100000 in
theorem ref_place_any (k : Nm) (w : World) (hbig : k.size ≤ 140737488355328) : Calls Try.prog 7 #[.string k] w (Placed k w) := by
  obtain ⟨c, V, hcv, hns, hb⟩ := text_bytes k w
  have H1 := Lib.hid (ref_hash_any _ c k.size (strNums k) (strNums_length k) (strNums_bytes k) V hns hbig)
  have hr := hash_range (strNums k)
  have HD : Hid (dig0 k = keyH k / 1152921504606846976 ∧ dig1 k = keyH k / 72057594037927936 % 16) := Lib.hid ⟨rfl, rfl⟩
  unfold keyH at HD
  obtain ⟨x, hx⟩ : ∃ x, hashL (strNums k) = x := ⟨_, rfl⟩
  rw [hx] at H1 hr HD
  have HB := Lib.hid hb
  obtain ⟨r0, r1⟩ := hr
  clear hns hb hx
  go_enter Try.func7, Try.ntmps7
  go_wp2_with fail
  refine H1.out.mono ?_
  rintro e w1 ⟨rfl, rfl⟩
  go_wp2_with fail
  go_ret
  exact ⟨V.heap.size, rfl, Lib.hid ⟨by rw [HD.out.1, HD.out.2]; exact ns_two V _ _, HB.out.size⟩, HB.out.alloc HB.out.size _⟩

theorem ref_at_any (A : Option Addr) (c n : Nat) (l : List Int) (hn : l.length = n) (i : Nat) (w : World) (hr : Ns .u64 w w.heap.size A l) :
    Calls Try.prog 18 #[.slice A n c, .int .i64 (i : Int)] w (fun e w' => e = .returned (.int .u64 (l.getD i 0)) ∧ w = w') := by
  by_cases hi : i < n
  · obtain ⟨b, off, rfl, _, hc⟩ := hr (by omega)
    have c0 := hc i (by omega)
    obtain ⟨x, hx⟩ : ∃ x, l.getD i 0 = x := ⟨_, rfl⟩
    rw [hx] at c0 ⊢
    have d1 : (0 : Int) ≤ (i : Int) := by omega
    have d2 : (i : Int) < (n : Int) := by omega
    clear hx hr hc hn
    go_enter Try.func18, Try.ntmps18
    go_wp2_with fail
    go_ret
    exact ⟨rfl, rfl⟩
  · have hx : l.getD i 0 = 0 := by simp [List.getD_eq_getElem?_getD, List.getElem?_eq_none (show l.length ≤ i by omega)]
    rw [hx]
    have d2 : ¬ (i : Int) < (n : Int) := by omega
    clear hx hr hn
    go_enter Try.func18, Try.ntmps18
    go_wp2_with fail
    go_ret
    exact ⟨rfl, rfl⟩
set_option maxRecDepth 100000 in
theorem ref_differ_any (A A' : Option Addr) (c c' n n' : Nat) (a b : List Int) (hn : a.length = n) (hn' : b.length = n') (w : World) (hr : Ns .u64 w w.heap.size A a) (hr' : Ns .u64 w w.heap.size A' b) :
    Calls Try.prog 9 #[.slice A n c, .slice A' n' c'] w (OwnN (diffF a b) w) := by
  obtain ⟨i0, hi0, hz0, hz1, hz2⟩ := info_parts info_int
  have HP := Lib.hid (And.intro hn (And.intro hn' (And.intro hr hr')))
  clear hn hn' hr hr'
  go_enter Try.func9, Try.ntmps9
  go_wp2_with fail
  go_loopw [5, 6] (fun v q wr => ∃ (k m : Nat) (A1 : Option Addr) (c1 : Nat), q = .int .i64 k ∧ k ≤ 16 ∧ v = .slice A1 m c1 ∧ m ≤ k ∧ Hid ((dk a b k).length = m ∧ wr.ownsRow w.heap.size 3 1 (.slice A1 m c1) m (nums .i64 (dk a b k)) ∧ Below w.heap.size w wr)) (fun _ q _ => 16 - (intOf q).toNat)
  case atStart => exact ⟨0, 0, none, 0, rfl, by omega, rfl, by omega, Lib.hid ⟨rfl, World.ownsRow_nil _ _ _ _, Below.refl _ _⟩⟩
  case round =>
    obtain ⟨k, m, A1, c1, rfl, hk, rfl, hmk, hst⟩ := hrel
    by_cases hlt : k < 16
    · have d1 : (0 : Int) ≤ (k : Int) := by omega
      have d2 : (k : Int) < 16 := by omega
      have hb := hst.out.2.2
      have h1 := ref_at_any A c n a HP.out.1 k wr ((HP.out.2.2.1.below hb).more hb.size)
      have h2 := ref_at_any A' c' n' b HP.out.2.1 k wr ((HP.out.2.2.2.below hb).more hb.size)
      obtain ⟨x, hx⟩ : ∃ x, a.getD k 0 = x := ⟨_, rfl⟩
      obtain ⟨y, hy⟩ : ∃ y, b.getD k 0 = y := ⟨_, rfl⟩
      rw [hx] at h1
      rw [hy] at h2
      have H1 := Lib.hid h1
      have H2 := Lib.hid h2
      have HXY := Lib.hid (And.intro hx hy)
      have hsz := hb.size
      clear h1 h2 hx hy hb
      by_cases hxy : x = y
      · subst hxy
        have e1 : (x != x) = false := by simp
        have HF : Hid ((dk a b (k + 1)).length = m ∧ wr.ownsRow w.heap.size 3 1 (.slice A1 m c1) m (nums .i64 (dk a b (k + 1))) ∧ Below w.heap.size w wr) := Lib.hid (by
          rw [dk_no (HXY.out.1.trans HXY.out.2.symm)]
          exact hst.out)
        clear hst
        go_wp2_with fail
        refine H1.out.mono ?_
        rintro e w1 ⟨rfl, rfl⟩
        go_wp2_with fail
        refine H2.out.mono ?_
        rintro e w1 ⟨rfl, rfl⟩
        go_wp2_with fail
        go_roundw
        case rel => exact ⟨k + 1, m, A1, c1, by go_num, by omega, rfl, by omega, HF⟩
        case measure => simp only [intOf]; omega
      · have e1 : (x != y) = true := by simpa using hxy
        have HN : Hid (dk a b (k + 1) = dk a b k ++ [(k : Int)]) := Lib.hid (dk_yes (by rw [HXY.out.1, HXY.out.2]; exact hxy))
        have ho := hst.out.2.1
        have HST := Lib.hid hst.out
        clear hst hxy
        go_wp2_with fail
        refine H1.out.mono ?_
        rintro e w1 ⟨rfl, rfl⟩
        go_wp2_with fail
        refine H2.out.mono ?_
        rintro e w1 ⟨rfl, rfl⟩
        go_wp2_with (at_builtin; refine wpList_append_one _ rfl _ _ 25 rfl w.heap.size 3 i0 _ 8 Try.underlying25 hi0 hz0 hz1 hz2 rfl _ m (nums .i64 (dk a b k)) rfl ho (.int .i64 (k : Int)) 1 rfl rfl (by omega) (by omega) hsz ?_; intro v2 w2 o2 g2 at2; obtain ⟨A2, c2, rfl⟩ := own_form o2)
        have HF : Hid ((dk a b (k + 1)).length = m + 1 ∧ w2.ownsRow w.heap.size 3 1 (.slice A2 (m + 1) c2) (m + 1) (nums .i64 (dk a b (k + 1))) ∧ Below w.heap.size w w2) := Lib.hid (by
          rw [HN.out]
          exact ⟨by simp [HST.out.1], by rw [show nums .i64 (dk a b k ++ [(k : Int)]) = nums .i64 (dk a b k) ++ [.int .i64 (k : Int)] by simp [nums]]; exact o2, HST.out.2.2.grown g2 hsz (fun j hj => (ho.lt j hj).1)⟩)
        clear o2 g2 at2 ho
        go_roundw
        case rel => exact ⟨k + 1, m + 1, A2, c2, by go_num, by omega, rfl, by omega, HF⟩
        case measure => simp only [intOf]; omega
    · have hk16 : k = 16 := by omega
      subst hk16
      rw [dk_full] at hst
      go_wp2_with fail
      go_ret
      exact ⟨A1, m, c1, rfl, Lib.hid ⟨hst.out.1, (own_low hst.out.2.1).1, hst.out.2.1⟩, hst.out.2.2⟩
end Tree
end Go.Proofs.Ytbaclinjimfncaa
