/-
  frame.Put and firthref02.Put make the frame of some bytes, frameF.
-/
import Derived.Test.YtgiojcjnljmaiaaSum
import Derived.Test.YtgiojcjnljmaiaaPutNum
namespace Go.Proofs.Ytgiojcjnljmaiaa
namespace Frm
open Go.RowKit Num

def sum4 (s : Int) : List Int := [s % 256, s / 256 % 256, s / 65536 % 256, s / 16777216]
def frameF (zs : List Int) : List Int := putL (zs.length : Int) ++ sum4 (sumF (putL (zs.length : Int) ++ zs)) ++ zs
theorem sum4_bytes (s : Int) (h : U32 s) : ∀ z ∈ sum4 s, 0 ≤ z ∧ z ≤ 255 := by
  obtain ⟨h0, h1⟩ := h
  intro z hz
  simp only [sum4, List.mem_cons, List.not_mem_nil, or_false] at hz
  rcases hz with rfl | rfl | rfl | rfl <;> omega
theorem sum4_take (s : Int) (h : U32 s) (k : Nat) (hk : k < 4) : (sum4 s).take (k + 1) = (sum4 s).take k ++ [s / 2 ^ (8 * k) % 256] := by
  obtain ⟨h0, h1⟩ := h
  match k, hk with
  | 0, _ => simp [sum4]
  | 1, _ => simp [sum4]
  | 2, _ => simp [sum4]
  | 3, _ =>
    simp [sum4]
    omega

/-- A slice, whatever it is called: made by the call, with what it holds. -/
theorem made_two {e : TypeId} {k : IntKind} {xs ys : List Int} {w w' : World} {v : Value} {n : Nat} (hn : n = xs.length + ys.length) (hown : w'.ownsRow w.heap.size e 1 v n (nums k xs ++ nums k ys)) (hb : Below w.heap.size w w') :
    MadeNs e k (xs ++ ys) w (.returned v) w' := by
  subst hn
  obtain ⟨A, c, rfl⟩ := own_form hown
  exact ⟨A, c, by simp, by simpa [nums] using hown, hb⟩

theorem cat_any (A A' : Option Addr) (c c' n n' : Nat) (xs ys : List Int) (hn : xs.length = n) (hn' : ys.length = n') (B : Nat) (w : World) (hB : B ≤ w.heap.size) (hr : Ns .u8 w B A xs) (hr' : Ns .u8 w B A' ys) (hbig : n + n' ≤ 140737488355328) :
    Calls Try.prog 16 #[.slice A n c, .slice A' n' c'] w (MadeNs 5 .u8 (xs ++ ys) w) := by
  obtain ⟨i0, hi0, hz0, hz1, hz2⟩ := info_parts Facts.info5
  have q1 := hr.more hB
  have q2 := hr'.more hB
  have Hn := Lib.hid (And.intro hn hn')
  clear hr hr' hn hn'
  go_enter Try.func16, Try.ntmps16
  go_wp2_with (first
    | (at_builtin; refine wpList_append_ns _ rfl (.tmp 6) (.tmp 7) 22 rfl w.heap.size 5 i0 (.int .u8 0) 1 Try.underlying22 hi0 hz0 hz1 hz2 rfl (.slice none 0 0) (0) ([]) rfl (World.ownsRow_nil _ _ _ _) .u8 w.heap.size A n c xs Hn.out.1 rfl q1 (by omega) (by omega) (Nat.le_refl _) ?_; intro v1 w1 o1 g1 at1; have b1 : Below w.heap.size w w1 := (Below.refl _ _).grown g1 (Nat.le_refl _) (by simp [Value.ownBlock]); have q3 := q2.below b1)
    | (at_builtin; refine wpList_append_ns _ rfl (.tmp 9) (.tmp 10) 22 rfl w.heap.size 5 i0 (.int .u8 0) 1 Try.underlying22 hi0 hz0 hz1 hz2 rfl _ (0 + n) ([] ++ nums .u8 xs) rfl o1 .u8 w.heap.size A' n' c' ys Hn.out.2 rfl q3 (by omega) (by omega) b1.size ?_; intro v2 w2 o2 g2 at2; have b2 : Below w.heap.size w w2 := b1.grown g2 b1.size (fun k hk => (o1.lt k hk).1)))
  have R := made_two (k := .u8) (xs := xs) (ys := ys) (by rw [Hn.out.1, Hn.out.2]; omega) o2 b2
  clear o1 o2 g1 g2 at1 at2
  go_wp2
  go_ret
  exact R

theorem ns_four {w : World} {t : TypeId} (a b c d : Int) : Ns .u8 (w.alloc (.cells #[.int .u8 a, .int .u8 b, .int .u8 c, .int .u8 d] t)) (w.heap.size + 1) (some ⟨w.heap.size, 0, none⟩) [a, b, c, d] := fun _ => by
  refine ⟨_, _, rfl, by omega, fun j hj => ?_⟩
  match j, hj with
  | 0, _ => simp
  | 1, _ => simp
  | 2, _ => simp
  | 3, _ => simp

set_option maxRecDepth 100000 in
theorem ref_put_any (A : Option Addr) (c : Nat) (zs : List Int) (w : World) (hr : Ns .u8 w w.heap.size A zs) (hby : ∀ z ∈ zs, 0 ≤ z ∧ z ≤ 255) (hbig : zs.length ≤ 140737488351232) :
    Calls Try.prog 17 #[.slice A zs.length c] w (MadeNs 5 .u8 (frameF zs) w) := by
  obtain ⟨i0, hi0, hz0, hz1, hz2⟩ := info_parts Facts.info5
  have h1 := fun W => ref_putnum_pos (zs.length : Int) (by omega) W
  obtain ⟨hl1, hl9⟩ := putL_len (zs.length : Int)
  have hLb := putL_bytes (zs.length : Int) (by omega)
  have hfr : frameF zs = putL (zs.length : Int) ++ sum4 (sumF (putL (zs.length : Int) ++ zs)) ++ zs := rfl
  obtain ⟨L, hL⟩ : ∃ L, putL (zs.length : Int) = L := ⟨_, rfl⟩
  rw [hL] at h1 hl1 hl9 hLb hfr
  have hCb : ∀ z ∈ L ++ zs, 0 ≤ z ∧ z ≤ 255 := by
    intro z hz
    rcases List.mem_append.1 hz with hz | hz
    · exact hLb z hz
    · exact hby z hz
  have hCl : (L ++ zs).length = L.length + zs.length := List.length_append
  have hSr := sumF_range _ hCb
  obtain ⟨s, hs⟩ : ∃ s, sumF (L ++ zs) = s := ⟨_, rfl⟩
  rw [hs] at hfr hSr
  obtain ⟨hs0, hs1⟩ := hSr
  have H := Lib.hid (And.intro h1 (And.intro hCb (And.intro hCl (And.intro hs hfr))))
  clear h1 hL hLb hby hCb hCl hs hfr
  go_enter Try.func17, Try.ntmps17
  go_wp2_with fail
  refine (H.out.1 _).mono ?_
  rintro e w1 ⟨A1, c1, rfl, o1, b1⟩
  have n1 := own_ns o1
  have hr1 := hr.below b1
  go_wp2_with fail
  refine (cat_any A1 A c1 c _ _ L zs rfl rfl _ w1 (Nat.le_refl _) n1 (hr1.more b1.size) (by omega)).mono ?_
  rintro e w2 ⟨A2, c2, rfl, o2, b2⟩
  have n2 := own_ns o2
  go_wp2_with fail
  refine (ref_sum_at A2 c2 _ (L ++ zs) (by simp) _ w2 n2 H.out.2.1 (by have := H.out.2.2.1; simp; omega)).mono ?_
  rintro e w' ⟨rfl, rfl⟩
  rw [H.out.2.2.2.1]
  have o1' := own_below o1 b2 (Nat.le_refl _)
  have hsz2 := b2.size
  have hsz1 := b1.size
  have b12 : Below w.heap.size w w2 := b1.trans (b2.mono hsz1)
  clear o1 o2 n1 n2
  go_wp2_with (at_builtin; refine wpList_append_ns _ rfl (.tmp 12) (.tmp 27) 22 rfl w.heap.size 5 i0 (.int .u8 0) 1 Try.underlying22 hi0 hz0 hz1 hz2 rfl _ (L.length) (nums .u8 L) rfl (o1'.alloc _) .u8 (w2.heap.size + 1) (some ⟨w2.heap.size, 0, none⟩) 4 4 (sum4 s) rfl rfl (ns_four _ _ _ _) (by omega) (by omega) (by simp; omega) ?_; intro v3 w3 o3 g3 at3)
  have b3 : Below w.heap.size w w3 := (b12.alloc b12.size _).grown g3 (by simp; omega) (fun k hk => (o1'.lt k hk).1)
  have o3' : w3.ownsRow w.heap.size 5 1 v3 (L.length + 4) (nums .u8 (L ++ sum4 s)) := by simpa [nums] using o3
  obtain ⟨A3, c3, hv3⟩ := own_form o3'
  subst hv3
  have hl4 : (L ++ sum4 s).length = L.length + 4 := by simp [sum4]
  have n3 := own_ns (zs := L ++ sum4 s) (by rw [hl4]; exact o3')
  have hr3 := hr.below b3
  have HL4 := Lib.hid hl4
  clear hl4 o3 o3' o1' g3 at3
  refine (cat_any A3 A c3 c _ _ (L ++ sum4 s) zs HL4.out rfl _ w3 (Nat.le_refl _) n3 (hr3.more b3.size) (by omega)).mono ?_
  intro e w4 hm
  have hm2 := made_later hm b3
  rw [← H.out.2.2.2.2] at hm2
  clear hm
  obtain ⟨A4, c4, rfl, o4, b4⟩ := hm2
  have R : MadeNs 5 .u8 (frameF zs) w (.returned (.slice A4 (frameF zs).length c4)) w4 := ⟨A4, c4, rfl, o4, b4⟩
  clear H HL4 o4
  go_wp2
  go_ret
  exact R

theorem put_long (A : Option Addr) (c n : Nat) (w : World) (hl : 1048576 < n) (hbig : n ≤ 140737488351232) :
    Calls Try.prog 8 #[.slice A n c] w fun e w' => e = .returned (.tuple #[.slice none 0 0, .int .i64 3]) ∧ w = w' := by
  go_enter Try.func8, Try.ntmps8
  go_wp2
  go_ret2
  exact ⟨rfl, rfl⟩

/-- The frame, and OK. -/
def MadeOK (e : TypeId) (k : IntKind) (zs : List Int) (w : World) (r : Ending) (w' : World) : Prop :=
  ∃ A c, r = .returned (.tuple #[.slice A zs.length c, .int .i64 0]) ∧ w'.ownsRow w.heap.size e 1 (.slice A zs.length c) zs.length (nums k zs) ∧ Below w.heap.size w w'

set_option maxRecDepth 100000 in
theorem put_any (A : Option Addr) (c : Nat) (zs : List Int) (w : World) (hr : Ns .u8 w w.heap.size A zs) (hby : ∀ z ∈ zs, 0 ≤ z ∧ z ≤ 255) (hlc : zs.length ≤ c) (hbig : zs.length ≤ 1048576) :
    Calls Try.prog 8 #[.slice A zs.length c] w (MadeOK 5 .u8 (frameF zs) w) := by
  obtain ⟨i0, hi0, hz0, hz1, hz2⟩ := info_parts Facts.info5
  have h1 := fun W => putnum_pos (zs.length : Int) (by omega) W
  obtain ⟨hl1, hl9⟩ := putL_len (zs.length : Int)
  have hLb := putL_bytes (zs.length : Int) (by omega)
  have hfr : frameF zs = putL (zs.length : Int) ++ sum4 (sumF (putL (zs.length : Int) ++ zs)) ++ zs := rfl
  obtain ⟨L, hL⟩ : ∃ L, putL (zs.length : Int) = L := ⟨_, rfl⟩
  rw [hL] at h1 hl1 hl9 hLb hfr
  have hCb : ∀ z ∈ L ++ zs, 0 ≤ z ∧ z ≤ 255 := by
    intro z hz
    rcases List.mem_append.1 hz with hz | hz
    · exact hLb z hz
    · exact hby z hz
  have hSr := sumF_range _ hCb
  have hfl : sumF [L, zs].flatten = sumF (L ++ zs) := by simp
  obtain ⟨s, hs⟩ : ∃ s, sumF (L ++ zs) = s := ⟨_, rfl⟩
  rw [hs] at hfr hSr hfl
  have H := Lib.hid (And.intro h1 (And.intro hLb (And.intro hby (And.intro hfl hfr))))
  have HS := Lib.hid hSr
  obtain ⟨hs0, hs1⟩ := hSr
  clear h1 hL hLb hby hCb hs hfr hfl
  go_enter Try.func8, Try.ntmps8
  go_wp2_with fail
  refine (H.out.1 _).mono ?_
  rintro e w1 ⟨A1, c1, rfl, o1, b1⟩
  have n1 := own_ns o1
  have hr1 := hr.below b1
  have hsz1 := b1.size
  have hlc1 := (own_len o1).2
  go_wp2_with fail
  refine (sum_at _ _ _ [L, zs] rfl _ _ (parts_two_at rfl rfl rfl n1 (hr1.more b1.size) (Nat.le_refl _) hlc1 hlc) (by
    intro p hp
    rcases List.mem_cons.1 hp with rfl | hp
    · exact ⟨H.out.2.1, by omega⟩
    · rcases List.mem_cons.1 hp with rfl | hp
      · exact ⟨H.out.2.2.1, by omega⟩
      · cases hp) (by simp)).mono ?_
  rintro e w' ⟨rfl, rfl⟩
  rw [H.out.2.2.2.1]
  have b2 := b1.alloc hsz1 (.cells #[.slice A1 L.length c1, .slice A zs.length c] 22)
  have n2 := n1.alloc (Nat.le_refl _) (.cells #[.slice A1 L.length c1, .slice A zs.length c] 22)
  have hr2 := hr.below b2
  have hW1 : w1.heap.size ≤ (w1.alloc (.cells #[.slice A1 L.length c1, .slice A zs.length c] 22)).heap.size := by simp
  obtain ⟨W, hW⟩ : ∃ W, w1.alloc (.cells #[.slice A1 L.length c1, .slice A zs.length c] 22) = W := ⟨_, rfl⟩
  rw [hW] at b2 n2 hr2 hW1 ⊢
  have hsz2 := b2.size
  clear hW hr hr1 n1 o1
  go_wp2_with (first
    | (at_make; refine wpList_make_own _ rfl _ _ 22 rfl w.heap.size 5 i0 (.int .u8 0) 1 Try.underlying22 hi0 hz0 hz1 _ _ _ (L.length + 4 + zs.length) rfl rfl (by omega) (by rw [hz2]; omega) (by unfold maxLen; omega) hsz2 ?_; intro w3 o3 g3; have b3 : Below w.heap.size w w3 := b2.grown g3 hsz2 (fun k hk => by cases hk); have n3 := n2.grown g3 (by omega) (fun k hk => by cases hk); have hr3 := hr2.grown g3 hsz2 (fun k hk => by cases hk))
    | (at_builtin; refine wpList_append_ns _ rfl (.tmp 25) (.tmp 26) 22 rfl w.heap.size 5 i0 (.int .u8 0) 1 Try.underlying22 hi0 hz0 hz1 hz2 rfl _ 0 [] rfl o3 .u8 w1.heap.size A1 L.length c1 L rfl rfl n3 (by omega) (by omega) b3.size ?_; intro v4 w4 o4 g4 at4; have b4 : Below w.heap.size w w4 := b3.grown g4 b3.size (fun k hk => (o3.lt k hk).1); have hr4 := hr3.grown g4 b3.size (fun k hk => (o3.lt k hk).1)))
  go_loopw [6, 28] (fun v q wr => ∃ k : Nat, k ≤ 4 ∧ q = .int .i64 k ∧ wr.ownsRow w.heap.size 5 1 v (L.length + k) (nums .u8 (L ++ (sum4 s).take k)) ∧ Below w.heap.size w wr ∧ Ns .u8 wr w.heap.size A zs) (fun _ q _ => 4 - (intOf q).toNat)
  case atStart => exact ⟨0, by omega, rfl, by simpa [nums] using o4, b4, hr4⟩
  case round =>
    obtain ⟨k, hk, rfl, o5, b5, hr5⟩ := hrel
    have hsz5 := b5.size
    by_cases h4 : k < 4
    · have htk := Lib.hid (sum4_take s HS.out k h4)
      go_wp2_with (at_builtin; refine wpList_append_one _ rfl (.tmp 31) (.tmp 37) 22 rfl w.heap.size 5 i0 (.int .u8 0) 1 Try.underlying22 hi0 hz0 hz1 hz2 rfl _ (L.length + k) (nums .u8 (L ++ (sum4 s).take k)) rfl o5 (.int .u8 (s / 2 ^ (8 * k) % 256)) 1 rfl rfl (by omega) (by omega) hsz5 ?_; intro v6 w6 o6 g6 at6)
      case roundEnd =>
        refine ⟨⟨k + 1, by omega, rfl, ?_, b5.grown g6 hsz5 (fun j hj => (o5.lt j hj).1), hr5.grown g6 hsz5 (fun j hj => (o5.lt j hj).1)⟩, by simp only [intOf]; omega⟩
        have e1 : nums IntKind.u8 (L ++ (sum4 s).take (k + 1)) = nums .u8 (L ++ (sum4 s).take k) ++ [.int .u8 (s / 2 ^ (8 * k) % 256)] := by
          rw [htk.out]; simp [nums]
        rw [e1]
        exact o6
    · have hk4 : k = 4 := by omega
      subst hk4
      go_wp2_with (at_builtin; refine wpList_append_ns _ rfl (.tmp 40) (.tmp 41) 22 rfl w.heap.size 5 i0 (.int .u8 0) 1 Try.underlying22 hi0 hz0 hz1 hz2 rfl _ (L.length + 4) (nums .u8 (L ++ (sum4 s).take 4)) rfl o5 .u8 w.heap.size A zs.length c zs rfl rfl hr5 (by omega) (by omega) hsz5 ?_; intro v6 w6 o6 g6 at6)
      have b6 := b5.grown g6 hsz5 (fun j hj => (o5.lt j hj).1)
      have e1 : frameF zs = (L ++ sum4 s) ++ zs := H.out.2.2.2.2
      obtain ⟨A6, c6, h6, R6⟩ := made_two (n := L.length + 4 + zs.length) (xs := L ++ sum4 s) (ys := zs) (k := .u8) (by simp [sum4]) (by simpa [sum4] using o6) b6
      clear o6 g6 at6
      cases h6
      go_ret2
      rw [e1]
      exact ⟨A6, c6, rfl, R6⟩
end Frm
end Go.Proofs.Ytgiojcjnljmaiaa
