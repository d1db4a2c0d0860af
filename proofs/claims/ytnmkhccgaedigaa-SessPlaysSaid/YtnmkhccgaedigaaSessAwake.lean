/-
  firthlaw21.awake; the contracts of sess with what they come to as letters.
-/
import Derived.Test.YtnmkhccgaedigaaSessGo
import Derived.Lib.SlBytesConst
namespace Go.Proofs.Ytnmkhccgaedigaa
namespace Sess
open Go.RowKit Blk Go.Maps
attribute [local go_sem ↓] Go.wp_at_zero Go.wp_at_succ

section
variable {F : Nat → Prop} {w : World} {sb m : Nat} {N : Int} {L L' : List Sn}
theorem open_at (h : SI F w sb N L m) (hn : L.length ≤ 10000000000000) (site : Int) {num err : Int} (hF : openF N L site = (L', num, err)) :
    Calls Try.prog 8 #[hd sb, .int .i64 site] w (fun e w' => e = .returned (.tuple #[.int .i64 num, .int .i64 err]) ∧ ∃ F', Hid (SI F' w' sb N L' m ∧ Stp F w F' w')) :=
  (open_any h hn site).mono fun e w' ⟨he, F', h1, h2⟩ => by
    rw [hF] at he h1
    exact ⟨he, F', Lib.hid ⟨h1, h2⟩⟩
theorem begin_at (h : SI F w sb N L m) (hn : L.length ≤ 10000000000000) (hm : m ≤ 1000000000000000) (k op : Int) (hop : -9223372036854775808 ≤ op ∧ op ≤ 9223372036854775807) {site err : Int} {tok : List Int} (hF : beginF L k op = (L', site, tok, err)) (tl : Nat) (htl : tok.length = tl) :
    Calls Try.prog 10 #[hd sb, .int .i64 k, .int .i64 op] w (fun e w' => ∃ A1 c1 m1 F' B, e = .returned (.tuple #[.int .i64 site, .slice A1 tl c1, .int .i64 err]) ∧ m1 ≤ m + 1 ∧ Hid (SI F' w' sb N L' m1 ∧ Stp F w F' w' ∧ (∀ j, F' j → j < B) ∧ w.heap.size ≤ B ∧ w'.ownsRow B 5 1 (.slice A1 tl c1) tl (nums .u8 tok))) :=
  (begin_any h hn hm k op hop).mono fun e w' h => by
    unfold BeginPost at h
    rw [hF] at h
    obtain ⟨A1, c1, n1, m1, F', B, he, hl, h1, h2, h3, h4, h5, h6⟩ := h
    simp only at he hl h2 h6
    rw [htl] at hl
    subst hl
    exact ⟨A1, c1, m1, F', B, he, h1, Lib.hid ⟨h2, h3, h4, h5, h6⟩⟩
theorem end_at (h : SI F w sb N L m) (hn : L.length ≤ 10000000000000) (op : Int) (hop : -9223372036854775808 ≤ op ∧ op ≤ 9223372036854775807) (At : Option Addr) (ct tl : Nat) (t : List Int) (htl : t.length = tl) (ht : OkT t) (hr : Ns .u8 w w.heap.size At t) (hA : ∀ a, At = some a → ¬ F a.block)
    {num : Int} {ok : Bool} (hF : endF L op t = (L', num, ok)) :
    Calls Try.prog 12 #[hd sb, .int .i64 op, .slice At tl ct] w (fun e w' => e = .returned (.tuple #[.int .i64 num, .bool ok]) ∧ ∃ F', Hid (SI F' w' sb N L' m ∧ Stp F w F' w')) :=
  (end_any h hn op hop At ct tl t htl ht hr fun _ => hA).mono fun e w' h => by
    unfold EndPost at h
    rw [hF] at h
    obtain ⟨he, F', h1, h2⟩ := h
    exact ⟨he, F', Lib.hid ⟨h1, h2⟩⟩
theorem go_at (h : SI F w sb N L m) (hn : L.length ≤ 10000000000000) (k site : Int) {err : Int} (hF : goF N L k site = (L', err)) :
    Calls Try.prog 14 #[hd sb, .int .i64 k, .int .i64 site] w (fun e w' => e = .returned (.int .i64 err) ∧ Hid (SI F w' sb N L' m ∧ Stp F w F w')) :=
  (go_any h hn k site).mono fun e w' h => by
    unfold GoPost at h
    rw [hF] at h
    exact ⟨h.1, Lib.hid h.2⟩
theorem new_at (sites : Int) (hs : 1 ≤ sites ∧ sites ≤ 16) (w : World) :
    Calls Try.prog 6 #[.int .i64 sites] w (fun e w' => ∃ F sb, e = .returned (.tuple #[hd sb, .int .i64 0]) ∧ Hid (SI F w' sb sites [] 0 ∧ (∀ k, F k → w.heap.size ≤ k) ∧ Below w.heap.size w w')) :=
  (new_any sites w).mono fun e w' h => by
    obtain ⟨hb, h | h⟩ := h
    · exact absurd hs h.1
    · obtain ⟨_, F, sb, he, h1, h2⟩ := h
      exact ⟨F, sb, he, Lib.hid ⟨h1, h2, hb⟩⟩
end
/-- All that was turned since some world W is new since then. -/
theorem Stp.old {F F' : Nat → Prop} {W w w' : World} (h : Stp F w F' w') (hb : Below W.heap.size W w) (hF : ∀ k, F k → W.heap.size ≤ k) : Below W.heap.size W w' ∧ ∀ k, F' k → W.heap.size ≤ k :=
  ⟨hb.trans (h.1.below hF hb.size), fun k hk => (h.2 k hk).elim (hF k) fun e => Nat.le_trans hb.size e⟩

set_option maxRecDepth 100000 in
theorem awake_any (w : World) : Calls Try.prog 7 #[] w fun e w' => e = .returned (.bool true) ∧ Below w.heap.size w w' := by
  have H1 := Lib.hid (new_at 2 (by omega) w)
  go_enter Try.func7, Try.ntmps7
  go_wp2_with fail
  refine H1.out.mono ?_
  rintro e1 w1 ⟨F1, sb, rfl, h1⟩
  have H2 := Lib.hid (open_at h1.out.1 (by simp) 1 (L' := [(1, [], 0)]) (num := 1) (err := 0) (by decide))
  have h1' := Lib.hid (And.intro h1.out.2.2 h1.out.2.1)
  clear h1
  go_wp2_with fail
  refine H2.out.mono ?_
  rintro e2 w2 ⟨rfl, F2, h2⟩
  have h2' := Lib.hid (h2.out.2.old h1'.out.1 h1'.out.2)
  have H3 := Lib.hid (begin_at h2.out.1 (by simp) (by omega) 1 7 (by omega) (L' := [(1, [], 7)]) (site := 1) (tok := []) (err := 0) (by decide) 0 rfl)
  clear h2
  go_wp2_with fail
  refine H3.out.mono ?_
  rintro e3 w3 ⟨A3, c3, m3, F3, B3, rfl, hm3, h3⟩
  have h3' := Lib.hid (h3.out.2.1.old h2'.out.1 h2'.out.2)
  have H4 := Lib.hid (begin_at h3.out.1 (by simp) (by omega) 1 8 (by omega) (L' := [(1, [], 7)]) (site := 0) (tok := []) (err := 202) (by decide) 0 rfl)
  clear h3
  go_wp2_with fail
  refine H4.out.mono ?_
  rintro e4 w4 ⟨A4, c4, m4, F4, B4, rfl, hm4, h4⟩
  have h4' := Lib.hid (h4.out.2.1.old h3'.out.1 h3'.out.2)
  have hal : Below w4.heap.size w4 (w4.alloc (.cells #[.int .u8 116] 5 (1, 2))) := (Below.refl _ w4).alloc (Nat.le_refl _) _
  have hns : Ns .u8 (w4.alloc (.cells #[.int .u8 116] 5 (1, 2))) (w4.alloc (.cells #[.int .u8 116] 5 (1, 2))).heap.size (some ⟨w4.heap.size, 0, none⟩) [116] := fun _ => ⟨w4.heap.size, 0, rfl, by simp, fun j hj => by
    have : j = 0 := by simpa using hj
    subst this
    exact cell_of_row _ w4.heap.size 0 #[.int .u8 116] 5 (1, 2) (heap_alloc_new w4 _)⟩
  have kc : (convert 32 32 (.slice (some ⟨w4.heap.size, 0, none⟩) 1 1)).run Try.prog (w4.alloc (.cells #[.int .u8 116] 5)) = .ok (.slice (some ⟨w4.heap.size, 0, none⟩) 1 1) (w4.alloc (.cells #[.int .u8 116] 5 (1, 2))) := Lib.run_convert_bytes_const (P := Try.prog) w4 32 5 #[.int .u8 116] 1 1 Try.underlying32 Try.underlying5
  have H5 := Lib.hid (end_at (h4.out.1.below hal) (by simp) 7 (by omega) (some ⟨w4.heap.size, 0, none⟩) 1 1 [116] rfl ⟨by simp, by decide⟩ hns (fun a ha hf => by
    injection ha with ha
    subst ha
    have := h4.out.1.lt _ hf
    simp only at this
    omega) (L' := [(1, [116], 0)]) (num := 1) (ok := true) (by decide))
  have h5' := Lib.hid (And.intro (h4'.out.1.trans (hal.mono h4'.out.1.size)) h4'.out.2)
  clear h4 hal hns
  go_wp2_with fail
  refine H5.out.mono ?_
  rintro e5 w5 ⟨rfl, F5, h5⟩
  have h6' := Lib.hid (h5.out.2.old h5'.out.1 h5'.out.2)
  have H6 := Lib.hid (go_at h5.out.1 (by simp) 1 2 (L' := [(2, [116], 0)]) (err := 0) (by decide))
  clear h5
  go_wp2_with fail
  refine H6.out.mono ?_
  rintro e6 w6 ⟨rfl, h6⟩
  have h7' := Lib.hid (h6.out.2.old h6'.out.1 h6'.out.2)
  have H7 := Lib.hid (begin_at h6.out.1 (by simp) (by omega) 1 9 (by omega) (L' := [(2, [116], 9)]) (site := 2) (tok := [116]) (err := 0) (by decide) 1 rfl)
  clear h6
  go_wp2_with fail
  refine H7.out.mono ?_
  rintro e7 w7 ⟨A7, c7, m7, F7, B7, rfl, hm7, h7⟩
  have h8' := Lib.hid (h7.out.2.1.old h7'.out.1 h7'.out.2)
  have hcv : (convert 32 9 (.slice A7 1 c7)).run Try.prog w7 = .ok (.string ⟨#[116]⟩) w7 := run_conv_ns (P := Try.prog) w7 32 5 9 Try.underlying32 Try.underlying5 Try.underlying9 c7 (zs := [116]) (own_ns (zs := [116]) h7.out.2.2.2.2)
  clear h7
  go_wp2_with fail
  go_ret
  exact ⟨rfl, h8'.out.1⟩
end Sess
end Go.Proofs.Ytnmkhccgaedigaa
