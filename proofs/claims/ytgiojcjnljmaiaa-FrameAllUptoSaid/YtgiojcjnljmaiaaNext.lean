/-
  frame.Next and firthref02.Next tell what nextF tells.
-/
import Derived.Test.YtgiojcjnljmaiaaNextPlain
import Derived.Test.YtgiojcjnljmaiaaNumWalk
import Derived.Lib.SliceRun
namespace Go.Proofs.Ytgiojcjnljmaiaa
namespace Frm
open Go.RowKit Num

theorem nexts_some {t : TypeId} {ys : List Int} {q : Nat} {w w' : World} {A : Option Addr} {c n : Nat} {v : Int} (hl : ys.length = n) (hv : v = (q : Int)) (ho : w'.ownsRow w.heap.size t 1 (.slice A ys.length c) ys.length (nums .u8 ys)) (hb : Below w.heap.size w w') :
    Nexts t (ys, q, 0) w (.returned (.tuple #[.slice A n c, .int .i64 v, .int .i64 0])) w' := by
  subst hv
  subst hl
  exact ⟨A, c, rfl, ho, hb⟩
theorem none0 {k : IntKind} {w : World} {B : Nat} {A : Option Addr} {zs : List Int} {N : Nat} (h : zs.length = N) (h0 : N = 0) : Ns k w B A zs := fun hp => absurd hp (by omega)
theorem clone_any (ad : Addr) (c n : Nat) (zs : List Int) (hn : zs.length = n) (B : Nat) (w : World) (hB : B ≤ w.heap.size) (hr : Ns .u8 w B (some ad) zs) (hbig : n ≤ 140737488351232) :
    Calls Try.prog 20 #[.slice (some ad) n c] w (MadeNs 5 .u8 zs w) := by
  obtain ⟨i0, hi0, hz0, hz1, hz2⟩ := info_parts Facts.info5
  have q1 := hr.more hB
  have ho := World.ownsRow_lit (base := w.heap.size) (e := 5) (size := 1) w #[] 0 (Nat.le_refl _) (by unfold maxLen; omega) rfl
  have q2 := q1.alloc (Nat.le_refl _) (.cells #[] 5)
  have hne := Lib.run_eql_slice_nil (P := Try.prog) w 22 5 (some ad) n c 0 0 Try.underlying22
  rw [show (some ad).isNone = false from rfl] at hne
  have Hn := Lib.hid hn
  clear hr hn q1
  go_enter Try.func20, Try.ntmps20
  have b0 := (Below.refl w.heap.size w).alloc (Nat.le_refl _) (.cells #[] 5)
  go_wp2_with (at_builtin; refine wpList_append_ns _ rfl (.tmp 5) (.tmp 6) 22 rfl w.heap.size 5 i0 (.int .u8 0) 1 Try.underlying22 hi0 hz0 hz1 hz2 rfl _ 0 [] rfl ho .u8 w.heap.size (some ad) n c zs Hn.out rfl q2 (by omega) (by omega) (by simp) ?_; intro v1 w1 o1 g1 at1)
  have b1 := b0.grown g1 (by simp) (fun j hj => (ho.lt j hj).1)
  obtain ⟨A1, c1, h1, R1⟩ := made_two (n := 0 + n) (xs := []) (ys := zs) (k := .u8) (by simp [Hn.out]) (by simpa [nums] using o1) b1
  clear o1 g1 at1
  cases h1
  go_ret
  exact ⟨A1, c1, rfl, R1⟩

set_option maxRecDepth 100000 in
theorem next_any (A : Option Addr) (c : Nat) (zs : List Int) (i : Nat) (w : World) (hr : Ns .u8 w w.heap.size A zs) (hby : ∀ z ∈ zs, 0 ≤ z ∧ z ≤ 255) (hlc : zs.length ≤ c) (hbig : zs.length ≤ 140737488351232) (hi : i ≤ zs.length) :
    Calls Try.prog 14 #[.slice A zs.length c, .int .i64 i] w (Nexts 5 (nextF zs i) w) := by
  have h1 := num_in A c zs i _ w hr hby (by omega) hi
  obtain ⟨⟨n, p, f⟩, hF⟩ : ∃ r, numF zs i = r := ⟨_, rfl⟩
  rw [hF] at h1
  have hfr := fun (N : Nat) (hN : (N : Int) = n) (hf : f = 0) hl => frame_iff (N := N) hby (by rw [hF, hN, hf]) hl
  have hok := fun (hf : f = 0) => numF_ok (n := n) (p := p) hby (by rw [hF, hf])
  by_cases he : f = 0
  · have hok1 := hok he
    obtain ⟨N, rfl⟩ := Int.eq_ofNat_of_zero_le hok1.1
    replace hfr := hfr N rfl he
    clear hok
    subst he
    obtain ⟨_, g2, g3, g4⟩ := hok1
    by_cases hlong : 1048576 < N
    · have hR : nextF zs i = ([], 0, 3) := by
        unfold nextF
        rw [hF, if_neg (by simp), if_pos (by simp; omega)]
      rw [hR]
      have H1 := Lib.hid h1
      clear h1 hR hfr hF hby hr
      go_enter Try.func14, Try.ntmps14
      go_wp2_with fail
      refine H1.out.mono ?_
      rintro e w1 ⟨rfl, rfl⟩
      go_wp2
      go_ret3
      exact nexts_none _ _ _ _ (Below.refl _ _) _ rfl
    · by_cases hshort : zs.length < p + 4 + N
      · have hR : nextF zs i = ([], 0, 4) := by
          unfold nextF
          rw [hF, if_neg (by simp), if_neg (by simp; omega), if_pos (by simpa using hshort)]
        rw [hR]
        have H1 := Lib.hid h1
        clear h1 hR hfr hF hby hr
        go_enter Try.func14, Try.ntmps14
        go_wp2_with fail
        refine H1.out.mono ?_
        rintro e w1 ⟨rfl, rfl⟩
        go_wp2
        go_ret3
        exact nexts_none _ _ _ _ (Below.refl _ _) _ rfl
      · have hlen : p + 4 + N ≤ zs.length := by omega
        replace hfr := hfr hlen
        obtain ⟨b, off, rfl, hb, hc⟩ := hr (by omega)
        have hp := hr.cut i (p - i)
        have hq := hr.cut (p + 4) N
        have hcell : ∀ k, k < 4 → w.cell? ⟨b, off + (p + k), none⟩ = some (.int .u8 (zs.getD (p + k) 0)) := fun k hk => hc _ (by omega)
        have hle : ∀ k, k < 4 → leF (cutF zs p (k + 1)) = leF (cutF zs p k) + zs.getD (p + k) 0 * 256 ^ k := fun k hk => leF_take zs k p (by omega)
        have hH := Lib.hid (And.intro hF (And.intro hfr (And.intro hby (And.intro hp (And.intro hq (And.intro hc hle))))))
        have H1 := Lib.hid h1
        clear h1 hfr hF hby hr hp hq hc hle
        rcases (show p + 4 < c ∨ c = p + 4 by omega) with hcap | rfl
        all_goals
          go_enter Try.func14, Try.ntmps14
          go_wp2_with fail
          refine H1.out.mono ?_
          rintro e w1 ⟨rfl, rfl⟩
          go_wp2
          go_loop [12, 39] (fun s q => ∃ (k : Nat) (a : Int), k ≤ 4 ∧ 0 ≤ a ∧ a < 256 ^ k ∧ q = .int .i64 k ∧ s = .int .u32 a ∧ Hid (a = leF (cutF zs p k))) (fun _ q => 4 - (intOf q).toNat)
          case atStart => exact ⟨0, 0, by omega, by omega, by simp, rfl, rfl, Lib.hid rfl⟩
          case round =>
            obtain ⟨k, a, hk, ha0, hak, rfl, rfl, hst⟩ := hrel
            by_cases h4 : k < 4
            · have hz1 := hH.out.2.2.1
              have hck := hcell k h4
              obtain ⟨z, hz⟩ : ∃ z, zs.getD (p + k) 0 = z := ⟨_, rfl⟩
              have hb1 : 0 ≤ z ∧ z ≤ 255 := by
                rw [← hz, List.getD_eq_getElem?_getD, List.getElem?_eq_getElem (show p + k < zs.length by omega)]; exact hz1 _ (List.getElem_mem _)
              have hs2 := Lib.hid (hH.out.2.2.2.2.2.2 k h4)
              have Hz := Lib.hid hz
              rw [hz] at hck
              clear hz hz1 hcell
              obtain ⟨hb0, hb1⟩ := hb1
              go_wp2
              case roundEnd =>
                have hor := or_byte k a z h4 ha0 hak hb0 hb1
                have hpow : (0 : Int) < 256 ^ k := Int.pow_pos (by omega)
                have hmul : 0 ≤ z * 256 ^ k := Int.mul_nonneg hb0 (by omega)
                have hmul2 : z * 256 ^ k ≤ 255 * 256 ^ k := Int.mul_le_mul_of_nonneg_right hb1 (by omega)
                have hsucc : (256 : Int) ^ (k + 1) = 256 ^ k * 256 := Int.pow_succ 256 k
                refine ⟨⟨k + 1, a + z * 256 ^ k, by omega, by omega, by omega, rfl, by rw [hor], Lib.hid ?_⟩, by simp only [intOf]; omega⟩
                rw [hs2.out, ← hst.out, Hz.out]
            · have hk4 : k = 4 := by omega
              subst hk4
              clear hcell
              go_wp2_with fail
              obtain ⟨hF, hfr, hby, hp, hq, _, _⟩ := hH.out
              have hlx : (cutF zs i (p - i)).length = p - i := cut_len (by omega)
              have hly : (cutF zs (p + 4) N).length = N := cut_len (by omega)
              have hbx := cut_bytes hby i (p - i)
              have hby' := cut_bytes hby (p + 4) N
              have hR : (sumF (cutF zs i (p - i) ++ cutF zs (p + 4) N) = a → nextF zs i = (cutF zs (p + 4) N, p + 4 + N, 0)) ∧ (¬ sumF (cutF zs i (p - i) ++ cutF zs (p + 4) N) = a → nextF zs i = ([], 0, 20)) := by
                rw [hst.out]
                constructor
                · intro h
                  unfold nextF
                  rw [hF, if_neg (by simp), if_neg (by simp; omega), if_neg (by simp; omega)]
                  exact if_pos (hfr.2 h)
                · intro h
                  unfold nextF
                  rw [hF, if_neg (by simp), if_neg (by simp; omega), if_neg (by simp; omega)]
                  exact if_neg (fun h' => h (hfr.1 h'))
              have hR := Lib.hid hR
              refine Calls.mono (sum_at _ _ _ [cutF zs i (p - i), cutF zs (p + 4) N] rfl _ _ (parts_two_at rfl hlx hly hp (by first | exact hq | exact none0 hly (by omega)) (Nat.le_refl _) (by omega) (by omega)) (by
                intro r hr
                rcases List.mem_cons.1 hr with rfl | hr
                · exact ⟨hbx, by omega⟩
                · rcases List.mem_cons.1 hr with rfl | hr
                  · exact ⟨hby', by omega⟩
                  · cases hr) (by simp)) ?_
              rintro e w2 ⟨rfl, rfl⟩
              have hq2 : ∀ o : Obj, Ns .u8 (w.alloc o) w.heap.size (some ⟨b, off + (p + 4), none⟩) (cutF zs (p + 4) N) := fun o => hq.alloc (Nat.le_refl _) o
              rw [show [cutF zs i (p - i), cutF zs (p + 4) N].flatten = cutF zs i (p - i) ++ cutF zs (p + 4) N by simp]
              obtain ⟨S, hS⟩ : ∃ S, sumF (cutF zs i (p - i) ++ cutF zs (p + 4) N) = S := ⟨_, rfl⟩
              rw [hS] at hR ⊢
              obtain ⟨Y, hY⟩ : ∃ Y, cutF zs (p + 4) N = Y := ⟨_, rfl⟩
              rw [hY] at hR hly
              simp only [hY] at hq2
              have hR := Lib.hid hR.out
              have HB : ∀ o : Obj, Below w.heap.size w (w.alloc o) := fun o => (Below.refl w.heap.size w).alloc (Nat.le_refl _) o
              clear hS hY hF hfr hby hp hq hlx hbx hby' hH H1 hst
              by_cases hSa : S = a
              · subst hSa
                have hR2 := Lib.hid (hR.out.1 rfl)
                clear hR
                go_wp2_with fail
                refine Calls.mono (clone_any _ _ _ Y hly w.heap.size _ (by simp) (by first | exact hq2 _ | exact none0 hly (by omega)) (by omega)) ?_
                rintro e w3 ⟨A3, c3, rfl, o3, b3⟩
                go_wp2
                go_ret3
                rw [hR2.out]
                exact nexts_some (q := p + 4 + N) (v := (p : Int) + 4 + N) hly (by omega) (own_base o3 (by simp)) ((HB _).trans (b3.mono (by simp)))
              · have hR2 := Lib.hid (hR.out.2 hSa)
                have hne : (S == a) = false := by simpa using hSa
                clear hR
                go_wp2
                go_ret3
                rw [hR2.out]
                exact nexts_none _ _ _ _ (HB _) _ rfl
  · have hR : nextF zs i = ([], 0, f) := by
      unfold nextF
      rw [hF, if_pos he]
    rw [hR]
    obtain ⟨rfl, rfl⟩ := numF_err hF he
    have hb : (f == 0) = false := by simpa using he
    have H1 := Lib.hid h1
    clear h1 hR hfr hF hby hr hok he
    go_enter Try.func14, Try.ntmps14
    go_wp2_with fail
    refine H1.out.mono ?_
    rintro e w1 ⟨rfl, rfl⟩
    go_wp2
    go_ret3
    exact nexts_none _ _ _ _ (Below.refl _ _) _ rfl
end Frm
end Go.Proofs.Ytgiojcjnljmaiaa
