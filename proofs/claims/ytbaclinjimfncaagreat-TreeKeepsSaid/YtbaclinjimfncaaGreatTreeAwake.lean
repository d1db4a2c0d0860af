/-
  firthlaw11.awake.
-/
import Derived.Test.YtbaclinjimfncaaGreatTreeLaw
import Derived.Test.YtbaclinjimfncaaGreatRow
import Derived.Deep.RegionHeld3
import Derived.Deep.DrawnRows
namespace Go.Proofs.YtbaclinjimfncaaGreat
namespace Tree
open Go.RowKit Vers Num Ring Disk Blk
open Go.Proofs.YtbaclinjimfncaaGreat.Code hiding Bn
attribute [local go_sem ↓] Go.wp_at_zero Go.wp_at_succ
def kk : Nm := ⟨#[107]⟩
def kv : Vr := ⟨1, 1, [], false, ⟨#[]⟩⟩
theorem aw1 : hashF [] [] = 0 := by decide
theorem aw2 : (kidsF [] []).length = 16 := by decide
theorem aw3 : okR (kk, [kv]) := by decide
theorem aw4 : withR [] (kk, [kv]) = [(kk, [kv])] := by decide
set_option maxRecDepth 100000 in
theorem aw5 : diffF (kidsF [(kk, [kv])] []) [] = [dig0 kk] := by decide +kernel
set_option maxRecDepth 100000 in
theorem aw6 : hashF [(kk, [kv])] [] ≠ 0 := by decide +kernel
set_option maxRecDepth 100000 in
theorem aw7 : (recsF [(kk, [kv])] [dig0 kk, dig1 kk]).length = 1 := by decide +kernel
theorem vs_k (w : World) : Vs (w.alloc (.cells #[.int .i64 1, .int .i64 1, .slice none 0 0, .bool false, .string ⟨#[]⟩] 58)) 0 (w.heap.size + 1) (some ⟨w.heap.size, 0, none⟩) [kv] := fun _ => by
  have h1 := World.alloc_heap_new w (.cells #[.int .i64 1, .int .i64 1, .slice none 0 0, .bool false, .string ⟨#[]⟩] 58)
  refine ⟨w.heap.size, 0, rfl, Nat.zero_le _, by omega, fun j hj => ?_⟩
  have hj0 : j = 0 := by simp at hj; omega
  subst hj0
  refine ⟨none, 0, ?_, ?_, ?_, ?_, ?_, fun h => by simp [kv, v0] at h, by simp [kv], by simp [kv], by simp [kv, ByteArray.size], fun h => by simp [kv] at h⟩
  all_goals (unfold World.cell?; rw [h1]; rfl)
set_option maxRecDepth 100000 in
set_option maxHeartbeats 4000000 in
theorem awake_any (w : World) : Calls Tryz.prog 9 #[] w (fun e w' => e = .returned (.bool true) ∧ Below w.heap.size w w') := by
  have H0 := Lib.hid (on_new (Below.refl w.heap.size w) none 0 0 [] rfl (by omega) rs_nil (by simp))
  go_enter Tryz.func9, Tryz.ntmps9
  go_wp2_with fail
  refine H0.out.mono ?_
  rintro e1 w1 ⟨tb, rfl, h1⟩
  obtain ⟨F1, o1, _, _⟩ := h1.out
  have H1 := Lib.hid (o1.hash (by simp [layF]) none 0 0 [] rfl (by omega) ns_nil)
  clear h1 H0 o1
  unfold hd at H1 ⊢
  rw [show layF [] = [] from rfl, aw1] at H1
  go_wp2_with fail
  refine H1.out.mono ?_
  rintro e2 w2 ⟨rfl, h2⟩
  have H2 := Lib.hid (h2.out.1.kids (by simp) none 0 0 [] rfl (by omega) ns_nil)
  clear h2 H1
  unfold hd at H2
  go_wp2_with fail
  refine H2.out.mono ?_
  rintro e3 w3 ⟨A3, m3, c3, rfl, h3⟩
  have O3 := Lib.hid h3.out.2.2.2.2.1
  obtain rfl : 16 = m3 := by rw [← h3.out.1]; exact aw2.symm
  clear h3 H2
  obtain ⟨U, hU⟩ : ∃ U, w3.alloc (.cells #[.int .i64 1, .int .i64 1, .slice none 0 0, .bool false, .string ⟨#[]⟩] 58) = U := ⟨_, rfl⟩
  have hbU : Below w3.heap.size w3 U := by rw [← hU]; exact (Below.refl _ w3).alloc (Nat.le_refl _) _
  have hUs : U.heap.size = w3.heap.size + 1 := by rw [← hU]; simp
  have H3 := Lib.hid ((O3.out.below hbU).set (by simp) kk (some ⟨w3.heap.size, 0, none⟩) 1 1 [kv] rfl (by rw [hUs, ← hU]; exact vs_k w3) aw3)
  rw [aw4] at H3
  unfold hd kk at H3
  clear hbU hUs
  go_wp2_with fail
  refine H3.out.mono ?_
  rintro e4 w4 ⟨rfl, h4⟩
  obtain ⟨F4, o4, s4⟩ := h4.out
  have H4 := Lib.hid (o4.kids (by simp) none 0 0 [] rfl (by omega) ns_nil)
  unfold hd at H4
  clear hU h4 H3 o4 s4 O3
  go_wp2_with fail
  refine H4.out.mono ?_
  rintro e5 w5 ⟨A5, m5, c5, rfl, h5⟩
  have H5 := Lib.hid (differ_any A5 none c5 0 m5 0 _ [] h5.out.1 rfl w5 h5.out.2.2.1 ns_nil)
  have O5 := Lib.hid h5.out.2.2.2.2.1
  rw [show diffF (kidsF [((⟨#[107]⟩ : Nm), [kv])] []) [] = [dig0 kk] from aw5] at H5
  clear h5 H4
  go_wp2_with fail
  refine H5.out.mono ?_
  rintro e6 w6 ⟨A6, m6, c6, rfl, h6, b6⟩
  obtain rfl : 1 = m6 := h6.out.1
  have H6 := Lib.hid (place_any kk w6 (by simp [kk, ByteArray.size]))
  obtain ⟨b6', hA6, hg6, hl6, _⟩ := own_rw (zs := [dig0 kk]) h6.out.2.2 (by simp)
  obtain ⟨b6'', f6, hbf6, _, c6'⟩ := own_ns (zs := [dig0 kk]) h6.out.2.2 (by simp)
  rw [hA6] at hbf6
  injection hbf6 with hbf6
  injection hbf6 with hq6 hf6
  subst hq6 hf6 hA6
  have hne6 : b6' ≠ tb := by have := O5.out.lt O5.out.own; omega
  have c60 := c6' 0 (by simp)
  have O6 := Lib.hid (O5.out.below b6)
  unfold kk at H6
  rw [Nat.add_zero] at c60
  simp only [List.getD_cons_zero] at c60
  have HB6 := Lib.hid hl6
  clear h6 b6 H5 c6' O5 hl6
  go_wp2_with fail
  refine H6.out.mono ?_
  rintro e7 w7 ⟨g7, rfl, h7, b7⟩
  obtain ⟨b7', f7, hbf, hl7, c7'⟩ := h7.out.1 (by simp)
  injection hbf with hbf
  injection hbf with hb7 hf7
  subst hb7 hf7
  have c70 := c7' 0 (by simp)
  simp only [List.getD_cons_zero, Nat.add_zero] at c70
  have c60 := (b7.cell HB6.out).trans c60
  obtain ⟨dg, hdg⟩ : ∃ d, dig0 kk = d := ⟨_, rfl⟩
  rw [show dig0 (⟨#[107]⟩ : Nm) = dg from hdg] at c70
  rw [hdg] at c60
  have H7 := Lib.hid h7.out.1
  have O7 := Lib.hid (O6.out.below b7)
  have hne7 : g7 ≠ tb := by have := O6.out.lt O6.out.own; have := h7.out.2; omega
  have l6 : b6' < w7.heap.size := Nat.lt_of_lt_of_le HB6.out b7.size
  have l7 : g7 < w7.heap.size := hl7
  have h69 : hashF [((⟨#[107]⟩ : Nm), [kv])] [] ≠ 0 := aw6
  obtain ⟨hh, hhh⟩ : ∃ x, hashF [((⟨#[107]⟩ : Nm), [kv])] [] = x := ⟨_, rfl⟩
  rw [hhh] at h69
  have e9 : (hh != 0) = true := by simp [h69]
  have HP : Hid (Calls Tryz.prog 11 #[.pointer (some ⟨tb, 0, none⟩), .slice none 0 0] w7.drew (fun e w8 => e = .returned (.int .u64 hh) ∧ w8.cell? ⟨b6', 0, none⟩ = some (.int .i64 dg) ∧ w8.cell? ⟨g7, 0, none⟩ = some (.int .i64 dg) ∧ Hid (Calls Tryz.prog 17 #[.pointer (some ⟨tb, 0, none⟩), .slice (some ⟨g7, 0, none⟩) 2 2] w8 (fun e w9 => ∃ A c, e = .returned (.slice A 1 c) ∧ w9.cell? ⟨b6', 0, none⟩ = some (.int .i64 dg) ∧ w9.cell? ⟨g7, 0, none⟩ = some (.int .i64 dg) ∧ Below w.heap.size w w9)))) := Lib.hid (by
    refine ((O7.out.below (V' := w7.drew) ⟨rfl, rfl, rfl, Nat.le_refl _, fun _ _ => rfl⟩).hash (by simp) none 0 0 [] rfl (by omega) ns_nil).mono ?_
    rintro e w8 ⟨rfl, h8⟩
    have hc8 := h8.out.2
    refine ⟨by rw [← hhh], (World.cell?_of_block (hc8.block _ l6 hne6)).trans c60, (World.cell?_of_block (hc8.block _ l7 hne7)).trans c70, Lib.hid ?_⟩
    have hns : Ns .i64 w8 w8.heap.size (some ⟨g7, 0, none⟩) [dig0 kk, dig1 kk] := fun h0 => by
      obtain ⟨b, o, hb, hl, hcc⟩ := H7.out h0
      injection hb with hb
      injection hb with hb ho
      subst hb ho
      exact ⟨g7, 0, rfl, Nat.lt_of_lt_of_le hl hc8.size, fun j hj => (World.cell?_of_block (hc8.block _ l7 hne7)).trans (hcc j hj)⟩
    refine (h8.out.1.recs (by simp) (some ⟨g7, 0, none⟩) 2 2 _ rfl (by omega) hns).mono ?_
    rintro e w9 ⟨A, n, c, ps, rfl, h9⟩
    have hn : n = 1 := h9.out.2.1.trans aw7
    subst hn
    have b9 := h9.out.2.2.2.2.2
    exact ⟨A, c, rfl, (World.cell?_of_block (b9.block _ (Nat.lt_of_lt_of_le l6 hc8.size))).trans ((World.cell?_of_block (hc8.block _ l6 hne6)).trans c60), (World.cell?_of_block (b9.block _ (Nat.lt_of_lt_of_le l7 hc8.size))).trans ((World.cell?_of_block (hc8.block _ l7 hne7)).trans c70), h9.out.2.2.2.2.1.old⟩)
  clear h7 b7 O6 c7' hl7 O7 H7 hne6 hne7 l6 l7 h69
  go_wp2_with fail
  go_region_held3 (fun V => V.cell? ⟨b6', 0, none⟩ = some (.int .i64 dg) ∧ V.cell? ⟨g7, 0, none⟩ = some (.int .i64 dg))
    (first | exact ⟨c60, c70⟩ | (refine ⟨?_, ?_⟩ <;> assumption))
    (first
      | (go_at_call 11; refine HP.out.mono ?_; rintro e w8 ⟨rfl, q0, q1, HH⟩)
      | (go_at_call 17; refine HH.out.mono ?_; rintro e w9 ⟨A9, c9, rfl, z0, z1, b9⟩))
  all_goals
    go_wp2_with fail
    go_ret
    exact ⟨rfl, b9⟩
end Tree
end Go.Proofs.YtbaclinjimfncaaGreat
