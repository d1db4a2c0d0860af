/-
  firthref06: numbers, spans and sets as bytes.
-/
import Derived.Test.YtjifklojbbocfaaCodeWrSet
namespace Go.Proofs.Ytjifklojbbocfaa
namespace Code
open Go.RowKit Num Span
attribute [local go_sem ↓] Go.wp_at_zero Go.wp_at_succ

/-- The slice of the bytes L, made at or behind base; nothing below base has turned. -/
def GotB (base : Nat) (L : List Int) (w : World) (e : Ending) (w' : World) : Prop :=
  ∃ A c, e = .returned (.slice A L.length c) ∧ w'.ownsRow base 5 1 (.slice A L.length c) L.length (nums .u8 L) ∧ Below base w w'

theorem Ns.far {k : IntKind} {w w' : World} {B : Nat} {A : Option Addr} {zs : List Int} {row : Option Nat} (h : Ns k w B A zs) (hg : w.grownBy w' row) (hB : B ≤ w.heap.size) (hf : 0 < zs.length → ∀ a, A = some a → some a.block ≠ row) : Ns k w' B A zs := fun hp => by
  obtain ⟨b, off, e, hb, hc⟩ := h hp
  have hne := hf hp _ e
  exact ⟨b, off, e, hb, fun j hj => (World.cell?_of_block (hg.block b (by omega) hne)).trans (hc j hj)⟩
/-- The numbers stand in another block than the row v. -/
def Apart (A : Option Addr) (m : Nat) (v : Value) : Prop := 0 < m → ∀ a, A = some a → some a.block ≠ v.ownBlock

set_option maxRecDepth 100000 in
theorem ref_nums_any (base : Nat) (L : List Int) (A : Option Addr) (c n : Nat) (hn : L.length = n) (B : Nat) (A' : Option Addr) (c' m : Nat) (zs : List Int) (hm : zs.length = m) (hz : ∀ z ∈ zs, 0 ≤ z ∧ z ≤ 9223372036854775807) (w : World)
    (ho : w.ownsRow base 5 1 (.slice A n c) n (nums .u8 L)) (hb : base ≤ w.heap.size) (hr : Ns .i64 w B A' zs) (hfar : Apart A' m (.slice A n c)) (hB : B ≤ w.heap.size) (hbig : n + m * 9 ≤ 70368744177600) :
    Calls Try.prog 46 #[.slice A n c, .slice A' m c'] w (GotB base (L ++ zs.flatMap putL) w) := by
  obtain ⟨i0, hi0, hz0, hz1, hz2⟩ := info_parts Facts.info5
  have HS := Lib.hid (And.intro ho (And.intro hr (And.intro hz (And.intro hm (And.intro hn hfar)))))
  clear ho hr hz hm hn hfar
  go_enter Try.func46, Try.ntmps46
  go_wp2_with fail
  go_loopw [0, 5] (fun v q wr => ∃ k : Nat, q = .int .i64 k ∧ k ≤ m ∧ wr.ownsRow base 5 1 v (L ++ (zs.take k).flatMap putL).length (nums .u8 (L ++ (zs.take k).flatMap putL)) ∧ Below base w wr ∧ w.heap.size ≤ wr.heap.size ∧ Ns .i64 wr B A' zs ∧ Apart A' m v) (fun _ q _ => m - (intOf q).toNat)
  case atStart =>
    exact ⟨0, rfl, by omega, by rw [List.take_zero, List.flatMap_nil, List.append_nil, HS.out.2.2.2.2.1]; exact HS.out.1, Below.refl _ _, Nat.le_refl _, HS.out.2.1, HS.out.2.2.2.2.2⟩
  case round =>
    obtain ⟨k, rfl, hk, hown, hbl, hsz, hns, hap⟩ := hrel
    have hml := HS.out.2.2.2.1
    have hfl : ((zs.take k).flatMap putL).length ≤ k * 9 := by
      have h1 := flat_le (l := zs.take k) (enc := putL) (m := 9) (fun x _ => (putL_len x).2)
      rw [List.length_take] at h1
      have h2 : min k zs.length * 9 ≤ k * 9 := Nat.mul_le_mul_right _ (by omega)
      omega
    obtain ⟨T, hT⟩ : ∃ T, (zs.take k).flatMap putL = T := ⟨_, rfl⟩
    rw [hT] at hown hfl
    have hLn := HS.out.2.2.2.2.1
    by_cases hlt : k < m
    · obtain ⟨b, off, rfl, hbb, hc⟩ := hns (by omega)
      have hck := hc k (by omega)
      have hft := flat_take (enc := putL) (d := (0 : Int)) (show k < zs.length by omega)
      rw [hT] at hft
      have hx : 0 ≤ zs.getD k 0 ∧ zs.getD k 0 ≤ 9223372036854775807 := by
        rw [List.getD_eq_getElem?_getD, List.getElem?_eq_getElem (by omega), Option.getD_some]
        exact HS.out.2.2.1 _ (List.getElem_mem _)
      obtain ⟨x, hxx⟩ : ∃ x, zs.getD k 0 = x := ⟨_, rfl⟩
      rw [hxx] at hck hft hx
      have h1 := ref_putnum_pos x hx wr
      obtain ⟨l1, l9⟩ := putL_len x
      obtain ⟨X, hX⟩ : ∃ X, putL x = X := ⟨_, rfl⟩
      rw [hX] at h1 hft l1 l9
      have hll : (L ++ T).length = n + T.length := by rw [List.length_append, hLn]
      obtain ⟨N, hN⟩ : ∃ N, (L ++ T).length = N := ⟨_, rfl⟩
      rw [hN] at hown hll
      have d1 : (0 : Int) ≤ (k : Int) := by omega
      have d2 : (k : Int) < (m : Int) := by omega
      have H1 := Lib.hid h1
      have HT := Lib.hid (And.intro hft (And.intro hown (And.intro hns (And.intro hap (And.intro hN hbl)))))
      clear h1 hft hown hns hap hc hX hxx hx hLn hN hml hT hbl
      go_wp2_with fail
      refine H1.out.mono ?_
      rintro e w2 ⟨A2, c2, rfl, o2, b2⟩
      have hs2 := b2.size
      have hown2 := own_below HT.out.2.1 b2 (Nat.le_refl _)
      have hX2 := own_ns o2
      have HO := Lib.hid (And.intro hown2 b2)
      clear hown2 o2 b2 H1
      go_wp2_with (at_builtin; refine wpList_append_ns _ rfl _ _ 25 rfl base 5 i0 (.int .u8 0) 1 Try.underlying25 hi0 hz0 hz1 hz2 rfl _ N (nums .u8 (L ++ T)) rfl HO.out.1 .u8 w2.heap.size A2 X.length c2 X rfl rfl hX2 (by omega) (by omega) (by omega) ?_; intro v3 w3 o3 g3 at3)
      have hb3 : Below base w w3 := (HT.out.2.2.2.2.2.trans (HO.out.2.mono (by omega))).grown g3 (by omega) (fun j hj => (HO.out.1.lt j hj).1)
      have hns3 := Ns.far (HT.out.2.2.1.below (HO.out.2.mono (by omega))) g3 (by omega) (by rw [HS.out.2.2.2.1]; exact HT.out.2.2.2.1)
      have hap3 : Apart (some ⟨b, off, none⟩) m v3 := fun hp a ha e => by
        rcases at3 with h | h
        · exact HT.out.2.2.2.1 hp a ha (e.trans h)
        · injection ha with ha
          subst ha
          rw [h] at e
          injection e with e
          simp only at e
          omega
      have ho3 : w3.ownsRow base 5 1 v3 (L ++ (zs.take (k + 1)).flatMap putL).length (nums .u8 (L ++ (zs.take (k + 1)).flatMap putL)) := by
        rw [HT.out.1, ← List.append_assoc, List.length_append, HT.out.2.2.2.2.1]
        simpa [nums] using o3
      have hs3 := g3.size
      have HE := Lib.hid (And.intro ho3 (And.intro hb3 (And.intro hns3 hap3)))
      clear ho3 hb3 hns3 hap3 o3 g3 at3 hX2
      go_wp2_with fail
      go_roundw
      case rel => exact ⟨k + 1, rfl, by omega, HE.out.1, HE.out.2.1, by omega, HE.out.2.2.1, HE.out.2.2.2⟩
      case measure => simp only [intOf]; omega
    · have hkm : k = m := by omega
      subst hkm
      rw [List.take_of_length_le (by omega)] at hT
      obtain ⟨A3, c3, rfl⟩ := own_form hown
      have HE := Lib.hid (And.intro hown (And.intro hbl hT))
      clear hown hbl hns hap hT hLn hml
      go_wp2_with fail
      go_ret
      rw [HE.out.2.2]
      exact ⟨A3, c3, rfl, HE.out.1, HE.out.2.1⟩
theorem ns_lit1 (w : World) (e : TypeId) (x : Int) : Ns .i64 (w.alloc (.cells #[.int .i64 x] e)) (w.heap.size + 1) (some ⟨w.heap.size, 0, none⟩) [x] := fun _ =>
  ⟨w.heap.size, 0, rfl, by omega, fun j hj => by
    match j, hj with
    | 0, _ => simp⟩
theorem ns_lit3 (w : World) (e : TypeId) (x y z : Int) : Ns .i64 (w.alloc (.cells #[.int .i64 x, .int .i64 y, .int .i64 z] e)) (w.heap.size + 1) (some ⟨w.heap.size, 0, none⟩) [x, y, z] := fun _ =>
  ⟨w.heap.size, 0, rfl, by omega, fun j hj => by
    match j, hj with
    | 0, _ => simp
    | 1, _ => simp
    | 2, _ => simp⟩
theorem apart_new {w : World} {base n : Nat} {e : TypeId} {size : Nat} {v : Value} {xs : List Value} (h : w.ownsRow base e size v n xs) (m : Nat) : Apart (some ⟨w.heap.size, 0, none⟩) m v := fun _ a ha e => by
  injection ha with ha
  subst ha
  have := (h.lt _ e.symm).2
  simp only at this
  omega
theorem spL_nums (x : Sp) : [x.1, x.2.1, x.2.2 - x.2.1].flatMap putL = spL x := by
  unfold spL
  simp

set_option maxRecDepth 100000 in
theorem ref_spans_any (base : Nat) (L : List Int) (A : Option Addr) (c n : Nat) (hn : L.length = n) (B : Nat) (A' : Option Addr) (c' m : Nat) (l : List Sp) (hm : l.length = m) (hl : ∀ x ∈ l, okSp x) (w : World)
    (ho : w.ownsRow base 5 1 (.slice A n c) n (nums .u8 L)) (hb : base ≤ w.heap.size) (hr : Ss w B A' l) (hB : B ≤ base) (hbig : n + 9 + m * 27 ≤ 70368744170000) :
    Calls Try.prog 38 #[.slice A n c, .slice A' m c'] w (GotB base (L ++ setL l) w) := by
  have h1 := ref_nums_any base L A c n hn (w.heap.size + 1) (some ⟨w.heap.size, 0, none⟩) 1 1 [(m : Int)] rfl (by intro z hz; simp at hz; omega) (w.alloc (.cells #[.int .i64 m] 2)) (ho.alloc _) (by simp; omega) (ns_lit1 _ _ _) (apart_new ho 1) (by simp) (by omega)
  rw [show [(m : Int)].flatMap putL = putL (m : Int) by simp] at h1
  have l1 := putL_len (m : Int)
  have H1 := Lib.hid h1
  have HS := Lib.hid (And.intro hr (And.intro hl (And.intro hm hn)))
  clear h1 ho hr hl hm hn
  go_enter Try.func38, Try.ntmps38
  go_wp2_with fail
  refine H1.out.mono ?_
  rintro e w1 ⟨A1, c1, rfl, o1, b1⟩
  have b1' : Below base w w1 := ((Below.refl _ w).alloc hb _).trans b1
  have HX := Lib.hid (And.intro o1 b1')
  clear o1 b1 b1' H1
  go_wp2_with fail
  go_loopw [0, 5] (fun v q wr => ∃ (k : Nat) (A2 : Option Addr) (c2 : Nat), q = .int .i64 k ∧ k ≤ m ∧ v = .slice A2 (L ++ putL (m : Int) ++ (l.take k).flatMap spL).length c2 ∧ wr.ownsRow base 5 1 (.slice A2 (L ++ putL (m : Int) ++ (l.take k).flatMap spL).length c2) (L ++ putL (m : Int) ++ (l.take k).flatMap spL).length (nums .u8 (L ++ putL (m : Int) ++ (l.take k).flatMap spL)) ∧ Below base w wr) (fun _ q _ => m - (intOf q).toNat)
  case atStart => exact ⟨0, A1, c1, rfl, by omega, by simp, by simpa using HX.out.1, HX.out.2⟩
  case round =>
    obtain ⟨k, A2, c2, rfl, hk, rfl, hown, hbl⟩ := hrel
    have hml := HS.out.2.2.1
    have hLn := HS.out.2.2.2
    have hfl : ((l.take k).flatMap spL).length ≤ m * 27 := by
      have h1 := flat_le (l := l.take k) (enc := spL) (m := 27) (fun x _ => (spL_len x).2)
      rw [List.length_take] at h1
      have h2 : min k l.length * 27 ≤ m * 27 := Nat.mul_le_mul_right _ (by omega)
      omega
    have hsz := hbl.size
    by_cases hlt : k < m
    · obtain ⟨b, off, rfl, hbb, hc⟩ := (HS.out.1.below (hbl.mono hB)) (by omega)
      obtain ⟨q0, q1, q2⟩ := hc k (by omega)
      have hft := flat_take (enc := spL) (d := ((0, 0, 0) : Sp)) (show k < l.length by omega)
      have hx : okSp (l.getD k (0, 0, 0)) := by
        rw [List.getD_eq_getElem?_getD, List.getElem?_eq_getElem (by omega), Option.getD_some]
        exact HS.out.2.1 _ (List.getElem_mem _)
      obtain ⟨x, hxx⟩ : ∃ x, l.getD k (0, 0, 0) = x := ⟨_, rfl⟩
      rw [hxx] at q0 q1 q2 hft hx
      obtain ⟨s, f, t⟩ := x
      unfold okSp at hx
      simp only at q0 q1 q2 hx
      obtain ⟨T, hT⟩ : ∃ T, L ++ putL (m : Int) ++ (l.take k).flatMap spL = T := ⟨_, rfl⟩
      have hTl : T.length ≤ n + 9 + m * 27 := by rw [← hT]; simp only [List.length_append]; omega
      rw [hT] at hown ⊢
      obtain ⟨N, hN⟩ : ∃ N, T.length = N := ⟨_, rfl⟩
      rw [hN] at hown hTl ⊢
      have h2 : ∀ V, V = (wr.alloc (.cells #[.int .i64 s, .int .i64 f, .int .i64 (t - f)] 2)).drew → Calls Try.prog 46 #[.slice A2 N c2, .slice (some ⟨wr.heap.size, 0, none⟩) 3 3] V (GotB base (T ++ spL (s, f, t)) V) := fun V hV => by
        subst hV
        have h3 := ref_nums_any base T A2 c2 N hN (wr.heap.size + 1) (some ⟨wr.heap.size, 0, none⟩) 3 3 [s, f, t - f] rfl (by intro z hz; simp at hz; omega) (wr.alloc (.cells #[.int .i64 s, .int .i64 f, .int .i64 (t - f)] 2)).drew (hown.alloc _) (by simp; omega) (ns_lit3 _ _ _ _ _) (apart_new hown 3) (by simp) (by omega)
        rwa [show [s, f, t - f].flatMap putL = spL (s, f, t) from spL_nums (s, f, t)] at h3
      have d1 : (0 : Int) ≤ (k : Int) := by omega
      have d2 : (k : Int) < (m : Int) := by omega
      have hbw : b < base := by omega
      have hbz : b < wr.heap.size := by omega
      have hsub : IntKind.i64.wrap (t - f) = t - f := Go.IntWalk.i64_in _ (by omega)
      have H2 := Lib.hid h2
      have HT := Lib.hid (And.intro hft (And.intro hT (And.intro hbl hx)))
      clear h2 hft hT hbl hc hown hxx hx hLn hml
      go_wp2_with fail
      go_region_held3 (fun V => V.cell? ⟨b, off + k * 3, none⟩ = some (.int .i64 s) ∧ V.cell? ⟨b, off + k * 3 + 1, none⟩ = some (.int .i64 f) ∧ V.cell? ⟨b, off + k * 3 + 2, none⟩ = some (.int .i64 t))
        (first
          | exact ⟨q0, q1, q2⟩
          | exact ⟨(World.cell?_alloc_lt wr _ _ hbz).trans q0, (World.cell?_alloc_lt wr _ _ hbz).trans q1, (World.cell?_alloc_lt wr _ _ hbz).trans q2⟩
          | exact ⟨(b3.cell hbw).trans ((World.cell?_alloc_lt wr _ _ hbz).trans q0), (b3.cell hbw).trans ((World.cell?_alloc_lt wr _ _ hbz).trans q1), (b3.cell hbw).trans ((World.cell?_alloc_lt wr _ _ hbz).trans q2)⟩)
        (first | (go_at_call 46; refine (H2.out _ (by rfl)).mono ?_; rintro e w3 ⟨A3, c3, rfl, o3, b3⟩))
      all_goals
        have ho3 : w3.ownsRow base 5 1 (.slice A3 (L ++ putL (m : Int) ++ (l.take (k + 1)).flatMap spL).length c3) (L ++ putL (m : Int) ++ (l.take (k + 1)).flatMap spL).length (nums .u8 (L ++ putL (m : Int) ++ (l.take (k + 1)).flatMap spL)) := by
          rw [HT.out.1, ← List.append_assoc, HT.out.2.1]
          exact o3
        have hv3 : (T ++ spL (s, f, t)).length = (L ++ putL (m : Int) ++ (l.take (k + 1)).flatMap spL).length := by rw [HT.out.1, ← List.append_assoc, HT.out.2.1]
        have hb3 : Below base w w3 := HT.out.2.2.1.trans (((Below.refl _ wr).alloc (by omega) (.cells #[.int .i64 s, .int .i64 f, .int .i64 (t - f)] 2)).drew.trans b3)
        have HE := Lib.hid (And.intro ho3 (And.intro hb3 hv3))
        clear ho3 hb3 hv3 o3 b3
        go_wp2_with fail
        exact ⟨⟨k + 1, A3, c3, rfl, by omega, by rw [← HE.out.2.2, List.length_append, hN], HE.out.1, HE.out.2.1⟩, by simp only [intOf]; omega⟩
    · have hkm : k = m := by omega
      subst hkm
      have hE : L ++ putL (k : Int) ++ (l.take k).flatMap spL = L ++ setL l := by
        rw [List.take_of_length_le (by omega), List.append_assoc]
        unfold setL seqL
        rw [hml]
      rw [hE] at hown ⊢
      have HE := Lib.hid (And.intro hown hbl)
      clear hown hbl hE hml hLn
      go_wp2_with fail
      go_ret
      exact ⟨A2, c2, rfl, HE.out.1, HE.out.2⟩

set_option maxRecDepth 100000 in
theorem ref_putset_any (A : Option Addr) (c m : Nat) (l : List Sp) (hm : l.length = m) (hl : ∀ x ∈ l, okSp x) (w : World) (hr : Ss w w.heap.size A l) (hbig : m ≤ 1000000000) :
    Calls Try.prog 24 #[.slice A m c] w (GotB w.heap.size (setL l) w) := by
  have h1 := ref_spans_any w.heap.size [] none 0 0 rfl w.heap.size A c m l hm hl w (World.ownsRow_nil _ _ _ _) (Nat.le_refl _) hr (Nat.le_refl _) (by omega)
  rw [List.nil_append] at h1
  have H1 := Lib.hid h1
  clear h1 hr hl hm
  go_enter Try.func24, Try.ntmps24
  go_wp2_with fail
  refine H1.out.mono ?_
  rintro e w1 ⟨A1, c1, rfl, o1, b1⟩
  have HE := Lib.hid (And.intro o1 b1)
  clear o1 b1
  go_wp2_with fail
  go_ret
  exact ⟨A1, c1, rfl, HE.out.1, HE.out.2⟩
end Code
end Go.Proofs.Ytjifklojbbocfaa
