/-
  firthref06: numbers, spans, records and messages as bytes, written behind a row that is there; what else there is stays.
-/
import Derived.Test.YtegiigeelcnemaaGreatGCodeB
import Derived.Test.YtegiigeelcnemaaGreatCodeRefRight
import Derived.Test.YtegiigeelcnemaaGreatCodeAt
import Derived.Test.YtegiigeelcnemaaGreatGNumB
namespace Go.Proofs.YtegiigeelcnemaaGreat
namespace Code
open Go.RowKit Num Span Vers
attribute [local go_sem ↓] Go.wp_at_zero Go.wp_at_succ

/-- From w to w' nothing turned of what was there, but the row v, which is now the row v'. -/
def Kq (v : Value) (w : World) (v' : Value) (w' : World) : Prop :=
  w'.os = w.os ∧ w'.tape = w.tape ∧ w'.output = w.output ∧ w.heap.size ≤ w'.heap.size ∧ ∀ j, j < w.heap.size → some j ≠ v.ownBlock → w'.heap[j]? = w.heap[j]? ∧ some j ≠ v'.ownBlock
section
variable {v v' v'' : Value} {w w' w'' : World} {base : Nat}
theorem Kq.refl (v : Value) (w : World) : Kq v w v w := ⟨rfl, rfl, rfl, Nat.le_refl _, fun _ _ h => ⟨rfl, h⟩⟩
theorem Kq.trans (h : Kq v w v' w') (k : Kq v' w' v'' w'') : Kq v w v'' w'' :=
  ⟨k.1.trans h.1, k.2.1.trans h.2.1, k.2.2.1.trans h.2.2.1, Nat.le_trans h.2.2.2.1 k.2.2.2.1, fun j hj hv => by
    obtain ⟨a, b⟩ := h.2.2.2.2 j hj hv
    obtain ⟨c, d⟩ := k.2.2.2.2 j (Nat.lt_of_lt_of_le hj h.2.2.2.1) b
    exact ⟨c.trans a, d⟩⟩
theorem Kq.of_below (hb : Below w.heap.size w w') : Kq v w v w' := ⟨hb.os, hb.tape, hb.output, hb.size, fun j hj hv => ⟨hb.block j hj, hv⟩⟩
theorem Kq.alloc (v : Value) (w : World) (o : Obj) : Kq v w v (w.alloc o) := Kq.of_below ((Below.refl _ w).alloc (Nat.le_refl _) o)
theorem Kq.drew (h : Kq v w v' w') : Kq v w v' w'.drew := h
theorem Kq.grown (h : w.grownBy w' v.ownBlock) (hat : v'.ownBlock = v.ownBlock ∨ v'.ownBlock = some w.heap.size) : Kq v w v' w' :=
  ⟨h.os, h.tape, h.output, h.size, fun j hj hv => ⟨h.block j hj hv, fun e => by
    rcases hat with h | h
    · exact hv (e.trans h)
    · rw [h] at e
      injection e with e
      omega⟩⟩
theorem Kq.below {e : TypeId} {size n : Nat} {xs : List Value} (h : Kq v w v' w') (ho : w.ownsRow base e size v n xs) (hb : base ≤ w.heap.size) : Below base w w' :=
  ⟨h.1, h.2.1, h.2.2.1, h.2.2.2.1, fun j hj => (h.2.2.2.2 j (by omega) (fun e => by have := (ho.lt j e.symm).1; omega)).1⟩
theorem Kq.block (h : Kq v w v' w') {j : Nat} (hj : j < w.heap.size) (hv : some j ≠ v.ownBlock) : w'.heap[j]? = w.heap[j]? ∧ some j ≠ v'.ownBlock := h.2.2.2.2 j hj hv
theorem Kq.size (h : Kq v w v' w') : w.heap.size ≤ w'.heap.size := h.2.2.2.1
end
/-- The slice of the bytes L, made of the row v; what else there was stays. -/
def GotK (base : Nat) (v : Value) (L : List Int) (w : World) (e : Ending) (w' : World) : Prop :=
  ∃ A c, e = .returned (.slice A L.length c) ∧ w'.ownsRow base 5 1 (.slice A L.length c) L.length (nums .u8 L) ∧ Kq v w (.slice A L.length c) w'

set_option maxRecDepth 100000 in
theorem ref_nums_k (base : Nat) (L : List Int) (A : Option Addr) (c n : Nat) (hn : L.length = n) (B : Nat) (A' : Option Addr) (c' m : Nat) (zs : List Int) (hm : zs.length = m) (hz : ∀ z ∈ zs, 0 ≤ z ∧ z ≤ 9223372036854775807) (w : World)
    (ho : w.ownsRow base 5 1 (.slice A n c) n (nums .u8 L)) (hb : base ≤ w.heap.size) (hr : Ns .i64 w B A' zs) (hfar : Apart A' m (.slice A n c)) (hB : B ≤ w.heap.size) (hbig : n + m * 9 ≤ 70368744177600) :
    Calls Tryz.prog 62 #[.slice A n c, .slice A' m c'] w (GotK base (.slice A n c) (L ++ zs.flatMap putL) w) := by
  obtain ⟨i0, hi0, hz0, hz1, hz2⟩ := info_parts Facts.info5
  have HS := Lib.hid (And.intro ho (And.intro hr (And.intro hz (And.intro hm (And.intro hn hfar)))))
  clear ho hr hz hm hn hfar
  go_enter Tryz.func62, Tryz.ntmps62
  go_wp2_with fail
  go_loopw [0, 5] (fun v q wr => ∃ k : Nat, q = .int .i64 k ∧ k ≤ m ∧ wr.ownsRow base 5 1 v (L ++ (zs.take k).flatMap putL).length (nums .u8 (L ++ (zs.take k).flatMap putL)) ∧ Kq (.slice A n c) w v wr ∧ w.heap.size ≤ wr.heap.size ∧ Ns .i64 wr B A' zs ∧ Apart A' m v) (fun _ q _ => m - (intOf q).toNat)
  case atStart =>
    exact ⟨0, rfl, by omega, by rw [List.take_zero, List.flatMap_nil, List.append_nil, HS.out.2.2.2.2.1]; exact HS.out.1, Kq.refl _ _, Nat.le_refl _, HS.out.2.1, HS.out.2.2.2.2.2⟩
  case round =>
    obtain ⟨k, rfl, hk, hown, hbl, hsz, hns, hap⟩ := hrel
    have hml := HS.out.2.2.2.1
    have hfl : ((zs.take k).flatMap putL).length ≤ k * 9 := by
      have h1 := flat_le (l := zs.take k) (enc := putL) (m := 9) (fun x _ => (putL_len x).2)
      rw [List.length_take] at h1
      have h2 : min k zs.length * 9 ≤ k * 9 := Nat.mul_le_mul_right _ (by omega)
      omega
    obtain ⟨T, hT⟩ : ∃ T, (zs.take k).flatMap putL = T := ⟨_, rfl⟩
    rw [hT] at hown hfl
    have hLn := HS.out.2.2.2.2.1
    by_cases hlt : k < m
    · obtain ⟨b, off, rfl, hbb, hc⟩ := hns (by omega)
      have hck := hc k (by omega)
      have hft := flat_take (enc := putL) (d := (0 : Int)) (show k < zs.length by omega)
      rw [hT] at hft
      have hx : 0 ≤ zs.getD k 0 ∧ zs.getD k 0 ≤ 9223372036854775807 := by
        rw [List.getD_eq_getElem?_getD, List.getElem?_eq_getElem (by omega), Option.getD_some]
        exact HS.out.2.2.1 _ (List.getElem_mem _)
      obtain ⟨x, hxx⟩ : ∃ x, zs.getD k 0 = x := ⟨_, rfl⟩
      rw [hxx] at hck hft hx
      have h1 := ref_putnum_pos x hx wr
      obtain ⟨l1, l9⟩ := putL_len x
      obtain ⟨X, hX⟩ : ∃ X, putL x = X := ⟨_, rfl⟩
      rw [hX] at h1 hft l1 l9
      have hll : (L ++ T).length = n + T.length := by rw [List.length_append, hLn]
      obtain ⟨N, hN⟩ : ∃ N, (L ++ T).length = N := ⟨_, rfl⟩
      rw [hN] at hown hll
      have d1 : (0 : Int) ≤ (k : Int) := by omega
      have d2 : (k : Int) < (m : Int) := by omega
      have H1 := Lib.hid h1
      have HT := Lib.hid (And.intro hft (And.intro hown (And.intro hns (And.intro hap (And.intro hN hbl)))))
      clear h1 hft hown hns hap hc hX hxx hx hLn hN hml hT hbl
      go_wp2_with fail
      refine H1.out.mono ?_
      rintro e w2 ⟨A2, c2, rfl, o2, b2⟩
      have hs2 := b2.size
      have hown2 := own_below HT.out.2.1 b2 (Nat.le_refl _)
      have hX2 := own_ns o2
      have HO := Lib.hid (And.intro hown2 b2)
      clear hown2 o2 b2 H1
      go_wp2_with (at_builtin; refine wpList_append_ns _ rfl _ _ 25 rfl base 5 i0 (.int .u8 0) 1 Tryz.underlying25 hi0 hz0 hz1 hz2 rfl _ N (nums .u8 (L ++ T)) rfl HO.out.1 .u8 w2.heap.size A2 X.length c2 X rfl rfl hX2 (by omega) (by omega) (by omega) ?_; intro v3 w3 o3 g3 at3)
      have hb3 : Kq (.slice A n c) w v3 w3 := (HT.out.2.2.2.2.2.trans (Kq.of_below HO.out.2)).trans (Kq.grown g3 at3)
      have hns3 := Ns.far (HT.out.2.2.1.below (HO.out.2.mono (by omega))) g3 (by omega) (by rw [HS.out.2.2.2.1]; exact HT.out.2.2.2.1)
      have hap3 : Apart (some ⟨b, off, none⟩) m v3 := fun hp a ha e => by
        rcases at3 with h | h
        · exact HT.out.2.2.2.1 hp a ha (e.trans h)
        · injection ha with ha
          subst ha
          rw [h] at e
          injection e with e
          simp only at e
          omega
      have ho3 : w3.ownsRow base 5 1 v3 (L ++ (zs.take (k + 1)).flatMap putL).length (nums .u8 (L ++ (zs.take (k + 1)).flatMap putL)) := by
        rw [HT.out.1, ← List.append_assoc, List.length_append, HT.out.2.2.2.2.1]
        simpa [nums] using o3
      have hs3 := g3.size
      have HE := Lib.hid (And.intro ho3 (And.intro hb3 (And.intro hns3 hap3)))
      clear ho3 hb3 hns3 hap3 o3 g3 at3 hX2
      go_wp2_with fail
      go_roundw
      case rel => exact ⟨k + 1, rfl, by omega, HE.out.1, HE.out.2.1, by omega, HE.out.2.2.1, HE.out.2.2.2⟩
      case measure => simp only [intOf]; omega
    · have hkm : k = m := by omega
      subst hkm
      rw [List.take_of_length_le (by omega)] at hT
      obtain ⟨A3, c3, rfl⟩ := own_form hown
      have HE := Lib.hid (And.intro hown (And.intro hbl hT))
      clear hown hbl hns hap hT hLn hml
      go_wp2_with fail
      go_ret
      rw [HE.out.2.2]
      exact ⟨A3, c3, rfl, HE.out.1, HE.out.2.1⟩
set_option maxRecDepth 100000 in
theorem ref_spans_k (base : Nat) (L : List Int) (A : Option Addr) (c n : Nat) (hn : L.length = n) (B : Nat) (A' : Option Addr) (c' m : Nat) (l : List Sp) (hm : l.length = m) (hl : ∀ x ∈ l, okSp x) (w : World)
    (ho : w.ownsRow base 5 1 (.slice A n c) n (nums .u8 L)) (hb : base ≤ w.heap.size) (hr : Ss w B A' l) (hB : B ≤ base) (hbig : n + 9 + m * 27 ≤ 70368744170000) :
    Calls Tryz.prog 63 #[.slice A n c, .slice A' m c'] w (GotK base (.slice A n c) (L ++ setL l) w) := by
  have h1 := ref_nums_k base L A c n hn (w.heap.size + 1) (some ⟨w.heap.size, 0, none⟩) 1 1 [(m : Int)] rfl (by intro z hz; simp at hz; omega) (w.alloc (.cells #[.int .i64 m] 2)) (ho.alloc _) (by simp; omega) (ns_lit1 _ _ _) (apart_new ho 1) (by simp) (by omega)
  rw [show [(m : Int)].flatMap putL = putL (m : Int) by simp] at h1
  have l1 := putL_len (m : Int)
  have H1 := Lib.hid h1
  have HS := Lib.hid (And.intro hr (And.intro hl (And.intro hm (And.intro hn ho))))
  clear h1 ho hr hl hm hn
  go_enter Tryz.func63, Tryz.ntmps63
  go_wp2_with fail
  refine H1.out.mono ?_
  rintro e w1 ⟨A1, c1, rfl, o1, b1⟩
  have b1' : Kq (.slice A n c) w (.slice A1 (L ++ putL (m : Int)).length c1) w1 := (Kq.alloc _ _ _).trans b1
  have HX := Lib.hid (And.intro o1 b1')
  clear o1 b1 b1' H1
  go_wp2_with fail
  go_loopw [0, 5] (fun v q wr => ∃ (k : Nat) (A2 : Option Addr) (c2 : Nat), q = .int .i64 k ∧ k ≤ m ∧ v = .slice A2 (L ++ putL (m : Int) ++ (l.take k).flatMap spL).length c2 ∧ wr.ownsRow base 5 1 (.slice A2 (L ++ putL (m : Int) ++ (l.take k).flatMap spL).length c2) (L ++ putL (m : Int) ++ (l.take k).flatMap spL).length (nums .u8 (L ++ putL (m : Int) ++ (l.take k).flatMap spL)) ∧ Kq (.slice A n c) w v wr) (fun _ q _ => m - (intOf q).toNat)
  case atStart => exact ⟨0, A1, c1, rfl, by omega, by simp, by simpa using HX.out.1, by simpa using HX.out.2⟩
  case round =>
    obtain ⟨k, A2, c2, rfl, hk, rfl, hown, hbk⟩ := hrel
    have hbl := hbk.below HS.out.2.2.2.2 hb
    have hml := HS.out.2.2.1
    have hLn := HS.out.2.2.2.1
    have hfl : ((l.take k).flatMap spL).length ≤ m * 27 := by
      have h1 := flat_le (l := l.take k) (enc := spL) (m := 27) (fun x _ => (spL_len x).2)
      rw [List.length_take] at h1
      have h2 : min k l.length * 27 ≤ m * 27 := Nat.mul_le_mul_right _ (by omega)
      omega
    have hsz := hbl.size
    by_cases hlt : k < m
    · obtain ⟨b, off, rfl, hbb, hc⟩ := (HS.out.1.below (hbl.mono hB)) (by omega)
      obtain ⟨q0, q1, q2⟩ := hc k (by omega)
      have hft := flat_take (enc := spL) (d := ((0, 0, 0) : Sp)) (show k < l.length by omega)
      have hx : okSp (l.getD k (0, 0, 0)) := by
        rw [List.getD_eq_getElem?_getD, List.getElem?_eq_getElem (by omega), Option.getD_some]
        exact HS.out.2.1 _ (List.getElem_mem _)
      obtain ⟨x, hxx⟩ : ∃ x, l.getD k (0, 0, 0) = x := ⟨_, rfl⟩
      rw [hxx] at q0 q1 q2 hft hx
      obtain ⟨s, f, t⟩ := x
      unfold okSp at hx
      simp only at q0 q1 q2 hx
      obtain ⟨T, hT⟩ : ∃ T, L ++ putL (m : Int) ++ (l.take k).flatMap spL = T := ⟨_, rfl⟩
      have hTl : T.length ≤ n + 9 + m * 27 := by rw [← hT]; simp only [List.length_append]; omega
      rw [hT] at hown ⊢
      obtain ⟨N, hN⟩ : ∃ N, T.length = N := ⟨_, rfl⟩
      rw [hN] at hown hTl ⊢
      have h2 : ∀ V, V = (wr.alloc (.cells #[.int .i64 s, .int .i64 f, .int .i64 (t - f)] 2)).drew → Calls Tryz.prog 62 #[.slice A2 N c2, .slice (some ⟨wr.heap.size, 0, none⟩) 3 3] V (GotK base (.slice A2 N c2) (T ++ spL (s, f, t)) V) := fun V hV => by
        subst hV
        have h3 := ref_nums_k base T A2 c2 N hN (wr.heap.size + 1) (some ⟨wr.heap.size, 0, none⟩) 3 3 [s, f, t - f] rfl (by intro z hz; simp at hz; omega) (wr.alloc (.cells #[.int .i64 s, .int .i64 f, .int .i64 (t - f)] 2)).drew (hown.alloc _) (by simp; omega) (ns_lit3 _ _ _ _ _) (apart_new hown 3) (by simp) (by omega)
        rwa [show [s, f, t - f].flatMap putL = spL (s, f, t) from spL_nums (s, f, t)] at h3
      have d1 : (0 : Int) ≤ (k : Int) := by omega
      have d2 : (k : Int) < (m : Int) := by omega
      have hbw : b < base := by omega
      have hbz : b < wr.heap.size := by omega
      have hsub : IntKind.i64.wrap (t - f) = t - f := Go.IntWalk.i64_in _ (by omega)
      have HOW := Lib.hid hown
      have H2 := Lib.hid h2
      have hTN : (L ++ putL (m : Int) ++ (l.take k).flatMap spL).length = N := by rw [hT, hN]
      rw [hT, hN] at hbk
      have HT := Lib.hid (And.intro hft (And.intro hT (And.intro hbk hx)))
      clear h2 hft hT hbl hbk hTN hc hown hxx hx hLn hml
      go_wp2_with fail
      go_region_held3 (fun V => V.cell? ⟨b, off + k * 3, none⟩ = some (.int .i64 s) ∧ V.cell? ⟨b, off + k * 3 + 1, none⟩ = some (.int .i64 f) ∧ V.cell? ⟨b, off + k * 3 + 2, none⟩ = some (.int .i64 t))
        (first
          | exact ⟨q0, q1, q2⟩
          | exact ⟨(World.cell?_alloc_lt wr _ _ hbz).trans q0, (World.cell?_alloc_lt wr _ _ hbz).trans q1, (World.cell?_alloc_lt wr _ _ hbz).trans q2⟩
          | exact ⟨(b3b.cell hbw).trans ((World.cell?_alloc_lt wr _ _ hbz).trans q0), (b3b.cell hbw).trans ((World.cell?_alloc_lt wr _ _ hbz).trans q1), (b3b.cell hbw).trans ((World.cell?_alloc_lt wr _ _ hbz).trans q2)⟩)
        (first | (go_at_call 62; refine (H2.out _ (by rfl)).mono ?_; rintro e w3 ⟨A3, c3, rfl, o3, b3⟩; have b3b := b3.below (HOW.out.alloc _) (by simp; omega)))
      all_goals
        have ho3 : w3.ownsRow base 5 1 (.slice A3 (L ++ putL (m : Int) ++ (l.take (k + 1)).flatMap spL).length c3) (L ++ putL (m : Int) ++ (l.take (k + 1)).flatMap spL).length (nums .u8 (L ++ putL (m : Int) ++ (l.take (k + 1)).flatMap spL)) := by
          rw [HT.out.1, ← List.append_assoc, HT.out.2.1]
          exact o3
        have hv3 : (T ++ spL (s, f, t)).length = (L ++ putL (m : Int) ++ (l.take (k + 1)).flatMap spL).length := by rw [HT.out.1, ← List.append_assoc, HT.out.2.1]
        have hb3 : Kq (.slice A n c) w (.slice A3 (T ++ spL (s, f, t)).length c3) w3 := HT.out.2.2.1.trans (((Kq.alloc _ _ (.cells #[.int .i64 s, .int .i64 f, .int .i64 (t - f)] 2)).drew).trans b3)
        rw [hv3] at hb3
        have HE := Lib.hid (And.intro ho3 (And.intro hb3 hv3))
        clear ho3 hb3 hv3 o3 b3 b3b
        go_wp2_with fail
        exact ⟨⟨k + 1, A3, c3, rfl, by omega, by rw [← HE.out.2.2, List.length_append, hN], HE.out.1, by have h := HE.out.2.1; rw [← HE.out.2.2, List.length_append, hN] at h; exact h⟩, by simp only [intOf]; omega⟩
    · have hkm : k = m := by omega
      subst hkm
      have hE : L ++ putL (k : Int) ++ (l.take k).flatMap spL = L ++ setL l := by
        rw [List.take_of_length_le (by omega), List.append_assoc]
        unfold setL seqL
        rw [hml]
      rw [hE] at hown hbk ⊢
      have HE := Lib.hid (And.intro hown hbk)
      clear hown hbl hbk hE hml hLn
      go_wp2_with fail
      go_ret
      exact ⟨A2, c2, rfl, HE.out.1, HE.out.2⟩

theorem ns_lit2 (w : World) (e : TypeId) (x y : Int) : Ns .i64 (w.alloc (.cells #[.int .i64 x, .int .i64 y] e)) (w.heap.size + 1) (some ⟨w.heap.size, 0, none⟩) [x, y] := fun _ =>
  ⟨w.heap.size, 0, rfl, by omega, fun j hj => by
    match j, hj with
    | 0, _ => simp
    | 1, _ => simp⟩
theorem textL_txt (s : ByteArray) : textL s = txtL (strNums s) := by unfold textL txtL; rw [strNums_length]
/-- One number behind the row. -/
theorem nums_one (base : Nat) (L : List Int) (A : Option Addr) (c n : Nat) (hn : L.length = n) (x : Int) (hx : 0 ≤ x ∧ x ≤ 9223372036854775807) (w : World) (ho : w.ownsRow base 5 1 (.slice A n c) n (nums .u8 L)) (hb : base ≤ w.heap.size) (hbig : n + 9 ≤ 70368744177600) :
    Calls Tryz.prog 62 #[.slice A n c, .slice (some ⟨w.heap.size, 0, none⟩) 1 1] (w.alloc (.cells #[.int .i64 x] 2)) (GotK base (.slice A n c) (L ++ putL x) (w.alloc (.cells #[.int .i64 x] 2))) := by
  have h := ref_nums_k base L A c n hn (w.heap.size + 1) (some ⟨w.heap.size, 0, none⟩) 1 1 [x] rfl (by intro z hz; simp at hz; omega) (w.alloc (.cells #[.int .i64 x] 2)) (ho.alloc _) (by simp; omega) (ns_lit1 _ _ _) (apart_new ho 1) (by simp) (by omega)
  rwa [show [x].flatMap putL = putL x by simp] at h
/-- Two numbers behind the row. -/
theorem nums_two (base : Nat) (L : List Int) (A : Option Addr) (c n : Nat) (hn : L.length = n) (x y : Int) (hx : 0 ≤ x ∧ x ≤ 9223372036854775807) (hy : 0 ≤ y ∧ y ≤ 9223372036854775807) (w : World) (ho : w.ownsRow base 5 1 (.slice A n c) n (nums .u8 L)) (hb : base ≤ w.heap.size) (hbig : n + 18 ≤ 70368744177600) :
    Calls Tryz.prog 62 #[.slice A n c, .slice (some ⟨w.heap.size, 0, none⟩) 2 2] (w.alloc (.cells #[.int .i64 x, .int .i64 y] 2)) (GotK base (.slice A n c) (L ++ (putL x ++ putL y)) (w.alloc (.cells #[.int .i64 x, .int .i64 y] 2))) := by
  have h := ref_nums_k base L A c n hn (w.heap.size + 1) (some ⟨w.heap.size, 0, none⟩) 2 2 [x, y] rfl (by intro z hz; simp at hz; omega) (w.alloc (.cells #[.int .i64 x, .int .i64 y] 2)) (ho.alloc _) (by simp; omega) (ns_lit2 _ _ _ _) (apart_new ho 2) (by simp) (by omega)
  rwa [show [x, y].flatMap putL = putL x ++ putL y by simp] at h

set_option maxRecDepth 100000 in
set_option maxHeartbeats 4000000 in
theorem ref_rec_k (base : Nat) (L : List Int) (A : Option Addr) (c n : Nat) (hn : L.length = n) (A' : Option Addr) (c' m : Nat) (key : ByteArray) (l : List Vr) (hm : l.length = m) (hx : okR (key, l)) (S : Nat) (w : World)
    (ho : w.ownsRow base 5 1 (.slice A n c) n (nums .u8 L)) (hb : base ≤ w.heap.size) (hr : Vs w 0 S A' l) (hS : S ≤ base) (hbig : n + 14309938 ≤ 70368744000000) :
    Calls Tryz.prog 23 #[.slice A n c, .agg #[.string key, .slice A' m c']] w (GotK base (.slice A n c) (L ++ recL (key, l)) w) := by
  obtain ⟨i0, hi0, hz0, hz1, hz2⟩ := info_parts Facts.info5
  obtain ⟨B, hB⟩ : ∃ B, w.heap.size = B := ⟨_, rfl⟩
  obtain ⟨W, hW⟩ : ∃ W, w.alloc (.cells #[.string key, .slice A' m c'] 24) = W := ⟨_, rfl⟩
  have hX : Bn B 24 [.string key, .slice A' m c'] W := by rw [← hW, ← hB]; exact heap_alloc_new _ _
  have kW : Kq (.slice A n c) w (.slice A n c) W := by rw [← hW]; exact Kq.alloc _ _ _
  have oW : W.ownsRow base 5 1 (.slice A n c) n (nums .u8 L) := by rw [← hW]; exact ho.alloc _
  have hBv : some B ≠ (Value.slice A n c).ownBlock := fun e => by have := (ho.lt B e.symm).2; omega
  have hWs : W.heap.size = B + 1 := by rw [← hW, ← hB]; simp
  obtain ⟨hk1, hk2, hV⟩ := hx
  have hk1 : 1 ≤ key.size := hk1
  have hk2 : key.size ≤ 32 := hk2
  have hmb : m ≤ 512 := by have h : l.length ≤ 512 := hV.1; omega
  have htl := txtL_len key
  have h1 := ref_puttext key (by omega) W
  rw [textL_txt] at h1
  have hfin : recL (key, l) = txtL (strNums key) ++ (putL (m : Int) ++ l.flatMap verL) := by unfold recL seqL; rw [hm]
  have hvl : ∀ x ∈ l, okV x := hV.2.1.1
  -- whatever comes later: the box, and what is below base
  have hlater : ∀ V v, Kq (.slice A n c) W v V → Bn B 24 [.string key, .slice A' m c'] V ∧ some B ≠ v.ownBlock ∧ Vs V 0 S A' l ∧ base ≤ V.heap.size := fun V v h => by
    obtain ⟨a, b⟩ := h.block (j := B) (by omega) hBv
    exact ⟨a.trans hX, b, hr.below ((kW.trans h).below ho hb |>.mono hS), by have := h.size; omega⟩
  obtain ⟨X, hXX⟩ : ∃ X, txtL (strNums key) = X := ⟨_, rfl⟩
  rw [hXX] at h1 htl hfin
  obtain ⟨xl, hxl⟩ : ∃ xl, X.length = xl := ⟨_, rfl⟩
  have k0 := hX.cell 0
  have k1 := hX.cell 1
  simp only [List.getElem?_cons_zero, List.getElem?_cons_succ] at k0 k1
  have hWl : B ≤ W.heap.size := by omega
  have H1 := Lib.hid h1
  have HL := Lib.hid hlater
  have HS := Lib.hid (And.intro hn (And.intro hm (And.intro hvl (And.intro hfin (And.intro oW (And.intro kW (And.intro hxl (And.intro ho hB))))))))
  rw [hB] at hb
  clear h1 hlater hn hm hvl hfin oW kW ho hX hBv hr hV hXX hWs
  go_enter Tryz.func23, Tryz.ntmps23
  go_wp2_with fail
  refine H1.out.mono ?_
  rintro e w1 ⟨A1, c1, rfl, o1, d1⟩
  have kq1 : Kq (.slice A n c) W (.slice A n c) w1 := Kq.of_below d1
  have oN := own_below HS.out.2.2.2.2.1 d1 (Nat.le_refl _)
  have nX := own_ns o1
  rw [HS.out.2.2.2.2.2.2.1]
  have HA := Lib.hid (And.intro kq1 (And.intro oN nX))
  have hs1 := d1.size
  clear kq1 oN nX o1 d1
  go_wp2_with (at_builtin; refine wpList_append_ns _ rfl _ _ 25 rfl base 5 i0 (.int .u8 0) 1 Tryz.underlying25 hi0 hz0 hz1 hz2 rfl _ n (nums .u8 L) rfl HA.out.2.1 .u8 w1.heap.size A1 xl c1 X HS.out.2.2.2.2.2.2.1 rfl HA.out.2.2 (by omega) (by omega) (by omega) ?_; intro v2 w2 o2 g2 at2; obtain ⟨N2, hN2⟩ : ∃ N2, n + xl = N2 := ⟨_, rfl⟩; rw [hN2] at o2; obtain ⟨A2, c2, rfl⟩ := own_form o2; have kq2 := HA.out.1.trans (Kq.grown g2 at2); obtain ⟨hX2, _, _, hs2⟩ := HL.out w2 _ kq2; have k0 := hX2.cell 0; have k1 := hX2.cell 1; simp only [List.getElem?_cons_zero, List.getElem?_cons_succ] at k0 k1)
  obtain ⟨T2, hT2⟩ : ∃ T2, L ++ X = T2 := ⟨_, rfl⟩
  have hl2 : T2.length = N2 := by rw [← hT2, List.length_append, HS.out.1, HS.out.2.2.2.2.2.2.1, hN2]
  have o2' : w2.ownsRow base 5 1 (.slice A2 N2 c2) N2 (nums .u8 T2) := by rw [← hT2]; simpa [nums] using o2
  have h3 := nums_one base T2 A2 c2 N2 hl2 (m : Int) (by omega) w2 o2' hs2 (by omega)
  have lm := putL_len (m : Int)
  obtain ⟨M, hM⟩ : ∃ M, putL (m : Int) = M := ⟨_, rfl⟩
  rw [hM] at h3 lm
  have H3 := Lib.hid h3
  have HB := Lib.hid (And.intro kq2 (And.intro hT2 (And.intro hM (And.intro hl2 hN2))))
  clear h3 o2 o2' g2 at2 kq2 hX2 hT2 hM hl2 hN2 H1
  refine H3.out.mono ?_
  rintro e w3 ⟨A3, c3, rfl, o3, kq3'⟩
  obtain ⟨T3, hT3⟩ : ∃ T3, T2 ++ M = T3 := ⟨_, rfl⟩
  obtain ⟨N3, hN3⟩ : ∃ N3, T3.length = N3 := ⟨_, rfl⟩
  rw [hT3, hN3] at o3 kq3' ⊢
  have kq3 := (HB.out.1.trans (Kq.alloc _ _ _)).trans kq3'
  have hb3 : N3 ≤ n + 100 := by
    have h1 := HB.out.2.2.2.1
    have h2 := HB.out.2.2.2.2
    rw [← hN3, ← hT3, List.length_append]
    omega
  have H0 : Hid (T3 = T3 ++ (l.take 0).flatMap verL ∧ T3.length = N3 ∧ w3.ownsRow base 5 1 (.slice A3 N3 c3) N3 (nums .u8 T3) ∧ Kq (.slice A n c) W (.slice A3 N3 c3) w3) := Lib.hid ⟨by simp, hN3, o3, kq3⟩
  have HT3 := Lib.hid (show T3 = L ++ X ++ M by rw [← hT3, HB.out.2.1])
  clear o3 kq3' kq3 hT3 hN3 H3
  go_wp2_with fail
  go_loopw [0, 5] (fun v q wr => ∃ (k : Nat) (A4 : Option Addr) (c4 N : Nat) (T : List Int), v = .slice A4 N c4 ∧ q = .int .i64 k ∧ k ≤ m ∧ N ≤ n + 100 + k * 27949 ∧ Hid (T = T3 ++ (l.take k).flatMap verL ∧ T.length = N ∧ wr.ownsRow base 5 1 (.slice A4 N c4) N (nums .u8 T) ∧ Kq (.slice A n c) W (.slice A4 N c4) wr)) (fun _ q _ => m - (intOf q).toNat)
  case atStart => exact ⟨0, A3, c3, N3, T3, rfl, rfl, by omega, by omega, H0⟩
  case round =>
    clear H0 hb3
    obtain ⟨k, A4, c4, N, T, rfl, rfl, hk, hNb, hst⟩ := hrel
    obtain ⟨hT, hTN, ho4, hkq⟩ := hst.out
    obtain ⟨hX4, _, hvs, hsz⟩ := HL.out wr _ hkq
    have k0 := hX4.cell 0
    have k1 := hX4.cell 1
    simp only [List.getElem?_cons_zero, List.getElem?_cons_succ] at k0 k1
    have hm := HS.out.2.1
    by_cases hlt : k < m
    · obtain ⟨pb, off, A5, c5, rfl, _, hbS, a0, a1, a2, a3, a4, hpv⟩ := hvs.at hm (Below.refl S wr) hlt rfl
      have hft := flat_take (enc := verL) (d := v0) (show k < l.length by omega)
      have hx : okV (l.getD k v0) := HS.out.2.2.1 _ (mem_getD v0 (by omega))
      have hvl := verL_len hx
      obtain ⟨x, hxx⟩ : ∃ x, l.getD k v0 = x := ⟨_, rfl⟩
      rw [hxx] at a0 a1 a2 a3 a4 hpv hx hft hvl
      obtain ⟨s, vn, vp, vg, vx⟩ := x
      obtain ⟨hxd, hxp, _, hxv, _⟩ := hx
      unfold okD at hxd
      simp only at a0 a1 a2 a3 a4 hxd hxp hxv
      obtain ⟨kp, hkp⟩ : ∃ kp, vp.length = kp := ⟨_, rfl⟩
      rw [hkp] at a2
      have hkb : kp ≤ 1024 := by have := hxp.1; omega
      obtain ⟨b5, hb5⟩ : ∃ b5, wr.heap.size = b5 := ⟨_, rfl⟩
      obtain ⟨W5, hW5⟩ : ∃ W5, wr.alloc (.cells #[.int .i64 s, .int .i64 vn, .slice A5 kp c5, .bool vg, .string vx] 105) = W5 := ⟨_, rfl⟩
      have hX5 : Bn b5 105 [.int .i64 s, .int .i64 vn, .slice A5 kp c5, .bool vg, .string vx] W5 := by rw [← hW5, ← hb5]; exact heap_alloc_new _ _
      have ho5 : W5.ownsRow base 5 1 (.slice A4 N c4) N (nums .u8 T) := by rw [← hW5]; exact ho4.alloc _
      have hk5 : Kq (.slice A n c) W (.slice A4 N c4) W5 := by rw [← hW5]; exact hkq.trans (Kq.alloc _ _ _)
      have hbv : some b5 ≠ (Value.slice A4 N c4).ownBlock := fun e => by have := (ho4.lt b5 e.symm).2; omega
      have hs5 : W5.heap.size = b5 + 1 := by rw [← hW5, ← hb5]; simp
      have hp5 : Ss W5 S A5 vp := by rw [← hW5]; exact hpv.1.below ((Below.refl S wr).alloc (by omega) _)
      have hlv : ∀ V v, Kq (.slice A4 N c4) W5 v V → Bn b5 105 [.int .i64 s, .int .i64 vn, .slice A5 kp c5, .bool vg, .string vx] V ∧ base ≤ V.heap.size ∧ Kq (.slice A n c) W v V ∧ Ss V S A5 vp := fun V v h => by
        obtain ⟨a, b⟩ := h.block (j := b5) (by omega) hbv
        exact ⟨a.trans hX5, by have := h.size; omega, hk5.trans h, hp5.below ((h.below ho5 (by omega)).mono hS)⟩
      have h6 := nums_two base T A4 c4 N hTN s vn (by omega) (by omega) W5 ho5 (by omega) (by omega)
      have hy0 := hX5.cell 0
      have hy1 := hX5.cell 1
      have hy2 := hX5.cell 2
      have hy3 := hX5.cell 3
      have hy4 := hX5.cell 4
      simp only [List.getElem?_cons_zero, List.getElem?_cons_succ] at hy0 hy1 hy2 hy3 hy4
      have d1 : (0 : Int) ≤ (k : Int) := by omega
      have d2 : (k : Int) < (m : Int) := by omega
      have H6 := Lib.hid h6
      have HV := Lib.hid hlv
      have HU := Lib.hid (And.intro hft (And.intro hT (And.intro hTN (And.intro hkp (And.intro hxp.2.1 hb5)))))
      have hvl6 : (putL s).length ≤ 9 ∧ (putL vn).length ≤ 9 ∧ (setL vp).length ≤ 27657 := ⟨(putL_len s).2, (putL_len vn).2, setL_len hxp.1⟩
      clear h6 hlv hft hT hTN hxx hpv hkp hxp hst ho4 hkq hX4 hvs hm hX5 ho5 hk5 hbv hp5 hxd hs5
      go_wp2_with fail
      clear hb5
      refine H6.out.mono ?_
      rintro e w6 ⟨A6, c6, rfl, o6, k6⟩
      obtain ⟨T6, hT6⟩ : ∃ T6, T ++ (putL s ++ putL vn) = T6 := ⟨_, rfl⟩
      obtain ⟨N6, hN6⟩ : ∃ N6, T6.length = N6 := ⟨_, rfl⟩
      rw [hT6, hN6] at o6 k6 ⊢
      have k6' := (Kq.alloc _ _ _).trans k6
      obtain ⟨hX6, hs6, _, hp6⟩ := HV.out w6 _ k6'
      have hN6b : N6 ≤ N + 18 := by rw [← hN6, ← hT6, List.length_append, List.length_append, HU.out.2.2.1]; omega
      have h8 := ref_spans_k base T6 A6 c6 N6 hN6 S A5 c5 kp vp HU.out.2.2.2.1 HU.out.2.2.2.2.1 w6 o6 hs6 hp6 hS (by omega)
      have hy0 := hX6.cell 0
      have hy1 := hX6.cell 1
      have hy2 := hX6.cell 2
      have hy3 := hX6.cell 3
      have hy4 := hX6.cell 4
      simp only [List.getElem?_cons_zero, List.getElem?_cons_succ] at hy0 hy1 hy2 hy3 hy4
      have H8 := Lib.hid h8
      have HT6 := Lib.hid (And.intro hT6 (And.intro hN6 k6'))
      clear h8 hT6 hN6 k6 k6' o6 hX6 hp6 H6
      go_wp2_with fail
      refine H8.out.mono ?_
      rintro e w8 ⟨A8, c8, rfl, o8, k8⟩
      obtain ⟨T8, hT8⟩ : ∃ T8, T6 ++ setL vp = T8 := ⟨_, rfl⟩
      obtain ⟨N8, hN8⟩ : ∃ N8, T8.length = N8 := ⟨_, rfl⟩
      rw [hT8, hN8] at o8 k8 ⊢
      have k8' := HT6.out.2.2.trans k8
      obtain ⟨hX8, hs8, _, _⟩ := HV.out w8 _ k8'
      have hN8b : N8 ≤ N6 + 27657 := by rw [← hN8, ← hT8, List.length_append, HT6.out.2.1]; omega
      have hy0 := hX8.cell 0
      have hy1 := hX8.cell 1
      have hy2 := hX8.cell 2
      have hy3 := hX8.cell 3
      have hy4 := hX8.cell 4
      simp only [List.getElem?_cons_zero, List.getElem?_cons_succ] at hy0 hy1 hy2 hy3 hy4
      have hT8' : T8 = T ++ (putL s ++ putL vn) ++ setL vp := by rw [← hT8, ← HT6.out.1]
      cases vg
      case true =>
        have h10 := nums_one base T8 A8 c8 N8 hN8 1 (by omega) w8 o8 hs8 (by omega)
        have H10 := Lib.hid h10
        have HT8 := Lib.hid (And.intro hT8' (And.intro hN8 k8'))
        clear h10 hT8 hT8' hN8 k8 k8' o8 hX8 H8
        go_wp2_with fail
        refine H10.out.mono ?_
        rintro e w9 ⟨A9, c9, rfl, o9, k9⟩
        obtain ⟨_, _, kq9, _⟩ := HV.out w9 _ ((HT8.out.2.2.trans (Kq.alloc _ _ _)).trans k9)
        have hT9 : T8 ++ putL 1 = T3 ++ (l.take (k + 1)).flatMap verL := by
          rw [HU.out.1, ← List.append_assoc, ← HU.out.2.1, HT8.out.1]
          unfold verL tailL
          simp only [if_pos, List.append_assoc]
        have hl9 := congrArg List.length HU.out.1
        have hN9 : (T8 ++ putL 1).length ≤ n + 100 + (k + 1) * 27949 := by
          have h1 := HU.out.2.2.1
          rw [hT9, HU.out.1, ← List.append_assoc, ← HU.out.2.1, List.length_append]
          omega
        obtain ⟨T99, hT99⟩ : ∃ T99, T8 ++ putL 1 = T99 := ⟨_, rfl⟩
        obtain ⟨N99, hN99⟩ : ∃ N99, T99.length = N99 := ⟨_, rfl⟩
        rw [hT99] at hT9
        rw [hT99, hN99] at hN9 o9 kq9 ⊢
        have HE := Lib.hid (And.intro hT9 (And.intro hN99 (And.intro o9 kq9)))
        clear o9 k9 kq9 hT9 hl9 hT99 hN99
        go_wp2_with fail
        exact ⟨⟨k + 1, A9, c9, N99, T99, rfl, rfl, by omega, hN9, HE⟩, by simp only [intOf]; omega⟩
      case false =>
        have h10 := nums_one base T8 A8 c8 N8 hN8 0 (by omega) w8 o8 hs8 (by omega)
        have H10 := Lib.hid h10
        have HT8 := Lib.hid (And.intro hT8' (And.intro hN8 k8'))
        clear h10 hT8 hT8' hN8 k8 k8' o8 hX8 H8
        go_wp2_with fail
        refine H10.out.mono ?_
        rintro e w9 ⟨A9, c9, rfl, o9, k9⟩
        have k9' := (HT8.out.2.2.trans (Kq.alloc _ _ _)).trans k9
        obtain ⟨hX9, hs9, _, _⟩ := HV.out w9 _ k9'
        have hy0 := hX9.cell 0
        have hy1 := hX9.cell 1
        have hy2 := hX9.cell 2
        have hy3 := hX9.cell 3
        have hy4 := hX9.cell 4
        simp only [List.getElem?_cons_zero, List.getElem?_cons_succ] at hy0 hy1 hy2 hy3 hy4
        obtain ⟨T9, hT9⟩ : ∃ T9, T8 ++ putL 0 = T9 := ⟨_, rfl⟩
        obtain ⟨N9, hN9⟩ : ∃ N9, T9.length = N9 := ⟨_, rfl⟩
        rw [hT9, hN9] at o9 k9' ⊢
        have hl0 := putL_len 0
        have hN9b : N9 ≤ N8 + 9 := by rw [← hN9, ← hT9, List.length_append, HT8.out.2.1]; omega
        have h11 := ref_puttext vx (by omega) w9
        rw [textL_txt] at h11
        have htx := txtL_len vx
        obtain ⟨Y, hY⟩ : ∃ Y, txtL (strNums vx) = Y := ⟨_, rfl⟩
        rw [hY] at h11 htx
        obtain ⟨yl, hyl⟩ : ∃ yl, Y.length = yl := ⟨_, rfl⟩
        have H11 := Lib.hid h11
        have HT9 := Lib.hid (And.intro hT9 (And.intro hN9 (And.intro k9' (And.intro o9 (And.intro hY hyl)))))
        clear h11 hT9 hN9 k9 k9' o9 hX9 hY H10
        go_wp2_with fail
        refine H11.out.mono ?_
        rintro e w10 ⟨A10, c10, rfl, o10, d10⟩
        have hs10 := d10.size
        have nY := own_ns o10
        have oN := own_below HT9.out.2.2.2.1 d10 (Nat.le_refl _)
        rw [HT9.out.2.2.2.2.2]
        rw [hyl] at htx
        have HZ := Lib.hid (And.intro nY (And.intro oN (Kq.of_below (v := .slice A9 N9 c9) d10)))
        clear nY oN o10 d10 H11 hyl
        go_wp2_with (at_builtin; refine wpList_append_ns _ rfl _ _ 25 rfl base 5 i0 (.int .u8 0) 1 Tryz.underlying25 hi0 hz0 hz1 hz2 rfl _ N9 (nums .u8 T9) rfl HZ.out.2.1 .u8 w10.heap.size A10 yl c10 Y HT9.out.2.2.2.2.2 rfl HZ.out.1 (by omega) (by omega) (by omega) ?_; intro v12 w12 o12 g12 at12; obtain ⟨N12, hN12⟩ : ∃ N12, N9 + yl = N12 := ⟨_, rfl⟩; rw [hN12] at o12; obtain ⟨A12, c12, rfl⟩ := own_form o12; have HN12 := Lib.hid hN12; clear hN12)
        obtain ⟨_, _, kq12, _⟩ := HV.out w12 _ ((HT9.out.2.2.1.trans HZ.out.2.2).trans (Kq.grown g12 at12))
        have hT12 : T9 ++ Y = T3 ++ (l.take (k + 1)).flatMap verL := by
          rw [HU.out.1, ← List.append_assoc, ← HU.out.2.1, ← HT9.out.1, HT8.out.1, ← HT9.out.2.2.2.2.1]
          unfold verL tailL
          simp only [Bool.false_eq_true, if_false, List.append_assoc]
        have hl12 : (T9 ++ Y).length = N12 := by rw [List.length_append, HT9.out.2.1, HT9.out.2.2.2.2.2, HN12.out]
        have hN12 : N12 ≤ n + 100 + (k + 1) * 27949 := by
          have h1 := HU.out.2.2.1
          rw [← hl12, hT12, HU.out.1, ← List.append_assoc, ← HU.out.2.1, List.length_append]
          omega
        have o12' : w12.ownsRow base 5 1 (.slice A12 N12 c12) N12 (nums .u8 (T9 ++ Y)) := by simpa [nums] using o12
        have HE := Lib.hid (And.intro hT12 (And.intro hl12 (And.intro o12' kq12)))
        clear o12 o12' g12 at12 kq12 hT12 hl12
        exact ⟨⟨k + 1, A12, c12, N12, _, rfl, rfl, by omega, hN12, HE⟩, by simp only [intOf]; omega⟩
    · have hkm : k = m := by omega
      subst hkm
      have hE : T = L ++ recL (key, l) := by
        rw [hT, List.take_of_length_le (by omega), HT3.out, HS.out.2.2.2.1, HB.out.2.2.1]
        simp only [List.append_assoc]
      have HE := Lib.hid (And.intro hE (And.intro hTN (And.intro ho4 (HS.out.2.2.2.2.2.1.trans hkq))))
      clear hst hT hTN ho4 hkq hX4 hvs hm hE hlt
      go_wp2_with fail
      go_ret
      obtain ⟨e1, e2, e3, e4⟩ := HE.out
      rw [← e1]
      exact ⟨A4, c4, by rw [e2]; rfl, by rw [e2]; exact e3, by rw [e2]; exact e4⟩
end Code
end Go.Proofs.YtegiigeelcnemaaGreat
