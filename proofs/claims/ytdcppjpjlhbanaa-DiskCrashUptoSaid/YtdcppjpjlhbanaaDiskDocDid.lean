/-
  The document's data and did (layer 7).
-/
import Derived.Test.YtdcppjpjlhbanaaDiskDocWith
import Derived.Test.YtdcppjpjlhbanaaBytesCut
import Derived.Deep.RegionLaw
import Derived.Deep.AppendLies
namespace Go.Proofs.Ytdcppjpjlhbanaa
namespace Disk
open Go.RowKit Blk
attribute [local go_sem ↓] Go.wp_at_zero Go.wp_at_succ
section
variable {F : Nat → Prop} {w : World} {A : Option Addr} {n c : Nat} {l : Rl}
theorem dat_of {i : Nat} {x : Df} {s : Nm} (hx : l[i]? = some (s, x)) (hp : pos l s = some i) : dat (fsR l) s = x.d := by
  have h := pos_find l s
  rw [hp] at h
  obtain ⟨b, h1, h2⟩ := h
  rw [hx] at h1
  injection h1 with h1
  injection h1 with _ h1
  unfold dat
  rw [find_map, h2, ← h1]
  rfl
set_option maxRecDepth 100000 in
set_option maxHeartbeats 1000000 in
theorem doc_data (h : Fr F w A n c l) (s : Nm) (k : Nat) (hk : (dat (fsR l) s).length = k) :
    Calls Try.prog 47 #[.slice A n c, .string s] w (fun e w' => ∃ A' c', e = .returned (.slice A' k c') ∧ Hid (w'.ownsRow w.heap.size 5 1 (.slice A' k c') k (nums .u8 (dat (fsR l) s)) ∧ Below w.heap.size w w')) := by
  obtain ⟨i0, hi0, hz0, hz1, hz2⟩ := info_parts Facts.info5
  have H1 := Lib.hid (doc_find h s)
  have hpf := pos_find l s
  rcases hp : pos l s with _ | i
  · rw [hp] at hpf
    have e1 : dat (fsR l) s = [] := by unfold dat; rw [find_map, show find l s = none from hpf]; rfl
    have e2 : posI l s = -1 := by unfold posI; rw [hp]
    rw [e1] at hk ⊢
    rw [e2] at H1
    have hk0 : k = 0 := by rw [← hk]; rfl
    subst hk0
    clear h hpf hp e1 e2 hk
    go_enter Try.func47, Try.ntmps47
    go_wp2_with fail
    refine H1.out.mono ?_
    rintro e w2 ⟨rfl, rfl⟩
    go_wp2_with fail
    go_ret
    exact ⟨none, 0, rfl, Lib.hid ⟨World.ownsRow_nil _ _ _ _, Below.refl _ _⟩⟩
  · rw [hp] at hpf
    obtain ⟨x, hx, _⟩ := hpf
    have hil : i < n := by have := (List.getElem?_eq_some_iff.1 hx).1; have := h.1; omega
    have e1 := dat_of hx hp
    have e2 : posI l s = (i : Int) := by unfold posI; rw [hp]
    rw [e1] at hk ⊢
    rw [e2] at H1
    obtain ⟨g, rfl, _, p1⟩ := h.at hx
    have hfl := h.2.2.2.1 _ (List.mem_of_getElem? hx)
    have hxv : x.v = .slice x.A k x.c := by rw [← hk]; rfl
    simp only at p1
    rw [hxv] at p1
    have hns := hfl.ns
    have hkb : k ≤ 2147483648 := by rw [← hk]; exact hfl.2.2.2
    have d0 : decide ((0 : Int) ≤ (i : Int)) = true := decide_eq_true (by omega)
    have d1 : (0 : Int) ≤ (i : Int) := by omega
    have d2 : (i : Int) < (n : Int) := by omega
    have HK := Lib.hid hk
    clear h hp hx e1 e2 hxv hfl hk
    go_enter Try.func47, Try.ntmps47
    go_wp2_with fail
    refine H1.out.mono ?_
    rintro e w2 ⟨rfl, rfl⟩
    go_wp2_with (at_builtin; refine wpList_append_ns _ rfl _ _ 29 rfl w2.heap.size 5 i0 (.int .u8 0) 1 Try.underlying29 hi0 hz0 hz1 hz2 rfl (.slice none 0 0) 0 [] rfl (World.ownsRow_nil _ _ _ _) .u8 w2.heap.size x.A k x.c x.d HK.out rfl hns (by omega) (by omega) (Nat.le_refl _) ?_; intro v7 w7 o7 g7 at7; rw [Nat.zero_add, List.nil_append] at o7; obtain ⟨A7, c7, rfl⟩ := own_form o7; have HZ : Hid (w7.ownsRow w2.heap.size 5 1 (.slice A7 k c7) k (nums .u8 x.d) ∧ Below w2.heap.size w2 w7) := Lib.hid ⟨o7, (Below.refl _ _).grown g7 (Nat.le_refl _) (fun j hj => by cases hj)⟩; clear o7 g7 at7)
    go_ret
    exact ⟨A7, c7, rfl, HZ⟩
/-- A change's cells. -/
def cgc (C : Cp) (x : Df) : List Value := [.int .i64 C.k, .string C.s, .string C.t, .slice x.A x.d.length x.c, .int .i64 C.n]
theorem fl_own {B k : Nat} {V : World} {A' : Option Addr} {c' : Nat} {d : List Int} (ho : V.ownsRow B 5 1 (.slice A' k c') k (nums .u8 d)) (hk : d.length = k) (hF : ∀ j, B ≤ j → F j) (hb : ∀ z ∈ d, 0 ≤ z ∧ z ≤ 255) (hl : k ≤ 2147483648) : FlOK F V ⟨d, A', c'⟩ := by
  subst hk
  exact ⟨own_base ho (Nat.zero_le _), fun g hg => hF g (ho.lt g hg).1, hb, hl⟩
theorem own_take {B k m : Nat} {V : World} {A' : Option Addr} {c' : Nat} {d : List Int} (ho : V.ownsRow B 5 1 (.slice A' k c') k (nums .u8 d)) (hm : m ≤ k) : V.ownsRow B 5 1 (.slice A' m c') m (nums .u8 (d.take m)) := by
  obtain ⟨h0, h⟩ := ho
  have hd : d.length = k := by simpa [nums] using h0
  refine ⟨by simp [nums, hd]; omega, ?_⟩
  rcases h with ⟨hv, h2⟩ | ⟨g, cap, cur, hv, h1, h2, h3, h4, h5, h6⟩
  · injection hv with q1 q2 q3
    exact .inl ⟨by rw [q1, q3, show m = 0 by omega], by omega⟩
  · injection hv with q1 q2 q3
    subst q1 q3
    refine .inr ⟨g, c', cur, rfl, h1, h2, by omega, h4, h5, ?_⟩
    rw [Nat.mul_one] at h6 ⊢
    rw [show m = min m k by omega, ← List.take_take, h6, nums, ← List.map_take, show min m k = m by omega]
    rfl
set_option maxRecDepth 100000 in
set_option maxHeartbeats 4000000 in
theorem doc_did (h : Fr F w A n c l) (hF : ∀ j, w.heap.size ≤ j → F j) (hn : n ≤ 2000000000000) {N : Nat} {room : Int} (hok : OkF N room (fsR l)) (hrm : room ≤ 1073741824) (C : Cp) (hC : OkC C (fsR l)) (x : Df) (hxd : x.d = C.d) (kx : Nat) (hkx : x.d.length = kx) (hx : Ns .u8 w w.heap.size x.A x.d) (hcl : kx ≤ 1073741824) :
    Calls Try.prog 35 #[.slice A n c, .agg #[.int .i64 C.k, .string C.s, .string C.t, .slice x.A kx x.c, .int .i64 C.n]] w (fun e w' => ∃ A' n' c', e = .returned (.slice A' n' c') ∧ Hid (∃ l', Fr F w' A' n' c' l' ∧ fsR l' = didP C (fsR l) ∧ Below w.heap.size w w')) := by
  obtain ⟨i0, hi0, hz0, hz1, hz2⟩ := info_parts Facts.info5
  obtain ⟨bx, hbx⟩ : ∃ b, w.heap.size = b := ⟨_, rfl⟩
  obtain ⟨U, hU⟩ : ∃ U, w.alloc (.cells #[.int .i64 C.k, .string C.s, .string C.t, .slice x.A kx x.c, .int .i64 C.n] 70) = U := ⟨_, rfl⟩
  have hb : Below w.heap.size w U := by rw [← hU]; exact (Below.refl _ w).alloc (Nat.le_refl _) _
  have hB : Bn bx 70 [.int .i64 C.k, .string C.s, .string C.t, .slice x.A kx x.c, .int .i64 C.n] U := by rw [← hU, ← hbx]; exact heap_alloc_new w _
  have hFU := h.below hb (Nat.le_refl _)
  have hF2 : ∀ j, U.heap.size ≤ j → F j := fun j hj => hF j (by have := hb.size; omega)
  obtain ⟨k, hk⟩ : ∃ k, (dat (fsR l) C.s).length = k := ⟨_, rfl⟩
  have hkb : k ≤ 1073741824 := by
    have h1 := dat_le hok.1 C.s
    have := hok.2.2.1
    omega
  have hbd := dat_bytes hok C.s
  have x0 := (hB.cell 0).trans rfl
  have x1 := (hB.cell 1).trans rfl
  have x2 := (hB.cell 2).trans rfl
  have x3 := (hB.cell 3).trans rfl
  have x4 := (hB.cell 4).trans rfl
  have hxU := (hx.below hb).more hb.size
  have hsz : Hid (w.heap.size ≤ U.heap.size) := Lib.hid hb.size
  obtain ⟨K, hK⟩ : ∃ z, C.k = z := ⟨_, rfl⟩
  obtain ⟨s, hs⟩ : ∃ z, C.s = z := ⟨_, rfl⟩
  obtain ⟨t, ht⟩ : ∃ z, C.t = z := ⟨_, rfl⟩
  obtain ⟨nn, hnn⟩ : ∃ z, C.n = z := ⟨_, rfl⟩
  obtain ⟨D, hD⟩ : ∃ D, didP C (fsR l) = D := ⟨_, rfl⟩
  rw [hs] at hk hbd
  have hss : s.size ≤ 16 := by rw [← hs]; exact hC.1.2
  have h3c : C.k = 3 → t.size ≤ 16 := fun e => by rw [← ht]; exact (hC.2.1 e).2
  have h2c : C.k = 2 → 0 ≤ nn ∧ nn ≤ (k : Int) := fun e => by have := hC.2.2.2.1 e; rw [hs, hk, hnn] at this; exact this
  rw [hK] at h3c h2c
  have hD' := hD
  unfold didP at hD'
  rw [hK, hs, ht, hnn] at hD'
  simp only [hK, hs, ht, hnn] at hU hB x0 x1 x2 x4
  rw [hK, hs, ht, hnn, hD]
  have hkk : K = 1 ∨ K = 2 ∨ K = 3 ∨ K = 4 := by rw [← hK]; exact hC.2.2.1
  have hcd : ∀ z ∈ C.d, 0 ≤ z ∧ z ≤ 255 := hC.2.2.2.2.2
  have hln : l.length = n := h.1
  have HU := Lib.hid (And.intro hb (And.intro hB (And.intro hFU (And.intro hF2 (And.intro hbd (And.intro hk (And.intro hkx (And.intro hxU (And.intro hxd hcd)))))))))
  have hcW : ∀ (a : Array Value) (w : World), (callFunc 48 a).run Try.prog w = .ok (.enter 48 a) w := fun a w => by simp [go_sem]
  have hcD : ∀ (a : Array Value) (w : World), (callFunc 47 a).run Try.prog w = .ok (.enter 47 a) w := fun a w => by simp [go_sem]
  have hcO : ∀ (a : Array Value) (w : World), (callFunc 49 a).run Try.prog w = .ok (.enter 49 a) w := fun a w => by simp [go_sem]
  rcases hkk with hq | hq | hq | hq
  · -- Append
    subst hq
    rw [if_pos rfl] at hD'
    have HD := Lib.hid hD'
    have H1 := Lib.hid (doc_data hFU s k hk)
    clear h hF hok hC hx hb hB hFU hF2 hbd hxU hK hs ht hnn hD hD' h3c h2c hkx hk hxd hcd
    go_enter Try.func35, Try.ntmps35
    go_wp2_with fail
    refine H1.out.mono ?_
    rintro e w2 ⟨A1, c1, rfl, h2⟩
    have y1 := ((HU.out.2.1.same (h2.out.2.block bx HU.out.2.1.lt)).cell 1).trans rfl
    have y3 := ((HU.out.2.1.same (h2.out.2.block bx HU.out.2.1.lt)).cell 3).trans rfl
    go_wp2_with (at_builtin; refine wpList_append_ns _ rfl _ _ 29 rfl U.heap.size 5 i0 (.int .u8 0) 1 Try.underlying29 hi0 hz0 hz1 hz2 rfl (.slice A1 k c1) k (nums .u8 (dat (fsR l) s)) rfl h2.out.1 .u8 U.heap.size x.A kx x.c x.d HU.out.2.2.2.2.2.2.1 rfl (HU.out.2.2.2.2.2.2.2.1.below h2.out.2) (by omega) (by omega) h2.out.2.size ?_; intro v7 w7 o7 g7 at7; obtain ⟨A7, c7, rfl⟩ := own_form o7; have HZ : Hid (w7.ownsRow U.heap.size 5 1 (.slice A7 (k + kx) c7) (k + kx) (nums .u8 (dat (fsR l) s ++ C.d)) ∧ Below U.heap.size U w7) := Lib.hid ⟨by have := o7; rw [HU.out.2.2.2.2.2.2.2.2.1] at this; unfold nums at this ⊢; rw [List.map_append]; exact this, h2.out.2.grown g7 h2.out.2.size (fun j hj => (h2.out.1.lt j hj).1)⟩; clear o7 g7 at7; have y1 := ((HU.out.2.1.same (HZ.out.2.block bx HU.out.2.1.lt)).cell 1).trans rfl)
    have hlk : (dat (fsR l) s ++ C.d).length = k + kx := by rw [List.length_append, HU.out.2.2.2.2.2.1, ← HU.out.2.2.2.2.2.2.2.2.1, HU.out.2.2.2.2.2.2.1]
    have H3 := Lib.hid (doc_with (HU.out.2.2.1.below HZ.out.2 (Nat.le_refl _)) (fun j hj => HU.out.2.2.2.1 j (by have := HZ.out.2.size; omega)) (by omega) s hss ⟨dat (fsR l) s ++ C.d, A7, c7⟩ (fl_own HZ.out.1 hlk (fun j hj => HU.out.2.2.2.1 j hj) (fun z hz => (List.mem_append.1 hz).elim (HU.out.2.2.2.2.1 z) (HU.out.2.2.2.2.2.2.2.2.2 z)) (by omega)) (k + kx) hlk)
    clear hlk
    go_wp2_with fail
    refine H3.out.mono ?_
    rintro e w4 ⟨A4, n4, c4, rfl, h4⟩
    have HE : Hid (∃ l', Fr F w4 A4 n4 c4 l' ∧ fsR l' = D ∧ Below w.heap.size w w4) := Lib.hid ⟨_, h4.out.1, by rw [← HD.out]; exact map_wit _ _ _ _, (HU.out.1.trans (HZ.out.2.mono hsz.out)).trans (h4.out.2.mono (by have := HZ.out.2.size; have := hsz.out; omega))⟩
    clear h4
    go_wp2_with fail
    go_ret
    exact ⟨A4, n4, c4, rfl, by first | exact HE | (rw [← hbx]; exact HE)⟩
  · -- Cut
    subst hq
    obtain ⟨m, rfl⟩ : ∃ m : Nat, nn = (m : Int) := ⟨nn.toNat, by have := (h2c rfl).1; omega⟩
    have hmk : m ≤ k := by have := (h2c rfl).2; omega
    rw [if_neg (by omega), if_pos rfl, Int.toNat_natCast] at hD'
    have HD := Lib.hid hD'
    have H1 := Lib.hid (doc_data (w := U.drew) hFU s k hk)
    clear h hF hok hC hx hb hB hFU hF2 hbd hxU hK hs ht hnn hD hD' h3c h2c hkx hk hxd hcd
    have z1 : U.drew.cell? ⟨bx, 1, none⟩ = some (.string s) := x1
    have z4 : U.drew.cell? ⟨bx, 4, none⟩ = some (.int .i64 m) := x4
    go_enter Try.func35, Try.ntmps35
    go_wp2_with fail
    go_region_law (first
      | (refine step_call (by rfl) 47 _ _ (by rfl) (hcD _ _) #[.slice A n c, .string s] (by first | rfl | simp [Act.eval]) H1.out (fun e w' h => by obtain ⟨_, _, rfl, _⟩ := h; exact ⟨_, rfl⟩) ?_; rintro v2 w2 ⟨A1, c1, hv2, h2⟩; injection hv2 with hv2; subst hv2; have hb2 : Below U.heap.size U w2 := ((Below.refl _ U).drew).trans h2.out.2; have y1 := ((HU.out.2.1.same (hb2.block bx HU.out.2.1.lt)).cell 1).trans rfl; have y4 := ((HU.out.2.1.same (hb2.block bx HU.out.2.1.lt)).cell 4).trans rfl; have hcut := Cut.cut_h A1 k c1 m (m : Int) rfl hmk (own_len h2.out.1).2; have H3 := Lib.hid (doc_with (HU.out.2.2.1.below hb2 (Nat.le_refl _)) (fun j hj => HU.out.2.2.2.1 j (by have := hb2.size; omega)) (by omega) s hss ⟨(dat (fsR l) s).take m, A1, c1⟩ (fl_own (own_take h2.out.1 hmk) (by rw [List.length_take, HU.out.2.2.2.2.2.1]; omega) (fun j hj => HU.out.2.2.2.1 j hj) (fun z hz => HU.out.2.2.2.2.1 z (List.mem_of_mem_take hz)) (by omega)) m (by rw [List.length_take, HU.out.2.2.2.2.2.1]; omega)))
      | (refine step_call (by rfl) 48 _ _ (by rfl) (hcW _ _) #[.slice A n c, .string s, .slice A1 m c1] (by first | rfl | simp [Act.eval, Act.put]) H3.out (fun e w' h => by obtain ⟨_, _, _, rfl, _⟩ := h; exact ⟨_, rfl⟩) ?_; rintro v4 w4 ⟨A4, n4, c4, hv4, h4⟩; injection hv4 with hv4; subst hv4))
    all_goals
      have HE : Hid (∃ l', Fr F w4 A4 n4 c4 l' ∧ fsR l' = D ∧ Below w.heap.size w w4) := Lib.hid ⟨_, h4.out.1, by rw [← HD.out]; exact map_wit _ _ _ _, (HU.out.1.trans (hb2.mono hsz.out)).trans (h4.out.2.mono (by have := hb2.size; have := hsz.out; omega))⟩
      clear h4
      go_wp2_with fail
      go_ret
      exact ⟨A4, n4, c4, rfl, by first | exact HE | (rw [← hbx]; exact HE)⟩
  · -- Rename
    subst hq
    rw [if_neg (by omega), if_neg (by omega), if_pos rfl] at hD'
    have hts := h3c rfl
    have HD := Lib.hid hD'
    have H1 := Lib.hid (doc_data hFU s k hk)
    have hwl : (wout l s).length ≤ n := by rw [← hln]; exact List.length_filter_le _ _
    clear h hF hok hC hx hb hB hFU hF2 hbd hxU hK hs ht hnn hD hD' h3c h2c hkx hk hxd hcd
    go_enter Try.func35, Try.ntmps35
    go_wp2_with fail
    refine H1.out.mono ?_
    rintro e w2 ⟨A1, c1, rfl, h2⟩
    have H2 := Lib.hid (doc_without (w := w2.drew) (HU.out.2.2.1.below h2.out.2.drew (Nat.le_refl _)) (fun j hj => HU.out.2.2.2.1 j (by have := h2.out.2.size; have : w2.drew.heap.size = w2.heap.size := rfl; omega)) (by omega) s)
    obtain ⟨V, hV⟩ : ∃ V, V = w2 := ⟨_, rfl⟩
    subst hV
    have y1 := ((HU.out.2.1.same (h2.out.2.block bx HU.out.2.1.lt)).cell 1).trans rfl
    have y2 := ((HU.out.2.1.same (h2.out.2.block bx HU.out.2.1.lt)).cell 2).trans rfl
    have z1 : V.drew.cell? ⟨bx, 1, none⟩ = some (.string s) := y1
    have z2 : V.drew.cell? ⟨bx, 2, none⟩ = some (.string t) := y2
    go_wp2_with fail
    go_region_law (first
      | (refine step_call (by rfl) 49 _ _ (by rfl) (hcO _ _) #[.slice A n c, .string s] (by first | rfl | simp [Act.eval]) H2.out (fun e w' h => by obtain ⟨_, _, _, rfl, _⟩ := h; exact ⟨_, rfl⟩) ?_; rintro v3 w3 ⟨A3, n3, c3, hv3, h3⟩; injection hv3 with hv3; subst hv3; have hb3 : Below V.heap.size V w3 := ((Below.refl _ V).drew).trans h3.out.2; have hbU3 : Below U.heap.size U w3 := h2.out.2.trans (hb3.mono h2.out.2.size); have t1 := ((HU.out.2.1.same (hbU3.block bx HU.out.2.1.lt)).cell 1).trans rfl; have t2 := ((HU.out.2.1.same (hbU3.block bx HU.out.2.1.lt)).cell 2).trans rfl; have H3 := Lib.hid (doc_with h3.out.1 (fun j hj => HU.out.2.2.2.1 j (by have := hbU3.size; omega)) (by have := h3.out.1.1; omega) t hts ⟨dat (fsR l) s, A1, c1⟩ (fl_own (own_below h2.out.1 hb3 (Nat.le_refl _)) HU.out.2.2.2.2.2.1 (fun j hj => HU.out.2.2.2.1 j hj) HU.out.2.2.2.2.1 (by omega)) k HU.out.2.2.2.2.2.1))
      | (refine step_call (by rfl) 48 _ _ (by rfl) (hcW _ _) #[.slice A3 n3 c3, .string t, .slice A1 k c1] (by first | rfl | simp [Act.eval]) H3.out (fun e w' h => by obtain ⟨_, _, _, rfl, _⟩ := h; exact ⟨_, rfl⟩) ?_; rintro v4 w4 ⟨A4, n4, c4, hv4, h4⟩; injection hv4 with hv4; subst hv4))
    all_goals
      have HE : Hid (∃ l', Fr F w4 A4 n4 c4 l' ∧ fsR l' = D ∧ Below w.heap.size w w4) := Lib.hid ⟨_, h4.out.1, by rw [← HD.out, ← map_wout]; exact map_wit _ _ _ _, (HU.out.1.trans (hbU3.mono hsz.out)).trans (h4.out.2.mono (by have := hbU3.size; have := hsz.out; omega))⟩
      clear h4
      go_wp2_with fail
      go_ret
      exact ⟨A4, n4, c4, rfl, by first | exact HE | (rw [← hbx]; exact HE)⟩
  · -- Remove
    subst hq
    rw [if_neg (by omega), if_neg (by omega), if_neg (by omega)] at hD'
    have HD := Lib.hid hD'
    have H1 := Lib.hid (doc_without hFU hF2 (by omega) s)
    clear h hF hok hC hx hb hB hFU hF2 hbd hxU hK hs ht hnn hD hD' h3c h2c hkx hk hxd hcd
    go_enter Try.func35, Try.ntmps35
    go_wp2_with fail
    refine H1.out.mono ?_
    rintro e w4 ⟨A4, n4, c4, rfl, h4⟩
    have HE : Hid (∃ l', Fr F w4 A4 n4 c4 l' ∧ fsR l' = D ∧ Below w.heap.size w w4) := Lib.hid ⟨_, h4.out.1, by rw [← HD.out]; exact map_wout _ _ _, HU.out.1.trans (h4.out.2.mono hsz.out)⟩
    clear h4
    go_wp2_with fail
    go_ret
    exact ⟨A4, n4, c4, rfl, by first | exact HE | (rw [← hbx]; exact HE)⟩
end
end Disk
end Go.Proofs.Ytdcppjpjlhbanaa
