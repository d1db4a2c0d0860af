/-
  List and Rest of both: the first ones of the order, and the others.
-/
import Derived.Test.YtfnjengcemokpaaRingRefOrder
namespace Go.Proofs.Ytfnjengcemokpaa
namespace Ring
open Go.RowKit
attribute [local go_sem ↓] Go.wp_at_zero Go.wp_at_succ

def cutF (n : Int) (k : Nat) : Nat := if n < 0 then 0 else if (k : Int) < n then k else n.toNat
theorem cutF_le (n : Int) (k : Nat) : cutF n k ≤ k := by
  unfold cutF
  split
  · omega
  · split <;> omega
theorem elem_ints : Try.prog.underlying 22 = some (.slice (Try.prog.elem 22)) := by kernel_rfl
theorem elem_int : Try.prog.elem 22 = 3 := by kernel_rfl
theorem add_plain (b off k : Nat) : (⟨b, off, none⟩ : Addr).add k = ⟨b, off + k, none⟩ := by unfold Addr.add; split <;> simp_all

/-- The address of what stands from m on. -/
def tailA (A : Option Addr) (c m : Nat) : Option Addr := if c = m then A else A.map fun a => ⟨a.block, a.off + m, none⟩
theorem slice_hm (A : Option Addr) (k c m : Nat) (x : Int) (hx : x = m) (hm : m ≤ k) (hk : k ≤ c) (_hA : A = none ∨ ∃ b off, A = some ⟨b, off, none⟩) :
    ∀ V, (Instr.slice 22 (.slice A k c) none (some (.int .i64 x)) (some (.int .i64 x))).run Try.prog V = .ok (.slice A m m) V := fun V => by
  subst hx
  obtain ⟨j0, hj0, hy0, hy1, hy2⟩ := info_parts info_int
  have hs := run_slice_hm (P := Try.prog) V 22 A k c elem_ints .i64 .i64 (m : Int) (m : Int) (by omega) (by omega) (by omega)
  rw [hs, elem_int]
  simp only [sizeOf, typeInfo, Sem.run_bind, Sem.run_pure, sliced, Int.toNat_natCast, Nat.sub_zero]
  simp [go_sem, hj0, hy1]
theorem slice_h (A : Option Addr) (k c m : Nat) (x : Int) (hx : x = m) (hm : m ≤ k) (hk : k ≤ c) (_hA : A = none ∨ ∃ b off, A = some ⟨b, off, none⟩) :
    ∀ V, (Instr.slice 22 (.slice A k c) none (some (.int .i64 x)) none).run Try.prog V = .ok (.slice A m c) V := fun V => by
  subst hx
  obtain ⟨j0, hj0, hy0, hy1, hy2⟩ := info_parts info_int
  have hs := run_slice_h (P := Try.prog) V 22 A k c elem_ints .i64 (m : Int) (by omega) (by omega)
  rw [hs, elem_int]
  simp only [sizeOf, typeInfo, Sem.run_bind, Sem.run_pure, sliced, Int.toNat_natCast, Nat.sub_zero]
  simp [go_sem, hj0, hy1]
theorem slice_l (A : Option Addr) (k c m : Nat) (x : Int) (hx : x = m) (hm : m ≤ k) (_hk : k ≤ c) (hA : A = none ∨ ∃ b off, A = some ⟨b, off, none⟩) :
    ∀ V, (Instr.slice 22 (.slice A k c) (some (.int .i64 x)) none none).run Try.prog V = .ok (.slice (tailA A c m) (k - m) (c - m)) V := fun V => by
  subst hx
  obtain ⟨j0, hj0, hy0, hy1, hy2⟩ := info_parts info_int
  have hs := run_slice_l (P := Try.prog) V 22 A k c elem_ints .i64 (m : Int) (by omega) (by omega)
  rw [hs, elem_int]
  simp only [sizeOf, typeInfo, Sem.run_bind, Sem.run_pure, sliced, Int.toNat_natCast]
  simp [go_sem, hj0, hy1]
  unfold tailA
  rcases hA with rfl | ⟨b, off, rfl⟩ <;> simp [add_plain]

theorem made_form {w : World} {base : Nat} {e : TypeId} {A : Option Addr} {n c m : Nat} {us : List Value} (h : w.ownsRow base e 1 (.slice A n c) m us) : A = none ∨ ∃ b off, A = some ⟨b, off, none⟩ := by
  rcases h.2 with ⟨hv, _⟩ | ⟨g, cap, cur, hv, _⟩
  · injection hv with h1; exact .inl h1
  · injection hv with h1; exact .inr ⟨g, 0, h1⟩

/-- The first ones of an order: all of it stands in a row of the call's own. -/
def ListPost (ms : List Int) (part n : Int) (w : World) (e : Ending) (w' : World) : Prop :=
  ∃ A c cx, e = .returned (.slice A (cutF n (ordL ms part).length) cx) ∧ cutF n (ordL ms part).length ≤ cx ∧ Hid (OrdOK ms part (ordL ms part)) ∧ w'.ownsRow w.heap.size 3 1 (.slice A (ordL ms part).length c) (ordL ms part).length (nums .i64 (ordL ms part)) ∧ Below w.heap.size w w'
/-- The others. -/
def RestPost (ms : List Int) (part n : Int) (w : World) (e : Ending) (w' : World) : Prop :=
  ∃ A c cx, e = .returned (.slice (tailA A c (cutF n (ordL ms part).length)) ((ordL ms part).length - cutF n (ordL ms part).length) cx) ∧ (ordL ms part).length - cutF n (ordL ms part).length ≤ cx ∧ Hid (OrdOK ms part (ordL ms part)) ∧ w'.ownsRow w.heap.size 3 1 (.slice A (ordL ms part).length c) (ordL ms part).length (nums .i64 (ordL ms part)) ∧ Below w.heap.size w w'
/-- Both at once. -/
def SplitPost (ms : List Int) (part n : Int) (w : World) (e : Ending) (w' : World) : Prop :=
  ∃ A c cx cy, e = .returned (.tuple #[.slice A (cutF n (ordL ms part).length) cx, .slice (tailA A c (cutF n (ordL ms part).length)) ((ordL ms part).length - cutF n (ordL ms part).length) cy]) ∧ cutF n (ordL ms part).length ≤ cx ∧ (ordL ms part).length - cutF n (ordL ms part).length ≤ cy ∧ Hid (OrdOK ms part (ordL ms part)) ∧ w'.ownsRow w.heap.size 3 1 (.slice A (ordL ms part).length c) (ordL ms part).length (nums .i64 (ordL ms part)) ∧ Below w.heap.size w w'
theorem ord_small {ms r : List Int} {part : Int} (h : OrdOK ms part r) : r.length ≤ 8 := by
  by_cases hr : RightM ms ∧ 0 ≤ part ∧ part < 8
  · rw [ord_len (h.1 hr) hr.1.2.2.2]; exact hr.1.2.1
  · rw [h.2 hr]; simp

set_option maxRecDepth 100000 in
set_option maxHeartbeats 1000000 in
theorem split_any (A : Option Addr) (c n : Nat) (ms : List Int) (hn : ms.length = n) (part x : Int) (w : World) (hr : Ns .i64 w w.heap.size A ms) (hbig : n ≤ 140737488355328) :
    Calls Try.prog 22 #[.slice A n c, .int .i64 part, .int .i64 x] w (SplitPost ms part x w) := by
  have H1 := Lib.hid (order_any A c n ms hn part w hr hbig)
  clear hr hn
  go_enter Try.func22, Try.ntmps22
  go_wp2_with fail
  refine H1.out.mono ?_
  rintro e w1 ⟨hok, A1, c1, rfl, o1, b1⟩
  have h8 := ord_small hok.out
  have hkc := (own_len o1).2
  have hA1 := made_form o1
  have HO := Lib.hid (And.intro o1 b1)
  obtain ⟨k, hk⟩ : ∃ k, (ordL ms part).length = k := ⟨_, rfl⟩
  have HK := Lib.hid (And.intro hk hok)
  rw [hk] at h8 hkc ⊢
  clear o1 b1 hk hok H1
  have key : ∀ (m : Nat) (y : Int), y = m → m ≤ k → cutF x k = m → (∀ V, (Instr.slice 22 (.slice A1 k c1) none (some (.int .i64 y)) (some (.int .i64 y))).run Try.prog V = .ok (.slice A1 m m) V) ∧ (∀ V, (Instr.slice 22 (.slice A1 k c1) (some (.int .i64 y)) none none).run Try.prog V = .ok (.slice (tailA A1 c1 m) (k - m) (c1 - m)) V) ∧
      ∀ j, SplitPost ms part x w (.returned (.tuple #[.slice A1 m m, .slice (tailA A1 c1 m) (k - m) (c1 - m)])) (w1.drewN j) := fun m y hy hm hcut =>
    ⟨slice_hm A1 k c1 m y hy hm hkc hA1, slice_l A1 k c1 m y hy hm hkc hA1, fun j => by
      refine ⟨A1, c1, m, c1 - m, by rw [HK.out.1, hcut], by rw [HK.out.1, hcut]; exact Nat.le_refl _, by rw [HK.out.1, hcut]; omega, HK.out.2, ?_, HO.out.2.trans (below_drewN _ _ _)⟩
      exact own_below HO.out.1 (below_drewN _ _ _) (Nat.le_refl _)⟩
  have KEY := Lib.hid key
  clear key hA1
  by_cases hx0 : x < 0
  · have q := KEY.out 0 0 rfl (by omega) (by unfold cutF; rw [if_pos hx0])
    obtain ⟨q1, q2, q3⟩ := q
    have Q3 := Lib.hid q3
    have e1 : max x 0 = 0 := by omega
    have e2 : min (0 : Int) (k : Int) = 0 := by omega
    clear q3
    go_wp2_with fail
    go_quiet (fail)
    go_wp2_with fail
    go_ret2
    exact Q3.out _
  by_cases hxk : (k : Int) < x
  · have q := KEY.out k k rfl (by omega) (by unfold cutF; rw [if_neg hx0, if_pos hxk])
    obtain ⟨q1, q2, q3⟩ := q
    have Q3 := Lib.hid q3
    have e1 : max x 0 = x := by omega
    have e2 : min x (k : Int) = k := by omega
    simp only [Nat.sub_self] at Q3
    clear q3
    go_wp2_with fail
    go_quiet (fail)
    go_wp2_with fail
    go_ret2
    exact Q3.out _
  · obtain ⟨m, rfl⟩ : ∃ m : Nat, x = m := ⟨x.toNat, by omega⟩
    have hmk : m ≤ k := by omega
    have q := KEY.out m m rfl hmk (by unfold cutF; rw [if_neg hx0, if_neg hxk]; omega)
    obtain ⟨q1, q2, q3⟩ := q
    have Q3 := Lib.hid q3
    have e1 : max (m : Int) 0 = m := by omega
    have e2 : min (m : Int) (k : Int) = m := by omega
    clear q3
    go_wp2_with fail
    go_quiet (fail)
    go_wp2_with fail
    go_ret2
    exact Q3.out _

set_option maxRecDepth 100000 in
theorem list_any (A : Option Addr) (c n : Nat) (ms : List Int) (hn : ms.length = n) (part x : Int) (w : World) (hr : Ns .i64 w w.heap.size A ms) (hbig : n ≤ 140737488355328) :
    Calls Try.prog 13 #[.slice A n c, .int .i64 part, .int .i64 x] w (ListPost ms part x w) := by
  have H1 := Lib.hid (split_any A c n ms hn part x w hr hbig)
  clear hr hn
  go_enter Try.func13, Try.ntmps13
  go_wp2_with fail
  refine H1.out.mono ?_
  rintro e w1 ⟨A1, c1, cx, cy, rfl, h1, h2, h3, h4, h5⟩
  have HF : Hid (ListPost ms part x w (.returned (.slice A1 (cutF x (ordL ms part).length) cx)) w1) := Lib.hid ⟨A1, c1, cx, rfl, h1, h3, h4, h5⟩
  obtain ⟨A2, hA2⟩ : ∃ A2, tailA A1 c1 (cutF x (ordL ms part).length) = A2 := ⟨_, rfl⟩
  obtain ⟨k2, hk2⟩ : ∃ k2, (ordL ms part).length - cutF x (ordL ms part).length = k2 := ⟨_, rfl⟩
  rw [hA2, hk2]
  obtain ⟨k, hk⟩ : ∃ k, cutF x (ordL ms part).length = k := ⟨_, rfl⟩
  rw [hk] at HF ⊢
  clear h1 h2 h3 h4 h5 hA2 hk2 hk H1
  go_wp2_with fail
  go_ret
  exact HF.out
set_option maxRecDepth 100000 in
theorem rest_any (A : Option Addr) (c n : Nat) (ms : List Int) (hn : ms.length = n) (part x : Int) (w : World) (hr : Ns .i64 w w.heap.size A ms) (hbig : n ≤ 140737488355328) :
    Calls Try.prog 15 #[.slice A n c, .int .i64 part, .int .i64 x] w (RestPost ms part x w) := by
  have H1 := Lib.hid (split_any A c n ms hn part x w hr hbig)
  clear hr hn
  go_enter Try.func15, Try.ntmps15
  go_wp2_with fail
  refine H1.out.mono ?_
  rintro e w1 ⟨A1, c1, cx, cy, rfl, h1, h2, h3, h4, h5⟩
  have HF : Hid (RestPost ms part x w (.returned (.slice (tailA A1 c1 (cutF x (ordL ms part).length)) ((ordL ms part).length - cutF x (ordL ms part).length) cy)) w1) := Lib.hid ⟨A1, c1, cy, rfl, h2, h3, h4, h5⟩
  obtain ⟨A2, hA2⟩ : ∃ A2, tailA A1 c1 (cutF x (ordL ms part).length) = A2 := ⟨_, rfl⟩
  obtain ⟨k2, hk2⟩ : ∃ k2, (ordL ms part).length - cutF x (ordL ms part).length = k2 := ⟨_, rfl⟩
  rw [hA2, hk2] at HF ⊢
  obtain ⟨k, hk⟩ : ∃ k, cutF x (ordL ms part).length = k := ⟨_, rfl⟩
  rw [hk]
  clear h1 h2 h3 h4 h5 hA2 hk2 hk H1
  go_wp2_with fail
  go_ret
  exact HF.out

theorem cut_any (A : Option Addr) (c k : Nat) (x : Int) (_hk : k ≤ 140737488355328) (w : World) : Calls Try.prog 24 #[.slice A k c, .int .i64 x] w fun e w' => e = .returned (.int .i64 (cutF x k)) ∧ w = w' := by
  by_cases hx0 : x < 0
  · have e : cutF x k = 0 := by unfold cutF; rw [if_pos hx0]
    rw [e]
    go_enter Try.func24, Try.ntmps24
    go_wp2_with fail
    go_ret
    exact ⟨rfl, rfl⟩
  by_cases hxk : (k : Int) < x
  · have e : cutF x k = k := by unfold cutF; rw [if_neg hx0, if_pos hxk]
    rw [e]
    clear e
    go_enter Try.func24, Try.ntmps24
    go_wp2_with fail
    go_ret
    exact ⟨rfl, rfl⟩
  · obtain ⟨m, rfl⟩ : ∃ m : Nat, x = m := ⟨x.toNat, by omega⟩
    have e : cutF (m : Int) k = m := by unfold cutF; rw [if_neg hx0, if_neg hxk]; omega
    rw [e]
    clear e
    go_enter Try.func24, Try.ntmps24
    go_wp2_with fail
    go_ret
    exact ⟨rfl, rfl⟩

set_option maxRecDepth 100000 in
theorem ref_list_any (A : Option Addr) (c n : Nat) (ms : List Int) (hn : ms.length = n) (part x : Int) (w : World) (hr : Ns .i64 w w.heap.size A ms) (hbig : n ≤ 140737488355328) :
    Calls Try.prog 14 #[.slice A n c, .int .i64 part, .int .i64 x] w (ListPost ms part x w) := by
  have H1 := Lib.hid (ref_order_any A c n ms hn part w hr hbig)
  clear hr hn
  go_enter Try.func14, Try.ntmps14
  go_wp2_with fail
  refine H1.out.mono ?_
  rintro e w1 ⟨hok, A1, c1, rfl, o1, b1⟩
  have h8 := ord_small hok.out
  have hkc := (own_len o1).2
  have hA1 := made_form o1
  have HF : Hid (ListPost ms part x w (.returned (.slice A1 (cutF x (ordL ms part).length) c1)) w1) := Lib.hid ⟨A1, c1, c1, rfl, Nat.le_trans (cutF_le _ _) hkc, hok, o1, b1⟩
  obtain ⟨k, hk⟩ : ∃ k, (ordL ms part).length = k := ⟨_, rfl⟩
  rw [hk] at h8 hkc HF ⊢
  have h2 := fun W => cut_any A1 c1 k x (by omega) W
  have hle := cutF_le x k
  obtain ⟨m, hm⟩ : ∃ m, cutF x k = m := ⟨_, rfl⟩
  simp only [hm] at h2 hle HF
  have q1 := slice_h A1 k c1 m (m : Int) rfl hle hkc hA1
  have H2 := Lib.hid h2
  clear h2 hm hk o1 b1 hok H1 hA1
  go_wp2_with fail
  refine (H2.out w1).mono ?_
  rintro e w2 ⟨rfl, rfl⟩
  go_wp2_with fail
  go_ret
  exact HF.out
set_option maxRecDepth 100000 in
theorem ref_rest_any (A : Option Addr) (c n : Nat) (ms : List Int) (hn : ms.length = n) (part x : Int) (w : World) (hr : Ns .i64 w w.heap.size A ms) (hbig : n ≤ 140737488355328) :
    Calls Try.prog 16 #[.slice A n c, .int .i64 part, .int .i64 x] w (RestPost ms part x w) := by
  have H1 := Lib.hid (ref_order_any A c n ms hn part w hr hbig)
  clear hr hn
  go_enter Try.func16, Try.ntmps16
  go_wp2_with fail
  refine H1.out.mono ?_
  rintro e w1 ⟨hok, A1, c1, rfl, o1, b1⟩
  have h8 := ord_small hok.out
  have hkc := (own_len o1).2
  have hA1 := made_form o1
  have HF : Hid (RestPost ms part x w (.returned (.slice (tailA A1 c1 (cutF x (ordL ms part).length)) ((ordL ms part).length - cutF x (ordL ms part).length) (c1 - cutF x (ordL ms part).length))) w1) := Lib.hid ⟨A1, c1, _, rfl, by omega, hok, o1, b1⟩
  obtain ⟨k, hk⟩ : ∃ k, (ordL ms part).length = k := ⟨_, rfl⟩
  rw [hk] at h8 hkc HF ⊢
  have h2 := fun W => cut_any A1 c1 k x (by omega) W
  have hle := cutF_le x k
  obtain ⟨m, hm⟩ : ∃ m, cutF x k = m := ⟨_, rfl⟩
  simp only [hm] at h2 hle HF
  have q1 := slice_l A1 k c1 m (m : Int) rfl hle hkc hA1
  have H2 := Lib.hid h2
  clear h2 hm hk o1 b1 hok H1 hA1
  go_wp2_with fail
  refine (H2.out w1).mono ?_
  rintro e w2 ⟨rfl, rfl⟩
  go_wp2_with fail
  go_ret
  exact HF.out
end Ring
end Go.Proofs.Ytfnjengcemokpaa
