/-
  slices.Clone of spans and fresh.Ver: copies that have no memory in common with what they were made of.
-/
import Derived.Test.YtbhidndgnldheaaVersTogether
import Derived.Lib.SliceRun
import Derived.Test.YtbhidndgnldheaaSpanLay
import Derived.Test.YtbhidndgnldheaaSpanJoinRef
namespace Go.Proofs.Ytbhidndgnldheaa
namespace Vers
open Go.RowKit Span
attribute [local go_sem ↓] Go.wp_at_zero Go.wp_at_succ

/-- Spans of the call's own. -/
def NewSs (l : List Sp) (w : World) (e : Ending) (w' : World) : Prop :=
  ∃ A c, e = .returned (.slice A l.length c) ∧ Hid (Ss w' w'.heap.size A l ∧ l.length ≤ c ∧ (0 < l.length → ∀ a, A = some a → w.heap.size ≤ a.block)) ∧ Below w.heap.size w w'

/-- Where spans stand is a row of spans that may be written. -/
def Tg (w : World) (n : Nat) (A : Option Addr) : Prop := 0 < n → ∀ a, A = some a → ∃ cur, w.heap[a.block]? = some (.cells cur 111 (0, 0))
theorem Tg.keep {w w' : World} {n : Nat} {A : Option Addr} (h : Tg w n A) (hk : 0 < n → ∀ a, A = some a → a.block < w.heap.size → w'.heap[a.block]? = w.heap[a.block]?) : Tg w' n A := fun hn a ha => by
  obtain ⟨cur, hc⟩ := h hn a ha
  exact ⟨cur, (hk hn a ha (Array.getElem?_eq_some_iff.1 hc).1).trans hc⟩
theorem Tg.below {w w' : World} {n : Nat} {A : Option Addr} (h : Tg w n A) (hb : Below w.heap.size w w') : Tg w' n A := h.keep fun _ a _ hl => hb.block a.block hl
theorem own_tag {w : World} {base : Nat} {A : Option Addr} {c n : Nat} {us : List Value} (h : w.ownsRow base 111 3 (.slice A n c) n us) : Tg w n A := by
  rcases h.2 with ⟨hv, h0⟩ | ⟨g, cap, cur, hv, hbg, hg, _⟩
  · subst h0
    exact fun h => absurd h (by omega)
  · injection hv with h1 h2 h3
    subst h1
    exact fun _ a ha => by injection ha with ha; subst ha; exact ⟨cur, hg⟩
/-- Spans of the call's own, in a row of spans. -/
def OwnSsT (l : List Sp) (w : World) (e : Ending) (w' : World) : Prop :=
  ∃ A c, e = .returned (.slice A l.length c) ∧ Hid (Ss w' w'.heap.size A l ∧ l.length ≤ c ∧ (0 < l.length → ∀ a, A = some a → w.heap.size ≤ a.block) ∧ Tg w' l.length A) ∧ Below w.heap.size w w'

theorem own_low {w : World} {base : Nat} {e : TypeId} {size : Nat} {A : Option Addr} {c n : Nat} {us : List Value} (h : w.ownsRow base e size (.slice A n c) n us) : n ≤ c ∧ (0 < n → ∀ a, A = some a → base ≤ a.block) := by
  rcases h.2 with ⟨hv, h0⟩ | ⟨g, cap, cur, hv, hbg, hg, hn, _⟩
  · injection hv with h1 h2 h3
    subst h0
    exact ⟨Nat.zero_le _, fun h => absurd h (by omega)⟩
  · injection hv with h1 h2 h3
    subst h1
    subst h3
    exact ⟨hn, fun _ a ha => by injection ha with ha; subst ha; exact hbg⟩

set_option maxRecDepth 100000 in
theorem clone_own (A : Option Addr) (c n : Nat) (l : List Sp) (hn : l.length = n) (B : Nat) (w : World) (hB : B ≤ w.heap.size) (hr : Ss w B A l) (hbig : n ≤ 4294967296) :
    Calls Try.prog 75 #[.slice A n c] w (OwnSsT l w) := by
  obtain ⟨i0, hi0, hz0, hz1, hz2⟩ := info_span
  rcases A with _ | ad
  · have h0 : l = [] := by
      rcases Nat.eq_zero_or_pos l.length with h0 | h0
      · exact List.eq_nil_of_length_eq_zero h0
      · obtain ⟨b, off, he, _⟩ := hr h0
        cases he
    subst h0
    obtain rfl : n = 0 := hn.symm
    have hne := Lib.run_eql_slice_nil (P := Try.prog) w 67 111 none 0 c 0 0 Try.underlying67
    rw [show (none : Option Addr).isNone = true from rfl] at hne
    go_enter Try.func75, Try.ntmps75
    go_wp2_with fail
    go_ret
    exact ⟨none, 0, rfl, Lib.hid ⟨fun h => absurd h (by simp), by simp, fun h => absurd h (by simp), fun h => absurd h (by simp)⟩, Below.refl _ _⟩
  · have ho := World.ownsRow_lit (base := w.heap.size) (e := 111) (size := 3) w #[] 0 (Nat.le_refl _) (by unfold maxLen; omega) rfl
    have q2 : Ss (w.alloc (.cells #[] 111)) w.heap.size (some ad) l := (hr.more hB).below ((Below.refl _ w).alloc (Nat.le_refl _) _)
    have hne := Lib.run_eql_slice_nil (P := Try.prog) w 67 111 (some ad) n c 0 0 Try.underlying67
    rw [show (some ad).isNone = false from rfl] at hne
    have Hn := Lib.hid hn
    clear hr hn
    go_enter Try.func75, Try.ntmps75
    have b0 := (Below.refl w.heap.size w).alloc (Nat.le_refl _) (.cells #[] 111)
    go_wp2_with (at_builtin; refine wpList_append_ss _ rfl (.tmp 5) (.tmp 6) 67 rfl w.heap.size 111 i0 _ 24 Try.underlying67 hi0 hz0 hz1 hz2 rfl _ 0 [] rfl ho w.heap.size (some ad) n c l Hn.out rfl q2 (by omega) (by omega) (by simp) ?_; intro v1 w1 o1 g1 at1)
    have b1 := b0.grown g1 (by simp) (fun j hj => (ho.lt j hj).1)
    obtain ⟨A1, c1, rfl⟩ := own_form o1
    have o2 : w1.ownsRow w.heap.size 111 3 (.slice A1 l.length c1) l.length (sps l) := by
      rw [Hn.out]
      simpa using o1
    have HF := Lib.hid (And.intro o2 b1)
    have hz : 0 + n = l.length := by rw [Hn.out, Nat.zero_add]
    have HZ := Lib.hid hz
    clear o1 g1 at1 o2 b1 b0 ho q2 hz
    go_wp2_with fail
    go_ret
    exact ⟨A1, c1, by rw [HZ.out]; rfl, Lib.hid ⟨own_ss HF.out.1, (own_low HF.out.1).1, (own_low HF.out.1).2, own_tag HF.out.1⟩, HF.out.2⟩
theorem clone_ss (A : Option Addr) (c n : Nat) (l : List Sp) (hn : l.length = n) (B : Nat) (w : World) (hB : B ≤ w.heap.size) (hr : Ss w B A l) (hbig : n ≤ 4294967296) :
    Calls Try.prog 75 #[.slice A n c] w (NewSs l w) :=
  (clone_own A c n l hn B w hB hr hbig).mono fun _ _ ⟨A', c', h1, h2, h3⟩ => ⟨A', c', h1, Lib.hid ⟨h2.out.1, h2.out.2.1, h2.out.2.2.1⟩, h3⟩

theorem results_cell1 {fn : Func} {p : Tmp} {ty : TypeId} (h : fn.results = #[.cell p ty]) (tmps : Array Value) (P : Program) (w : World) :
    (results fn tmps).run P w = ((asAddr (tmps.getD p undef)).run P w).andThen fun a w₁ => (loadVar ty a).run P w₁ := by
  simp only [results, h]
  simp [Sem.run_bind, Result.andThen]
/-- Five cells written. -/
def put5q (V : World) (m : Nat) (u0 u1 u2 u3 u4 : Value) : World := ((((V.setCell ⟨m, 0, none⟩ u0).setCell ⟨m, 1, none⟩ u1).setCell ⟨m, 2, none⟩ u2).setCell ⟨m, 3, none⟩ u3).setCell ⟨m, 4, none⟩ u4
theorem put5q_lit {V : World} {m : Nat} {u0 u1 u2 u3 u4 : Value} : ((((V.setCell ⟨m, 0, none⟩ u0).setCell ⟨m, 1, none⟩ u1).setCell ⟨m, 2, none⟩ u2).setCell ⟨m, 3, none⟩ u3).setCell ⟨m, 4, none⟩ u4 = put5q V m u0 u1 u2 u3 u4 := rfl
theorem put5q_drew {V : World} {m : Nat} {u0 u1 u2 u3 u4 : Value} : put5 V m u0 u1 u2 u3 u4 = (put5q V m u0 u1 u2 u3 u4).drew := rfl
theorem put5q_new {V : World} {m : Nat} {u0 u1 u2 u3 u4 : Value} {z0 z1 z2 z3 z4 : Value} (h : V.cell? ⟨m, 0, none⟩ = some z0 ∧ V.cell? ⟨m, 1, none⟩ = some z1 ∧ V.cell? ⟨m, 2, none⟩ = some z2 ∧ V.cell? ⟨m, 3, none⟩ = some z3 ∧ V.cell? ⟨m, 4, none⟩ = some z4) :
    (put5q V m u0 u1 u2 u3 u4).cell? ⟨m, 0, none⟩ = some u0 ∧ (put5q V m u0 u1 u2 u3 u4).cell? ⟨m, 1, none⟩ = some u1 ∧ (put5q V m u0 u1 u2 u3 u4).cell? ⟨m, 2, none⟩ = some u2 ∧ (put5q V m u0 u1 u2 u3 u4).cell? ⟨m, 3, none⟩ = some u3 ∧ (put5q V m u0 u1 u2 u3 u4).cell? ⟨m, 4, none⟩ = some u4 := by
  have key := put5_new (u0 := u0) (u1 := u1) (u2 := u2) (u3 := u3) (u4 := u4) h
  rw [put5q_drew] at key
  simpa only [drew_cell] using key
theorem put5q_heap {V : World} {m k : Nat} {u0 u1 u2 u3 u4 : Value} (h : k ≠ m) : (put5q V m u0 u1 u2 u3 u4).heap[k]? = V.heap[k]? := by
  have key := put5_heap (V := V) (u0 := u0) (u1 := u1) (u2 := u2) (u3 := u3) (u4 := u4) h
  rwa [put5q_drew, drew_heap] at key
theorem put5q_size {V : World} {m : Nat} {u0 u1 u2 u3 u4 : Value} : (put5q V m u0 u1 u2 u3 u4).heap.size = V.heap.size := by
  have key := put5_size (V := V) (m := m) (u0 := u0) (u1 := u1) (u2 := u2) (u3 := u3) (u4 := u4)
  rwa [put5q_drew, drew_heap] at key
theorem put5q_below {V : World} {m : Nat} {u0 u1 u2 u3 u4 : Value} : Below m V (put5q V m u0 u1 u2 u3 u4) := by
  unfold put5q
  exact ((((below_set V m 0 u0).trans (below_set _ m 1 u1)).trans (below_set _ m 2 u2)).trans (below_set _ m 3 u3)).trans (below_set _ m 4 u4)

/-- A version whose past is of the call's own. -/
def NewVer (v : Vr) (w : World) (e : Ending) (w' : World) : Prop :=
  ∃ A c, e = .returned (.agg #[.int .i64 v.s, .int .i64 v.n, .slice A v.past.length c, .bool v.gone, .string v.val]) ∧ Hid (Pa w' w.heap.size w'.heap.size A c v) ∧ Below w.heap.size w w'

/-- A version whose past is of the call's own, in a row of spans. -/
def OwnVerT (v : Vr) (w : World) (e : Ending) (w' : World) : Prop :=
  ∃ A c, e = .returned (.agg #[.int .i64 v.s, .int .i64 v.n, .slice A v.past.length c, .bool v.gone, .string v.val]) ∧ Hid (Pa w' w.heap.size w'.heap.size A c v ∧ Tg w' v.past.length A) ∧ Below w.heap.size w w'

set_option maxRecDepth 100000 in
set_option maxHeartbeats 1000000 in
theorem ver_own (A : Option Addr) (c kp : Nat) (s vn : Int) (vp : List Sp) (vg : Bool) (vx : ByteArray) (hkp : vp.length = kp) (hk : kp ≤ 4294967296) (L B : Nat) (w : World) (hB : B ≤ w.heap.size) (hp : Pa w L B A c ⟨s, vn, vp, vg, vx⟩) :
    Calls Try.prog 63 #[.agg #[.int .i64 s, .int .i64 vn, .slice A kp c, .bool vg, .string vx]] w (OwnVerT ⟨s, vn, vp, vg, vx⟩ w) := by
  have H1 : Hid (∀ W, Below w.heap.size w W → Calls Try.prog 75 #[.slice A kp c] W (OwnSsT vp W)) := Lib.hid fun W hb => clone_own A c kp vp hkp B W (Nat.le_trans hB hb.size) (hp.1.below (hb.mono hB)) hk
  have HP := Lib.hid (And.intro hp hkp)
  clear hp hkp
  go_enter Try.func63, Try.ntmps63
  go_wp2_with fail
  obtain ⟨m, hm⟩ : ∃ m, w.heap.size = m := ⟨_, rfl⟩
  obtain ⟨W2, hW2⟩ : ∃ W2, (w.alloc (.cells #[.int .i64 s, .int .i64 vn, .slice A kp c, .bool vg, .string vx] 69)).alloc (.cells #[.int .i64 0, .int .i64 0, .slice none 0 0, .bool false, .string ⟨#[]⟩] 69) = W2 := ⟨_, rfl⟩
  have n1 : W2.heap[m]? = some (.cells #[.int .i64 s, .int .i64 vn, .slice A kp c, .bool vg, .string vx] 69) := by
    rw [← hW2, ← hm, Below.heap_alloc _ _ _ (by simp)]; exact World.alloc_heap_new _ _
  have n2 : W2.heap[m + 1]? = some (.cells #[.int .i64 0, .int .i64 0, .slice none 0 0, .bool false, .string ⟨#[]⟩] 69) := by
    have h := World.alloc_heap_new (w.alloc (.cells #[.int .i64 s, .int .i64 vn, .slice A kp c, .bool vg, .string vx] 69)) (.cells #[.int .i64 0, .int .i64 0, .slice none 0 0, .bool false, .string ⟨#[]⟩] 69)
    rw [hW2] at h
    rw [← hm]; simpa using h
  have bW : Below w.heap.size w W2 := by rw [← hW2]; exact ((Below.refl _ w).alloc (Nat.le_refl _) _).alloc (by simp) _
  have sW : W2.heap.size = m + 2 := by rw [← hW2, ← hm]; simp
  have hK := H1.out W2 bW
  rw [hW2, hm]
  have HW := Lib.hid (And.intro hm (And.intro bW sW))
  have HN := Lib.hid (And.intro n1 n2)
  clear hW2 hm n1 n2 bW sW H1
  refine Calls.mono hK ?_
  rintro e w1 ⟨A1, c1, rfl, hF, b1⟩
  have k1 : w1.heap[m]? = some (.cells #[.int .i64 s, .int .i64 vn, .slice A kp c, .bool vg, .string vx] 69) := (b1.block m (by have := HW.out.2.2; omega)).trans HN.out.1
  have k2 : w1.heap[m + 1]? = some (.cells #[.int .i64 0, .int .i64 0, .slice none 0 0, .bool false, .string ⟨#[]⟩] 69) := (b1.block (m + 1) (by have := HW.out.2.2; omega)).trans HN.out.2
  rw [HP.out.2]
  obtain ⟨X, hX⟩ : ∃ X, w1.setCell ⟨m, 2, none⟩ (.slice A1 kp c1) = X := ⟨_, rfl⟩
  have c2 : w1.cell? ⟨m, 2, none⟩ = some (.slice A kp c) := by simp [World.cell?, k1]
  have f2 : w1.frozen? ⟨m, 2, none⟩ = false := by simp [World.frozen?, k1]
  have x0 : X.cell? ⟨m, 0, none⟩ = some (.int .i64 s) := by rw [← hX, off_ne _ _ _ _ _ (by omega)]; simp [World.cell?, k1]
  have x1 : X.cell? ⟨m, 1, none⟩ = some (.int .i64 vn) := by rw [← hX, off_ne _ _ _ _ _ (by omega)]; simp [World.cell?, k1]
  have x2 : X.cell? ⟨m, 2, none⟩ = some (.slice A1 kp c1) := by rw [← hX]; exact World.cell?_setCell_same' _ _ _ (by rw [c2]; rfl)
  have x3 : X.cell? ⟨m, 3, none⟩ = some (.bool vg) := by rw [← hX, off_ne _ _ _ _ _ (by omega)]; simp [World.cell?, k1]
  have x4 : X.cell? ⟨m, 4, none⟩ = some (.string vx) := by rw [← hX, off_ne _ _ _ _ _ (by omega)]; simp [World.cell?, k1]
  have hk2 : X.heap[m + 1]? = some (.cells #[.int .i64 0, .int .i64 0, .slice none 0 0, .bool false, .string ⟨#[]⟩] 69) := by rw [← hX, Below.heap_setCell _ _ _ _ (show m + 1 ≠ m by omega)]; exact k2
  have F2 : ∀ r, X.frozen? ⟨m + 1, r, none⟩ = false := fun r => by simp [World.frozen?, hk2]
  have z0 : X.cell? ⟨m + 1, 0, none⟩ = some (.int .i64 0) := by simp [World.cell?, hk2]
  have z1 : X.cell? ⟨m + 1, 1, none⟩ = some (.int .i64 0) := by simp [World.cell?, hk2]
  have z2 : X.cell? ⟨m + 1, 2, none⟩ = some (.slice none 0 0) := by simp [World.cell?, hk2]
  have z3 : X.cell? ⟨m + 1, 3, none⟩ = some (.bool false) := by simp [World.cell?, hk2]
  have z4 : X.cell? ⟨m + 1, 4, none⟩ = some (.string ⟨#[]⟩) := by simp [World.cell?, hk2]
  have f0' := F2 0
  have f1' := F2 1
  have f2' := F2 2
  have f3' := F2 3
  have f4' := F2 4
  have bX : Below m w1 X := by rw [← hX]; exact below_set w1 m 2 _
  have HC := Lib.hid (And.intro b1 bX)
  clear k1 k2 F2 hk2 b1 bX hK
  go_wp2_with fail
  have hy := put5q_new (V := X) (m := m + 1) (u0 := .int .i64 s) (u1 := .int .i64 vn) (u2 := .slice A1 kp c1) (u3 := .bool vg) (u4 := .string vx) ⟨z0, z1, z2, z3, z4⟩
  have hheap := fun k (h : k ≠ m + 1) => put5q_heap (V := X) (m := m + 1) (u0 := .int .i64 s) (u1 := .int .i64 vn) (u2 := .slice A1 kp c1) (u3 := .bool vg) (u4 := .string vx) h
  have hsz := put5q_size (V := X) (m := m + 1) (u0 := .int .i64 s) (u1 := .int .i64 vn) (u2 := .slice A1 kp c1) (u3 := .bool vg) (u4 := .string vx)
  have hbl := put5q_below (V := X) (m := m + 1) (u0 := .int .i64 s) (u1 := .int .i64 vn) (u2 := .slice A1 kp c1) (u3 := .bool vg) (u4 := .string vx)
  rw [put5q_lit]
  obtain ⟨Y, hY⟩ : ∃ Y, put5q X (m + 1) (.int .i64 s) (.int .i64 vn) (.slice A1 kp c1) (.bool vg) (.string vx) = Y := ⟨_, rfl⟩
  rw [hY] at hy hheap hsz hbl ⊢
  obtain ⟨y0, y1, y2, y3, y4⟩ := hy
  have hXh : ∀ k, k ≠ m → X.heap[k]? = w1.heap[k]? := fun k hk => by rw [← hX]; exact Below.heap_setCell _ _ _ _ hk
  have hXs : X.heap.size = w1.heap.size := by rw [← hX]; exact setCell_size _ _ _
  have b2 : Below m W2 w1 := HC.out.1.mono (by have := HW.out.2.2; omega)
  have b3 : Below m w1 X := HC.out.2
  have hbel : Below w.heap.size w Y := by
    have e := HW.out.1
    have h1 := HW.out.2.1
    rw [e] at h1 ⊢
    exact ((h1.trans b2).trans b3).trans (hbl.mono (by omega))
  have hpast : Pa Y w.heap.size Y.heap.size A1 c1 ⟨s, vn, vp, vg, vx⟩ := by
    have e := HW.out.1
    have e2 := HW.out.2.2
    have e3 := HC.out.1.size
    refine ⟨Ss.high (L := W2.heap.size) (hF.out.1.more (by omega)) (fun hp a ha => hF.out.2.2.1 hp a ha) (fun p hp1 hp2 => ?_), hF.out.2.1, HP.out.1.2.2.1, HP.out.1.2.2.2.1, fun hp a ha => ?_⟩
    · exact World.cell?_of_block ((hheap _ (by omega)).trans (hXh _ (by omega)))
    · have := hF.out.2.2.1 hp a ha
      omega
  have htag : Tg Y vp.length A1 := fun hp a ha => by
    have e2 := HW.out.2.2
    have e4 := hF.out.2.2.1 hp a ha
    obtain ⟨cur, hc⟩ := hF.out.2.2.2 hp a ha
    exact ⟨cur, ((hheap _ (by omega)).trans (hXh _ (by omega))).trans hc⟩
  have HR := Lib.hid (And.intro (And.intro hpast htag) hbel)
  clear hXh hXs b2 b3 hbl hsz hheap hY hX hF hpast htag hbel x0 x1 x2 x3 x4 z0 z1 z2 z3 z4 f0' f1' f2' f3' f4' f2 c2
  (try simp only [Exit.inBlock, Exit.then])
  refine bodyPost_ret (v := .agg #[.int .i64 s, .int .i64 vn, .slice A1 kp c1, .bool vg, .string vx]) ?_ rfl ⟨A1, c1, by rw [HP.out.2], Lib.hid HR.out.1, HR.out.2⟩
  rw [results_cell1 rfl]
  go_simp
theorem ver_any (A : Option Addr) (c kp : Nat) (s vn : Int) (vp : List Sp) (vg : Bool) (vx : ByteArray) (hkp : vp.length = kp) (hk : kp ≤ 4294967296) (L B : Nat) (w : World) (hB : B ≤ w.heap.size) (hp : Pa w L B A c ⟨s, vn, vp, vg, vx⟩) :
    Calls Try.prog 63 #[.agg #[.int .i64 s, .int .i64 vn, .slice A kp c, .bool vg, .string vx]] w (NewVer ⟨s, vn, vp, vg, vx⟩ w) :=
  (ver_own A c kp s vn vp vg vx hkp hk L B w hB hp).mono fun _ _ ⟨A', c', h1, h2, h3⟩ => ⟨A', c', h1, Lib.hid h2.out.1, h3⟩
end Vers
end Go.Proofs.Ytbhidndgnldheaa
