/-
  Several texts of this family in one: VersFresh, PullClone, VersFill, VersList, TreeCopy, VersMerge, VersLacks, VersLawRow, IntsOwn, OwnRec.
-/
import Derived.Test.YtkfdplfgaddkmaaGreatK10
import Derived.Lib.SliceRun
import Derived.Test.YtkfdplfgaddkmaaGreatK3
import Derived.Test.YtkfdplfgaddkmaaGreatK8
import Derived.Test.YtkfdplfgaddkmaaGreatK22
import Derived.Deep.DeepAppendWide
/-
 slices.Clone of spans and fresh.Ver: copies that have no memory in common with what they were made of.
-/
namespace Go.Proofs.YtkfdplfgaddkmaaGreat
namespace Vers
open Go.RowKit Span
attribute [local go_sem ↓] Go.wp_at_zero Go.wp_at_succ

def Tg (w : World) (n : Nat) (A : Option Addr) : Prop := 0 < n → ∀ a, A = some a → ∃ cur, w.heap[a.block]? = some (.cells cur 121 (0, 0))
theorem Tg.keep {w w' : World} {n : Nat} {A : Option Addr} (h : Tg w n A) (hk : 0 < n → ∀ a, A = some a → a.block < w.heap.size → w'.heap[a.block]? = w.heap[a.block]?) : Tg w' n A := fun hn a ha => by
 obtain ⟨cur, hc⟩ := h hn a ha
 exact ⟨cur, (hk hn a ha (Array.getElem?_eq_some_iff.1 hc).1).trans hc⟩
theorem Tg.below {w w' : World} {n : Nat} {A : Option Addr} (h : Tg w n A) (hb : Below w.heap.size w w') : Tg w' n A := h.keep fun _ a _ hl => hb.block a.block hl
theorem own_tag {w : World} {base : Nat} {A : Option Addr} {c n : Nat} {us : List Value} (h : w.ownsRow base 121 3 (.slice A n c) n us) : Tg w n A := by
 rcases h.2 with ⟨hv, h0⟩ | ⟨g, cap, cur, hv, hbg, hg, _⟩
 ·subst h0
  exact fun h => absurd h (by omega)
 ·injection hv with h1 h2 h3
  subst h1
  exact fun _ a ha => by injection ha with ha; subst ha; exact ⟨cur, hg⟩
def OwnSsT (l : List Sp) (w : World) (e : Ending) (w' : World) : Prop :=
 ∃ A c, e = .returned (.slice A l.length c) ∧ Hid (Ss w' w'.heap.size A l ∧ l.length ≤ c ∧ (0 < l.length → ∀ a, A = some a → w.heap.size ≤ a.block) ∧ Tg w' l.length A) ∧ Below w.heap.size w w'

theorem own_low {w : World} {base : Nat} {e : TypeId} {size : Nat} {A : Option Addr} {c n : Nat} {us : List Value} (h : w.ownsRow base e size (.slice A n c) n us) : n ≤ c ∧ (0 < n → ∀ a, A = some a → base ≤ a.block) := by
 rcases h.2 with ⟨hv, h0⟩ | ⟨g, cap, cur, hv, hbg, hg, hn, _⟩
 ·injection hv with h1 h2 h3
  subst h0
  exact ⟨Nat.zero_le _, fun h => absurd h (by omega)⟩
 ·injection hv with h1 h2 h3
  subst h1
  subst h3
  exact ⟨hn, fun _ a ha => by injection ha with ha; subst ha; exact hbg⟩

set_option maxRecDepth 100000 in
theorem clone_own (A : Option Addr) (c n : Nat) (l : List Sp) (hn : l.length = n) (B : Nat) (w : World) (hB : B ≤ w.heap.size) (hr : Ss w B A l) (hbig : n ≤ 4294967296) :
  Calls Tryz.prog 101 #[.slice A n c] w (OwnSsT l w) := by
 obtain ⟨i0, hi0, hz0, hz1, hz2⟩ := info_span
 rcases A with _ | ad
 ·have h0 : l = [] := by
   rcases Nat.eq_zero_or_pos l.length with h0 | h0
   ·exact List.eq_nil_of_length_eq_zero h0
   ·obtain ⟨b, off, he, _⟩ := hr h0
    cases he
  subst h0
  obtain rfl : n = 0 := hn.symm
  have hne := Lib.run_eql_slice_nil (P := Tryz.prog) w 117 121 none 0 c 0 0 Tryz.underlying117
  rw [show (none : Option Addr).isNone = true from rfl] at hne
  go_enter Tryz.func101, Tryz.ntmps101
  go_wp2_with fail
  go_ret
  exact ⟨none, 0, rfl, Lib.hid ⟨fun h => absurd h (by simp), by simp, fun h => absurd h (by simp), fun h => absurd h (by simp)⟩, Below.refl _ _⟩
 ·have ho := World.ownsRow_lit (base := w.heap.size) (e := 121) (size := 3) w #[] 0 (Nat.le_refl _) (by unfold maxLen; omega) rfl
  have q2 : Ss (w.alloc (.cells #[] 121)) w.heap.size (some ad) l := (hr.more hB).below ((Below.refl _ w).alloc (Nat.le_refl _) _)
  have hne := Lib.run_eql_slice_nil (P := Tryz.prog) w 117 121 (some ad) n c 0 0 Tryz.underlying117
  rw [show (some ad).isNone = false from rfl] at hne
  have Hn := Lib.hid hn
  clear hr hn
  go_enter Tryz.func101, Tryz.ntmps101
  have b0 := (Below.refl w.heap.size w).alloc (Nat.le_refl _) (.cells #[] 121)
  go_wp2_with (at_builtin; refine wpList_append_ss _ rfl (.tmp 5) (.tmp 6) 117 rfl w.heap.size 121 i0 _ 24 Tryz.underlying117 hi0 hz0 hz1 hz2 rfl _ 0 [] rfl ho w.heap.size (some ad) n c l Hn.out rfl q2 (by omega) (by omega) (by simp) ?_; intro v1 w1 o1 g1 at1)
  have b1 := b0.grown g1 (by simp) (fun j hj => (ho.lt j hj).1)
  obtain ⟨A1, c1, rfl⟩ := own_form o1
  have o2 : w1.ownsRow w.heap.size 121 3 (.slice A1 l.length c1) l.length (sps l) := by
   rw [Hn.out]
   simpa using o1
  have HF := Lib.hid (And.intro o2 b1)
  have hz : 0 + n = l.length := by rw [Hn.out, Nat.zero_add]
  have HZ := Lib.hid hz
  clear o1 g1 at1 o2 b1 b0 ho q2 hz
  go_wp2_with fail
  go_ret
  exact ⟨A1, c1, by rw [HZ.out]; rfl, Lib.hid ⟨own_ss HF.out.1, (own_low HF.out.1).1, (own_low HF.out.1).2, own_tag HF.out.1⟩, HF.out.2⟩
theorem results_cell1 {fn : Func} {p : Tmp} {ty : TypeId} (h : fn.results = #[.cell p ty]) (tmps : Array Value) (P : Program) (w : World) :
  (results fn tmps).run P w = ((asAddr (tmps.getD p undef)).run P w).andThen fun a w₁ => (loadVar ty a).run P w₁ := by
 simp only [results, h]
 simp [Sem.run_bind, Result.andThen]
def put5q (V : World) (m : Nat) (u0 u1 u2 u3 u4 : Value) : World := ((((V.setCell ⟨m, 0, none⟩ u0).setCell ⟨m, 1, none⟩ u1).setCell ⟨m, 2, none⟩ u2).setCell ⟨m, 3, none⟩ u3).setCell ⟨m, 4, none⟩ u4
theorem put5q_lit {V : World} {m : Nat} {u0 u1 u2 u3 u4 : Value} : ((((V.setCell ⟨m, 0, none⟩ u0).setCell ⟨m, 1, none⟩ u1).setCell ⟨m, 2, none⟩ u2).setCell ⟨m, 3, none⟩ u3).setCell ⟨m, 4, none⟩ u4 = put5q V m u0 u1 u2 u3 u4 := rfl
theorem put5q_drew {V : World} {m : Nat} {u0 u1 u2 u3 u4 : Value} : put5 V m u0 u1 u2 u3 u4 = (put5q V m u0 u1 u2 u3 u4).drew := rfl
theorem put5q_new {V : World} {m : Nat} {u0 u1 u2 u3 u4 : Value} {z0 z1 z2 z3 z4 : Value} (h : V.cell? ⟨m, 0, none⟩ = some z0 ∧ V.cell? ⟨m, 1, none⟩ = some z1 ∧ V.cell? ⟨m, 2, none⟩ = some z2 ∧ V.cell? ⟨m, 3, none⟩ = some z3 ∧ V.cell? ⟨m, 4, none⟩ = some z4) :
  (put5q V m u0 u1 u2 u3 u4).cell? ⟨m, 0, none⟩ = some u0 ∧ (put5q V m u0 u1 u2 u3 u4).cell? ⟨m, 1, none⟩ = some u1 ∧ (put5q V m u0 u1 u2 u3 u4).cell? ⟨m, 2, none⟩ = some u2 ∧ (put5q V m u0 u1 u2 u3 u4).cell? ⟨m, 3, none⟩ = some u3 ∧ (put5q V m u0 u1 u2 u3 u4).cell? ⟨m, 4, none⟩ = some u4 := by
 have key := put5_new (u0 := u0) (u1 := u1) (u2 := u2) (u3 := u3) (u4 := u4) h
 rw [put5q_drew] at key
 simpa only [drew_cell] using key
theorem put5q_heap {V : World} {m k : Nat} {u0 u1 u2 u3 u4 : Value} (h : k ≠ m) : (put5q V m u0 u1 u2 u3 u4).heap[k]? = V.heap[k]? := by
 have key := put5_heap (V := V) (u0 := u0) (u1 := u1) (u2 := u2) (u3 := u3) (u4 := u4) h
 rwa [put5q_drew, drew_heap] at key
theorem put5q_size {V : World} {m : Nat} {u0 u1 u2 u3 u4 : Value} : (put5q V m u0 u1 u2 u3 u4).heap.size = V.heap.size := by
 have key := put5_size (V := V) (m := m) (u0 := u0) (u1 := u1) (u2 := u2) (u3 := u3) (u4 := u4)
 rwa [put5q_drew, drew_heap] at key
theorem put5q_below {V : World} {m : Nat} {u0 u1 u2 u3 u4 : Value} : Below m V (put5q V m u0 u1 u2 u3 u4) := by
 unfold put5q
 exact ((((below_set V m 0 u0).trans (below_set _ m 1 u1)).trans (below_set _ m 2 u2)).trans (below_set _ m 3 u3)).trans (below_set _ m 4 u4)

def OwnVerT (v : Vr) (w : World) (e : Ending) (w' : World) : Prop :=
 ∃ A c, e = .returned (.agg #[.int .i64 v.s, .int .i64 v.n, .slice A v.past.length c, .bool v.gone, .string v.val]) ∧ Hid (Pa w' w.heap.size w'.heap.size A c v ∧ Tg w' v.past.length A) ∧ Below w.heap.size w w'

set_option maxRecDepth 100000 in
set_option maxHeartbeats 1000000 in
theorem ver_own (A : Option Addr) (c kp : Nat) (s vn : Int) (vp : List Sp) (vg : Bool) (vx : ByteArray) (hkp : vp.length = kp) (hk : kp ≤ 4294967296) (L B : Nat) (w : World) (hB : B ≤ w.heap.size) (hp : Pa w L B A c ⟨s, vn, vp, vg, vx⟩) :
  Calls Tryz.prog 86 #[.agg #[.int .i64 s, .int .i64 vn, .slice A kp c, .bool vg, .string vx]] w (OwnVerT ⟨s, vn, vp, vg, vx⟩ w) := by
 have H1 : Hid (∀ W, Below w.heap.size w W → Calls Tryz.prog 101 #[.slice A kp c] W (OwnSsT vp W)) := Lib.hid fun W hb => clone_own A c kp vp hkp B W (Nat.le_trans hB hb.size) (hp.1.below (hb.mono hB)) hk
 have HP := Lib.hid (And.intro hp hkp)
 clear hp hkp
 go_enter Tryz.func86, Tryz.ntmps86
 go_wp2_with fail
 obtain ⟨m, hm⟩ : ∃ m, w.heap.size = m := ⟨_, rfl⟩
 obtain ⟨W2, hW2⟩ : ∃ W2, (w.alloc (.cells #[.int .i64 s, .int .i64 vn, .slice A kp c, .bool vg, .string vx] 119)).alloc (.cells #[.int .i64 0, .int .i64 0, .slice none 0 0, .bool false, .string ⟨#[]⟩] 119) = W2 := ⟨_, rfl⟩
 have n1 : W2.heap[m]? = some (.cells #[.int .i64 s, .int .i64 vn, .slice A kp c, .bool vg, .string vx] 119) := by
  rw [← hW2, ← hm, Below.heap_alloc _ _ _ (by simp)]; exact World.alloc_heap_new _ _
 have n2 : W2.heap[m + 1]? = some (.cells #[.int .i64 0, .int .i64 0, .slice none 0 0, .bool false, .string ⟨#[]⟩] 119) := by
  have h := World.alloc_heap_new (w.alloc (.cells #[.int .i64 s, .int .i64 vn, .slice A kp c, .bool vg, .string vx] 119)) (.cells #[.int .i64 0, .int .i64 0, .slice none 0 0, .bool false, .string ⟨#[]⟩] 119)
  rw [hW2] at h
  rw [← hm]; simpa using h
 have bW : Below w.heap.size w W2 := by rw [← hW2]; exact ((Below.refl _ w).alloc (Nat.le_refl _) _).alloc (by simp) _
 have sW : W2.heap.size = m + 2 := by rw [← hW2, ← hm]; simp
 have hK := H1.out W2 bW
 rw [hW2, hm]
 have HW := Lib.hid (And.intro hm (And.intro bW sW))
 have HN := Lib.hid (And.intro n1 n2)
 clear hW2 hm n1 n2 bW sW H1
 refine Calls.mono hK ?_
 rintro e w1 ⟨A1, c1, rfl, hF, b1⟩
 have k1 : w1.heap[m]? = some (.cells #[.int .i64 s, .int .i64 vn, .slice A kp c, .bool vg, .string vx] 119) := (b1.block m (by have := HW.out.2.2; omega)).trans HN.out.1
 have k2 : w1.heap[m + 1]? = some (.cells #[.int .i64 0, .int .i64 0, .slice none 0 0, .bool false, .string ⟨#[]⟩] 119) := (b1.block (m + 1) (by have := HW.out.2.2; omega)).trans HN.out.2
 rw [HP.out.2]
 obtain ⟨X, hX⟩ : ∃ X, w1.setCell ⟨m, 2, none⟩ (.slice A1 kp c1) = X := ⟨_, rfl⟩
 have c2 : w1.cell? ⟨m, 2, none⟩ = some (.slice A kp c) := by simp [World.cell?, k1]
 have f2 : w1.frozen? ⟨m, 2, none⟩ = false := by simp [World.frozen?, k1]
 have x0 : X.cell? ⟨m, 0, none⟩ = some (.int .i64 s) := by rw [← hX, off_ne _ _ _ _ _ (by omega)]; simp [World.cell?, k1]
 have x1 : X.cell? ⟨m, 1, none⟩ = some (.int .i64 vn) := by rw [← hX, off_ne _ _ _ _ _ (by omega)]; simp [World.cell?, k1]
 have x2 : X.cell? ⟨m, 2, none⟩ = some (.slice A1 kp c1) := by rw [← hX]; exact World.cell?_setCell_same' _ _ _ (by rw [c2]; rfl)
 have x3 : X.cell? ⟨m, 3, none⟩ = some (.bool vg) := by rw [← hX, off_ne _ _ _ _ _ (by omega)]; simp [World.cell?, k1]
 have x4 : X.cell? ⟨m, 4, none⟩ = some (.string vx) := by rw [← hX, off_ne _ _ _ _ _ (by omega)]; simp [World.cell?, k1]
 have hk2 : X.heap[m + 1]? = some (.cells #[.int .i64 0, .int .i64 0, .slice none 0 0, .bool false, .string ⟨#[]⟩] 119) := by rw [← hX, Below.heap_setCell _ _ _ _ (show m + 1 ≠ m by omega)]; exact k2
 have F2 : ∀ r, X.frozen? ⟨m + 1, r, none⟩ = false := fun r => by simp [World.frozen?, hk2]
 have z0 : X.cell? ⟨m + 1, 0, none⟩ = some (.int .i64 0) := by simp [World.cell?, hk2]
 have z1 : X.cell? ⟨m + 1, 1, none⟩ = some (.int .i64 0) := by simp [World.cell?, hk2]
 have z2 : X.cell? ⟨m + 1, 2, none⟩ = some (.slice none 0 0) := by simp [World.cell?, hk2]
 have z3 : X.cell? ⟨m + 1, 3, none⟩ = some (.bool false) := by simp [World.cell?, hk2]
 have z4 : X.cell? ⟨m + 1, 4, none⟩ = some (.string ⟨#[]⟩) := by simp [World.cell?, hk2]
 have f0' := F2 0
 have f1' := F2 1
 have f2' := F2 2
 have f3' := F2 3
 have f4' := F2 4
 have bX : Below m w1 X := by rw [← hX]; exact below_set w1 m 2 _
 have HC := Lib.hid (And.intro b1 bX)
 clear k1 k2 F2 hk2 b1 bX hK
 go_wp2_with fail
 have hy := put5q_new (V := X) (m := m + 1) (u0 := .int .i64 s) (u1 := .int .i64 vn) (u2 := .slice A1 kp c1) (u3 := .bool vg) (u4 := .string vx) ⟨z0, z1, z2, z3, z4⟩
 have hheap := fun k (h : k ≠ m + 1) => put5q_heap (V := X) (m := m + 1) (u0 := .int .i64 s) (u1 := .int .i64 vn) (u2 := .slice A1 kp c1) (u3 := .bool vg) (u4 := .string vx) h
 have hsz := put5q_size (V := X) (m := m + 1) (u0 := .int .i64 s) (u1 := .int .i64 vn) (u2 := .slice A1 kp c1) (u3 := .bool vg) (u4 := .string vx)
 have hbl := put5q_below (V := X) (m := m + 1) (u0 := .int .i64 s) (u1 := .int .i64 vn) (u2 := .slice A1 kp c1) (u3 := .bool vg) (u4 := .string vx)
 rw [put5q_lit]
 obtain ⟨Y, hY⟩ : ∃ Y, put5q X (m + 1) (.int .i64 s) (.int .i64 vn) (.slice A1 kp c1) (.bool vg) (.string vx) = Y := ⟨_, rfl⟩
 rw [hY] at hy hheap hsz hbl ⊢
 obtain ⟨y0, y1, y2, y3, y4⟩ := hy
 have hXh : ∀ k, k ≠ m → X.heap[k]? = w1.heap[k]? := fun k hk => by rw [← hX]; exact Below.heap_setCell _ _ _ _ hk
 have hXs : X.heap.size = w1.heap.size := by rw [← hX]; exact setCell_size _ _ _
 have b2 : Below m W2 w1 := HC.out.1.mono (by have := HW.out.2.2; omega)
 have b3 : Below m w1 X := HC.out.2
 have hbel : Below w.heap.size w Y := by
  have e := HW.out.1
  have h1 := HW.out.2.1
  rw [e] at h1 ⊢
  exact ((h1.trans b2).trans b3).trans (hbl.mono (by omega))
 have hpast : Pa Y w.heap.size Y.heap.size A1 c1 ⟨s, vn, vp, vg, vx⟩ := by
  have e := HW.out.1
  have e2 := HW.out.2.2
  have e3 := HC.out.1.size
  refine ⟨Ss.high (L := W2.heap.size) (hF.out.1.more (by omega)) (fun hp a ha => hF.out.2.2.1 hp a ha) (fun p hp1 hp2 => ?_), hF.out.2.1, HP.out.1.2.2.1, HP.out.1.2.2.2.1, fun hp a ha => ?_⟩
  ·exact World.cell?_of_block ((hheap _ (by omega)).trans (hXh _ (by omega)))
  ·have := hF.out.2.2.1 hp a ha
   omega
 have htag : Tg Y vp.length A1 := fun hp a ha => by
  have e2 := HW.out.2.2
  have e4 := hF.out.2.2.1 hp a ha
  obtain ⟨cur, hc⟩ := hF.out.2.2.2 hp a ha
  exact ⟨cur, ((hheap _ (by omega)).trans (hXh _ (by omega))).trans hc⟩
 have HR := Lib.hid (And.intro (And.intro hpast htag) hbel)
 clear hXh hXs b2 b3 hbl hsz hheap hY hX hF hpast htag hbel x0 x1 x2 x3 x4 z0 z1 z2 z3 z4 f0' f1' f2' f3' f4' f2 c2
 (try simp only [Exit.inBlock, Exit.then])
 refine bodyPost_ret (v := .agg #[.int .i64 s, .int .i64 vn, .slice A1 kp c1, .bool vg, .string vx]) ?_ rfl ⟨A1, c1, by rw [HP.out.2], Lib.hid HR.out.1, HR.out.2⟩
 rw [results_cell1 rfl]
 go_simp
end Vers
end Go.Proofs.YtkfdplfgaddkmaaGreat

/-
 slices.Clone of a vector: what it makes is the call's own (layer 19).
-/
namespace Go.Proofs.YtkfdplfgaddkmaaGreat
namespace Pull
open Go.RowKit Vers Span
attribute [local go_sem ↓] Go.wp_at_zero Go.wp_at_succ
theorem info_i64C : (Tryz.prog.info? 2).map (fun i => (i.zero, i.size, i.bytes)) = some (some (.int .i64 0), 1, 8) := by kernel_rfl
def OwnW (l : List Int) (n : Nat) (w : World) (e : Ending) (w' : World) : Prop := ∃ A1 c1, e = .returned (.slice A1 n c1) ∧ Hid (w'.ownsRow w.heap.size 2 1 (.slice A1 n c1) n (nums .i64 l)) ∧ Below w.heap.size w w'
set_option maxRecDepth 100000 in
theorem cloneW_any (A : Option Addr) (c n : Nat) (l : List Int) (hn : l.length = n) (w : World) (hr : Ns .i64 w w.heap.size A l) (hbig : n ≤ 17592186043904) :
  Calls Tryz.prog 46 #[.slice A n c] w (OwnW l n w) := by
 obtain ⟨i0, hi0, hz0, hz1, hz2⟩ := info_parts info_i64C
 rcases A with _ | ad
 ·have h0 : l = [] := by
   rcases Nat.eq_zero_or_pos l.length with h0 | h0
   ·exact List.eq_nil_of_length_eq_zero h0
   ·obtain ⟨b, off, he, _⟩ := hr h0
    cases he
  subst h0
  obtain rfl : n = 0 := hn.symm
  have hne := Lib.run_eql_slice_nil (P := Tryz.prog) w 22 2 none 0 c 0 0 Tryz.underlying22
  rw [show (none : Option Addr).isNone = true from rfl] at hne
  go_enter Tryz.func46, Tryz.ntmps46
  go_wp2_with fail
  go_ret
  exact ⟨none, 0, rfl, Lib.hid (World.ownsRow_nil _ _ _ _), Below.refl _ _⟩
 ·have ho := World.ownsRow_lit (base := w.heap.size) (e := 2) (size := 1) w #[] 0 (Nat.le_refl _) (by unfold maxLen; omega) rfl
  have q2 : Ns .i64 (w.alloc (.cells #[] 2)) w.heap.size (some ad) l := hr.below ((Below.refl _ w).alloc (Nat.le_refl _) _)
  have hne := Lib.run_eql_slice_nil (P := Tryz.prog) w 22 2 (some ad) n c 0 0 Tryz.underlying22
  rw [show (some ad).isNone = false from rfl] at hne
  have Hn := Lib.hid hn
  clear hr hn
  go_enter Tryz.func46, Tryz.ntmps46
  have b0 := (Below.refl w.heap.size w).alloc (Nat.le_refl _) (.cells #[] 2)
  go_wp2_with (at_builtin; refine wpList_append_ns _ rfl (.tmp 5) (.tmp 6) 22 rfl w.heap.size 2 i0 _ 8 Tryz.underlying22 hi0 hz0 hz1 hz2 rfl _ 0 [] rfl ho .i64 w.heap.size (some ad) n c l Hn.out rfl q2 (by omega) (by omega) (by simp) ?_; intro v1 w1 o1 g1 at1)
  have b1 := b0.grown g1 (by simp) (fun j hj => (ho.lt j hj).1)
  obtain ⟨A1, c1, rfl⟩ := own_form o1
  rw [Nat.zero_add, List.nil_append] at o1
  have HF := Lib.hid (And.intro o1 b1)
  clear o1 g1 at1 b1 b0 ho q2
  go_wp2_with fail
  go_ret
  exact ⟨A1, c1, by simp, Lib.hid (by simpa using HF.out.1), HF.out.2⟩
end Pull
end Go.Proofs.YtkfdplfgaddkmaaGreat

/-
 A row of versions of the call's own that is filled from its head.
-/
namespace Go.Proofs.YtkfdplfgaddkmaaGreat
namespace Vers
open Go.RowKit Span

def Fill (w : World) (g n : Nat) (ps : List Pv) : Prop :=
 ∃ cur, w.heap[g]? = some (.cells cur 119 (0, 0)) ∧ cur.size = n * 5 ∧ ∀ j, j < ps.length * 5 → cur[j]? = (vcs ps)[j]?

section
variable {w w' : World} {g n : Nat} {ps : List Pv}
theorem Fill.keep (h : Fill w g n ps) (hk : w'.heap[g]? = w.heap[g]?) : Fill w' g n ps := by
 obtain ⟨cur, h1, h2, h3⟩ := h
 exact ⟨cur, hk.trans h1, h2, h3⟩
theorem Fill.frozen (h : Fill w g n ps) (j : Nat) : w.frozen? ⟨g, j, none⟩ = false := by
 obtain ⟨cur, h1, _⟩ := h
 simp [World.frozen?, h1]
theorem Fill.cell (h : Fill w g n ps) (j : Nat) (hj : j < n * 5) : ∃ z, w.cell? ⟨g, j, none⟩ = some z := by
 obtain ⟨cur, h1, h2, _⟩ := h
 exact ⟨cur[j]'(by omega), by rw [cell_of_row w g j cur 119 (0, 0) h1]; exact Array.getElem?_eq_getElem (by omega)⟩
theorem Fill.lt (h : Fill w g n ps) : g < w.heap.size := by
 obtain ⟨cur, h1, _⟩ := h
 exact (Array.getElem?_eq_some_iff.1 h1).1
theorem Fill.own (h : Fill w g n ps) (hn : ps.length = n) (base : Nat) (hb : base ≤ g) (hm : n ≤ maxLen) : w.ownsRow base 119 5 (.slice (some ⟨g, 0, none⟩) n n) n (vcs ps) := by
 obtain ⟨cur, h1, h2, h3⟩ := h
 subst hn
 refine ⟨vcs_length ps, .inr ⟨g, ps.length, cur, rfl, hb, h1, Nat.le_refl _, hm, h2, ?_⟩⟩
 apply List.ext_getElem?
 intro j
 by_cases hj : j < ps.length * 5
 ·rw [List.getElem?_take_of_lt hj, Array.getElem?_toList, h3 j hj]
 ·rw [List.getElem?_take_eq_none (by omega), List.getElem?_eq_none (by rw [vcs_length]; omega)]

def put5o (V : World) (m o : Nat) (u0 u1 u2 u3 u4 : Value) : World := ((((V.setCell ⟨m, o, none⟩ u0).setCell ⟨m, o + 1, none⟩ u1).setCell ⟨m, o + 2, none⟩ u2).setCell ⟨m, o + 3, none⟩ u3).setCell ⟨m, o + 4, none⟩ u4
theorem put5o_lit {V : World} {m o : Nat} {u0 u1 u2 u3 u4 : Value} : ((((V.setCell ⟨m, o, none⟩ u0).setCell ⟨m, o + 1, none⟩ u1).setCell ⟨m, o + 2, none⟩ u2).setCell ⟨m, o + 3, none⟩ u3).setCell ⟨m, o + 4, none⟩ u4 = put5o V m o u0 u1 u2 u3 u4 := rfl
theorem put5o_heap {V : World} {m o k : Nat} {u0 u1 u2 u3 u4 : Value} (h : k ≠ m) : (put5o V m o u0 u1 u2 u3 u4).heap[k]? = V.heap[k]? := by
 unfold put5o
 rw [Below.heap_setCell _ _ _ _ h, Below.heap_setCell _ _ _ _ h, Below.heap_setCell _ _ _ _ h, Below.heap_setCell _ _ _ _ h, Below.heap_setCell _ _ _ _ h]
theorem put5o_size {V : World} {m o : Nat} {u0 u1 u2 u3 u4 : Value} : (put5o V m o u0 u1 u2 u3 u4).heap.size = V.heap.size := by
 unfold put5o
 rw [setCell_size, setCell_size, setCell_size, setCell_size, setCell_size]
theorem put5o_below {V : World} {m o : Nat} {u0 u1 u2 u3 u4 : Value} : Below m V (put5o V m o u0 u1 u2 u3 u4) := by
 unfold put5o
 exact ((((below_set V m o u0).trans (below_set _ m (o + 1) u1)).trans (below_set _ m (o + 2) u2)).trans (below_set _ m (o + 3) u3)).trans (below_set _ m (o + 4) u4)
theorem set_row {V : World} {m : Nat} {cur : Array Value} {e : TypeId} (h : V.heap[m]? = some (.cells cur e (0, 0))) (i : Nat) (u : Value) : (V.setCell ⟨m, i, none⟩ u).heap[m]? = some (.cells (cur.setIfInBounds i u) e (0, 0)) := by
 simp [World.setCell, Array.getElem?_modify, h]
theorem Fill.put (h : Fill w g n ps) (hn : ps.length < n) (p : Pv) (o : Nat) (ho : o = ps.length * 5) : Fill (put5o w g o (.int .i64 p.1.s) (.int .i64 p.1.n) (.slice p.2.1 p.1.past.length p.2.2) (.bool p.1.gone) (.string p.1.val)) g n (ps ++ [p]) := by
 subst ho
 obtain ⟨cur, h1, h2, h3⟩ := h
 have k1 := set_row h1 (ps.length * 5) (.int .i64 p.1.s)
 have k2 := set_row k1 (ps.length * 5 + 1) (.int .i64 p.1.n)
 have k3 := set_row k2 (ps.length * 5 + 2) (.slice p.2.1 p.1.past.length p.2.2)
 have k4 := set_row k3 (ps.length * 5 + 3) (.bool p.1.gone)
 have k5 := set_row k4 (ps.length * 5 + 4) (.string p.1.val)
 refine ⟨_, k5, by simpa using h2, fun j hj => ?_⟩
 rw [List.length_append, List.length_singleton] at hj
 rw [vcs_append, vcs_one]
 by_cases hj0 : j < ps.length * 5
 ·rw [List.getElem?_append_left (by rw [vcs_length]; exact hj0), ← h3 j hj0]
  rw [Array.getElem?_setIfInBounds_ne (by omega), Array.getElem?_setIfInBounds_ne (by omega), Array.getElem?_setIfInBounds_ne (by omega), Array.getElem?_setIfInBounds_ne (by omega), Array.getElem?_setIfInBounds_ne (by omega)]
 ·rw [List.getElem?_append_right (by rw [vcs_length]; omega), vcs_length]
  obtain ⟨r, rfl⟩ : ∃ r, j = ps.length * 5 + r := ⟨j - ps.length * 5, by omega⟩
  have hr : r < 5 := by omega
  have hc : cur.size = n * 5 := h2
  rw [show ps.length * 5 + r - ps.length * 5 = r by omega]
  match r, hr with
  | 0, _ => rw [Array.getElem?_setIfInBounds_ne (by omega), Array.getElem?_setIfInBounds_ne (by omega), Array.getElem?_setIfInBounds_ne (by omega), Array.getElem?_setIfInBounds_ne (by omega), Nat.add_zero, Array.getElem?_setIfInBounds_self_of_lt (by omega)]; rfl
  | 1, _ => rw [Array.getElem?_setIfInBounds_ne (by omega), Array.getElem?_setIfInBounds_ne (by omega), Array.getElem?_setIfInBounds_ne (by omega), Array.getElem?_setIfInBounds_self_of_lt (by simp; omega)]; rfl
  | 2, _ => rw [Array.getElem?_setIfInBounds_ne (by omega), Array.getElem?_setIfInBounds_ne (by omega), Array.getElem?_setIfInBounds_self_of_lt (by simp; omega)]; rfl
  | 3, _ => rw [Array.getElem?_setIfInBounds_ne (by omega), Array.getElem?_setIfInBounds_self_of_lt (by simp; omega)]; rfl
  | 4, _ => rw [Array.getElem?_setIfInBounds_self_of_lt (by simp; omega)]; rfl
theorem fill_start {base : Nat} {xs : List Value} (h : w.ownsRow base 119 5 (.slice (some ⟨g, 0, none⟩) n n) n xs) : Fill w g n [] := by
 rcases h.2 with ⟨h0, _⟩ | ⟨g', cap, cur, hv, _, hg, _, _, hs, _⟩
 ·cases h0
 ·injection hv with h1 _ h2
  injection h1 with h1
  injection h1 with h1
  subst h1
  subst h2
  exact ⟨cur, hg, hs, fun j hj => absurd hj (by simp)⟩
end
end Vers
end Go.Proofs.YtkfdplfgaddkmaaGreat

/-
 fresh.List of versions: copies, each with a past of its own.
-/
namespace Go.Proofs.YtkfdplfgaddkmaaGreat
namespace Vers
open Go.RowKit Span
attribute [local go_sem ↓] Go.wp_at_zero Go.wp_at_succ

def OwnVsT (l : List Vr) (w : World) (e : Ending) (w' : World) : Prop :=
 ∃ A c ps, e = .returned (.slice A l.length c) ∧ Hid (OwnVs w.heap.size w.heap.size w'.heap.size w' (.slice A l.length c) ps ∧ ps.map Prod.fst = l ∧ ∀ p ∈ ps, Tg w' p.1.past.length p.2.1) ∧ Below w.heap.size w w'

def Copying (l : List Vr) (n g : Nat) (w : World) (iv : Value) (wr : World) : Prop :=
 ∃ (k : Nat) (ps : List Pv), iv = .int .i64 (k : Int) ∧ k ≤ n ∧ ps.map Prod.fst = l.take k ∧ Fill wr g n ps ∧ (∀ p ∈ ps, Pa wr (g + 1) wr.heap.size p.2.1 p.2.2 p.1 ∧ Tg wr p.1.past.length p.2.1) ∧ Below w.heap.size w wr

set_option maxRecDepth 100000 in
set_option maxHeartbeats 2000000 in
theorem list_own (A : Option Addr) (c n : Nat) (l : List Vr) (hn : l.length = n) (L B : Nat) (w : World) (hB : B ≤ w.heap.size) (hv : Vs w L B A l) (hbig : n ≤ 1024) (hp : ∀ v ∈ l, v.past.length ≤ 4294967296) :
  Calls Tryz.prog 85 #[.slice A n c, .func (.func 86) #[] #[]] w (OwnVsT l w) := by
 by_cases h0 : n = 0
 ·subst h0
  have : l = [] := List.eq_nil_of_length_eq_zero hn
  subst this
  clear hv hp
  go_enter Tryz.func85, Tryz.ntmps85
  go_wp2_with fail
  go_ret
  exact ⟨none, 0, [], rfl, Lib.hid ⟨⟨⟨rfl, .inl ⟨rfl, rfl⟩⟩, by simp⟩, rfl, by simp⟩, Below.refl _ _⟩
 obtain ⟨i0, hi0, hz0, hz1, hz2⟩ := info_parts info_ver
 have e1 : ((n : Int) == 0) = false := by simp; omega
 have e2 : ¬ (n : Int) = 0 := by omega
 have HV := Lib.hid (And.intro hv (And.intro hn hp))
 clear hv hn hp
 go_enter Tryz.func85, Tryz.ntmps85
 go_wp2_with (at_make; refine wpList_make_full _ rfl _ _ 67 rfl w.heap.size 119 i0 _ 5 Tryz.underlying67 hi0 hz0 hz1 _ _ _ _ n rfl rfl rfl rfl (by rw [hz2]; omega) (by unfold maxLen; omega) (Nat.le_refl _) ?_; intro w1 o1 g1; have b1 : Below w.heap.size w w1 := (Below.refl _ _).grown g1 (Nat.le_refl _) (fun k hk => by cases hk))
 obtain ⟨g, hg⟩ : ∃ g, w.heap.size = g := ⟨_, rfl⟩
 have HG := Lib.hid hg
 have HI : Hid (Copying l n g w (.int .i64 0) w1) := Lib.hid ⟨0, [], rfl, by omega, by simp, fill_start (by rw [← hg]; exact o1), by simp, b1⟩
 rw [hg]
 clear hg o1 g1 b1
 go_loopw [16] (fun iv wr => Copying l n g w iv wr) (fun iv _ => n - (intOf iv).toNat)
 case atStart => exact HI.out
 case round =>
  obtain ⟨k, ps, rfl, hk, hps, hf, hpa, hb⟩ := hrel
  clear HI
  by_cases hlt : k < n
  ·obtain ⟨b, off, A1, c1, rfl, _, hbB, a0, a1, a2, a3, a4, hpv⟩ := HV.out.1.at HV.out.2.1 (hb.mono hB) hlt rfl
   have hkl : k < l.length := by have := HV.out.2.1; omega
   have hmem : l.getD k v0 ∈ l := by
    rw [List.getD_eq_getElem?_getD, List.getElem?_eq_getElem hkl]
    exact List.getElem_mem _
   have hbp := HV.out.2.2 _ hmem
   have HT : Hid (l.take (k + 1) = l.take k ++ [l.getD k v0]) := Lib.hid (by
    rw [List.take_succ_eq_append_getElem hkl]
    simp [List.getD_eq_getElem?_getD, hkl])
   obtain ⟨v, hvv⟩ : ∃ v, l.getD k v0 = v := ⟨_, rfl⟩
   rw [hvv] at a0 a1 a2 a3 a4 hpv hbp
   have HVV := Lib.hid hvv
   obtain ⟨s, vn, vp, vg, vx⟩ := v
   simp only at a0 a1 a2 a3 a4 hbp
   obtain ⟨kp, hkp⟩ : ∃ kp, vp.length = kp := ⟨_, rfl⟩
   rw [hkp] at a2 hbp
   have hsz := hb.size
   have d1 : (0 : Int) ≤ (k : Int) := by omega
   have d2 : (k : Int) < (n : Int) := by omega
   have hpl : ps.length = k := by have h := congrArg List.length hps; simpa [List.length_take, Nat.min_eq_left (Nat.le_of_lt hkl)] using h
   have HO := Lib.hid (And.intro hf (And.intro hpa (And.intro hb (And.intro hps (And.intro hpl (And.intro hkp hpv))))))
   have hK : Hid (∀ W, Below wr.heap.size wr W → Calls Tryz.prog 86 #[.agg #[.int .i64 s, .int .i64 vn, .slice A1 kp c1, .bool vg, .string vx]] W (OwnVerT ⟨s, vn, vp, vg, vx⟩ W)) := Lib.hid fun W hW =>
    ver_own A1 c1 kp s vn vp vg vx hkp (by omega) L B W (by have := hW.size; omega) (hpv.below (hW.mono (by omega)))
   clear hf hpa hb hps hpl hkp hpv hvv hmem
   go_wp2_with fail
   have hW : Below wr.heap.size wr (wr.alloc (.cells #[.int .i64 s, .int .i64 vn, .slice A1 kp c1, .bool vg, .string vx] 119)) := (Below.refl _ wr).alloc (Nat.le_refl _) _
   refine Calls.mono (hK.out _ hW) ?_
   rintro e w2 ⟨A2, c2, rfl, hp2, b2⟩
   rw [HO.out.2.2.2.2.2.1]
   have hs2 := hW.size
   have b3 : Below wr.heap.size wr w2 := hW.trans (b2.mono hs2)
   have hf2 : Fill w2 g n ps := HO.out.1.keep (b3.block g HO.out.1.lt)
   have hgl := HO.out.1.lt
   obtain ⟨y0, hy0⟩ := hf2.cell (k * 5) (by omega)
   obtain ⟨y1, hy1⟩ := hf2.cell (k * 5 + 1) (by omega)
   obtain ⟨y2, hy2⟩ := hf2.cell (k * 5 + 2) (by omega)
   obtain ⟨y3, hy3⟩ := hf2.cell (k * 5 + 3) (by omega)
   obtain ⟨y4, hy4⟩ := hf2.cell (k * 5 + 4) (by omega)
   have f0 := hf2.frozen (k * 5)
   have f1 := hf2.frozen (k * 5 + 1)
   have f2 := hf2.frozen (k * 5 + 2)
   have f3 := hf2.frozen (k * 5 + 3)
   have f4 := hf2.frozen (k * 5 + 4)
   have HF2 := Lib.hid (And.intro hf2 (And.intro b3 hp2))
   clear hf2 b3 hp2 hW b2 hK
   go_wp2_with fail
   rw [put5o_lit]
   obtain ⟨Y, hY⟩ : ∃ Y, put5o w2 g (k * 5) (.int .i64 s) (.int .i64 vn) (.slice A2 kp c2) (.bool vg) (.string vx) = Y := ⟨_, rfl⟩
   have hfill := HF2.out.1.put (p := (⟨s, vn, vp, vg, vx⟩, A2, c2)) (by have := HO.out.2.2.2.2.1; omega) (k * 5) (by have := HO.out.2.2.2.2.1; omega)
   simp only at hfill
   rw [HO.out.2.2.2.2.2.1, hY] at hfill
   have hYh : ∀ q, q ≠ g → Y.heap[q]? = w2.heap[q]? := fun q hq => by rw [← hY]; exact put5o_heap hq
   have hYs : Y.heap.size = w2.heap.size := by rw [← hY]; exact put5o_size
   have hYb : Below g w2 Y := by rw [← hY]; exact put5o_below
   rw [hY]
   have hwg : w.heap.size = g := HG.out
   have s2 := HF2.out.2.1.size
   have hkeep : ∀ a : Addr, g + 1 ≤ a.block → Y.cell? a = w2.cell? a := fun a ha => World.cell?_of_block (hYh _ (by omega))
   have hrel : Copying l n g w (.int .i64 ((k : Int) + 1)) Y := ⟨k + 1, ps ++ [(⟨s, vn, vp, vg, vx⟩, A2, c2)], rfl, by omega, by
     rw [List.map_append, HO.out.2.2.2.1, HT.out, HVV.out]; rfl, hfill, fun q hq => by
     rcases List.mem_append.1 hq with hq | hq
     ·have h1 := (HO.out.2.1 q hq).1.below HF2.out.2.1
      have h2 := (HO.out.2.1 q hq).2.below HF2.out.2.1
      exact ⟨Pa.more (h1.keep fun a ha _ => hkeep a ha) (by omega), h2.keep fun hn a ha _ => hYh _ (by have := h1.2.2.2.2 hn a ha; omega)⟩
     ·rw [List.mem_singleton.1 hq]
      have h1 := Pa.less HF2.out.2.2.out.1 (show g + 1 ≤ _ by simp; omega)
      exact ⟨Pa.more (h1.keep fun a ha _ => hkeep a ha) (by omega), HF2.out.2.2.out.2.keep fun hn a ha _ => hYh _ (by have := h1.2.2.2.2 hn a ha; omega)⟩, by
     rw [hwg]
     have h1 := HO.out.2.2.1
     rw [hwg] at h1
     exact (h1.trans (HF2.out.2.1.mono (by omega))).trans hYb⟩
   exact ⟨hrel, by simp only [intOf]; omega⟩
  ·obtain rfl : k = n := by omega
   have hpl : ps.length = k := by have h := congrArg List.length hps; have h2 := HV.out.2.1; simpa [List.length_take, h2] using h
   have hfin : OwnVsT l w (.returned (.slice (some ⟨g, 0, none⟩) k k)) wr := ⟨some ⟨g, 0, none⟩, k, ps, by rw [HV.out.2.1], Lib.hid ⟨⟨by
     rw [HV.out.2.1, hpl]
     exact hf.own hpl _ (by rw [HG.out]; exact Nat.le_refl _) (by unfold maxLen; omega), fun p hp => Pa.less (hpa p hp).1 (by rw [HG.out]; omega)⟩, by
     rw [hps, List.take_of_length_le (by have := HV.out.2.1; omega)], fun p hp => (hpa p hp).2⟩, hb⟩
   have HF := Lib.hid hfin
   clear hfin hf hpa hb hps hpl
   go_wp2_with fail
   go_ret
   exact HF.out
end Vers
end Go.Proofs.YtkfdplfgaddkmaaGreat

/-
 Copies: of numbers, of versions: what is made has no memory in common with what it was made of (layer 11).
-/
namespace Go.Proofs.YtkfdplfgaddkmaaGreat
namespace Tree
open Go.RowKit Vers Span Blk
attribute [local go_sem ↓] Go.wp_at_zero Go.wp_at_succ

theorem info_int : (Tryz.prog.info? 3).map (fun i => (i.zero, i.size, i.bytes)) = some (some (.int .i64 0), 1, 8) := by kernel_rfl
def Tn (t : TypeId) (w : World) (n : Nat) (A : Option Addr) : Prop := 0 < n → ∀ a, A = some a → ∃ cur, w.heap[a.block]? = some (.cells cur t (0, 0))
theorem Tn.same {t : TypeId} {w w' : World} {n : Nat} {A : Option Addr} (h : Tn t w n A) (hk : ∀ a, 0 < n → A = some a → w'.heap[a.block]? = w.heap[a.block]?) : Tn t w' n A := fun hn a ha => by
 obtain ⟨cur, hc⟩ := h hn a ha
 exact ⟨cur, (hk a hn ha).trans hc⟩
theorem Tn.lt {t : TypeId} {w : World} {n : Nat} {A : Option Addr} (h : Tn t w n A) (hn : 0 < n) {a : Addr} (ha : A = some a) : a.block < w.heap.size := by
 obtain ⟨cur, hc⟩ := h hn a ha
 exact (Array.getElem?_eq_some_iff.1 hc).1
def OwnI (l : List Int) (n : Nat) (w : World) (e : Ending) (w' : World) : Prop := ∃ A1 c1, e = .returned (.slice A1 n c1) ∧ Hid (w'.ownsRow w.heap.size 3 1 (.slice A1 n c1) n (nums .i64 l)) ∧ Below w.heap.size w w'
set_option maxRecDepth 100000 in
theorem clonei_any (A : Option Addr) (c n : Nat) (l : List Int) (hn : l.length = n) (w : World) (hr : Ns .i64 w w.heap.size A l) (hbig : n ≤ 17592186043904) :
  Calls Tryz.prog 66 #[.slice A n c] w (OwnI l n w) := by
 obtain ⟨i0, hi0, hz0, hz1, hz2⟩ := info_parts info_int
 rcases A with _ | ad
 ·have h0 : l = [] := by
   rcases Nat.eq_zero_or_pos l.length with h0 | h0
   ·exact List.eq_nil_of_length_eq_zero h0
   ·obtain ⟨b, off, he, _⟩ := hr h0
    cases he
  subst h0
  obtain rfl : n = 0 := hn.symm
  have hne := Lib.run_eql_slice_nil (P := Tryz.prog) w 24 3 none 0 c 0 0 Tryz.underlying24
  rw [show (none : Option Addr).isNone = true from rfl] at hne
  go_enter Tryz.func66, Tryz.ntmps66
  go_wp2_with fail
  go_ret
  exact ⟨none, 0, rfl, Lib.hid ⟨rfl, .inl ⟨rfl, rfl⟩⟩, Below.refl _ _⟩
 ·have ho := World.ownsRow_lit (base := w.heap.size) (e := 3) (size := 1) w #[] 0 (Nat.le_refl _) (by unfold maxLen; omega) rfl
  have q2 : Ns .i64 (w.alloc (.cells #[] 3)) w.heap.size (some ad) l := hr.below ((Below.refl _ w).alloc (Nat.le_refl _) _)
  have hne := Lib.run_eql_slice_nil (P := Tryz.prog) w 24 3 (some ad) n c 0 0 Tryz.underlying24
  rw [show (some ad).isNone = false from rfl] at hne
  have Hn := Lib.hid hn
  clear hr hn
  go_enter Tryz.func66, Tryz.ntmps66
  have b0 := (Below.refl w.heap.size w).alloc (Nat.le_refl _) (.cells #[] 3)
  go_wp2_with (at_builtin; refine wpList_append_ns _ rfl (.tmp 5) (.tmp 6) 24 rfl w.heap.size 3 i0 _ 8 Tryz.underlying24 hi0 hz0 hz1 hz2 rfl _ 0 [] rfl ho .i64 w.heap.size (some ad) n c l Hn.out rfl q2 (by omega) (by omega) (by simp) ?_; intro v1 w1 o1 g1 at1)
  have b1 := b0.grown g1 (by simp) (fun j hj => (ho.lt j hj).1)
  obtain ⟨A1, c1, rfl⟩ := own_form o1
  have o2 : w1.ownsRow w.heap.size 3 1 (.slice A1 l.length c1) l.length (nums .i64 l) := by
   rw [Hn.out]
   simpa using o1
  have HF := Lib.hid (And.intro o2 b1)
  have hz : 0 + n = l.length := by rw [Hn.out, Nat.zero_add]
  have HZ := Lib.hid hz
  clear o1 g1 at1 o2 b1 b0 ho q2 hz
  go_wp2_with fail
  go_ret
  exact ⟨A1, c1, by simp, Lib.hid (by have h := HF.out.1; rw [Hn.out] at h; exact h), HF.out.2⟩

end Tree
end Go.Proofs.YtkfdplfgaddkmaaGreat

/-
 vers.Merge tells what mergeF tells, in memory of the call's own.
-/
namespace Go.Proofs.YtkfdplfgaddkmaaGreat
namespace Vers
open Go.RowKit Span
attribute [local go_sem ↓] Go.wp_at_zero Go.wp_at_succ

end Vers
end Go.Proofs.YtkfdplfgaddkmaaGreat

/-
 vers.Lacks and the reference's tell lacksF.
-/
namespace Go.Proofs.YtkfdplfgaddkmaaGreat
namespace Vers
open Go.RowKit Span
attribute [local go_sem ↓] Go.wp_at_zero Go.wp_at_succ

end Vers
end Go.Proofs.YtkfdplfgaddkmaaGreat

/-
 Versions gathered in a row of the call's own (the first part of VersLawPlain).
-/
namespace Go.Proofs.YtkfdplfgaddkmaaGreat
namespace Vers
open Go.RowKit Span
attribute [local go_sem ↓] Go.wp_at_zero Go.wp_at_succ

section
variable {P : Program} (w : World)
end

end Vers
end Go.Proofs.YtkfdplfgaddkmaaGreat

/-
 slices.Clone of numbers: what it makes is the call's own, and can be appended to.
-/
namespace Go.Proofs.YtkfdplfgaddkmaaGreat
namespace Ints
open Go.RowKit Vers Span
attribute [local go_sem ↓] Go.wp_at_zero Go.wp_at_succ

theorem info_intC : (Tryz.prog.info? 3).map (fun i => (i.zero, i.size, i.bytes)) = some (some (.int .i64 0), 1, 8) := by kernel_rfl
def OwnI (l : List Int) (n : Nat) (w : World) (e : Ending) (w' : World) : Prop := ∃ A1 c1, e = .returned (.slice A1 n c1) ∧ Hid (w'.ownsRow w.heap.size 3 1 (.slice A1 n c1) n (nums .i64 l)) ∧ Below w.heap.size w w'
set_option maxRecDepth 100000 in
theorem clone_row (A : Option Addr) (c n : Nat) (l : List Int) (hn : l.length = n) (w : World) (hr : Ns .i64 w w.heap.size A l) (hbig : n ≤ 17592186043904) :
  Calls Tryz.prog 66 #[.slice A n c] w (OwnI l n w) := by
 obtain ⟨i0, hi0, hz0, hz1, hz2⟩ := info_parts info_intC
 rcases A with _ | ad
 ·have h0 : l = [] := by
   rcases Nat.eq_zero_or_pos l.length with h0 | h0
   ·exact List.eq_nil_of_length_eq_zero h0
   ·obtain ⟨b, off, he, _⟩ := hr h0
    cases he
  subst h0
  obtain rfl : n = 0 := hn.symm
  have hne := Lib.run_eql_slice_nil (P := Tryz.prog) w 24 3 none 0 c 0 0 Tryz.underlying24
  rw [show (none : Option Addr).isNone = true from rfl] at hne
  go_enter Tryz.func66, Tryz.ntmps66
  go_wp2_with fail
  go_ret
  exact ⟨none, 0, rfl, Lib.hid (World.ownsRow_nil _ _ _ _), Below.refl _ _⟩
 ·have ho := World.ownsRow_lit (base := w.heap.size) (e := 3) (size := 1) w #[] 0 (Nat.le_refl _) (by unfold maxLen; omega) rfl
  have q2 : Ns .i64 (w.alloc (.cells #[] 3)) w.heap.size (some ad) l := hr.below ((Below.refl _ w).alloc (Nat.le_refl _) _)
  have hne := Lib.run_eql_slice_nil (P := Tryz.prog) w 24 3 (some ad) n c 0 0 Tryz.underlying24
  rw [show (some ad).isNone = false from rfl] at hne
  have Hn := Lib.hid hn
  clear hr hn
  go_enter Tryz.func66, Tryz.ntmps66
  have b0 := (Below.refl w.heap.size w).alloc (Nat.le_refl _) (.cells #[] 3)
  go_wp2_with (at_builtin; refine wpList_append_ns _ rfl (.tmp 5) (.tmp 6) 24 rfl w.heap.size 3 i0 _ 8 Tryz.underlying24 hi0 hz0 hz1 hz2 rfl _ 0 [] rfl ho .i64 w.heap.size (some ad) n c l Hn.out rfl q2 (by omega) (by omega) (by simp) ?_; intro v1 w1 o1 g1 at1)
  have b1 := b0.grown g1 (by simp) (fun j hj => (ho.lt j hj).1)
  obtain ⟨A1, c1, rfl⟩ := own_form o1
  rw [Nat.zero_add, List.nil_append] at o1
  have HF := Lib.hid (And.intro o1 b1)
  clear o1 g1 at1 b1 b0 ho q2
  go_wp2_with fail
  go_ret
  exact ⟨A1, c1, by simp, Lib.hid (by simpa using HF.out.1), HF.out.2⟩
end Ints
end Go.Proofs.YtkfdplfgaddkmaaGreat

/-
 firthref10.Own: a record in memory of its own.
-/
namespace Go.Proofs.YtkfdplfgaddkmaaGreat
namespace Own
open Go.RowKit Vers Span Blk
attribute [local go_sem ↓] Go.wp_at_zero Go.wp_at_succ

def NewRr (key : ByteArray) (l : List Vr) (m : Nat) (w : World) (e : Ending) (w' : World) : Prop := ∃ A1 c1 ps, e = .returned (.agg #[.string key, .slice A1 m c1]) ∧ Hid (ps.map Prod.fst = l ∧ Code.RowV w.heap.size w'.heap.size w' (.slice A1 m c1) ps) ∧ Below w.heap.size w w'
def Copied (l : List Vr) (m ob : Nat) (key : ByteArray) (w : World) (q : Value) (wr : World) : Prop :=
 ∃ (k : Nat) (ps : List Pv) (A : Option Addr) (c : Nat), q = .int .i64 k ∧ k ≤ m ∧ Hid (ps.map Prod.fst = l.take k ∧ ps.length = k ∧ Bn ob 70 [.string key, .slice A k c] wr ∧ Code.RowV (ob + 1) wr.heap.size wr (.slice A k c) ps ∧ Below ob w wr)
set_option maxRecDepth 100000 in
set_option maxHeartbeats 2000000 in
theorem own_any (key : ByteArray) (A : Option Addr) (c m : Nat) (l : List Vr) (hm : l.length = m) (hbig : m ≤ 2199023255488) (hp : ∀ v ∈ l, v.past.length ≤ 5864062014800) (w : World) (hv : Vs w 0 w.heap.size A l) :
  Calls Tryz.prog 42 #[.agg #[.string key, .slice A m c]] w (NewRr key l m w) := by
 obtain ⟨i0, hi0, hz0, hz1, hz2⟩ := info_span
 obtain ⟨j0, hj0, hy0, hy1, hy2⟩ := info_parts info_ver
 have HI := Lib.hid (And.intro (And.intro hi0 (And.intro hz0 (And.intro hz1 hz2))) (And.intro hj0 (And.intro hy0 (And.intro hy1 hy2))))
 obtain ⟨U, hU⟩ : ∃ U, w.alloc (.cells #[.string key, .slice A m c] 70) = U := ⟨_, rfl⟩
 have bU : Below w.heap.size w U := by rw [← hU]; exact (Below.refl _ w).alloc (Nat.le_refl _) _
 have sU : U.heap.size = w.heap.size + 1 := by rw [← hU]; simp
 have BU : Bn w.heap.size 70 [.string key, .slice A m c] U := by rw [← hU]; exact heap_alloc_new w _
 obtain ⟨V, hV⟩ : ∃ V, U.alloc (.cells #[.string ⟨#[]⟩, .slice none 0 0] 70) = V := ⟨_, rfl⟩
 have bV : Below U.heap.size U V := by rw [← hV]; exact (Below.refl _ U).alloc (Nat.le_refl _) _
 have BV : Bn U.heap.size 70 [.string ⟨#[]⟩, .slice none 0 0] V := by rw [← hV]; exact heap_alloc_new U _
 have sV : V.heap.size = w.heap.size + 2 := by rw [← hV]; simp [sU]
 obtain ⟨X, hX⟩ : ∃ X, V.alloc (.cells #[.string key, .slice none 0 0] 70) = X := ⟨_, rfl⟩
 have bX : Below V.heap.size V X := by rw [← hX]; exact (Below.refl _ V).alloc (Nat.le_refl _) _
 have BX : Bn V.heap.size 70 [.string key, .slice none 0 0] X := by rw [← hX]; exact heap_alloc_new V _
 have sX : X.heap.size = w.heap.size + 3 := by rw [← hX]; simp [sV]
 rw [sU] at BV
 rw [sV] at BX
 have BU' := (BU.same (bV.block _ BU.lt)).same (bX.block _ (by omega))
 have BV' := BV.same (bX.block _ (by omega))
 have bW : Below w.heap.size w X := (bU.trans (bV.mono bU.size)).trans (bX.mono (by omega))
 have x0 := (BU.same (bV.block _ BU.lt)).cell 0
 simp only [List.getElem?_cons_zero] at x0
 obtain ⟨ob, hob⟩ : ∃ ob, w.heap.size + 2 = ob := ⟨_, rfl⟩
 rw [hob] at BX
 have HB := Lib.hid (And.intro bW (And.intro BU' (And.intro BV' (And.intro hob (And.intro sX (And.intro hv hm))))))
 have HP := Lib.hid hp
 have HI0 : Hid (Copied l m ob key X (.int .i64 0) X) := Lib.hid ⟨0, [], none, 0, rfl, by omega, Lib.hid ⟨by simp, rfl, BX, Code.rowV_nil _ _ _, Below.refl _ _⟩⟩
 have HXX := Lib.hid hX
 have HOB := Lib.hid hob
 clear hX hob
 clear hv hm hp bW BU' BV' sX bX bU bV BX BV BU hi0 hz0 hz1 hz2 hj0 hy0 hy1 hy2
 go_enter Tryz.func42, Tryz.ntmps42
 go_wp2_with fail
 rw [HXX.out, HOB.out]
 go_loopw [4] (fun q wr => Copied l m ob key X q wr) (fun q _ => m - (intOf q).toNat)
 case atStart => exact HI0.out
 case round =>
  clear HI0
  obtain ⟨k, ps, Ao, co, rfl, hk, hst⟩ := hrel
  have B0 := HB.out.2.1.same (hst.out.2.2.2.2.block _ (by have := HB.out.2.2.2.1; omega))
  have c1 := B0.cell 1
  have hbw : Below w.heap.size w wr := HB.out.1.trans (hst.out.2.2.2.2.mono (by have := HB.out.2.2.2.1; omega))
  simp only [List.getElem?_cons_zero, List.getElem?_cons_succ] at c1
  by_cases hlt : k < m
  ·obtain ⟨b, off, A1, cc, rfl, _, hbB, a0, a1, a2, a3, a4, hpv⟩ := HB.out.2.2.2.2.2.1.at HB.out.2.2.2.2.2.2 hbw hlt rfl
   have hkl : k < l.length := by have := HB.out.2.2.2.2.2.2; omega
   have hmem : l.getD k v0 ∈ l := by
    rw [List.getD_eq_getElem?_getD, List.getElem?_eq_getElem hkl]
    exact List.getElem_mem _
   have hbp := HP.out _ hmem
   have HT : Hid (l.take (k + 1) = l.take k ++ [l.getD k v0]) := Lib.hid (by
    rw [List.take_succ_eq_append_getElem hkl]
    simp [List.getD_eq_getElem?_getD, hkl])
   obtain ⟨v, hvv⟩ : ∃ v, l.getD k v0 = v := ⟨_, rfl⟩
   rw [hvv] at a0 a1 a2 a3 a4 hpv hbp
   have HVV := Lib.hid hvv
   obtain ⟨s, vn, vp, vg, vx⟩ := v
   simp only at a0 a1 a2 a3 a4 hbp
   obtain ⟨kp, hkp⟩ : ∃ kp, vp.length = kp := ⟨_, rfl⟩
   rw [hkp] at a2 hbp
   have d1 : (0 : Int) ≤ (k : Int) := by omega
   have d2 : (k : Int) < (m : Int) := by omega
   obtain ⟨W1, hW1⟩ : ∃ W, wr.alloc (.cells #[.int .i64 s, .int .i64 vn, .slice A1 kp cc, .bool vg, .string vx] 119) = W := ⟨_, rfl⟩
   have b1 : Below wr.heap.size wr W1 := by rw [← hW1]; exact (Below.refl _ wr).alloc (Nat.le_refl _) _
   have B1 : Bn wr.heap.size 119 [.int .i64 s, .int .i64 vn, .slice A1 kp cc, .bool vg, .string vx] W1 := by rw [← hW1]; exact heap_alloc_new wr _
   have s1 : W1.heap.size = wr.heap.size + 1 := by rw [← hW1]; simp
   have HW1 := Lib.hid hW1
   have HU := Lib.hid (And.intro b1 (And.intro B1 s1))
   have HSS := Lib.hid (hpv.1.below (b1.mono hbw.size))
   have HK := Lib.hid (And.intro hkp hpv)
   have hszw : w.heap.size ≤ W1.heap.size := Nat.le_trans hbw.size b1.size
   have HBW := Lib.hid hbw
   clear hW1 b1 B1 s1 hkl hmem hvv hkp hpv hbw
   go_wp2_with (first
    | (at_builtin; rw [HW1.out]; refine wpList_append_ss _ rfl (.tmp 22) (.tmp 24) 117 rfl W1.heap.size 121 i0 _ 24 Tryz.underlying117 HI.out.1.1 HI.out.1.2.1 HI.out.1.2.2.1 HI.out.1.2.2.2 rfl (.slice none 0 0) 0 [] rfl (World.ownsRow_nil _ _ _ _) w.heap.size A1 kp cc vp HK.out.1 rfl HSS.out (by omega) (by omega) (Nat.le_refl _) ?_
       intro v2 w2 o2 g2 _
       rw [Nat.zero_add, List.nil_append] at o2
       obtain ⟨Ap, cp, rfl⟩ := own_form o2
       have B2 := HU.out.2.1.kept g2 (by simp [Value.ownBlock])
       have y2 := (B2.cell 2).trans rfl
       have f2 := B2.frozen 2
       have b2 : Below wr.heap.size wr w2 := HU.out.1.grown g2 HU.out.1.size (by simp [Value.ownBlock])
       have BX := B2.set 2 (.slice Ap kp cp)
       have gX := gset w2 wr.heap.size 2 (.slice Ap kp cp)
       obtain ⟨W3, hW3⟩ : ∃ W, w2.setCell ⟨wr.heap.size, 2, none⟩ (.slice Ap kp cp) = W := ⟨_, rfl⟩
       rw [hW3] at BX gX
       simp only [List.set] at BX
       have b3 : Below wr.heap.size wr W3 := b2.grown gX b2.size (fun j hj => by injection hj with hj; omega)
       have o3 := own_keep o2 fun g hg => gX.block g (o2.lt g hg).2 (fun q => by injection q with q; have := (o2.lt g hg).1; have := HU.out.2.2; omega)
       have z0 := (BX.cell 0).trans rfl
       have z1 := (BX.cell 1).trans rfl
       have z2 := (BX.cell 2).trans rfl
       have z3 := (BX.cell 3).trans rfl
       have z4 := (BX.cell 4).trans rfl
       have B3 := hst.out.2.2.1.same (b3.block _ hst.out.2.2.1.lt)
       have z5 := (B3.cell 1).trans rfl
       have hs3 := b3.size
       have H3 := Lib.hid (And.intro b3 (And.intro o3 (And.intro (own_below hst.out.2.2.2.1.1 b3 (Nat.le_refl _)) B3)))
       have HG := Lib.hid gX.size
       have hs2 := g2.size
       have HG2 := Lib.hid (Nat.le_trans hs2 gX.size)
       clear B2 b2 BX gX b3 o2 o3 g2 B3 hs2)
    | (at_builtin; refine wpList_append_v _ rfl (.tmp 29) (.tmp 31) 67 rfl (ob + 1) 119 j0 _ 64 Tryz.underlying67 HI.out.2.1 HI.out.2.2.1 HI.out.2.2.2.1 HI.out.2.2.2.2 rfl (.slice Ao k co) k ps rfl (by have h := H3.out.2.2.1; rwa [hst.out.2.1] at h) (⟨s, vn, vp, vg, vx⟩, Ap, cp) kp HK.out.1 1 rfl (by omega) (by omega) (by have := hst.out.2.2.1.lt; omega) ?_
       intro v5 w5 o5 g5 at5
       obtain ⟨A5, c5, rfl⟩ := own_form o5
       have B5 := H3.out.2.2.2.kept g5 (fun e => by have := (H3.out.2.2.1.lt ob e.symm).1; omega)
       have y5 := (B5.cell 1).trans rfl
       have f5 := B5.frozen 1
       have H5 := Lib.hid (And.intro o5 (And.intro g5 (And.intro at5 B5)))
       clear o5 g5 at5 B5))
   have gY := gset w5 ob 1 (.slice A5 (k + 1) c5)
   obtain ⟨Y, hY⟩ : ∃ Y, w5.setCell ⟨ob, 1, none⟩ (.slice A5 (k + 1) c5) = Y := ⟨_, rfl⟩
   rw [hY] at gY ⊢
   have BY := H5.out.2.2.2.set 1 (.slice A5 (k + 1) c5)
   rw [hY] at BY
   have hob : ob + 1 ≤ wr.heap.size := hst.out.2.2.1.lt
   have o3 := H3.out.2.1
   have hver : Code.VerO W3 wr.heap.size W3.heap.size (⟨s, vn, vp, vg, vx⟩, Ap, cp) := by
    have hl := own_low o3
    refine ⟨⟨own_ss (n := kp) (by rw [← HK.out.1] at o3 ⊢; exact o3), ?_, HK.out.2.2.2.1, HK.out.2.2.2.2.1, fun hp a ha => ?_⟩, ?_, fun g hg => (o3.lt g (by rw [HK.out.1] at hg; exact hg)).2⟩
    ·have := hl.1
     simp only [HK.out.1]
     exact this
    ·have := hl.2 (by have := HK.out.1; simp only at hp; omega) a ha
     have := HU.out.2.2
     omega
    ·simp only [HK.out.1]
     exact own_base o3 (by have := HU.out.2.2; omega)
   have hadd := hst.out.2.2.2.1.add (fun j _ hj => H3.out.1.block j hj) hs3 hver hob (by rw [hst.out.2.1]; exact H5.out.1) H5.out.2.1 H5.out.2.2.1
   have hrow := hadd.keep fun j h1 h2 => gY.block j h2 (by intro q; injection q with q; omega)
   have hfin : Copied l m ob key X (.int .i64 ((k + 1 : Nat) : Int)) Y := ⟨k + 1, ps ++ [(⟨s, vn, vp, vg, vx⟩, Ap, cp)], A5, c5, rfl, by omega, Lib.hid ⟨?_, ?_, by simpa using BY, hrow.more gY.size, ?_⟩⟩
   ·exact ⟨hfin, by simp only [intOf]; omega⟩
   ·rw [List.map_append, hst.out.1, HT.out, HVV.out]
    rfl
   ·rw [List.length_append, hst.out.2.1]
    rfl
   ·have h3 := hst.out.2.2.2.2.trans (H3.out.1.mono (by omega))
    have h5 := h3.grown H5.out.2.1 (by omega) fun j hj => by have := (H3.out.2.2.1.lt j hj).1; omega
    exact h5.grown gY (by have := H5.out.2.2.2.lt; omega) fun j hj => by injection hj with hj; omega
  ·obtain rfl : k = m := by omega
   have Bo := hst.out.2.2.1
   have Br := HB.out.2.2.1.same (hst.out.2.2.2.2.block _ (by have := HB.out.2.2.2.1; omega))
   have z0 := (Bo.cell 0).trans rfl
   have z1 := (Bo.cell 1).trans rfl
   have r0 := (Br.cell 0).trans rfl
   have r1 := (Br.cell 1).trans rfl
   have rf0 := Br.frozen 0
   have rf1 := Br.frozen 1
   have BY := (Br.set 0 (.string key)).set 1 (.slice Ao k co)
   have gY := grown_trans_one (gset wr (w.heap.size + 1) 0 (.string key)) (gset _ (w.heap.size + 1) 1 (.slice Ao k co))
   obtain ⟨Y, hY⟩ : ∃ Y, (wr.setCell ⟨w.heap.size + 1, 0, none⟩ (.string key)).setCell ⟨w.heap.size + 1, 1, none⟩ (.slice Ao k co) = Y := ⟨_, rfl⟩
   rw [hY] at BY gY
   simp only [List.set] at BY
   have y0 := (BY.cell 0).trans rfl
   have y1 := (BY.cell 1).trans rfl
   have hR : NewRr key l k w (.returned (.agg #[.string key, .slice Ao k co])) Y := by
    have ho := HB.out.2.2.2.1
    have hrow := (hst.out.2.2.2.1.keep fun j h1 h2 => gY.block j h2 (by intro q; injection q with q; omega)).more gY.size
    refine ⟨Ao, co, ps, rfl, Lib.hid ⟨?_, hrow.less (by omega)⟩, hbw.grown gY hbw.size fun j hj => by injection hj with hj; omega⟩
    rw [hst.out.1, List.take_of_length_le (by have := HB.out.2.2.2.2.2.2; omega)]
   have HR := Lib.hid hR
   clear hR gY BY Bo Br B0 hbw
   go_wp2_with fail
   refine bodyPost_ret (v := .agg #[.string key, .slice Ao k co]) ?_ rfl HR.out
   rw [Blk.results_cell1 rfl]
   go_simp
end Own
end Go.Proofs.YtkfdplfgaddkmaaGreat
