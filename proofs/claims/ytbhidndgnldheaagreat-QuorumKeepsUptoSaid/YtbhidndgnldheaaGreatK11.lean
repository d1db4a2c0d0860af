/-
  Several texts of this family in one: VersFresh, VersFill, VersList, VersMerge, VersLacks, QuorumPlain, QuorumOwn, QuorumWaits, IntsClone.
-/
import Derived.Test.YtbhidndgnldheaaGreatK10
import Derived.Lib.SliceRun
import Derived.Test.YtbhidndgnldheaaGreatK2
import Derived.Test.YtbhidndgnldheaaGreatK6
import Derived.Test.YtbhidndgnldheaaGreatK8
import Derived.Test.YtbhidndgnldheaaGreatK9
import Derived.Test.YtbhidndgnldheaaGreatK5
import Derived.Deep.RegionHeld3
import Derived.Deep.DrawnRows
import Derived.Deep.AppendLies
/-
 slices.Clone of spans and fresh.Ver: copies that have no memory in common with what they were made of.
-/
namespace Go.Proofs.YtbhidndgnldheaaGreat
namespace Vers
open Go.RowKit Span
attribute [local go_sem ↓] Go.wp_at_zero Go.wp_at_succ

def Tg (w : World) (n : Nat) (A : Option Addr) : Prop := 0 < n → ∀ a, A = some a → ∃ cur, w.heap[a.block]? = some (.cells cur 43 (0, 0))
theorem Tg.keep {w w' : World} {n : Nat} {A : Option Addr} (h : Tg w n A) (hk : 0 < n → ∀ a, A = some a → a.block < w.heap.size → w'.heap[a.block]? = w.heap[a.block]?) : Tg w' n A := fun hn a ha => by
 obtain ⟨cur, hc⟩ := h hn a ha
 exact ⟨cur, (hk hn a ha (Array.getElem?_eq_some_iff.1 hc).1).trans hc⟩
theorem Tg.below {w w' : World} {n : Nat} {A : Option Addr} (h : Tg w n A) (hb : Below w.heap.size w w') : Tg w' n A := h.keep fun _ a _ hl => hb.block a.block hl
theorem own_tag {w : World} {base : Nat} {A : Option Addr} {c n : Nat} {us : List Value} (h : w.ownsRow base 43 3 (.slice A n c) n us) : Tg w n A := by
 rcases h.2 with ⟨hv, h0⟩ | ⟨g, cap, cur, hv, hbg, hg, _⟩
 ·subst h0
  exact fun h => absurd h (by omega)
 ·injection hv with h1 h2 h3
  subst h1
  exact fun _ a ha => by injection ha with ha; subst ha; exact ⟨cur, hg⟩
def OwnSsT (l : List Sp) (w : World) (e : Ending) (w' : World) : Prop :=
 ∃ A c, e = .returned (.slice A l.length c) ∧ Hid (Ss w' w'.heap.size A l ∧ l.length ≤ c ∧ (0 < l.length → ∀ a, A = some a → w.heap.size ≤ a.block) ∧ Tg w' l.length A) ∧ Below w.heap.size w w'

theorem own_low {w : World} {base : Nat} {e : TypeId} {size : Nat} {A : Option Addr} {c n : Nat} {us : List Value} (h : w.ownsRow base e size (.slice A n c) n us) : n ≤ c ∧ (0 < n → ∀ a, A = some a → base ≤ a.block) := by
 rcases h.2 with ⟨hv, h0⟩ | ⟨g, cap, cur, hv, hbg, hg, hn, _⟩
 ·injection hv with h1 h2 h3
  subst h0
  exact ⟨Nat.zero_le _, fun h => absurd h (by omega)⟩
 ·injection hv with h1 h2 h3
  subst h1
  subst h3
  exact ⟨hn, fun _ a ha => by injection ha with ha; subst ha; exact hbg⟩

set_option maxRecDepth 100000 in
theorem clone_own (A : Option Addr) (c n : Nat) (l : List Sp) (hn : l.length = n) (B : Nat) (w : World) (hB : B ≤ w.heap.size) (hr : Ss w B A l) (hbig : n ≤ 4294967296) :
  Calls Tryz.prog 77 #[.slice A n c] w (OwnSsT l w) := by
 obtain ⟨i0, hi0, hz0, hz1, hz2⟩ := info_span
 rcases A with _ | ad
 ·have h0 : l = [] := by
   rcases Nat.eq_zero_or_pos l.length with h0 | h0
   ·exact List.eq_nil_of_length_eq_zero h0
   ·obtain ⟨b, off, he, _⟩ := hr h0
    cases he
  subst h0
  obtain rfl : n = 0 := hn.symm
  have hne := Lib.run_eql_slice_nil (P := Tryz.prog) w 38 43 none 0 c 0 0 Tryz.underlying38
  rw [show (none : Option Addr).isNone = true from rfl] at hne
  go_enter Tryz.func77, Tryz.ntmps77
  go_wp2_with fail
  go_ret
  exact ⟨none, 0, rfl, Lib.hid ⟨fun h => absurd h (by simp), by simp, fun h => absurd h (by simp), fun h => absurd h (by simp)⟩, Below.refl _ _⟩
 ·have ho := World.ownsRow_lit (base := w.heap.size) (e := 43) (size := 3) w #[] 0 (Nat.le_refl _) (by unfold maxLen; omega) rfl
  have q2 : Ss (w.alloc (.cells #[] 43)) w.heap.size (some ad) l := (hr.more hB).below ((Below.refl _ w).alloc (Nat.le_refl _) _)
  have hne := Lib.run_eql_slice_nil (P := Tryz.prog) w 38 43 (some ad) n c 0 0 Tryz.underlying38
  rw [show (some ad).isNone = false from rfl] at hne
  have Hn := Lib.hid hn
  clear hr hn
  go_enter Tryz.func77, Tryz.ntmps77
  have b0 := (Below.refl w.heap.size w).alloc (Nat.le_refl _) (.cells #[] 43)
  go_wp2_with (at_builtin; refine wpList_append_ss _ rfl (.tmp 5) (.tmp 6) 38 rfl w.heap.size 43 i0 _ 24 Tryz.underlying38 hi0 hz0 hz1 hz2 rfl _ 0 [] rfl ho w.heap.size (some ad) n c l Hn.out rfl q2 (by omega) (by omega) (by simp) ?_; intro v1 w1 o1 g1 at1)
  have b1 := b0.grown g1 (by simp) (fun j hj => (ho.lt j hj).1)
  obtain ⟨A1, c1, rfl⟩ := own_form o1
  have o2 : w1.ownsRow w.heap.size 43 3 (.slice A1 l.length c1) l.length (sps l) := by
   rw [Hn.out]
   simpa using o1
  have HF := Lib.hid (And.intro o2 b1)
  have hz : 0 + n = l.length := by rw [Hn.out, Nat.zero_add]
  have HZ := Lib.hid hz
  clear o1 g1 at1 o2 b1 b0 ho q2 hz
  go_wp2_with fail
  go_ret
  exact ⟨A1, c1, by rw [HZ.out]; rfl, Lib.hid ⟨own_ss HF.out.1, (own_low HF.out.1).1, (own_low HF.out.1).2, own_tag HF.out.1⟩, HF.out.2⟩
theorem results_cell1 {fn : Func} {p : Tmp} {ty : TypeId} (h : fn.results = #[.cell p ty]) (tmps : Array Value) (P : Program) (w : World) :
  (results fn tmps).run P w = ((asAddr (tmps.getD p undef)).run P w).andThen fun a w₁ => (loadVar ty a).run P w₁ := by
 simp only [results, h]
 simp [Sem.run_bind, Result.andThen]
def put5q (V : World) (m : Nat) (u0 u1 u2 u3 u4 : Value) : World := ((((V.setCell ⟨m, 0, none⟩ u0).setCell ⟨m, 1, none⟩ u1).setCell ⟨m, 2, none⟩ u2).setCell ⟨m, 3, none⟩ u3).setCell ⟨m, 4, none⟩ u4
theorem put5q_lit {V : World} {m : Nat} {u0 u1 u2 u3 u4 : Value} : ((((V.setCell ⟨m, 0, none⟩ u0).setCell ⟨m, 1, none⟩ u1).setCell ⟨m, 2, none⟩ u2).setCell ⟨m, 3, none⟩ u3).setCell ⟨m, 4, none⟩ u4 = put5q V m u0 u1 u2 u3 u4 := rfl
theorem put5q_drew {V : World} {m : Nat} {u0 u1 u2 u3 u4 : Value} : put5 V m u0 u1 u2 u3 u4 = (put5q V m u0 u1 u2 u3 u4).drew := rfl
theorem put5q_new {V : World} {m : Nat} {u0 u1 u2 u3 u4 : Value} {z0 z1 z2 z3 z4 : Value} (h : V.cell? ⟨m, 0, none⟩ = some z0 ∧ V.cell? ⟨m, 1, none⟩ = some z1 ∧ V.cell? ⟨m, 2, none⟩ = some z2 ∧ V.cell? ⟨m, 3, none⟩ = some z3 ∧ V.cell? ⟨m, 4, none⟩ = some z4) :
  (put5q V m u0 u1 u2 u3 u4).cell? ⟨m, 0, none⟩ = some u0 ∧ (put5q V m u0 u1 u2 u3 u4).cell? ⟨m, 1, none⟩ = some u1 ∧ (put5q V m u0 u1 u2 u3 u4).cell? ⟨m, 2, none⟩ = some u2 ∧ (put5q V m u0 u1 u2 u3 u4).cell? ⟨m, 3, none⟩ = some u3 ∧ (put5q V m u0 u1 u2 u3 u4).cell? ⟨m, 4, none⟩ = some u4 := by
 have key := put5_new (u0 := u0) (u1 := u1) (u2 := u2) (u3 := u3) (u4 := u4) h
 rw [put5q_drew] at key
 simpa only [drew_cell] using key
theorem put5q_heap {V : World} {m k : Nat} {u0 u1 u2 u3 u4 : Value} (h : k ≠ m) : (put5q V m u0 u1 u2 u3 u4).heap[k]? = V.heap[k]? := by
 have key := put5_heap (V := V) (u0 := u0) (u1 := u1) (u2 := u2) (u3 := u3) (u4 := u4) h
 rwa [put5q_drew, drew_heap] at key
theorem put5q_size {V : World} {m : Nat} {u0 u1 u2 u3 u4 : Value} : (put5q V m u0 u1 u2 u3 u4).heap.size = V.heap.size := by
 have key := put5_size (V := V) (m := m) (u0 := u0) (u1 := u1) (u2 := u2) (u3 := u3) (u4 := u4)
 rwa [put5q_drew, drew_heap] at key
theorem put5q_below {V : World} {m : Nat} {u0 u1 u2 u3 u4 : Value} : Below m V (put5q V m u0 u1 u2 u3 u4) := by
 unfold put5q
 exact ((((below_set V m 0 u0).trans (below_set _ m 1 u1)).trans (below_set _ m 2 u2)).trans (below_set _ m 3 u3)).trans (below_set _ m 4 u4)

def OwnVerT (v : Vr) (w : World) (e : Ending) (w' : World) : Prop :=
 ∃ A c, e = .returned (.agg #[.int .i64 v.s, .int .i64 v.n, .slice A v.past.length c, .bool v.gone, .string v.val]) ∧ Hid (Pa w' w.heap.size w'.heap.size A c v ∧ Tg w' v.past.length A) ∧ Below w.heap.size w w'

set_option maxRecDepth 100000 in
set_option maxHeartbeats 1000000 in
theorem ver_own (A : Option Addr) (c kp : Nat) (s vn : Int) (vp : List Sp) (vg : Bool) (vx : ByteArray) (hkp : vp.length = kp) (hk : kp ≤ 4294967296) (L B : Nat) (w : World) (hB : B ≤ w.heap.size) (hp : Pa w L B A c ⟨s, vn, vp, vg, vx⟩) :
  Calls Tryz.prog 57 #[.agg #[.int .i64 s, .int .i64 vn, .slice A kp c, .bool vg, .string vx]] w (OwnVerT ⟨s, vn, vp, vg, vx⟩ w) := by
 have H1 : Hid (∀ W, Below w.heap.size w W → Calls Tryz.prog 77 #[.slice A kp c] W (OwnSsT vp W)) := Lib.hid fun W hb => clone_own A c kp vp hkp B W (Nat.le_trans hB hb.size) (hp.1.below (hb.mono hB)) hk
 have HP := Lib.hid (And.intro hp hkp)
 clear hp hkp
 go_enter Tryz.func57, Tryz.ntmps57
 go_wp2_with fail
 obtain ⟨m, hm⟩ : ∃ m, w.heap.size = m := ⟨_, rfl⟩
 obtain ⟨W2, hW2⟩ : ∃ W2, (w.alloc (.cells #[.int .i64 s, .int .i64 vn, .slice A kp c, .bool vg, .string vx] 40)).alloc (.cells #[.int .i64 0, .int .i64 0, .slice none 0 0, .bool false, .string ⟨#[]⟩] 40) = W2 := ⟨_, rfl⟩
 have n1 : W2.heap[m]? = some (.cells #[.int .i64 s, .int .i64 vn, .slice A kp c, .bool vg, .string vx] 40) := by
  rw [← hW2, ← hm, Below.heap_alloc _ _ _ (by simp)]; exact World.alloc_heap_new _ _
 have n2 : W2.heap[m + 1]? = some (.cells #[.int .i64 0, .int .i64 0, .slice none 0 0, .bool false, .string ⟨#[]⟩] 40) := by
  have h := World.alloc_heap_new (w.alloc (.cells #[.int .i64 s, .int .i64 vn, .slice A kp c, .bool vg, .string vx] 40)) (.cells #[.int .i64 0, .int .i64 0, .slice none 0 0, .bool false, .string ⟨#[]⟩] 40)
  rw [hW2] at h
  rw [← hm]; simpa using h
 have bW : Below w.heap.size w W2 := by rw [← hW2]; exact ((Below.refl _ w).alloc (Nat.le_refl _) _).alloc (by simp) _
 have sW : W2.heap.size = m + 2 := by rw [← hW2, ← hm]; simp
 have hK := H1.out W2 bW
 rw [hW2, hm]
 have HW := Lib.hid (And.intro hm (And.intro bW sW))
 have HN := Lib.hid (And.intro n1 n2)
 clear hW2 hm n1 n2 bW sW H1
 refine Calls.mono hK ?_
 rintro e w1 ⟨A1, c1, rfl, hF, b1⟩
 have k1 : w1.heap[m]? = some (.cells #[.int .i64 s, .int .i64 vn, .slice A kp c, .bool vg, .string vx] 40) := (b1.block m (by have := HW.out.2.2; omega)).trans HN.out.1
 have k2 : w1.heap[m + 1]? = some (.cells #[.int .i64 0, .int .i64 0, .slice none 0 0, .bool false, .string ⟨#[]⟩] 40) := (b1.block (m + 1) (by have := HW.out.2.2; omega)).trans HN.out.2
 rw [HP.out.2]
 obtain ⟨X, hX⟩ : ∃ X, w1.setCell ⟨m, 2, none⟩ (.slice A1 kp c1) = X := ⟨_, rfl⟩
 have c2 : w1.cell? ⟨m, 2, none⟩ = some (.slice A kp c) := by simp [World.cell?, k1]
 have f2 : w1.frozen? ⟨m, 2, none⟩ = false := by simp [World.frozen?, k1]
 have x0 : X.cell? ⟨m, 0, none⟩ = some (.int .i64 s) := by rw [← hX, off_ne _ _ _ _ _ (by omega)]; simp [World.cell?, k1]
 have x1 : X.cell? ⟨m, 1, none⟩ = some (.int .i64 vn) := by rw [← hX, off_ne _ _ _ _ _ (by omega)]; simp [World.cell?, k1]
 have x2 : X.cell? ⟨m, 2, none⟩ = some (.slice A1 kp c1) := by rw [← hX]; exact World.cell?_setCell_same' _ _ _ (by rw [c2]; rfl)
 have x3 : X.cell? ⟨m, 3, none⟩ = some (.bool vg) := by rw [← hX, off_ne _ _ _ _ _ (by omega)]; simp [World.cell?, k1]
 have x4 : X.cell? ⟨m, 4, none⟩ = some (.string vx) := by rw [← hX, off_ne _ _ _ _ _ (by omega)]; simp [World.cell?, k1]
 have hk2 : X.heap[m + 1]? = some (.cells #[.int .i64 0, .int .i64 0, .slice none 0 0, .bool false, .string ⟨#[]⟩] 40) := by rw [← hX, Below.heap_setCell _ _ _ _ (show m + 1 ≠ m by omega)]; exact k2
 have F2 : ∀ r, X.frozen? ⟨m + 1, r, none⟩ = false := fun r => by simp [World.frozen?, hk2]
 have z0 : X.cell? ⟨m + 1, 0, none⟩ = some (.int .i64 0) := by simp [World.cell?, hk2]
 have z1 : X.cell? ⟨m + 1, 1, none⟩ = some (.int .i64 0) := by simp [World.cell?, hk2]
 have z2 : X.cell? ⟨m + 1, 2, none⟩ = some (.slice none 0 0) := by simp [World.cell?, hk2]
 have z3 : X.cell? ⟨m + 1, 3, none⟩ = some (.bool false) := by simp [World.cell?, hk2]
 have z4 : X.cell? ⟨m + 1, 4, none⟩ = some (.string ⟨#[]⟩) := by simp [World.cell?, hk2]
 have f0' := F2 0
 have f1' := F2 1
 have f2' := F2 2
 have f3' := F2 3
 have f4' := F2 4
 have bX : Below m w1 X := by rw [← hX]; exact below_set w1 m 2 _
 have HC := Lib.hid (And.intro b1 bX)
 clear k1 k2 F2 hk2 b1 bX hK
 go_wp2_with fail
 have hy := put5q_new (V := X) (m := m + 1) (u0 := .int .i64 s) (u1 := .int .i64 vn) (u2 := .slice A1 kp c1) (u3 := .bool vg) (u4 := .string vx) ⟨z0, z1, z2, z3, z4⟩
 have hheap := fun k (h : k ≠ m + 1) => put5q_heap (V := X) (m := m + 1) (u0 := .int .i64 s) (u1 := .int .i64 vn) (u2 := .slice A1 kp c1) (u3 := .bool vg) (u4 := .string vx) h
 have hsz := put5q_size (V := X) (m := m + 1) (u0 := .int .i64 s) (u1 := .int .i64 vn) (u2 := .slice A1 kp c1) (u3 := .bool vg) (u4 := .string vx)
 have hbl := put5q_below (V := X) (m := m + 1) (u0 := .int .i64 s) (u1 := .int .i64 vn) (u2 := .slice A1 kp c1) (u3 := .bool vg) (u4 := .string vx)
 rw [put5q_lit]
 obtain ⟨Y, hY⟩ : ∃ Y, put5q X (m + 1) (.int .i64 s) (.int .i64 vn) (.slice A1 kp c1) (.bool vg) (.string vx) = Y := ⟨_, rfl⟩
 rw [hY] at hy hheap hsz hbl ⊢
 obtain ⟨y0, y1, y2, y3, y4⟩ := hy
 have hXh : ∀ k, k ≠ m → X.heap[k]? = w1.heap[k]? := fun k hk => by rw [← hX]; exact Below.heap_setCell _ _ _ _ hk
 have hXs : X.heap.size = w1.heap.size := by rw [← hX]; exact setCell_size _ _ _
 have b2 : Below m W2 w1 := HC.out.1.mono (by have := HW.out.2.2; omega)
 have b3 : Below m w1 X := HC.out.2
 have hbel : Below w.heap.size w Y := by
  have e := HW.out.1
  have h1 := HW.out.2.1
  rw [e] at h1 ⊢
  exact ((h1.trans b2).trans b3).trans (hbl.mono (by omega))
 have hpast : Pa Y w.heap.size Y.heap.size A1 c1 ⟨s, vn, vp, vg, vx⟩ := by
  have e := HW.out.1
  have e2 := HW.out.2.2
  have e3 := HC.out.1.size
  refine ⟨Ss.high (L := W2.heap.size) (hF.out.1.more (by omega)) (fun hp a ha => hF.out.2.2.1 hp a ha) (fun p hp1 hp2 => ?_), hF.out.2.1, HP.out.1.2.2.1, HP.out.1.2.2.2.1, fun hp a ha => ?_⟩
  ·exact World.cell?_of_block ((hheap _ (by omega)).trans (hXh _ (by omega)))
  ·have := hF.out.2.2.1 hp a ha
   omega
 have htag : Tg Y vp.length A1 := fun hp a ha => by
  have e2 := HW.out.2.2
  have e4 := hF.out.2.2.1 hp a ha
  obtain ⟨cur, hc⟩ := hF.out.2.2.2 hp a ha
  exact ⟨cur, ((hheap _ (by omega)).trans (hXh _ (by omega))).trans hc⟩
 have HR := Lib.hid (And.intro (And.intro hpast htag) hbel)
 clear hXh hXs b2 b3 hbl hsz hheap hY hX hF hpast htag hbel x0 x1 x2 x3 x4 z0 z1 z2 z3 z4 f0' f1' f2' f3' f4' f2 c2
 (try simp only [Exit.inBlock, Exit.then])
 refine bodyPost_ret (v := .agg #[.int .i64 s, .int .i64 vn, .slice A1 kp c1, .bool vg, .string vx]) ?_ rfl ⟨A1, c1, by rw [HP.out.2], Lib.hid HR.out.1, HR.out.2⟩
 rw [results_cell1 rfl]
 go_simp
end Vers
end Go.Proofs.YtbhidndgnldheaaGreat

/-
 A row of versions of the call's own that is filled from its head.
-/
namespace Go.Proofs.YtbhidndgnldheaaGreat
namespace Vers
open Go.RowKit Span

def Fill (w : World) (g n : Nat) (ps : List Pv) : Prop :=
 ∃ cur, w.heap[g]? = some (.cells cur 40 (0, 0)) ∧ cur.size = n * 5 ∧ ∀ j, j < ps.length * 5 → cur[j]? = (vcs ps)[j]?

section
variable {w w' : World} {g n : Nat} {ps : List Pv}
theorem Fill.keep (h : Fill w g n ps) (hk : w'.heap[g]? = w.heap[g]?) : Fill w' g n ps := by
 obtain ⟨cur, h1, h2, h3⟩ := h
 exact ⟨cur, hk.trans h1, h2, h3⟩
theorem Fill.frozen (h : Fill w g n ps) (j : Nat) : w.frozen? ⟨g, j, none⟩ = false := by
 obtain ⟨cur, h1, _⟩ := h
 simp [World.frozen?, h1]
theorem Fill.cell (h : Fill w g n ps) (j : Nat) (hj : j < n * 5) : ∃ z, w.cell? ⟨g, j, none⟩ = some z := by
 obtain ⟨cur, h1, h2, _⟩ := h
 exact ⟨cur[j]'(by omega), by rw [cell_of_row w g j cur 40 (0, 0) h1]; exact Array.getElem?_eq_getElem (by omega)⟩
theorem Fill.lt (h : Fill w g n ps) : g < w.heap.size := by
 obtain ⟨cur, h1, _⟩ := h
 exact (Array.getElem?_eq_some_iff.1 h1).1
theorem Fill.own (h : Fill w g n ps) (hn : ps.length = n) (base : Nat) (hb : base ≤ g) (hm : n ≤ maxLen) : w.ownsRow base 40 5 (.slice (some ⟨g, 0, none⟩) n n) n (vcs ps) := by
 obtain ⟨cur, h1, h2, h3⟩ := h
 subst hn
 refine ⟨vcs_length ps, .inr ⟨g, ps.length, cur, rfl, hb, h1, Nat.le_refl _, hm, h2, ?_⟩⟩
 apply List.ext_getElem?
 intro j
 by_cases hj : j < ps.length * 5
 ·rw [List.getElem?_take_of_lt hj, Array.getElem?_toList, h3 j hj]
 ·rw [List.getElem?_take_eq_none (by omega), List.getElem?_eq_none (by rw [vcs_length]; omega)]

def put5o (V : World) (m o : Nat) (u0 u1 u2 u3 u4 : Value) : World := ((((V.setCell ⟨m, o, none⟩ u0).setCell ⟨m, o + 1, none⟩ u1).setCell ⟨m, o + 2, none⟩ u2).setCell ⟨m, o + 3, none⟩ u3).setCell ⟨m, o + 4, none⟩ u4
theorem put5o_lit {V : World} {m o : Nat} {u0 u1 u2 u3 u4 : Value} : ((((V.setCell ⟨m, o, none⟩ u0).setCell ⟨m, o + 1, none⟩ u1).setCell ⟨m, o + 2, none⟩ u2).setCell ⟨m, o + 3, none⟩ u3).setCell ⟨m, o + 4, none⟩ u4 = put5o V m o u0 u1 u2 u3 u4 := rfl
theorem put5o_heap {V : World} {m o k : Nat} {u0 u1 u2 u3 u4 : Value} (h : k ≠ m) : (put5o V m o u0 u1 u2 u3 u4).heap[k]? = V.heap[k]? := by
 unfold put5o
 rw [Below.heap_setCell _ _ _ _ h, Below.heap_setCell _ _ _ _ h, Below.heap_setCell _ _ _ _ h, Below.heap_setCell _ _ _ _ h, Below.heap_setCell _ _ _ _ h]
theorem put5o_size {V : World} {m o : Nat} {u0 u1 u2 u3 u4 : Value} : (put5o V m o u0 u1 u2 u3 u4).heap.size = V.heap.size := by
 unfold put5o
 rw [setCell_size, setCell_size, setCell_size, setCell_size, setCell_size]
theorem put5o_below {V : World} {m o : Nat} {u0 u1 u2 u3 u4 : Value} : Below m V (put5o V m o u0 u1 u2 u3 u4) := by
 unfold put5o
 exact ((((below_set V m o u0).trans (below_set _ m (o + 1) u1)).trans (below_set _ m (o + 2) u2)).trans (below_set _ m (o + 3) u3)).trans (below_set _ m (o + 4) u4)
theorem set_row {V : World} {m : Nat} {cur : Array Value} {e : TypeId} (h : V.heap[m]? = some (.cells cur e (0, 0))) (i : Nat) (u : Value) : (V.setCell ⟨m, i, none⟩ u).heap[m]? = some (.cells (cur.setIfInBounds i u) e (0, 0)) := by
 simp [World.setCell, Array.getElem?_modify, h]
theorem Fill.put (h : Fill w g n ps) (hn : ps.length < n) (p : Pv) (o : Nat) (ho : o = ps.length * 5) : Fill (put5o w g o (.int .i64 p.1.s) (.int .i64 p.1.n) (.slice p.2.1 p.1.past.length p.2.2) (.bool p.1.gone) (.string p.1.val)) g n (ps ++ [p]) := by
 subst ho
 obtain ⟨cur, h1, h2, h3⟩ := h
 have k1 := set_row h1 (ps.length * 5) (.int .i64 p.1.s)
 have k2 := set_row k1 (ps.length * 5 + 1) (.int .i64 p.1.n)
 have k3 := set_row k2 (ps.length * 5 + 2) (.slice p.2.1 p.1.past.length p.2.2)
 have k4 := set_row k3 (ps.length * 5 + 3) (.bool p.1.gone)
 have k5 := set_row k4 (ps.length * 5 + 4) (.string p.1.val)
 refine ⟨_, k5, by simpa using h2, fun j hj => ?_⟩
 rw [List.length_append, List.length_singleton] at hj
 rw [vcs_append, vcs_one]
 by_cases hj0 : j < ps.length * 5
 ·rw [List.getElem?_append_left (by rw [vcs_length]; exact hj0), ← h3 j hj0]
  rw [Array.getElem?_setIfInBounds_ne (by omega), Array.getElem?_setIfInBounds_ne (by omega), Array.getElem?_setIfInBounds_ne (by omega), Array.getElem?_setIfInBounds_ne (by omega), Array.getElem?_setIfInBounds_ne (by omega)]
 ·rw [List.getElem?_append_right (by rw [vcs_length]; omega), vcs_length]
  obtain ⟨r, rfl⟩ : ∃ r, j = ps.length * 5 + r := ⟨j - ps.length * 5, by omega⟩
  have hr : r < 5 := by omega
  have hc : cur.size = n * 5 := h2
  rw [show ps.length * 5 + r - ps.length * 5 = r by omega]
  match r, hr with
  | 0, _ => rw [Array.getElem?_setIfInBounds_ne (by omega), Array.getElem?_setIfInBounds_ne (by omega), Array.getElem?_setIfInBounds_ne (by omega), Array.getElem?_setIfInBounds_ne (by omega), Nat.add_zero, Array.getElem?_setIfInBounds_self_of_lt (by omega)]; rfl
  | 1, _ => rw [Array.getElem?_setIfInBounds_ne (by omega), Array.getElem?_setIfInBounds_ne (by omega), Array.getElem?_setIfInBounds_ne (by omega), Array.getElem?_setIfInBounds_self_of_lt (by simp; omega)]; rfl
  | 2, _ => rw [Array.getElem?_setIfInBounds_ne (by omega), Array.getElem?_setIfInBounds_ne (by omega), Array.getElem?_setIfInBounds_self_of_lt (by simp; omega)]; rfl
  | 3, _ => rw [Array.getElem?_setIfInBounds_ne (by omega), Array.getElem?_setIfInBounds_self_of_lt (by simp; omega)]; rfl
  | 4, _ => rw [Array.getElem?_setIfInBounds_self_of_lt (by simp; omega)]; rfl
theorem fill_start {base : Nat} {xs : List Value} (h : w.ownsRow base 40 5 (.slice (some ⟨g, 0, none⟩) n n) n xs) : Fill w g n [] := by
 rcases h.2 with ⟨h0, _⟩ | ⟨g', cap, cur, hv, _, hg, _, _, hs, _⟩
 ·cases h0
 ·injection hv with h1 _ h2
  injection h1 with h1
  injection h1 with h1
  subst h1
  subst h2
  exact ⟨cur, hg, hs, fun j hj => absurd hj (by simp)⟩
end
end Vers
end Go.Proofs.YtbhidndgnldheaaGreat

/-
 fresh.List of versions: copies, each with a past of its own.
-/
namespace Go.Proofs.YtbhidndgnldheaaGreat
namespace Vers
open Go.RowKit Span
attribute [local go_sem ↓] Go.wp_at_zero Go.wp_at_succ

def NewVs (l : List Vr) (w : World) (e : Ending) (w' : World) : Prop :=
 ∃ A c ps, e = .returned (.slice A l.length c) ∧ Hid (OwnVs w.heap.size w.heap.size w'.heap.size w' (.slice A l.length c) ps ∧ ps.map Prod.fst = l) ∧ Below w.heap.size w w'

def OwnVsT (l : List Vr) (w : World) (e : Ending) (w' : World) : Prop :=
 ∃ A c ps, e = .returned (.slice A l.length c) ∧ Hid (OwnVs w.heap.size w.heap.size w'.heap.size w' (.slice A l.length c) ps ∧ ps.map Prod.fst = l ∧ ∀ p ∈ ps, Tg w' p.1.past.length p.2.1) ∧ Below w.heap.size w w'

def Copying (l : List Vr) (n g : Nat) (w : World) (iv : Value) (wr : World) : Prop :=
 ∃ (k : Nat) (ps : List Pv), iv = .int .i64 (k : Int) ∧ k ≤ n ∧ ps.map Prod.fst = l.take k ∧ Fill wr g n ps ∧ (∀ p ∈ ps, Pa wr (g + 1) wr.heap.size p.2.1 p.2.2 p.1 ∧ Tg wr p.1.past.length p.2.1) ∧ Below w.heap.size w wr

set_option maxRecDepth 100000 in
set_option maxHeartbeats 2000000 in
theorem list_own (A : Option Addr) (c n : Nat) (l : List Vr) (hn : l.length = n) (L B : Nat) (w : World) (hB : B ≤ w.heap.size) (hv : Vs w L B A l) (hbig : n ≤ 1024) (hp : ∀ v ∈ l, v.past.length ≤ 4294967296) :
  Calls Tryz.prog 56 #[.slice A n c, .func (.func 57) #[] #[]] w (OwnVsT l w) := by
 by_cases h0 : n = 0
 ·subst h0
  have : l = [] := List.eq_nil_of_length_eq_zero hn
  subst this
  clear hv hp
  go_enter Tryz.func56, Tryz.ntmps56
  go_wp2_with fail
  go_ret
  exact ⟨none, 0, [], rfl, Lib.hid ⟨⟨⟨rfl, .inl ⟨rfl, rfl⟩⟩, by simp⟩, rfl, by simp⟩, Below.refl _ _⟩
 obtain ⟨i0, hi0, hz0, hz1, hz2⟩ := info_parts info_ver
 have e1 : ((n : Int) == 0) = false := by simp; omega
 have e2 : ¬ (n : Int) = 0 := by omega
 have HV := Lib.hid (And.intro hv (And.intro hn hp))
 clear hv hn hp
 go_enter Tryz.func56, Tryz.ntmps56
 go_wp2_with (at_make; refine wpList_make_full _ rfl _ _ 22 rfl w.heap.size 40 i0 _ 5 Tryz.underlying22 hi0 hz0 hz1 _ _ _ _ n rfl rfl rfl rfl (by rw [hz2]; omega) (by unfold maxLen; omega) (Nat.le_refl _) ?_; intro w1 o1 g1; have b1 : Below w.heap.size w w1 := (Below.refl _ _).grown g1 (Nat.le_refl _) (fun k hk => by cases hk))
 obtain ⟨g, hg⟩ : ∃ g, w.heap.size = g := ⟨_, rfl⟩
 have HG := Lib.hid hg
 have HI : Hid (Copying l n g w (.int .i64 0) w1) := Lib.hid ⟨0, [], rfl, by omega, by simp, fill_start (by rw [← hg]; exact o1), by simp, b1⟩
 rw [hg]
 clear hg o1 g1 b1
 go_loopw [16] (fun iv wr => Copying l n g w iv wr) (fun iv _ => n - (intOf iv).toNat)
 case atStart => exact HI.out
 case round =>
  obtain ⟨k, ps, rfl, hk, hps, hf, hpa, hb⟩ := hrel
  clear HI
  by_cases hlt : k < n
  ·obtain ⟨b, off, A1, c1, rfl, _, hbB, a0, a1, a2, a3, a4, hpv⟩ := HV.out.1.at HV.out.2.1 (hb.mono hB) hlt rfl
   have hkl : k < l.length := by have := HV.out.2.1; omega
   have hmem : l.getD k v0 ∈ l := by
    rw [List.getD_eq_getElem?_getD, List.getElem?_eq_getElem hkl]
    exact List.getElem_mem _
   have hbp := HV.out.2.2 _ hmem
   have HT : Hid (l.take (k + 1) = l.take k ++ [l.getD k v0]) := Lib.hid (by
    rw [List.take_succ_eq_append_getElem hkl]
    simp [List.getD_eq_getElem?_getD, hkl])
   obtain ⟨v, hvv⟩ : ∃ v, l.getD k v0 = v := ⟨_, rfl⟩
   rw [hvv] at a0 a1 a2 a3 a4 hpv hbp
   have HVV := Lib.hid hvv
   obtain ⟨s, vn, vp, vg, vx⟩ := v
   simp only at a0 a1 a2 a3 a4 hbp
   obtain ⟨kp, hkp⟩ : ∃ kp, vp.length = kp := ⟨_, rfl⟩
   rw [hkp] at a2 hbp
   have hsz := hb.size
   have d1 : (0 : Int) ≤ (k : Int) := by omega
   have d2 : (k : Int) < (n : Int) := by omega
   have hpl : ps.length = k := by have h := congrArg List.length hps; simpa [List.length_take, Nat.min_eq_left (Nat.le_of_lt hkl)] using h
   have HO := Lib.hid (And.intro hf (And.intro hpa (And.intro hb (And.intro hps (And.intro hpl (And.intro hkp hpv))))))
   have hK : Hid (∀ W, Below wr.heap.size wr W → Calls Tryz.prog 57 #[.agg #[.int .i64 s, .int .i64 vn, .slice A1 kp c1, .bool vg, .string vx]] W (OwnVerT ⟨s, vn, vp, vg, vx⟩ W)) := Lib.hid fun W hW =>
    ver_own A1 c1 kp s vn vp vg vx hkp (by omega) L B W (by have := hW.size; omega) (hpv.below (hW.mono (by omega)))
   clear hf hpa hb hps hpl hkp hpv hvv hmem
   go_wp2_with fail
   have hW : Below wr.heap.size wr (wr.alloc (.cells #[.int .i64 s, .int .i64 vn, .slice A1 kp c1, .bool vg, .string vx] 40)) := (Below.refl _ wr).alloc (Nat.le_refl _) _
   refine Calls.mono (hK.out _ hW) ?_
   rintro e w2 ⟨A2, c2, rfl, hp2, b2⟩
   rw [HO.out.2.2.2.2.2.1]
   have hs2 := hW.size
   have b3 : Below wr.heap.size wr w2 := hW.trans (b2.mono hs2)
   have hf2 : Fill w2 g n ps := HO.out.1.keep (b3.block g HO.out.1.lt)
   have hgl := HO.out.1.lt
   obtain ⟨y0, hy0⟩ := hf2.cell (k * 5) (by omega)
   obtain ⟨y1, hy1⟩ := hf2.cell (k * 5 + 1) (by omega)
   obtain ⟨y2, hy2⟩ := hf2.cell (k * 5 + 2) (by omega)
   obtain ⟨y3, hy3⟩ := hf2.cell (k * 5 + 3) (by omega)
   obtain ⟨y4, hy4⟩ := hf2.cell (k * 5 + 4) (by omega)
   have f0 := hf2.frozen (k * 5)
   have f1 := hf2.frozen (k * 5 + 1)
   have f2 := hf2.frozen (k * 5 + 2)
   have f3 := hf2.frozen (k * 5 + 3)
   have f4 := hf2.frozen (k * 5 + 4)
   have HF2 := Lib.hid (And.intro hf2 (And.intro b3 hp2))
   clear hf2 b3 hp2 hW b2 hK
   go_wp2_with fail
   rw [put5o_lit]
   obtain ⟨Y, hY⟩ : ∃ Y, put5o w2 g (k * 5) (.int .i64 s) (.int .i64 vn) (.slice A2 kp c2) (.bool vg) (.string vx) = Y := ⟨_, rfl⟩
   have hfill := HF2.out.1.put (p := (⟨s, vn, vp, vg, vx⟩, A2, c2)) (by have := HO.out.2.2.2.2.1; omega) (k * 5) (by have := HO.out.2.2.2.2.1; omega)
   simp only at hfill
   rw [HO.out.2.2.2.2.2.1, hY] at hfill
   have hYh : ∀ q, q ≠ g → Y.heap[q]? = w2.heap[q]? := fun q hq => by rw [← hY]; exact put5o_heap hq
   have hYs : Y.heap.size = w2.heap.size := by rw [← hY]; exact put5o_size
   have hYb : Below g w2 Y := by rw [← hY]; exact put5o_below
   rw [hY]
   have hwg : w.heap.size = g := HG.out
   have s2 := HF2.out.2.1.size
   have hkeep : ∀ a : Addr, g + 1 ≤ a.block → Y.cell? a = w2.cell? a := fun a ha => World.cell?_of_block (hYh _ (by omega))
   have hrel : Copying l n g w (.int .i64 ((k : Int) + 1)) Y := ⟨k + 1, ps ++ [(⟨s, vn, vp, vg, vx⟩, A2, c2)], rfl, by omega, by
     rw [List.map_append, HO.out.2.2.2.1, HT.out, HVV.out]; rfl, hfill, fun q hq => by
     rcases List.mem_append.1 hq with hq | hq
     ·have h1 := (HO.out.2.1 q hq).1.below HF2.out.2.1
      have h2 := (HO.out.2.1 q hq).2.below HF2.out.2.1
      exact ⟨Pa.more (h1.keep fun a ha _ => hkeep a ha) (by omega), h2.keep fun hn a ha _ => hYh _ (by have := h1.2.2.2.2 hn a ha; omega)⟩
     ·rw [List.mem_singleton.1 hq]
      have h1 := Pa.less HF2.out.2.2.out.1 (show g + 1 ≤ _ by simp; omega)
      exact ⟨Pa.more (h1.keep fun a ha _ => hkeep a ha) (by omega), HF2.out.2.2.out.2.keep fun hn a ha _ => hYh _ (by have := h1.2.2.2.2 hn a ha; omega)⟩, by
     rw [hwg]
     have h1 := HO.out.2.2.1
     rw [hwg] at h1
     exact (h1.trans (HF2.out.2.1.mono (by omega))).trans hYb⟩
   exact ⟨hrel, by simp only [intOf]; omega⟩
  ·obtain rfl : k = n := by omega
   have hpl : ps.length = k := by have h := congrArg List.length hps; have h2 := HV.out.2.1; simpa [List.length_take, h2] using h
   have hfin : OwnVsT l w (.returned (.slice (some ⟨g, 0, none⟩) k k)) wr := ⟨some ⟨g, 0, none⟩, k, ps, by rw [HV.out.2.1], Lib.hid ⟨⟨by
     rw [HV.out.2.1, hpl]
     exact hf.own hpl _ (by rw [HG.out]; exact Nat.le_refl _) (by unfold maxLen; omega), fun p hp => Pa.less (hpa p hp).1 (by rw [HG.out]; omega)⟩, by
     rw [hps, List.take_of_length_le (by have := HV.out.2.1; omega)], fun p hp => (hpa p hp).2⟩, hb⟩
   have HF := Lib.hid hfin
   clear hfin hf hpa hb hps hpl
   go_wp2_with fail
   go_ret
   exact HF.out
theorem list_any (A : Option Addr) (c n : Nat) (l : List Vr) (hn : l.length = n) (L B : Nat) (w : World) (hB : B ≤ w.heap.size) (hv : Vs w L B A l) (hbig : n ≤ 1024) (hp : ∀ v ∈ l, v.past.length ≤ 4294967296) :
  Calls Tryz.prog 56 #[.slice A n c, .func (.func 57) #[] #[]] w (NewVs l w) :=
 (list_own A c n l hn L B w hB hv hbig hp).mono fun _ _ ⟨A', c', ps, h1, h2, h3⟩ => ⟨A', c', ps, h1, Lib.hid ⟨h2.out.1, h2.out.2.1⟩, h3⟩
end Vers
end Go.Proofs.YtbhidndgnldheaaGreat

/-
 vers.Merge tells what mergeF tells, in memory of the call's own.
-/
namespace Go.Proofs.YtbhidndgnldheaaGreat
namespace Vers
open Go.RowKit Span
attribute [local go_sem ↓] Go.wp_at_zero Go.wp_at_succ

theorem apart_rows {w : World} {b b' : Nat} {e e' : TypeId} {s s' n n' : Nat} {v v' : Value} {xs xs' : List Value} (h : w.ownsRow b e s v n xs) (h' : w.ownsRow b' e' s' v' n' xs') (hne : e ≠ e') : ∀ g, v.ownBlock = some g → v'.ownBlock ≠ some g := by
 intro g hg hg'
 rcases h.2 with ⟨rfl, _⟩ | ⟨g1, cap, cur, rfl, _, h1, _⟩
 ·cases hg
 ·rcases h'.2 with ⟨rfl, _⟩ | ⟨g2, cap', cur', rfl, _, h2, _⟩
  ·cases hg'
  ·cases hg
   cases hg'
   rw [h1] at h2
   injection h2 with h2
   injection h2 with _ h2
   exact hne h2

def stayOf (us : List Vr) (k : Nat) : List Vr := (us.take k).filter fun v => !decide (behind us v.s v.n)
theorem stayOf_yes {us : List Vr} {k : Nat} (hk : k < us.length) (h : decide (behind us (us.getD k v0).s (us.getD k v0).n) = false) : stayOf us (k + 1) = stayOf us k ++ [us.getD k v0] := by
 have e : us.getD k v0 = us[k] := by simp [List.getD_eq_getElem?_getD, hk]
 rw [e] at h ⊢
 unfold stayOf
 rw [List.take_succ_eq_append_getElem hk, List.filter_append]
 simp [h]
theorem stayOf_no {us : List Vr} {k : Nat} (hk : k < us.length) (h : decide (behind us (us.getD k v0).s (us.getD k v0).n) = true) : stayOf us (k + 1) = stayOf us k := by
 have e : us.getD k v0 = us[k] := by simp [List.getD_eq_getElem?_getD, hk]
 rw [e] at h
 unfold stayOf
 rw [List.take_succ_eq_append_getElem hk, List.filter_append]
 simp [h]
def OwnMerged (B : Nat) (r : List Vr × Int) (w : World) (e : Ending) (w' : World) : Prop :=
 ∃ A c ps, e = .returned (.tuple #[.slice A r.1.length c, .int .i64 r.2]) ∧ r.1.length ≤ c ∧ OwnVs B B w'.heap.size w' (.slice A r.1.length c) ps ∧ ps.map Prod.fst = r.1 ∧ (∀ p ∈ ps, Tg w' p.1.past.length p.2.1) ∧ Below w.heap.size w w'
theorem own_merged_none (B : Nat) (k : Int) (w w' : World) (hb : Below w.heap.size w w') : OwnMerged B ([], k) w (.returned (.tuple #[.slice none 0 0, .int .i64 k])) w' := ⟨none, 0, [], rfl, by simp, ⟨World.ownsRow_nil _ _ _ _, by simp⟩, rfl, by simp, hb⟩

def Staying (us : List Vr) (N S gbase gb cap : Nat) (As : Option Addr) (ys : List Bool) (w : World) (iv sv : Value) (wr : World) : Prop :=
 ∃ (k m : Nat) (A4 : Option Addr) (c4 : Nat) (qs : List Pv), iv = .int .i64 (k : Int) ∧ sv = .slice A4 m c4 ∧ k ≤ N ∧ m ≤ k ∧ m ≤ c4 ∧
  Hid (qs.length = m ∧ wr.ownsRow S 40 5 (.slice A4 m c4) m (vcs qs) ∧ (∀ p ∈ qs, Pa wr 0 S p.2.1 p.2.2 p.1) ∧ qs.map Prod.fst = stayOf us k ∧ Vs wr 0 S As us ∧ wr.ownsRow gbase 4 1 (.slice (some ⟨gb, 0, none⟩) N cap) N (bools ys)) ∧
  Below w.heap.size w wr ∧ S ≤ wr.heap.size

set_option maxRecDepth 100000 in
set_option maxHeartbeats 2000000 in
theorem merge_own (A A' : Option Addr) (c c' n n' : Nat) (a b : List Vr) (hn : a.length = n) (hn' : b.length = n') (hnc : n ≤ c) (hnc' : n' ≤ c') (w : World) (hv : Vs w 0 w.heap.size A a) (hv' : Vs w 0 w.heap.size A' b) (hb2 : n ≤ 140737488355328) (hb2' : n' ≤ 140737488355328) :
  Calls Tryz.prog 33 #[.slice A n c, .slice A' n' c'] w (OwnMerged w.heap.size (mergeF a b) w) := by
 have h1 := rightV_any A c n a hn w hv hb2
 have h2 := fun W (hbW : Below w.heap.size w W) => rightV_any A' c' n' b hn' W ((hv'.below hbW).more hbW.size) hb2'
 by_cases ra : RightV a
 ·rw [decide_eq_true ra] at h1
  by_cases rb : RightV b
  ·obtain ⟨i0, hi0, hz0, hz1, hz2⟩ := info_parts info_ver
   have H1 := Lib.hid h1
   have H2 := Lib.hid (fun W hbW => (decide_eq_true rb) ▸ h2 W hbW)
   have hn5 : n ≤ 512 := by have := ra.1; omega
   have hn5' : n' ≤ 512 := by have := rb.1; omega
   have H3 := Lib.hid (fun W (hbW : Below w.heap.size w W) => together_any A A' c c' n n' a b hn hn' hnc hnc' W ((hv.below hbW).more hbW.size) ((hv'.below hbW).more hbW.size) ra.2.1.2 rb.2.1.2 hn5 hn5')
   have HR := Lib.hid (And.intro ra (And.intro rb (And.intro hn hn')))
   obtain ⟨R, hR⟩ : ∃ R, mergeF a b = R := ⟨_, rfl⟩
   have HM := Lib.hid hR
   rw [hR]
   clear h1 h2 hv hv' hn hn' ra rb hR
   go_enter Tryz.func33, Tryz.ntmps33
   go_wp2_with fail
   refine H1.out.mono ?_
   rintro e w1 ⟨rfl, b1⟩
   have H2' := Lib.hid (H2.out _ b1)
   have B1 := Lib.hid b1
   have s1 := b1.size
   clear b1 H1 H2
   go_wp2_with fail
   refine H2'.out.mono ?_
   rintro e w2 ⟨rfl, b2⟩
   have B2 := Lib.hid (B1.out.trans (b2.mono s1))
   have s2 := B2.out.size
   clear b2 H2' B1 s1
   go_wp2_with fail
   refine (H3.out _ B2.out).mono ?_
   rintro e w3 (⟨A3, c3, ps, rfl, hown, hlen, b3, hset⟩ | ⟨rfl, b3, ht⟩)
   ·obtain ⟨N, hN⟩ : ∃ N, ps.length = N := ⟨_, rfl⟩
    obtain ⟨us, hus⟩ : ∃ us, ps.map Prod.fst = us := ⟨_, rfl⟩
    have hvs := OwnVs.vs hown (Nat.zero_le _) b3.size
    have hNc := (own_low hown.1).1
    rw [hus] at hvs hset
    rw [hN] at hlen hNc ⊢
    have hlu : us.length = N := by rw [← hus, List.length_map, hN]
    have hN4 : N ≤ 1024 := by have := HR.out.2.2.1; have := HR.out.2.2.2; omega
    have hfine : FineV us := ⟨fun v hv => ((hset.out.2.1 v).1 hv).elim (HR.out.1.2.1.1 v) (HR.out.2.1.2.1.1 v), hset.out.1⟩
    have B3 := Lib.hid (B2.out.trans (b3.mono s2))
    have s3 := B3.out.size
    have HU := Lib.hid (And.intro hvs (And.intro hlu (And.intro hfine hset.out)))
    obtain ⟨S, hS⟩ : ∃ S, w3.heap.size = S := ⟨_, rfl⟩
    have HS := Lib.hid hS
    clear hown hlen b3 hset hvs hfine hus hN hlu H3 hS
    go_wp2_with (at_make; refine wpList_make_own _ rfl _ _ 22 rfl w3.heap.size 40 i0 _ 5 Tryz.underlying22 hi0 hz0 hz1 _ _ _ N rfl rfl rfl (by rw [hz2]; omega) (by unfold maxLen; omega) (Nat.le_refl _) ?_; intro w4 o4 g4)
    have b4 : Below w3.heap.size w3 w4 := (Below.refl _ _).grown g4 (Nat.le_refl _) (fun k hk => by cases hk)
    have s4 := b4.size
    have H4 := Lib.hid (passed_any A3 c3 N us HU.out.2.1 HU.out.2.2.1 w4 ((HU.out.1.below b4).more s4) hN4)
    rw [HS.out] at o4 b4 s4 s3 ⊢
    have K4 := Lib.hid (And.intro o4 b4)
    clear o4 b4 g4
    go_wp2_with fail
    refine H4.out.mono ?_
    rintro e w5 ⟨gb, cap, ys, rfl, hy, ho, b5, hd⟩
    have hNcap := (own_low ho).1
    have hU5 : Vs w5 0 S A3 us := by
     have h := HU.out.1
     rw [HS.out] at h
     exact (h.below K4.out.2).below (b5.mono s4)
    have B5 : Hid (Below w.heap.size w w5) := Lib.hid ((B3.out.trans (K4.out.2.mono s3)).trans (b5.mono (Nat.le_trans s3 s4)))
    have HI : Hid (Staying us N S w4.heap.size gb cap A3 ys w (.int .i64 0) (.slice (some ⟨S, 0, none⟩) 0 N) w5) := Lib.hid ⟨0, 0, some ⟨S, 0, none⟩, N, [], rfl, rfl, by omega, by omega, by omega, Lib.hid ⟨rfl, own_below K4.out.1 b5 (Nat.le_refl _), by simp, by simp [stayOf], hU5, ho⟩, B5.out, Nat.le_trans s4 b5.size⟩
    have HD := Lib.hid (And.intro hy hd)
    clear hU5 ho b5 hy hd H4
    go_wp2_with fail
    go_loopw [8, 34] (fun sv iv wr => Staying us N S w4.heap.size gb cap A3 ys w iv sv wr) (fun _ iv _ => N - (intOf iv).toNat)
    case atStart => exact HI.out
    case round =>
     obtain ⟨k, m, A4, c4, qs, rfl, rfl, hk, hm, hmc, hH, hb, hSs⟩ := hrel
     clear HI
     by_cases hlt : k < N
     ·have hkl : k < us.length := by have := HU.out.2.1; omega
      have hyl : k < ys.length := by have := HD.out.1; omega
      have hbool := World.ownsRow.cellAt hH.out.2.2.2.2.2 k (by omega)
      rw [show (bools ys)[k]? = some (.bool (ys.getD k false)) by simp [bools, List.getD_eq_getElem?_getD, hyl]] at hbool
      have hdk := HD.out.2 k hlt
      have d1 : (0 : Int) ≤ (k : Int) := by omega
      have d2 : (k : Int) < (N : Int) := by omega
      obtain ⟨y, hy⟩ : ∃ y, ys.getD k false = y := ⟨_, rfl⟩
      rw [hy] at hbool hdk
      clear hy
      rcases y with _ | _
      ·obtain ⟨pb, off, A1, c1, rfl, _, hbB, a0, a1, a2, a3, a4, hpv⟩ := hH.out.2.2.2.2.1.at HU.out.2.1 (Below.refl _ _) hlt rfl
       have HT := Lib.hid (stayOf_yes hkl hdk.symm)
       obtain ⟨v, hvv⟩ : ∃ v, us.getD k v0 = v := ⟨_, rfl⟩
       rw [hvv] at a0 a1 a2 a3 a4 hpv
       have HVV := Lib.hid hvv
       obtain ⟨s, vn, vp, vg, vx⟩ := v
       simp only at a0 a1 a2 a3 a4
       obtain ⟨kp, hkp⟩ : ∃ kp, vp.length = kp := ⟨_, rfl⟩
       rw [hkp] at a2
       have HO := Lib.hid (And.intro hb (And.intro hkp hpv))
       clear hb hdk hvv hkp hpv
       go_wp2_with (at_builtin; refine wpList_append_v _ rfl (.tmp 41) (.tmp 46) 22 rfl S 40 i0 _ 64 Tryz.underlying22 hi0 hz0 hz1 hz2 rfl (.slice A4 m c4) m qs rfl hH.out.2.1 (⟨s, vn, vp, vg, vx⟩, A1, c1) kp HO.out.2.1 1 rfl (by omega) (by omega) hSs ?_; intro v3 w6 o6 g6 at6)
       obtain ⟨A6, c6, rfl⟩ := own_form o6
       have hl6 : qs.length = m := hH.out.1
       have hap := hH.out.2.2.2.2.2
       have hnb : ∀ q, (Value.slice A4 m c4).ownBlock = some q → S ≤ q := fun q hq => (hH.out.2.1.lt q hq).1
       have g6' : ∀ o, o.block < S → w6.cell? o = wr.cell? o := fun o ho => World.cell?_of_block (g6.block o.block (by omega) (fun e => by have := hnb _ e.symm; omega))
       have hb6 : w6.ownsRow w4.heap.size 4 1 (.slice (some ⟨gb, 0, none⟩) N cap) N (bools ys) := hap.kept g6 (by
        refine .inr fun e => ?_
        exact apart_rows hap hH.out.2.1 (by decide) gb rfl e.symm)
       have hS6 : w.heap.size ≤ S := s3
       have HN6 := Lib.hid (show Below w.heap.size w w6 from HO.out.1.grown g6 (Nat.le_trans hS6 hSs) (fun q hq => Nat.le_trans hS6 (hnb q hq)))
       refine ⟨⟨k + 1, m + 1, A6, c6, qs ++ [(⟨s, vn, vp, vg, vx⟩, A1, c1)], rfl, rfl, by omega, by omega, (own_low o6).1, Lib.hid ⟨by simp [hl6], o6, fun q hq => ?_, by rw [List.map_append, hH.out.2.2.2.1, HT.out, HVV.out]; rfl, hH.out.2.2.2.2.1.keep fun o _ ho => g6' o ho, hb6⟩, HN6.out, Nat.le_trans hSs g6.size⟩, by simp only [intOf]; omega⟩
       rcases List.mem_append.1 hq with hq | hq
       ·exact (hH.out.2.2.1 q hq).keep fun o _ ho => g6' o ho
       ·rw [List.mem_singleton.1 hq]
        exact HO.out.2.2.keep fun o _ ho => g6' o ho
      ·have HT := Lib.hid (stayOf_no hkl hdk.symm)
       have HO := Lib.hid hb
       clear hdk hb
       go_wp2_with fail
       exact ⟨⟨k + 1, m, A4, c4, qs, rfl, rfl, by omega, by omega, hmc, Lib.hid ⟨hH.out.1, hH.out.2.1, hH.out.2.2.1, by rw [HT.out]; exact hH.out.2.2.2.1, hH.out.2.2.2.2⟩, HO.out, hSs⟩, by simp only [intOf]; omega⟩
     ·obtain rfl : k = N := by omega
      have hr : qs.map Prod.fst = us.filter (fun v => !decide (behind us v.s v.n)) := by
       rw [hH.out.2.2.2.1]
       unfold stayOf
       rw [List.take_of_length_le (by have := HU.out.2.1; omega)]
      have hst : qs.map Prod.fst = stayF a b := stay_one HR.out.1 HR.out.2.1 HU.out.2.2.2.2.2 (by rw [hr]; exact union_stay HU.out.2.2.2.1 HU.out.2.2.2.2.1)
      have hlm : (qs.map Prod.fst).length = m := by rw [List.length_map]; exact hH.out.1
      have hpb : ∀ v ∈ qs.map Prod.fst, v.past.length ≤ 4294967296 := fun v hv => by
       rw [hr] at hv
       have := (HU.out.2.2.1.1 v (List.mem_filter.1 hv).1).2.1.1
       omega
      have hqv : Vs wr 0 wr.heap.size A4 (qs.map Prod.fst) := OwnVs.vs (base := S) (B := S) (n := m) (c := c4) ⟨by rw [hH.out.1]; exact hH.out.2.1, hH.out.2.2.1⟩ (Nat.zero_le _) hSs
      have HL := Lib.hid (list_own A4 c4 m (qs.map Prod.fst) hlm 0 wr.heap.size wr (Nat.le_refl _) hqv (by omega) hpb)
      have HF := Lib.hid (And.intro hst (And.intro hlm hb))
      clear hr hst hlm hpb hqv hH hb
      by_cases hlong : 512 < m
      ·have HT := Lib.hid (HM.out.symm.trans (merge_long HR.out.1 HR.out.2.1 HU.out.2.2.2.2.2 (by rw [← HF.out.1, HF.out.2.1]; exact hlong)))
       have e1 : decide ((512 : Int) < (m : Int)) = true := decide_eq_true (by omega)
       have e2 : (512 : Int) < (m : Int) := by omega
       go_wp2_with fail
       go_ret2
       rw [HT.out]
       exact own_merged_none _ _ _ _ HF.out.2.2
      ·have HT := Lib.hid (HM.out.symm.trans (merge_ok HR.out.1 HR.out.2.1 HU.out.2.2.2.2.2 (by rw [← HF.out.1, HF.out.2.1]; exact hlong)))
       have e1 : decide ((512 : Int) < (m : Int)) = false := decide_eq_false (by omega)
       have e2 : ¬ (512 : Int) < (m : Int) := by omega
       have hsr := HF.out.2.2.size
       go_wp2_with fail
       refine HL.out.mono ?_
       rintro e w7 ⟨A7, c7, ts, rfl, ht, b7⟩
       have hls : (stayF a b).length = m := by rw [← HF.out.1]; exact HF.out.2.1
       have hts : ts.length = m := by have h := congrArg List.length ht.out.2.1; rw [List.length_map] at h; exact h.trans HF.out.2.1
       have hvt : OwnVs w.heap.size w.heap.size w7.heap.size w7 (.slice A7 m c7) ts := by
        have h := ht.out.1
        rw [HF.out.2.1] at h
        exact ⟨own_base h.1 hsr, fun p hp => (h.2 p hp).less hsr⟩
       have K := ht.out.1.1
       rw [HF.out.2.1, hts] at K
       have hfin : OwnMerged w.heap.size (stayF a b, 0) w (.returned (.tuple #[.slice A7 m c7, .int .i64 0])) w7 := ⟨A7, c7, ts, by simp only [hls], by simp only [hls]; exact (own_low K).1, by simp only [hls]; exact hvt, by rw [ht.out.2.1, HF.out.1], ht.out.2.2, HF.out.2.2.trans (b7.mono hsr)⟩
       have H7 := Lib.hid hfin
       rw [HF.out.2.1]
       clear ht b7 HL hls hts hvt K hfin
       go_wp2_with fail
       go_ret2
       rw [HT.out]
       exact H7.out
   ·have B3 := Lib.hid (B2.out.trans (b3.mono s2))
    have HT := Lib.hid (HM.out.symm.trans (merge_twin HR.out.1 HR.out.2.1 ht.out))
    clear b3 ht H3
    go_wp2_with fail
    go_ret2
    rw [HT.out]
    exact own_merged_none _ _ _ _ B3.out
  ·rw [merge_arg (.inr rb)]
   have H1 := Lib.hid h1
   have H2 := Lib.hid (fun W hbW => (decide_eq_false rb) ▸ h2 W hbW)
   clear h1 h2 hv hv' hn hn' ra rb
   go_enter Tryz.func33, Tryz.ntmps33
   go_wp2_with fail
   refine H1.out.mono ?_
   rintro e w1 ⟨rfl, b1⟩
   have H2' := Lib.hid (H2.out _ b1)
   have B1 := Lib.hid b1
   have s1 := b1.size
   clear b1 H1 H2
   go_wp2_with fail
   refine H2'.out.mono ?_
   rintro e w2 ⟨rfl, b2⟩
   have B2 := Lib.hid (B1.out.trans (b2.mono s1))
   clear b2 H2' B1 s1
   go_wp2_with fail
   go_ret2
   exact own_merged_none _ _ _ _ B2.out
 ·rw [decide_eq_false ra] at h1
  rw [merge_arg (.inl ra)]
  have H1 := Lib.hid h1
  clear h1 h2 hv hv' hn hn' ra
  go_enter Tryz.func33, Tryz.ntmps33
  go_wp2_with fail
  refine H1.out.mono ?_
  rintro e w1 ⟨rfl, b1⟩
  have B1 := Lib.hid b1
  clear b1 H1
  go_wp2_with fail
  go_ret2
  exact own_merged_none _ _ _ _ B1.out
theorem merge_any (A A' : Option Addr) (c c' n n' : Nat) (a b : List Vr) (hn : a.length = n) (hn' : b.length = n') (hnc : n ≤ c) (hnc' : n' ≤ c') (w : World) (hv : Vs w 0 w.heap.size A a) (hv' : Vs w 0 w.heap.size A' b) (hb2 : n ≤ 140737488355328) (hb2' : n' ≤ 140737488355328) :
  Calls Tryz.prog 33 #[.slice A n c, .slice A' n' c'] w (Merged w.heap.size (mergeF a b) w) :=
 (merge_own A A' c c' n n' a b hn hn' hnc hnc' w hv hv' hb2 hb2').mono fun _ _ ⟨A', c', ps, h1, h2, h3, h4, _, h6⟩ => ⟨A', c', h1, h2, by
  have h := OwnVs.vs h3 (Nat.le_refl _) (Nat.le_refl _)
  rwa [h4] at h, h6⟩
end Vers
end Go.Proofs.YtbhidndgnldheaaGreat

/-
 vers.Lacks and the reference's tell lacksF.
-/
namespace Go.Proofs.YtbhidndgnldheaaGreat
namespace Vers
open Go.RowKit Span
attribute [local go_sem ↓] Go.wp_at_zero Go.wp_at_succ

theorem merge_len (a b : List Vr) : (mergeF a b).1.length ≤ 512 := by
 unfold mergeF
 split
 ·simp
 ·split
  ·simp
  ·split
   ·simp
   ·simp only; omega

set_option maxRecDepth 100000 in
set_option maxHeartbeats 1000000 in
theorem lacks_any (A A' : Option Addr) (c c' n n' : Nat) (a b : List Vr) (hn : a.length = n) (hn' : b.length = n') (hnc : n ≤ c) (hnc' : n' ≤ c') (w : World) (hv : Vs w 0 w.heap.size A a) (hv' : Vs w 0 w.heap.size A' b) (hb2 : n ≤ 140737488355328) (hb2' : n' ≤ 140737488355328) :
  Calls Tryz.prog 43 #[.slice A n c, .slice A' n' c'] w fun e w' => e = .returned (.bool (lacksF a b)) ∧ Below w.heap.size w w' := by
 have h1 := merge_any A A' c c' n n' a b hn hn' hnc hnc' w hv hv' hb2 hb2'
 obtain ⟨⟨r, k⟩, hr⟩ : ∃ r, mergeF a b = r := ⟨_, rfl⟩
 have hrl : r.length ≤ 512 := by
  have h := merge_len a b
  rw [hr] at h
  exact h
 have hL : lacksF a b = decide (k = 0 ∧ r ≠ a) := by unfold lacksF; rw [hr]
 obtain ⟨q, hq⟩ : ∃ q, lacksF a b = q := ⟨_, rfl⟩
 rw [hr] at h1
 rw [hq] at hL ⊢
 obtain ⟨m, hm⟩ : ∃ m, r.length = m := ⟨_, rfl⟩
 have h2 := fun W A1 c1 (hbW : Below w.heap.size w W) (hv1 : Vs W 0 W.heap.size A1 r) => sameV_any A1 A c1 c m n r a hm hn W hv1 ((hv.below hbW).more hbW.size) (by omega) hb2
 have H1 := Lib.hid h1
 have H2 := Lib.hid h2
 have HL := Lib.hid (And.intro hL hm)
 clear h1 h2 hL hq hr hv hv' hn hn' hm
 by_cases hk : k = 0
 ·subst hk
  go_enter Tryz.func43, Tryz.ntmps43
  go_wp2_with fail
  refine H1.out.mono ?_
  rintro e w1 ⟨A1, c1, rfl, hc1, hv1, b1⟩
  simp only at hc1 hv1 ⊢
  rw [HL.out.2]
  have H2' := Lib.hid (H2.out w1 A1 c1 b1 (hv1.less (Nat.zero_le _)))
  have B1 := Lib.hid b1
  have s1 := b1.size
  clear b1 hv1 hc1 H1 H2
  obtain ⟨y, hy⟩ : ∃ y, decide (r = a) = y := ⟨_, rfl⟩
  rw [hy] at H2'
  have HY : Hid (q = !y) := Lib.hid (by rw [HL.out.1, ← hy]; simp)
  clear hy
  go_wp2_with fail
  refine H2'.out.mono ?_
  rintro e w2 ⟨rfl, b2⟩
  have B2 := Lib.hid (B1.out.trans (b2.mono s1))
  clear b2 H2' B1
  go_wp2_with fail
  go_ret
  exact ⟨by rw [HY.out]; rfl, B2.out⟩
 ·have HY : Hid (q = false) := Lib.hid (by rw [HL.out.1]; simp [hk])
  have e1 : (k == 0) = false := by simpa using hk
  go_enter Tryz.func43, Tryz.ntmps43
  go_wp2_with fail
  refine H1.out.mono ?_
  rintro e w1 ⟨A1, c1, rfl, hc1, hv1, b1⟩
  simp only at hc1 hv1 ⊢
  have B1 := Lib.hid b1
  clear b1 hv1 hc1 H1 H2
  go_wp2_with fail
  go_ret
  exact ⟨by rw [HY.out]; rfl, B1.out⟩

end Vers
end Go.Proofs.YtbhidndgnldheaaGreat

/-
 Asking several nodes: plain words.
-/
namespace Go.Proofs.YtbhidndgnldheaaGreat
namespace Quorum
open Vers Span

abbrev En := Int × Bool × List Vr
abbrev Plc := Option Addr × Nat
abbrev EP := En × Plc
def okL (ls : List Int) (need : Int) : Prop := (ls.length ≤ 8 ∧ 1 ≤ need ∧ need ≤ ls.length) ∧ (∀ x ∈ ls, 1 ≤ x ∧ x ≤ 8) ∧ ls.Nodup
instance (ls : List Int) (need : Int) : Decidable (okL ls need) := by unfold okL; infer_instance
def startF (ls : List Int) : List En := ls.map fun x => (x, false, [])
def waitsF (l : List En) : List Int := (l.filter fun e => !e.2.1).map Prod.fst
def doneF (need : Int) (l : List En) : Bool := decide (need ≤ (l.length : Int) - ((waitsF l).length : Int))
def isAt (node : Int) (e : En) : Bool := e.1 == node && !e.2.1
def countF (l : List En) (node : Int) (a : List Vr) : Bool × List En :=
 if (l.any (isAt node)) = true then (true, l.set (l.findIdx (isAt node)) (node, true, a)) else (false, l)
def mrg (all a : List Vr) : List Vr := if (mergeF all a).2 = 0 then (mergeF all a).1 else all
def versF (l : List En) : List Vr := l.foldl (fun all e => if e.2.1 = true then mrg all e.2.2 else all) []
def behindF (l : List En) (all : List Vr) : List Int := (l.filter fun e => e.2.1 && lacksF e.2.2 all).map Prod.fst
theorem waits_snoc (l : List En) (e : En) : waitsF (l ++ [e]) = if e.2.1 = true then waitsF l else waitsF l ++ [e.1] := by
 unfold waitsF
 rw [List.filter_append, List.map_append]
 cases h : e.2.1 <;> simp [h]
theorem vers_snoc (l : List En) (e : En) : versF (l ++ [e]) = if e.2.1 = true then mrg (versF l) e.2.2 else versF l := by
 unfold versF
 rw [List.foldl_append]
 rfl
theorem waits_len (l : List En) : (waitsF l).length ≤ l.length := by
 unfold waitsF
 rw [List.length_map]
 exact List.length_filter_le _ _
theorem take_one {α : Type} {l : List α} {k : Nat} {x : α} (h : l[k]? = some x) : l.take (k + 1) = l.take k ++ [x] := by
 obtain ⟨hk, e⟩ := List.getElem?_eq_some_iff.1 h
 rw [List.take_succ_eq_append_getElem hk, e]
end Quorum
end Go.Proofs.YtbhidndgnldheaaGreat

/-
 An asking in memory: its list, who is counted, and what was answered.
-/
namespace Go.Proofs.YtbhidndgnldheaaGreat
namespace Quorum
open Go.RowKit Vers Span Blk

abbrev hd (nb : Nat) : Value := .pointer (some ⟨nb, 0, none⟩)
theorem info_int : (Tryz.prog.info? 3).map (fun i => (i.zero, i.size, i.bytes)) = some (some (.int .i64 0), 1, 8) := by kernel_rfl
def Core (T : TypeId) (F : Nat → Prop) (w : World) (rb : Nat) (need : Int) (l : List En) (n lb cl cb ab : Nat) (x : List Value) : Prop :=
 (Bn rb T ([.slice (some ⟨lb, 0, none⟩) n cl, .int .i64 need, .slice (some ⟨cb, 0, none⟩) n n, .slice (some ⟨ab, 0, none⟩) n n] ++ x) w ∧ l.length = n ∧ 1 ≤ n ∧ n ≤ 8) ∧
 (lb < w.heap.size ∧ ∀ (j : Nat) (e : En), l[j]? = some e → w.cell? ⟨lb, j, none⟩ = some (.int .i64 e.1)) ∧
 Bn cb 4 (l.map fun e => .bool e.2.1) w ∧
 (F rb ∧ F lb ∧ F cb ∧ F ab ∧ ∀ k, F k → k < w.heap.size) ∧ (lb ≠ cb ∧ lb ≠ ab ∧ rb ≠ cb ∧ rb ≠ ab ∧ cb ≠ ab ∧ lb ≠ rb)
def Ans (F : Nat → Prop) (w : World) (l : List En) (ps : List Plc) (cb ab : Nat) : Prop :=
 ps.length = l.length ∧ Bn ab 22 ((l.zip ps).map fun e => .slice e.2.1 e.1.2.2.length e.2.2) w ∧
 ∀ (j : Nat) (e : En) (p : Plc), l[j]? = some e → ps[j]? = some p → e.2.2.length ≤ p.2 ∧ e.2.2.length ≤ 1024 ∧ ∃ L B, Vs w L B p.1 e.2.2 ∧ B ≤ w.heap.size ∧ ∀ k, L ≤ k → k < B → F k ∧ k ≠ cb ∧ k ≠ ab
section
variable {T : TypeId} {F F' : Nat → Prop} {w w' : World} {rb n lb cl cb ab : Nat} {need : Int} {l : List En} {x : List Value} {ps : List Plc}
theorem Core.lt (h : Core T F w rb need l n lb cl cb ab x) : ∀ k, F k → k < w.heap.size := h.2.2.2.1.2.2.2.2
theorem Core.len (h : Core T F w rb need l n lb cl cb ab x) : l.length = n := h.1.2.1
theorem Core.keep (h : Core T F w rb need l n lb cl cb ab x) (hs : w.heap.size ≤ w'.heap.size) (hk : ∀ k, F k → w'.heap[k]? = w.heap[k]?) : Core T F w' rb need l n lb cl cb ab x := by
 obtain ⟨⟨h1, h2⟩, ⟨h3, h4⟩, h5, ⟨f1, f2, f3, f4, f5⟩, h7⟩ := h
 exact ⟨⟨h1.same (hk _ f1), h2⟩, ⟨Nat.lt_of_lt_of_le h3 hs, fun j e he => (World.cell?_of_block (hk lb f2)).trans (h4 j e he)⟩, h5.same (hk _ f3), ⟨f1, f2, f3, f4, fun k hk => Nat.lt_of_lt_of_le (f5 k hk) hs⟩, h7⟩
theorem Core.below (h : Core T F w rb need l n lb cl cb ab x) (hb : Below w.heap.size w w') : Core T F w' rb need l n lb cl cb ab x := h.keep hb.size fun k hk => hb.block k (h.lt k hk)
theorem Ans.keep (h : Ans F w l ps cb ab) (hs : w.heap.size ≤ w'.heap.size) (hab : w'.heap[ab]? = w.heap[ab]?) (hk : ∀ k, F k → k ≠ cb → k ≠ ab → w'.heap[k]? = w.heap[k]?) : Ans F w' l ps cb ab := by
 obtain ⟨h0, h1, h2⟩ := h
 refine ⟨h0, h1.same hab, fun j e p he hp => ?_⟩
 obtain ⟨a, b, L, B, c, d, f⟩ := h2 j e p he hp
 exact ⟨a, b, L, B, c.keep fun q q1 q2 => World.cell?_of_block (hk q.block (f _ q1 q2).1 (f _ q1 q2).2.1 (f _ q1 q2).2.2), Nat.le_trans d hs, f⟩
theorem Ans.below (h : Ans F w l ps cb ab) (hb : Below w.heap.size w w') : Ans F w' l ps cb ab := by
 obtain ⟨h0, h1, h2⟩ := h
 refine ⟨h0, h1.same (hb.block _ h1.lt), fun j e p he hp => ?_⟩
 obtain ⟨a, b, L, B, c, d, f⟩ := h2 j e p he hp
 exact ⟨a, b, L, B, c.keep fun q _ q2 => World.cell?_of_block (hb.block q.block (Nat.lt_of_lt_of_le q2 d)), Nat.le_trans d hb.size, f⟩
theorem Core.head (h : Core T F w rb need l n lb cl cb ab x) : w.cell? ⟨rb, 0, none⟩ = some (.slice (some ⟨lb, 0, none⟩) n cl) ∧ w.cell? ⟨rb, 1, none⟩ = some (.int .i64 need) ∧ w.cell? ⟨rb, 2, none⟩ = some (.slice (some ⟨cb, 0, none⟩) n n) ∧ w.cell? ⟨rb, 3, none⟩ = some (.slice (some ⟨ab, 0, none⟩) n n) :=
 ⟨(h.1.1.cell 0).trans rfl, (h.1.1.cell 1).trans rfl, (h.1.1.cell 2).trans rfl, (h.1.1.cell 3).trans rfl⟩
theorem Core.at (h : Core T F w rb need l n lb cl cb ab x) {j : Nat} {e : En} (he : l[j]? = some e) : w.cell? ⟨lb, j, none⟩ = some (.int .i64 e.1) ∧ w.cell? ⟨cb, j, none⟩ = some (.bool e.2.1) := by
 refine ⟨h.2.1.2 j e he, ?_⟩
 rw [h.2.2.1.cell j, List.getElem?_map, he]
 rfl
theorem Ans.at (h : Ans F w l ps cb ab) {j : Nat} {e : En} (he : l[j]? = some e) : ∃ p, ps[j]? = some p ∧ w.cell? ⟨ab, j, none⟩ = some (.slice p.1 e.2.2.length p.2) ∧ e.2.2.length ≤ p.2 ∧ e.2.2.length ≤ 1024 ∧ Vs w 0 w.heap.size p.1 e.2.2 := by
 obtain ⟨h0, h1, h2⟩ := h
 have hj := (List.getElem?_eq_some_iff.1 he).1
 obtain ⟨p, hp⟩ : ∃ p, ps[j]? = some p := ⟨ps[j]'(by omega), by simp⟩
 obtain ⟨a, b, L, B, c, d, f⟩ := h2 j e p he hp
 refine ⟨p, hp, ?_, a, b, (c.less (Nat.zero_le _)).more d⟩
 rw [h1.cell j, List.getElem?_map, show (l.zip ps)[j]? = some (e, p) from List.getElem?_zip_eq_some.2 ⟨he, hp⟩]
 rfl
end
end Quorum
end Go.Proofs.YtbhidndgnldheaaGreat

/-
 Who is waited for, and whether enough have answered. Written by gen16/waits.py.
-/
namespace Go.Proofs.YtbhidndgnldheaaGreat
namespace Quorum
open Go.RowKit Vers Span Blk
attribute [local go_sem ↓] Go.wp_at_zero Go.wp_at_succ

def NewI (l : List Int) (w : World) (e : Ending) (w' : World) : Prop := ∃ A c, e = .returned (.slice A l.length c) ∧ Hid (Ns .i64 w' w'.heap.size A l ∧ (0 < l.length → ∀ a, A = some a → w.heap.size ≤ a.block)) ∧ Below w.heap.size w w'
set_option maxRecDepth 100000 in
set_option maxHeartbeats 1000000 in
theorem waitsW_any {T : TypeId} {F : Nat → Prop} {w : World} {rb : Nat} {need : Int} {l : List En} {n lb cl cb ab : Nat} {x : List Value} (h : Core T F w rb need l n lb cl cb ab x) : Calls Tryz.prog 18 #[hd rb] w (NewI (waitsF l) w) := by
 obtain ⟨i0, hi0, hz0, hz1, hz2⟩ := info_parts info_int
 have HI := Lib.hid (And.intro hi0 (And.intro hz0 (And.intro hz1 hz2)))
 have hn8 : n ≤ 8 := h.1.2.2.2
 have HC : Hid (∀ V, Below w.heap.size w V → Core T F V rb need l n lb cl cb ab x) := Lib.hid fun V hV => h.below hV
 have HL := Lib.hid h.len
 obtain ⟨x0, x1, x2, x3⟩ := h.head
 clear h hi0 hz0 hz1 hz2
 go_enter Tryz.func18, Tryz.ntmps18
 go_wp2_with fail
 go_loopw [3, 4, 5, 11] (fun u _ _ q wr => ∃ (k m co : Nat) (Ao : Option Addr), q = .int .i64 k ∧ k ≤ n ∧ u = .slice Ao m co ∧ m ≤ k ∧ (waitsF (l.take k)).length = m ∧ Hid (wr.ownsRow w.heap.size 3 1 (.slice Ao m co) m (nums .i64 (waitsF (l.take k)))) ∧ Hid (Below w.heap.size w wr)) (fun _ _ _ q _ => n - (intOf q).toNat)
 case atStart => exact ⟨0, 0, 0, none, rfl, by omega, rfl, by omega, by simp [waitsF], Lib.hid (World.ownsRow_nil _ _ _ _), Lib.hid (Below.refl _ _)⟩
 case round =>
  clear x0 x1 x2 x3
  obtain ⟨k, m, co, Ao, rfl, hk, rfl, hmk, hm, ho, hb⟩ := hrel
  obtain ⟨x0, x1, x2, x3⟩ := (HC.out wr hb.out).head
  by_cases hlt : k < n
  ·obtain ⟨⟨nd, bo, an⟩, he⟩ : ∃ e, l[k]? = some e := ⟨l[k]'(by have := HL.out; omega), by simp⟩
   obtain ⟨y0, y1⟩ := (HC.out wr hb.out).at he
   simp only at y0 y1
   have HT := Lib.hid (waits_snoc (l.take k) (nd, bo, an))
   have HT2 := Lib.hid (take_one he)
   have hsz := hb.out.size
   have d1 : (0 : Int) ≤ (k : Int) := by omega
   have d2 : (k : Int) < (n : Int) := by omega
   have z0 := (World.cell?_alloc_lt wr (.cells #[.int .i64 nd] 3) ⟨rb, 0, none⟩ (World.block_lt_of_cell? _ _ x0)).trans x0
   clear he
   cases bo
   ·have HMM := Lib.hid hm
    clear hm
    go_wp2_with (at_builtin; refine wpList_append_one _ rfl _ _ _ rfl w.heap.size 3 i0 _ 8 Tryz.underlying26 HI.out.1 HI.out.2.1 HI.out.2.2.1 HI.out.2.2.2 rfl _ m (nums .i64 (waitsF (l.take k))) rfl ho.out (.int .i64 nd) 1 rfl rfl (by omega) (by omega) hsz ?_; intro v5 w5 o5 g5 _; obtain ⟨A5, c5, rfl⟩ := own_form o5)
    have hb5 := hb.out.grown g5 hsz (fun g hg => (ho.out.lt g hg).1)
    have HN : Hid (w5.ownsRow w.heap.size 3 1 (.slice A5 (m + 1) c5) (m + 1) (nums .i64 (waitsF (l.take (k + 1))))) := Lib.hid (by
     rw [HT2.out, HT.out]
     simpa [nums] using o5)
    have HM : (waitsF (l.take (k + 1))).length = m + 1 := by
     rw [HT2.out, HT.out]
     simp [HMM.out]
    have HB := Lib.hid hb5
    clear o5 g5 hb5 ho hb
    go_roundw
    case rel => exact ⟨k + 1, m + 1, c5, A5, rfl, by omega, rfl, by omega, HM, HN, HB⟩
    case measure => simp only [intOf]; omega
   ·have HN : Hid (wr.ownsRow w.heap.size 3 1 (.slice Ao m co) m (nums .i64 (waitsF (l.take (k + 1))))) := Lib.hid (by
     rw [HT2.out, HT.out]
     simpa using ho.out)
    have HM : (waitsF (l.take (k + 1))).length = m := by
     rw [HT2.out, HT.out]
     simpa using hm
    clear ho hm
    go_wp2_with fail
    go_roundw
    case rel => exact ⟨k + 1, m, co, Ao, rfl, by omega, rfl, by omega, HM, HN, hb⟩
    case measure => simp only [intOf]; omega
  ·obtain rfl : k = n := by omega
   have hlk : l.take k = l := List.take_of_length_le (by have := HL.out; omega)
   rw [hlk] at ho hm
   have HO := Lib.hid (And.intro ho.out hm)
   clear ho hm hlk
   go_wp2_with fail
   go_ret
   refine ⟨Ao, co, by rw [HO.out.2]; rfl, Lib.hid ⟨own_ns (by rw [HO.out.2]; exact HO.out.1), fun hp a ha => ?_⟩, hb.out⟩
   rw [HO.out.2] at hp
   exact (own_low HO.out.1).2 hp a ha
set_option maxRecDepth 100000 in
set_option maxHeartbeats 1000000 in
theorem doneW_any {T : TypeId} {F : Nat → Prop} {w : World} {rb : Nat} {need : Int} {l : List En} {n lb cl cb ab : Nat} {x : List Value} (h : Core T F w rb need l n lb cl cb ab x) : Calls Tryz.prog 17 #[hd rb] w (fun e w' => e = .returned (.bool (doneF need l)) ∧ Below w.heap.size w w') := by
 have hn8 : n ≤ 8 := h.1.2.2.2
 obtain ⟨D, hD⟩ : ∃ D, doneF need l = D := ⟨_, rfl⟩
 obtain ⟨m, hm⟩ : ∃ m, (waitsF l).length = m := ⟨_, rfl⟩
 have hmn : m ≤ n := by
  have := waits_len l
  rw [h.len] at this
  omega
 have hDD : decide (need ≤ (n : Int) - (m : Int)) = D := by
  rw [← hD, doneF, h.len, hm]
 have HW : Hid (∀ V, Below w.heap.size w V → Calls Tryz.prog 18 #[hd rb] V (fun e w' => ∃ A c, e = .returned (.slice A m c) ∧ Below V.heap.size V w')) := Lib.hid fun V hV => (waitsW_any (h.below hV)).mono fun e w' ⟨A, c, h1, _, h3⟩ => ⟨A, c, by rw [h1, hm], h3⟩
 have HW0 := Lib.hid (HW.out w.drew (show Below w.heap.size w w.drew from (Below.refl _ w).drew))
 have HC : Hid (∀ V, Below w.heap.size w V → V.cell? ⟨rb, 0, none⟩ = some (.slice (some ⟨lb, 0, none⟩) n cl) ∧ V.cell? ⟨rb, 1, none⟩ = some (.int .i64 need)) := Lib.hid fun V hV => ⟨(h.below hV).head.1, (h.below hV).head.2.1⟩
 have e1 : IntKind.i64.wrap ((n : Int) - (m : Int)) = (n : Int) - (m : Int) := IntWalk.i64_in _ (by omega)
 rw [hD]
 clear h HW hD hm
 go_enter Tryz.func17, Tryz.ntmps17
 go_wp2_with fail
 go_region_held3 (fun V => V.cell? ⟨rb, 0, none⟩ = some (.slice (some ⟨lb, 0, none⟩) n cl) ∧ V.cell? ⟨rb, 1, none⟩ = some (.int .i64 need)) (first
   | exact HC.out _ (show Below w.heap.size w w.drew from (Below.refl _ w).drew)
   | exact HC.out _ b2)
  (first
   | (go_at_call 18; refine HW0.out.mono ?_; rintro e w2 ⟨A2, c2, rfl, b2'⟩; have b2 : Below w.heap.size w w2 := (show Below w.heap.size w w.drew from (Below.refl _ w).drew).trans b2'))
 all_goals
  have HB := Lib.hid b2
  clear b2 b2'
  go_wp2_with fail
  go_ret
  exact ⟨rfl, HB.out⟩
set_option maxRecDepth 100000 in
set_option maxHeartbeats 1000000 in
theorem waitsR_any {T : TypeId} {F : Nat → Prop} {w : World} {rb : Nat} {need : Int} {l : List En} {n lb cl cb ab : Nat} {x : List Value} (h : Core T F w rb need l n lb cl cb ab x) : Calls Tryz.prog 44 #[hd rb] w (NewI (waitsF l) w) := by
 obtain ⟨i0, hi0, hz0, hz1, hz2⟩ := info_parts info_int
 have HI := Lib.hid (And.intro hi0 (And.intro hz0 (And.intro hz1 hz2)))
 have hn8 : n ≤ 8 := h.1.2.2.2
 have HC : Hid (∀ V, Below w.heap.size w V → Core T F V rb need l n lb cl cb ab x) := Lib.hid fun V hV => h.below hV
 have HL := Lib.hid h.len
 obtain ⟨x0, x1, x2, x3⟩ := h.head
 clear h hi0 hz0 hz1 hz2
 go_enter Tryz.func44, Tryz.ntmps44
 go_wp2_with fail
 go_loopw [3, 4, 5, 11] (fun u _ _ q wr => ∃ (k m co : Nat) (Ao : Option Addr), q = .int .i64 k ∧ k ≤ n ∧ u = .slice Ao m co ∧ m ≤ k ∧ (waitsF (l.take k)).length = m ∧ Hid (wr.ownsRow w.heap.size 3 1 (.slice Ao m co) m (nums .i64 (waitsF (l.take k)))) ∧ Hid (Below w.heap.size w wr)) (fun _ _ _ q _ => n - (intOf q).toNat)
 case atStart => exact ⟨0, 0, 0, none, rfl, by omega, rfl, by omega, by simp [waitsF], Lib.hid (World.ownsRow_nil _ _ _ _), Lib.hid (Below.refl _ _)⟩
 case round =>
  clear x0 x1 x2 x3
  obtain ⟨k, m, co, Ao, rfl, hk, rfl, hmk, hm, ho, hb⟩ := hrel
  obtain ⟨x0, x1, x2, x3⟩ := (HC.out wr hb.out).head
  by_cases hlt : k < n
  ·obtain ⟨⟨nd, bo, an⟩, he⟩ : ∃ e, l[k]? = some e := ⟨l[k]'(by have := HL.out; omega), by simp⟩
   obtain ⟨y0, y1⟩ := (HC.out wr hb.out).at he
   simp only at y0 y1
   have HT := Lib.hid (waits_snoc (l.take k) (nd, bo, an))
   have HT2 := Lib.hid (take_one he)
   have hsz := hb.out.size
   have d1 : (0 : Int) ≤ (k : Int) := by omega
   have d2 : (k : Int) < (n : Int) := by omega
   have z0 := (World.cell?_alloc_lt wr (.cells #[.int .i64 nd] 3) ⟨rb, 0, none⟩ (World.block_lt_of_cell? _ _ x0)).trans x0
   clear he
   cases bo
   ·have HMM := Lib.hid hm
    clear hm
    go_wp2_with (at_builtin; refine wpList_append_one _ rfl _ _ _ rfl w.heap.size 3 i0 _ 8 Tryz.underlying26 HI.out.1 HI.out.2.1 HI.out.2.2.1 HI.out.2.2.2 rfl _ m (nums .i64 (waitsF (l.take k))) rfl ho.out (.int .i64 nd) 1 rfl rfl (by omega) (by omega) hsz ?_; intro v5 w5 o5 g5 _; obtain ⟨A5, c5, rfl⟩ := own_form o5)
    have hb5 := hb.out.grown g5 hsz (fun g hg => (ho.out.lt g hg).1)
    have HN : Hid (w5.ownsRow w.heap.size 3 1 (.slice A5 (m + 1) c5) (m + 1) (nums .i64 (waitsF (l.take (k + 1))))) := Lib.hid (by
     rw [HT2.out, HT.out]
     simpa [nums] using o5)
    have HM : (waitsF (l.take (k + 1))).length = m + 1 := by
     rw [HT2.out, HT.out]
     simp [HMM.out]
    have HB := Lib.hid hb5
    clear o5 g5 hb5 ho hb
    go_roundw
    case rel => exact ⟨k + 1, m + 1, c5, A5, rfl, by omega, rfl, by omega, HM, HN, HB⟩
    case measure => simp only [intOf]; omega
   ·have HN : Hid (wr.ownsRow w.heap.size 3 1 (.slice Ao m co) m (nums .i64 (waitsF (l.take (k + 1))))) := Lib.hid (by
     rw [HT2.out, HT.out]
     simpa using ho.out)
    have HM : (waitsF (l.take (k + 1))).length = m := by
     rw [HT2.out, HT.out]
     simpa using hm
    clear ho hm
    go_wp2_with fail
    go_roundw
    case rel => exact ⟨k + 1, m, co, Ao, rfl, by omega, rfl, by omega, HM, HN, hb⟩
    case measure => simp only [intOf]; omega
  ·obtain rfl : k = n := by omega
   have hlk : l.take k = l := List.take_of_length_le (by have := HL.out; omega)
   rw [hlk] at ho hm
   have HO := Lib.hid (And.intro ho.out hm)
   clear ho hm hlk
   go_wp2_with fail
   go_ret
   refine ⟨Ao, co, by rw [HO.out.2]; rfl, Lib.hid ⟨own_ns (by rw [HO.out.2]; exact HO.out.1), fun hp a ha => ?_⟩, hb.out⟩
   rw [HO.out.2] at hp
   exact (own_low HO.out.1).2 hp a ha
set_option maxRecDepth 100000 in
set_option maxHeartbeats 1000000 in
theorem doneR_any {T : TypeId} {F : Nat → Prop} {w : World} {rb : Nat} {need : Int} {l : List En} {n lb cl cb ab : Nat} {x : List Value} (h : Core T F w rb need l n lb cl cb ab x) : Calls Tryz.prog 20 #[hd rb] w (fun e w' => e = .returned (.bool (doneF need l)) ∧ Below w.heap.size w w') := by
 have hn8 : n ≤ 8 := h.1.2.2.2
 obtain ⟨D, hD⟩ : ∃ D, doneF need l = D := ⟨_, rfl⟩
 obtain ⟨m, hm⟩ : ∃ m, (waitsF l).length = m := ⟨_, rfl⟩
 have hmn : m ≤ n := by
  have := waits_len l
  rw [h.len] at this
  omega
 have hDD : decide (need ≤ (n : Int) - (m : Int)) = D := by
  rw [← hD, doneF, h.len, hm]
 have HW : Hid (∀ V, Below w.heap.size w V → Calls Tryz.prog 44 #[hd rb] V (fun e w' => ∃ A c, e = .returned (.slice A m c) ∧ Below V.heap.size V w')) := Lib.hid fun V hV => (waitsR_any (h.below hV)).mono fun e w' ⟨A, c, h1, _, h3⟩ => ⟨A, c, by rw [h1, hm], h3⟩
 have HW0 := Lib.hid (HW.out w.drew (show Below w.heap.size w w.drew from (Below.refl _ w).drew))
 have HC : Hid (∀ V, Below w.heap.size w V → V.cell? ⟨rb, 0, none⟩ = some (.slice (some ⟨lb, 0, none⟩) n cl) ∧ V.cell? ⟨rb, 1, none⟩ = some (.int .i64 need)) := Lib.hid fun V hV => ⟨(h.below hV).head.1, (h.below hV).head.2.1⟩
 have e1 : IntKind.i64.wrap ((n : Int) - (m : Int)) = (n : Int) - (m : Int) := IntWalk.i64_in _ (by omega)
 rw [hD]
 clear h HW hD hm
 go_enter Tryz.func20, Tryz.ntmps20
 go_wp2_with fail
 go_region_held3 (fun V => V.cell? ⟨rb, 0, none⟩ = some (.slice (some ⟨lb, 0, none⟩) n cl) ∧ V.cell? ⟨rb, 1, none⟩ = some (.int .i64 need)) (first
   | exact HC.out _ (show Below w.heap.size w w.drew from (Below.refl _ w).drew)
   | exact HC.out _ b2)
  (first
   | (go_at_call 44; refine HW0.out.mono ?_; rintro e w2 ⟨A2, c2, rfl, b2'⟩; have b2 : Below w.heap.size w w2 := (show Below w.heap.size w w.drew from (Below.refl _ w).drew).trans b2'))
 all_goals
  have HB := Lib.hid b2
  clear b2 b2'
  go_wp2_with fail
  go_ret
  exact ⟨rfl, HB.out⟩
end Quorum
end Go.Proofs.YtbhidndgnldheaaGreat

/-
 slices.Clone of numbers.
-/
namespace Go.Proofs.YtbhidndgnldheaaGreat
namespace Ints
open Go.RowKit Vers Span
attribute [local go_sem ↓] Go.wp_at_zero Go.wp_at_succ

theorem info_int : (Tryz.prog.info? 3).map (fun i => (i.zero, i.size, i.bytes)) = some (some (.int .i64 0), 1, 8) := by kernel_rfl
def Tn (t : TypeId) (w : World) (n : Nat) (A : Option Addr) : Prop := 0 < n → ∀ a, A = some a → ∃ cur, w.heap[a.block]? = some (.cells cur t (0, 0))
theorem Tn.same {t : TypeId} {w w' : World} {n : Nat} {A : Option Addr} (h : Tn t w n A) (hk : ∀ a, 0 < n → A = some a → w'.heap[a.block]? = w.heap[a.block]?) : Tn t w' n A := fun hn a ha => by
 obtain ⟨cur, hc⟩ := h hn a ha
 exact ⟨cur, (hk a hn ha).trans hc⟩
theorem Tn.lt {t : TypeId} {w : World} {n : Nat} {A : Option Addr} (h : Tn t w n A) (hn : 0 < n) {a : Addr} (ha : A = some a) : a.block < w.heap.size := by
 obtain ⟨cur, hc⟩ := h hn a ha
 exact (Array.getElem?_eq_some_iff.1 hc).1
theorem own_tn {w : World} {base : Nat} {e : TypeId} {size : Nat} {A : Option Addr} {c n : Nat} {us : List Value} (h : w.ownsRow base e size (.slice A n c) n us) : Tn e w n A := by
 rcases h.2 with ⟨hv, h0⟩ | ⟨g, cap, cur, hv, hbg, hg, _⟩
 ·subst h0
  exact fun h => absurd h (by omega)
 ·injection hv with h1 h2 h3
  subst h1
  exact fun _ a ha => by injection ha with ha; subst ha; exact ⟨cur, hg⟩
def NewI (l : List Int) (n : Nat) (w : World) (e : Ending) (w' : World) : Prop := ∃ A1 c1, e = .returned (.slice A1 n c1) ∧ Hid (Ns .i64 w' w'.heap.size A1 l ∧ (0 < n → ∃ g, A1 = some ⟨g, 0, none⟩ ∧ w.heap.size ≤ g) ∧ Tn 3 w' n A1) ∧ Below w.heap.size w w'
set_option maxRecDepth 100000 in
theorem clonei_any (A : Option Addr) (c n : Nat) (l : List Int) (hn : l.length = n) (w : World) (hr : Ns .i64 w w.heap.size A l) (hbig : n ≤ 17592186043904) :
  Calls Tryz.prog 50 #[.slice A n c] w (NewI l n w) := by
 obtain ⟨i0, hi0, hz0, hz1, hz2⟩ := info_parts info_int
 rcases A with _ | ad
 ·have h0 : l = [] := by
   rcases Nat.eq_zero_or_pos l.length with h0 | h0
   ·exact List.eq_nil_of_length_eq_zero h0
   ·obtain ⟨b, off, he, _⟩ := hr h0
    cases he
  subst h0
  obtain rfl : n = 0 := hn.symm
  have hne := Lib.run_eql_slice_nil (P := Tryz.prog) w 26 3 none 0 c 0 0 Tryz.underlying26
  rw [show (none : Option Addr).isNone = true from rfl] at hne
  go_enter Tryz.func50, Tryz.ntmps50
  go_wp2_with fail
  go_ret
  exact ⟨none, 0, rfl, Lib.hid ⟨fun h => absurd h (by simp), fun h => absurd h (by simp), fun h => absurd h (by simp)⟩, Below.refl _ _⟩
 ·have ho := World.ownsRow_lit (base := w.heap.size) (e := 3) (size := 1) w #[] 0 (Nat.le_refl _) (by unfold maxLen; omega) rfl
  have q2 : Ns .i64 (w.alloc (.cells #[] 3)) w.heap.size (some ad) l := hr.below ((Below.refl _ w).alloc (Nat.le_refl _) _)
  have hne := Lib.run_eql_slice_nil (P := Tryz.prog) w 26 3 (some ad) n c 0 0 Tryz.underlying26
  rw [show (some ad).isNone = false from rfl] at hne
  have Hn := Lib.hid hn
  clear hr hn
  go_enter Tryz.func50, Tryz.ntmps50
  have b0 := (Below.refl w.heap.size w).alloc (Nat.le_refl _) (.cells #[] 3)
  go_wp2_with (at_builtin; refine wpList_append_ns _ rfl (.tmp 5) (.tmp 6) 26 rfl w.heap.size 3 i0 _ 8 Tryz.underlying26 hi0 hz0 hz1 hz2 rfl _ 0 [] rfl ho .i64 w.heap.size (some ad) n c l Hn.out rfl q2 (by omega) (by omega) (by simp) ?_; intro v1 w1 o1 g1 at1)
  have b1 := b0.grown g1 (by simp) (fun j hj => (ho.lt j hj).1)
  obtain ⟨A1, c1, rfl⟩ := own_form o1
  have o2 : w1.ownsRow w.heap.size 3 1 (.slice A1 l.length c1) l.length (nums .i64 l) := by
   rw [Hn.out]
   simpa using o1
  have HF := Lib.hid (And.intro o2 b1)
  have hz : 0 + n = l.length := by rw [Hn.out, Nat.zero_add]
  have HZ := Lib.hid hz
  clear o1 g1 at1 o2 b1 b0 ho q2 hz
  go_wp2_with fail
  go_ret
  exact ⟨A1, c1, by simp, Lib.hid ⟨own_ns HF.out.1, fun hp => (let ⟨g, _, e, h1, _⟩ := HF.out.1.form (by rw [Hn.out]; exact hp); ⟨g, by injection e, h1⟩), fun hp => own_tn HF.out.1 (by rw [Hn.out]; exact hp)⟩, HF.out.2⟩

end Ints
end Go.Proofs.YtbhidndgnldheaaGreat
