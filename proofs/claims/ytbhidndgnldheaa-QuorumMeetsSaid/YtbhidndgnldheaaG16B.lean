/-
  Several texts of this family in one: IntsClone, QuorumMake, QuorumBeg, QuorumBeginR, QuorumBeginW, QuorumNew.
-/
import Derived.Test.YtbhidndgnldheaaVersFresh
import Derived.Deep.AppendLies
import Derived.Test.YtbhidndgnldheaaG16A
import Derived.Deep.OwnRows
import Derived.Test.YtbhidndgnldheaaRingInts
import Derived.Test.YtbhidndgnldheaaVersRight
import Derived.Test.YtbhidndgnldheaaVersList
/-
  slices.Clone of numbers.
-/
namespace Go.Proofs.Ytbhidndgnldheaa
namespace Ints
open Go.RowKit Vers Span
attribute [local go_sem ↓] Go.wp_at_zero Go.wp_at_succ

theorem info_int : (Try.prog.info? 3).map (fun i => (i.zero, i.size, i.bytes)) = some (some (.int .i64 0), 1, 8) := by kernel_rfl
/-- A row that lies in a block of cells: it can be written. -/
def Tn (t : TypeId) (w : World) (n : Nat) (A : Option Addr) : Prop := 0 < n → ∀ a, A = some a → ∃ cur, w.heap[a.block]? = some (.cells cur t (0, 0))
theorem Tn.same {t : TypeId} {w w' : World} {n : Nat} {A : Option Addr} (h : Tn t w n A) (hk : ∀ a, 0 < n → A = some a → w'.heap[a.block]? = w.heap[a.block]?) : Tn t w' n A := fun hn a ha => by
  obtain ⟨cur, hc⟩ := h hn a ha
  exact ⟨cur, (hk a hn ha).trans hc⟩
theorem Tn.lt {t : TypeId} {w : World} {n : Nat} {A : Option Addr} (h : Tn t w n A) (hn : 0 < n) {a : Addr} (ha : A = some a) : a.block < w.heap.size := by
  obtain ⟨cur, hc⟩ := h hn a ha
  exact (Array.getElem?_eq_some_iff.1 hc).1
theorem own_tn {w : World} {base : Nat} {e : TypeId} {size : Nat} {A : Option Addr} {c n : Nat} {us : List Value} (h : w.ownsRow base e size (.slice A n c) n us) : Tn e w n A := by
  rcases h.2 with ⟨hv, h0⟩ | ⟨g, cap, cur, hv, hbg, hg, _⟩
  · subst h0
    exact fun h => absurd h (by omega)
  · injection hv with h1 h2 h3
    subst h1
    exact fun _ a ha => by injection ha with ha; subst ha; exact ⟨cur, hg⟩
/-- Numbers of the call's own. -/
def NewI (l : List Int) (n : Nat) (w : World) (e : Ending) (w' : World) : Prop := ∃ A1 c1, e = .returned (.slice A1 n c1) ∧ Hid (Ns .i64 w' w'.heap.size A1 l ∧ (0 < n → ∃ g, A1 = some ⟨g, 0, none⟩ ∧ w.heap.size ≤ g) ∧ Tn 3 w' n A1) ∧ Below w.heap.size w w'
set_option maxRecDepth 100000 in
theorem clonei_any (A : Option Addr) (c n : Nat) (l : List Int) (hn : l.length = n) (w : World) (hr : Ns .i64 w w.heap.size A l) (hbig : n ≤ 17592186043904) :
    Calls Try.prog 56 #[.slice A n c] w (NewI l n w) := by
  obtain ⟨i0, hi0, hz0, hz1, hz2⟩ := info_parts info_int
  rcases A with _ | ad
  · have h0 : l = [] := by
      rcases Nat.eq_zero_or_pos l.length with h0 | h0
      · exact List.eq_nil_of_length_eq_zero h0
      · obtain ⟨b, off, he, _⟩ := hr h0
        cases he
    subst h0
    obtain rfl : n = 0 := hn.symm
    have hne := Lib.run_eql_slice_nil (P := Try.prog) w 22 3 none 0 c 0 0 Try.underlying22
    rw [show (none : Option Addr).isNone = true from rfl] at hne
    go_enter Try.func56, Try.ntmps56
    go_wp2_with fail
    go_ret
    exact ⟨none, 0, rfl, Lib.hid ⟨fun h => absurd h (by simp), fun h => absurd h (by simp), fun h => absurd h (by simp)⟩, Below.refl _ _⟩
  · have ho := World.ownsRow_lit (base := w.heap.size) (e := 3) (size := 1) w #[] 0 (Nat.le_refl _) (by unfold maxLen; omega) rfl
    have q2 : Ns .i64 (w.alloc (.cells #[] 3)) w.heap.size (some ad) l := hr.below ((Below.refl _ w).alloc (Nat.le_refl _) _)
    have hne := Lib.run_eql_slice_nil (P := Try.prog) w 22 3 (some ad) n c 0 0 Try.underlying22
    rw [show (some ad).isNone = false from rfl] at hne
    have Hn := Lib.hid hn
    clear hr hn
    go_enter Try.func56, Try.ntmps56
    have b0 := (Below.refl w.heap.size w).alloc (Nat.le_refl _) (.cells #[] 3)
    go_wp2_with (at_builtin; refine wpList_append_ns _ rfl (.tmp 5) (.tmp 6) 22 rfl w.heap.size 3 i0 _ 8 Try.underlying22 hi0 hz0 hz1 hz2 rfl _ 0 [] rfl ho .i64 w.heap.size (some ad) n c l Hn.out rfl q2 (by omega) (by omega) (by simp) ?_; intro v1 w1 o1 g1 at1)
    have b1 := b0.grown g1 (by simp) (fun j hj => (ho.lt j hj).1)
    obtain ⟨A1, c1, rfl⟩ := own_form o1
    have o2 : w1.ownsRow w.heap.size 3 1 (.slice A1 l.length c1) l.length (nums .i64 l) := by
      rw [Hn.out]
      simpa using o1
    have HF := Lib.hid (And.intro o2 b1)
    have hz : 0 + n = l.length := by rw [Hn.out, Nat.zero_add]
    have HZ := Lib.hid hz
    clear o1 g1 at1 o2 b1 b0 ho q2 hz
    go_wp2_with fail
    go_ret
    exact ⟨A1, c1, by simp, Lib.hid ⟨own_ns HF.out.1, fun hp => (let ⟨g, _, e, h1, _⟩ := HF.out.1.form (by rw [Hn.out]; exact hp); ⟨g, by injection e, h1⟩), fun hp => own_tn HF.out.1 (by rw [Hn.out]; exact hp)⟩, HF.out.2⟩

end Ints
end Go.Proofs.Ytbhidndgnldheaa

/-
  make as a step of a region that draws.
-/
namespace Go.Proofs.Ytbhidndgnldheaa
namespace Quorum
open Go.RowKit Vers Span Blk
theorem made_is (z : Value) (n : Nat) : madeCells #[z] n = (List.replicate n z).toArray := by
  apply Array.ext
  · simp [size_madeCells]
  · intro i h1 h2
    simp [madeCells, Nat.mod_one]
section
variable {P : Program} {w : World}
theorem step_make {ops : Array Oper} {o : Oper} {a : Act} {K : Act → World → Prop} {Q : Exit → Act → World → Prop} {E : Prop} (hgd : o.guard = none) (t : TypeId) (l c : Operand) (ho : o.op = .makeSlice t l c) (e : TypeId) (zs : List Value) (n : Nat)
    (hl : a.eval l = .int .i64 n) (hc : a.eval c = .int .i64 n) (hrun : ∀ W : World, (Instr.makeSlice t (.int .i64 (n : Int)) (.int .i64 (n : Int))).run P W = .ok (.slice (some ⟨W.heap.size, 0, none⟩) n n) (W.alloc (.cells zs.toArray e)))
    (h : ∀ g w', Bn g e zs w' → w.heap.size ≤ g → Below w.heap.size w w' → K (a.put o.dst (.slice (some ⟨g, 0, none⟩) n n)) w') :
    if Region.wanted o (yielded ops a.tmps) = true then Oper.wp P o a w K Q else E := by
  have hw : Region.wanted o (yielded ops a.tmps) = true := by simp [Region.wanted, hgd]
  rw [if_pos hw]
  have hr := hrun w
  unfold Oper.wp
  simp [execOp, ho, hl, hc, hr, Result.andThen]
  exact h _ _ (heap_alloc_new w _) (Nat.le_refl _) ((Below.refl _ w).alloc (Nat.le_refl _) _)
end
end Quorum
end Go.Proofs.Ytbhidndgnldheaa

/-
  An asking is begun. Written by gen16/begin.py.
-/
namespace Go.Proofs.Ytbhidndgnldheaa
namespace Quorum
open Go.RowKit Vers Span Blk
attribute [local go_sem ↓] Go.wp_at_zero Go.wp_at_succ

theorem nodup_snoc {l : List Int} {x : Int} : (l ++ [x]).Nodup ↔ l.Nodup ∧ x ∉ l := by
  rw [List.nodup_append]
  constructor
  · rintro ⟨h1, _, h3⟩
    exact ⟨h1, fun hx => h3 x hx x (by simp) rfl⟩
  · rintro ⟨h1, h2⟩
    exact ⟨h1, by simp, fun a ha b hb e => h2 (by rw [List.mem_singleton.1 hb] at e; rw [← e]; exact ha)⟩
/-- The first ones are right. -/
def Good (ls : List Int) (k : Nat) : Prop := (∀ x ∈ ls.take k, 1 ≤ x ∧ x ≤ 8) ∧ (ls.take k).Nodup
theorem good_zero (ls : List Int) : Good ls 0 := by
  unfold Good
  simp
theorem good_step {ls : List Int} {k : Nat} {x : Int} (h : Good ls k) (hx : ls[k]? = some x) (h1 : 1 ≤ x ∧ x ≤ 8) (h2 : x ∉ ls.take k) : Good ls (k + 1) := by
  unfold Good
  rw [take_one hx]
  exact ⟨fun y hy => (List.mem_append.1 hy).elim (h.1 y) fun e => by rw [List.mem_singleton.1 e]; exact h1, nodup_snoc.2 ⟨h.2, h2⟩⟩
theorem good_not {ls : List Int} {need : Int} {k : Nat} {x : Int} (hx : ls[k]? = some x) (h : ¬ (1 ≤ x ∧ x ≤ 8) ∨ x ∈ ls.take k) : ¬ okL ls need := fun ho => by
  rcases h with h | h
  · exact h (ho.2.1 x (List.mem_of_getElem? hx))
  · have h1 : (ls.take (k + 1)).Nodup := ho.2.2.sublist (List.take_sublist _ _)
    rw [take_one hx, nodup_snoc] at h1
    exact h1.2 h
theorem good_all {ls : List Int} {need : Int} (hb : ls.length ≤ 8 ∧ 1 ≤ need ∧ need ≤ ls.length) (h : Good ls ls.length) : okL ls need := by
  unfold Good at h
  rw [List.take_length] at h
  exact ⟨hb, h.1, h.2⟩
/-- What is there when it is begun. -/
def Beg (t : TypeId) (z : List Value) (w w' : World) (ls : List Int) (n lb cb ab : Nat) : Prop :=
  Below w.heap.size w w' ∧ (w.heap.size ≤ lb ∧ w.heap.size ≤ cb ∧ w.heap.size ≤ ab) ∧ (lb < w'.heap.size ∧ ∀ (j : Nat) (x : Int), ls[j]? = some x → w'.cell? ⟨lb, j, none⟩ = some (.int .i64 x)) ∧ Bn cb 4 (List.replicate n (.bool false)) w' ∧ Bn ab t z w' ∧ (lb ≠ cb ∧ lb ≠ ab ∧ cb ≠ ab)
/-- What is known of the list's copy. -/
def Lst (V : World) (ls : List Int) (base lb : Nat) : Prop := base ≤ lb ∧ (∃ cur, V.heap[lb]? = some (.cells cur 3 (0, 0))) ∧ ∀ (j : Nat) (x : Int), ls[j]? = some x → V.cell? ⟨lb, j, none⟩ = some (.int .i64 x)
theorem Lst.lt {V : World} {ls : List Int} {base lb : Nat} (h : Lst V ls base lb) : lb < V.heap.size := by
  obtain ⟨_, ⟨cur, hc⟩, _⟩ := h
  exact (Array.getElem?_eq_some_iff.1 hc).1
theorem Lst.same {V V' : World} {ls : List Int} {base lb : Nat} (h : Lst V ls base lb) (hk : V'.heap[lb]? = V.heap[lb]?) : Lst V' ls base lb := by
  obtain ⟨h1, ⟨cur, hc⟩, h2⟩ := h
  exact ⟨h1, ⟨cur, hk.trans hc⟩, fun j x hx => (World.cell?_of_block hk).trans (h2 j x hx)⟩
theorem Lst.below {V V' : World} {ls : List Int} {base lb : Nat} (h : Lst V ls base lb) (hb : Below V.heap.size V V') : Lst V' ls base lb := h.same (hb.block lb h.lt)
theorem bn_below {V V' : World} {g : Nat} {t : TypeId} {cs : List Value} (h : Bn g t cs V) (hb : Below V.heap.size V V') : Bn g t cs V' := h.same (hb.block g h.lt)
theorem lst_ne {V : World} {ls : List Int} {base lb g : Nat} {t : TypeId} {cs : List Value} (h : Lst V ls base lb) (hb : Bn g t cs V) (ht : t ≠ 3) : lb ≠ g := fun e => by
  obtain ⟨_, ⟨cur, hc⟩, _⟩ := h
  have hb' : V.heap[g]? = some (.cells cs.toArray t (0, 0)) := hb
  rw [e, hb'] at hc
  injection hc with hc
  injection hc with _ hc
  exact ht hc
theorem Lst.base {V : World} {ls : List Int} {base base' lb : Nat} (h : Lst V ls base lb) (hb : base' ≤ base) : Lst V ls base' lb := ⟨Nat.le_trans hb h.1, h.2⟩
/-- The four cells are laid. -/
def four (X : World) (rk : Nat) (v0 v1 v2 v3 : Value) : World := (((X.setCell ⟨rk, 0, none⟩ v0).setCell ⟨rk, 1, none⟩ v1).setCell ⟨rk, 2, none⟩ v2).setCell ⟨rk, 3, none⟩ v3
theorem four_bn {X : World} {rk : Nat} {t : TypeId} {z0 z1 z2 z3 : Value} (h : Bn rk t [z0, z1, z2, z3] X) (v0 v1 v2 v3 : Value) : Bn rk t [v0, v1, v2, v3] (four X rk v0 v1 v2 v3) := by
  have h4 := (((h.set 0 v0).set 1 v1).set 2 v2).set 3 v3
  simp only [List.set_cons_zero, List.set_cons_succ] at h4
  exact h4
theorem four_grown (X : World) (rk : Nat) (v0 v1 v2 v3 : Value) : X.grownBy (four X rk v0 v1 v2 v3) (some rk) := grown_trans_one (grown_trans_one (grown_trans_one (gset X rk 0 v0) (gset _ rk 1 v1)) (gset _ rk 2 v2)) (gset _ rk 3 v3)
set_option maxHeartbeats 1000000 in
/-- All is there. -/
theorem begun_close {X w : World} {rk lb cb ab n : Nat} {ls : List Int} {t ta : TypeId} {z zs : List Value} (hr : w.heap.size = rk) (hbel : Below w.heap.size w X) (_hrk : Bn rk ta zs X) (hlst : Lst X ls (rk + 1) lb) (hcb : Bn cb 4 (List.replicate n (.bool false)) X) (hcbl : rk + 1 ≤ cb) (hab : Bn ab t z X) (habl : rk + 1 ≤ ab) (h1 : t ≠ 3) (h2 : t ≠ 4) (v0 v1 v2 v3 : Value) :
    Beg t z w (four X rk v0 v1 v2 v3) ls n lb cb ab := by
  have hg := four_grown X rk v0 v1 v2 v3
  have hs := hlst.1
  refine ⟨hbel.grown hg hbel.size fun g e => by injection e with e; omega, ⟨by omega, by omega, by omega⟩, ⟨Nat.lt_of_lt_of_le hlst.lt hg.size, fun j x hx => (World.cell?_of_block (hg.block lb hlst.lt (by intro e; injection e with e; omega))).trans (hlst.2.2 j x hx)⟩, hcb.kept hg (by intro e; injection e with e; omega), hab.kept hg (by intro e; injection e with e; omega), lst_ne hlst hcb (by decide), lst_ne hlst hab h1, fun e => ?_⟩
  subst e
  exact h2 (hab.type hcb)
/-- What the last store wants, and what it leaves. -/
def Fin (t ta : TypeId) (z : List Value) (w X : World) (ls : List Int) (need : Int) (n rk lb cl cb ab : Nat) : Prop :=
  (X.cell? ⟨rk, 0, none⟩ = some (.slice none 0 0) ∧ X.cell? ⟨rk, 1, none⟩ = some (.int .i64 0) ∧ X.cell? ⟨rk, 2, none⟩ = some (.slice none 0 0) ∧ X.cell? ⟨rk, 3, none⟩ = some (.slice none 0 0)) ∧
  (X.frozen? ⟨rk, 0, none⟩ = false ∧ X.frozen? ⟨rk, 1, none⟩ = false ∧ X.frozen? ⟨rk, 2, none⟩ = false ∧ X.frozen? ⟨rk, 3, none⟩ = false) ∧
  Hid (Beg t z w (four X rk (.slice (some ⟨lb, 0, none⟩) n cl) (.int .i64 need) (.slice (some ⟨cb, 0, none⟩) n n) (.slice (some ⟨ab, 0, none⟩) n n)) ls n lb cb ab ∧ Bn rk ta [.slice (some ⟨lb, 0, none⟩) n cl, .int .i64 need, .slice (some ⟨cb, 0, none⟩) n n, .slice (some ⟨ab, 0, none⟩) n n] (four X rk (.slice (some ⟨lb, 0, none⟩) n cl) (.int .i64 need) (.slice (some ⟨cb, 0, none⟩) n n) (.slice (some ⟨ab, 0, none⟩) n n)))
theorem fin_of {w w2 X : World} {rk lb cb ab n cl : Nat} {ls : List Int} {need : Int} {t ta : TypeId} {z : List Value} (hr : w.heap.size = rk) (hbel : Below w.heap.size w w2) (hrk : Bn rk ta [.slice none 0 0, .int .i64 0, .slice none 0 0, .slice none 0 0] w2) (hlst : Lst w2 ls (rk + 1) lb) (bX : Below w2.heap.size w2 X) (hcb : Bn cb 4 (List.replicate n (.bool false)) X) (hcbl : rk + 1 ≤ cb) (hab : Bn ab t z X) (habl : rk + 1 ≤ ab) (h1 : t ≠ 3) (h2 : t ≠ 4) :
    Fin t ta z w X ls need n rk lb cl cb ab := by
  have hx := bn_below hrk bX
  exact ⟨⟨(hx.cell 0).trans rfl, (hx.cell 1).trans rfl, (hx.cell 2).trans rfl, (hx.cell 3).trans rfl⟩, ⟨hx.frozen 0, hx.frozen 1, hx.frozen 2, hx.frozen 3⟩, Lib.hid ⟨begun_close hr (hbel.trans (bX.mono hbel.size)) hx (hlst.below bX) hcb hcbl hab habl h1 h2 _ _ _ _, four_bn hx _ _ _ _⟩⟩
theorem up_bn {V : World} {g : Nat} {t : TypeId} {cs : List Value} (h : Bn g t cs V) (o : Obj) : Bn g t cs (V.alloc o) := bn_below h ((Below.refl _ _).alloc (Nat.le_refl _) _)
theorem nw_bn (V : World) (t : TypeId) (cs : List Value) {o : Obj} (ho : Obj.cells cs.toArray t = o) : Bn V.heap.size t cs (V.alloc o) := by
  rw [← ho]
  exact heap_alloc_new V _
theorem nw_bn1 (V : World) (t : TypeId) (cs : List Value) {o o' : Obj} (ho : Obj.cells cs.toArray t = o) : Bn (V.heap.size + 1) t cs ((V.alloc o').alloc o) := by
  have h := nw_bn (V.alloc o') t cs ho
  rwa [World.size_alloc] at h
theorem new_lst {V V' : World} {ls : List Int} {n c : Nat} {A : Option Addr} (hn : ls.length = n) (hp : 0 < n) (h : Ns .i64 V' V'.heap.size A ls ∧ (0 < n → ∃ g, A = some ⟨g, 0, none⟩ ∧ V.heap.size ≤ g) ∧ Ints.Tn 3 V' n A) : ∃ lb, Value.slice A n c = .slice (some ⟨lb, 0, none⟩) n c ∧ Lst V' ls V.heap.size lb := by
  obtain ⟨g, rfl, hg⟩ := h.2.1 hp
  refine ⟨g, rfl, hg, h.2.2 hp _ rfl, fun j x hx => ?_⟩
  obtain ⟨b, off, e, _, hat⟩ := h.1 (by omega)
  injection e with e
  injection e with e1 e2 _
  subst e1 e2
  have := hat j (List.getElem?_eq_some_iff.1 hx).1
  rwa [Nat.zero_add, List.getD_eq_getElem?_getD, hx] at this
end Quorum
end Go.Proofs.Ytbhidndgnldheaa

/-
  An asking is begun (readings). Written by gen16/begin.py.
-/
namespace Go.Proofs.Ytbhidndgnldheaa
namespace Quorum
open Go.RowKit Vers Span Blk
attribute [local go_sem ↓] Go.wp_at_zero Go.wp_at_succ

abbrev zeroR : List Value := [.slice none 0 0, .int .i64 0, .slice none 0 0, .slice none 0 0]
def BegunR (ls : List Int) (need : Int) (n : Nat) (w : World) (e : Ending) (w' : World) : Prop :=
  (¬ okL ls need ∧ e = .returned (.tuple #[.agg #[.slice none 0 0, .int .i64 0, .slice none 0 0, .slice none 0 0], .bool false]) ∧ Below w.heap.size w w') ∨
  (okL ls need ∧ ∃ lb cl cb ab, e = .returned (.tuple #[.agg #[.slice (some ⟨lb, 0, none⟩) n cl, .int .i64 need, .slice (some ⟨cb, 0, none⟩) n n, .slice (some ⟨ab, 0, none⟩) n n], .bool true]) ∧ Hid (Beg 47 (List.replicate n (.slice none 0 0)) w w' ls n lb cb ab))
set_option maxRecDepth 100000 in
set_option maxHeartbeats 4000000 in
theorem beginR_any (A : Option Addr) (c n : Nat) (ls : List Int) (hn : ls.length = n) (need : Int) (w : World) (hr : Ns .i64 w w.heap.size A ls) (hbig : n ≤ 140737488355328) (hnc : n ≤ c) :
    Calls Try.prog 38 #[.slice A n c, .int .i64 need] w (BegunR ls need n w) := by
  obtain ⟨U, hU⟩ : ∃ U, w.alloc (.cells #[.slice none 0 0, .int .i64 0, .slice none 0 0, .slice none 0 0] 53) = U := ⟨_, rfl⟩
  have bU : Below w.heap.size w U := by rw [← hU]; exact (Below.refl _ w).alloc (Nat.le_refl _) _
  have sU : U.heap.size = w.heap.size + 1 := by rw [← hU]; simp
  have BU : Bn w.heap.size 53 zeroR U := by rw [← hU]; exact heap_alloc_new w _
  obtain ⟨rk, hrk⟩ : ∃ k, w.heap.size = k := ⟨_, rfl⟩
  have HV := Lib.hid (And.intro hr hn)
  rw [hrk] at BU sU
  have HU := Lib.hid (And.intro hU (And.intro hrk (And.intro bU (And.intro BU sU))))
  clear hr hn hU bU BU sU
  have hbad : ∀ V : World, Below U.heap.size U V → ¬ okL ls need → Hid (BegunR ls need n w (.returned (.tuple #[.agg #[.slice none 0 0, .int .i64 0, .slice none 0 0, .slice none 0 0], .bool false])) ((((V.setCell ⟨rk, 0, none⟩ (.slice none 0 0)).setCell ⟨rk, 1, none⟩ (.int .i64 0)).setCell ⟨rk, 2, none⟩ (.slice none 0 0)).setCell ⟨rk, 3, none⟩ (.slice none 0 0))) := fun V hV ho => Lib.hid (.inl ⟨ho, rfl, by
    have h := HU.out.2.2.1.trans (hV.mono HU.out.2.2.1.size)
    rw [HU.out.2.1] at h ⊢
    exact (((h.setCell (Nat.le_refl _) _).setCell (Nat.le_refl _) _).setCell (Nat.le_refl _) _).setCell (Nat.le_refl _) _⟩)
  have HBAD := Lib.hid hbad
  clear hbad
  by_cases hb : (n : Int) ≤ 8 ∧ 1 ≤ need ∧ need ≤ (n : Int)
  · obtain ⟨hb1, hb2, hb3⟩ := hb
    have g1 : ¬ (8 : Int) < (n : Int) := by omega
    have g2 : ¬ need < 1 := by omega
    have g3 : ¬ (n : Int) < need := by omega
    obtain ⟨ob, oo, rfl, hbl, _⟩ := HV.out.1 (by have := HV.out.2; omega)
    have hc0 : ¬ 0 = c := by omega
    have hc1 : ¬ c = 0 := by omega
    go_enter Try.func38, Try.ntmps38
    go_wp2_with fail
    rw [HU.out.1]
    go_loopw [6, 7, 24] (fun _ _ q wr => ∃ k : Nat, q = .int .i64 k ∧ k ≤ n ∧ Hid (Below U.heap.size U wr ∧ Good ls k)) (fun _ _ q _ => n - (intOf q).toNat)
    case atStart => exact ⟨0, rfl, by omega, Lib.hid ⟨Below.refl _ _, good_zero ls⟩⟩
    case round =>
      obtain ⟨k, rfl, hk, hst⟩ := hrel
      by_cases hlt : k < n
      · obtain ⟨x, hx⟩ : ∃ x, ls[k]? = some x := ⟨ls[k]'(by have := HV.out.2; omega), by simp⟩
        have hbw := HU.out.2.2.1.trans (hst.out.1.mono HU.out.2.2.1.size)
        have hnw := HV.out.1.below hbw
        obtain ⟨b', o', e', _, hat⟩ := hnw (by have := HV.out.2; omega)
        injection e' with e'
        injection e' with e1 e2 _
        subst e1 e2
        have z0 := hat k (by have := HV.out.2; omega)
        rw [List.getD_eq_getElem?_getD, hx] at z0
        simp only [Option.getD_some] at z0
        have d1 : (0 : Int) ≤ (k : Int) := by omega
        have d2 : (k : Int) < (n : Int) := by omega
        have hkc : k ≤ c := by omega
        have d3 : (k : Int) ≤ (c : Int) := by omega
        have B1 := HU.out.2.2.2.1.same (hst.out.1.block rk HU.out.2.2.2.1.lt)
        have r0 := (B1.cell 0).trans rfl
        have r1 := (B1.cell 1).trans rfl
        have r2 := (B1.cell 2).trans rfl
        have r3 := (B1.cell 3).trans rfl
        have f0 := B1.frozen 0
        have f1 := B1.frozen 1
        have f2 := B1.frozen 2
        have f3 := B1.frozen 3
        by_cases hx1 : 1 ≤ x ∧ x ≤ 8
        · have g4 : ¬ x < 1 := by omega
          have g5 : ¬ (8 : Int) < x := by omega
          have HCO := Lib.hid (Ring.contains_any (some ⟨ob, oo, none⟩) c k (ls.take k) (by rw [List.length_take]; have := HV.out.2; omega) x wr ((hnw.take k).more (Nat.le_trans HU.out.2.2.1.size hst.out.1.size)) (by omega))
          have HX := Lib.hid hx
          clear hx hnw hat
          go_wp2_with fail
          refine HCO.out.mono ?_
          rintro e w2 ⟨rfl, b2⟩
          have hb2' := hst.out.1.trans (b2.mono hst.out.1.size)
          by_cases hin : x ∈ ls.take k
          · rw [decide_eq_true hin]
            have HBB := Lib.hid (HBAD.out w2 hb2' (good_not HX.out (.inr hin)))
            have B2 := B1.same (b2.block rk B1.lt)
            have r0 := (B2.cell 0).trans rfl
            have r1 := (B2.cell 1).trans rfl
            have r2 := (B2.cell 2).trans rfl
            have r3 := (B2.cell 3).trans rfl
            have f0 := B2.frozen 0
            have f1 := B2.frozen 1
            have f2 := B2.frozen 2
            have f3 := B2.frozen 3
            have BY := (((B2.set 0 (.slice none 0 0)).set 1 (.int .i64 0)).set 2 (.slice none 0 0)).set 3 (.slice none 0 0)
            simp only [List.set_cons_zero, List.set_cons_succ] at BY
            obtain ⟨Y, hY⟩ : ∃ Y, (((w2.setCell ⟨rk, 0, none⟩ (.slice none 0 0)).setCell ⟨rk, 1, none⟩ (.int .i64 0)).setCell ⟨rk, 2, none⟩ (.slice none 0 0)).setCell ⟨rk, 3, none⟩ (.slice none 0 0) = Y := ⟨_, rfl⟩
            rw [hY] at BY HBB
            have u0 := (BY.cell 0).trans rfl
            have u1 := (BY.cell 1).trans rfl
            have u2 := (BY.cell 2).trans rfl
            have u3 := (BY.cell 3).trans rfl
            clear BY B2 B1 b2 hb2' hst HCO
            go_wp2_with fail
            refine bodyPost_ret (v := .tuple #[.agg #[.slice none 0 0, .int .i64 0, .slice none 0 0, .slice none 0 0], .bool false]) ?_ rfl HBB.out.out
            rw [results_cell_tmp rfl]
            go_simp
          · rw [decide_eq_false hin]
            have HN : Hid (Below U.heap.size U w2 ∧ Good ls (k + 1)) := Lib.hid ⟨hb2', good_step hst.out.2 HX.out hx1 hin⟩
            clear b2 hb2' hst HCO B1
            go_wp2_with fail
            go_roundw
            case rel => exact ⟨k + 1, rfl, by omega, HN⟩
            case measure => simp only [intOf]; omega
        · have HBB := Lib.hid (HBAD.out wr hst.out.1 (good_not hx (.inl hx1)))
          have BY := (((B1.set 0 (.slice none 0 0)).set 1 (.int .i64 0)).set 2 (.slice none 0 0)).set 3 (.slice none 0 0)
          simp only [List.set_cons_zero, List.set_cons_succ] at BY
          obtain ⟨Y, hY⟩ : ∃ Y, (((wr.setCell ⟨rk, 0, none⟩ (.slice none 0 0)).setCell ⟨rk, 1, none⟩ (.int .i64 0)).setCell ⟨rk, 2, none⟩ (.slice none 0 0)).setCell ⟨rk, 3, none⟩ (.slice none 0 0) = Y := ⟨_, rfl⟩
          rw [hY] at BY HBB
          have u0 := (BY.cell 0).trans rfl
          have u1 := (BY.cell 1).trans rfl
          have u2 := (BY.cell 2).trans rfl
          have u3 := (BY.cell 3).trans rfl
          clear BY B1 hst hnw hat hx
          by_cases hx0 : x < 1
          · go_wp2_with fail
            refine bodyPost_ret (v := .tuple #[.agg #[.slice none 0 0, .int .i64 0, .slice none 0 0, .slice none 0 0], .bool false]) ?_ rfl HBB.out.out
            rw [results_cell_tmp rfl]
            go_simp
          · have hx8 : (8 : Int) < x := by omega
            go_wp2_with fail
            refine bodyPost_ret (v := .tuple #[.agg #[.slice none 0 0, .int .i64 0, .slice none 0 0, .slice none 0 0], .bool false]) ?_ rfl HBB.out.out
            rw [results_cell_tmp rfl]
            go_simp
      · obtain rfl : k = n := by omega
        have hokl : okL ls need := good_all (by have := HV.out.2; omega) (by rw [HV.out.2]; exact hst.out.2)
        have HOK := Lib.hid hokl
        clear hokl
        have hbU := hst.out.1
        have hw0 : Below w.heap.size w wr.drew := (HU.out.2.2.1.trans (hbU.mono HU.out.2.2.1.size)).drew
        have B0 : Bn rk 53 zeroR wr.drew := HU.out.2.2.2.1.same (hbU.block rk HU.out.2.2.2.1.lt)
        have hd : Below wr.drew.heap.size wr.drew wr.drew := Below.refl _ _
        have hm1 : ∀ W : World, (Instr.makeSlice 32 (.int .i64 (k : Int)) (.int .i64 (k : Int))).run Try.prog W = .ok (.slice (some ⟨W.heap.size, 0, none⟩) k k) (W.alloc (.cells (List.replicate k (.bool false)).toArray 4)) := fun W => by
          rw [← made_is]
          exact run_make_row' 32 4 (.bool false) 1 Try.underlying32 (by kernel_rfl) rfl .i64 .i64 k (by omega) (by omega) W
        have hm2 : ∀ W : World, (Instr.makeSlice 51 (.int .i64 (k : Int)) (.int .i64 (k : Int))).run Try.prog W = .ok (.slice (some ⟨W.heap.size, 0, none⟩) k k) (W.alloc (.cells (List.replicate k (.slice none 0 0) : List Value).toArray 47)) := fun W => by
          rw [← made_is]
          exact run_make_row' 51 47 (.slice none 0 0) 24 Try.underlying51 (by kernel_rfl) rfl .i64 .i64 k (by omega) (by omega) W
        have HCL : Hid (∀ V, Below w.heap.size w V → Calls Try.prog 56 #[.slice (some ⟨ob, oo, none⟩) k c] V (Ints.NewI ls k V)) := Lib.hid fun V hV => Ints.clonei_any (some ⟨ob, oo, none⟩) c k ls HV.out.2 V ((HV.out.1.below hV).more hV.size) (by omega)
        have HM1 := Lib.hid hm1
        have HM2 := Lib.hid hm2
        have hcf : ∀ (a : Array Value) (w : World), (callFunc 56 a).run Try.prog w = .ok (.enter 56 a) w := fun a w => by simp [go_sem]
        have hk0 : 0 < k := by omega
        have hlen := HV.out.2
        clear hst hm1 hm2
        obtain ⟨M1, hM1⟩ : ∃ o, Obj.cells (List.replicate k (.bool false)).toArray 4 = o := ⟨_, rfl⟩
        obtain ⟨M2, hM2⟩ : ∃ o, Obj.cells (List.replicate k (.slice none 0 0) : List Value).toArray 47 = o := ⟨_, rfl⟩
        have hm1 := HM1.out
        have hm2 := HM2.out
        rw [hM1] at hm1
        rw [hM2] at hm2
        have HM := Lib.hid (And.intro hM1 hM2)
        have hs2 := Lib.hid (show rk + 1 ≤ wr.heap.size from B0.lt)
        have ba : ∀ (V : World) (o : Obj), Below V.heap.size V (V.alloc o) := fun V o => (Below.refl _ V).alloc (Nat.le_refl _) _
        have n1 : Bn wr.heap.size 4 (List.replicate k (.bool false)) (wr.drew.alloc M1) := by rw [← hM1]; exact heap_alloc_new wr.drew _
        have n2 : Bn wr.heap.size 47 (List.replicate k (.slice none 0 0) : List Value) (wr.drew.alloc M2) := by rw [← hM2]; exact heap_alloc_new wr.drew _
        have n12 : Bn (wr.heap.size + 1) 47 (List.replicate k (.slice none 0 0) : List Value) ((wr.drew.alloc M1).alloc M2) := by
          have h : Bn (wr.drew.alloc M1).heap.size 47 (List.replicate k (.slice none 0 0) : List Value) ((wr.drew.alloc M1).alloc M2) := by rw [← hM2]; exact heap_alloc_new _ _
          rwa [World.size_alloc] at h
        have n21 : Bn (wr.heap.size + 1) 4 (List.replicate k (.bool false)) ((wr.drew.alloc M2).alloc M1) := by
          have h : Bn (wr.drew.alloc M2).heap.size 4 (List.replicate k (.bool false)) ((wr.drew.alloc M2).alloc M1) := by rw [← hM1]; exact heap_alloc_new _ _
          rwa [World.size_alloc] at h
        have HB0 := Lib.hid (And.intro hw0 (And.intro (show rk + 1 ≤ wr.drew.heap.size from B0.lt) B0))
        have HB1 : Hid (Below w.heap.size w (wr.drew.alloc M1) ∧ rk + 1 ≤ (wr.drew.alloc M1).heap.size ∧ Bn rk 53 zeroR (wr.drew.alloc M1)) := Lib.hid ⟨hw0.trans ((ba _ _).mono hw0.size), Nat.le_trans B0.lt (ba wr.drew M1).size, bn_below B0 (ba _ _)⟩
        have HB2 : Hid (Below w.heap.size w (wr.drew.alloc M2) ∧ rk + 1 ≤ (wr.drew.alloc M2).heap.size ∧ Bn rk 53 zeroR (wr.drew.alloc M2)) := Lib.hid ⟨hw0.trans ((ba _ _).mono hw0.size), Nat.le_trans B0.lt (ba wr.drew M2).size, bn_below B0 (ba _ _)⟩
        have HB12 : Hid (Below w.heap.size w ((wr.drew.alloc M1).alloc M2) ∧ rk + 1 ≤ ((wr.drew.alloc M1).alloc M2).heap.size ∧ Bn rk 53 zeroR ((wr.drew.alloc M1).alloc M2)) := Lib.hid ⟨HB1.out.1.trans ((ba _ _).mono HB1.out.1.size), Nat.le_trans HB1.out.2.1 (ba _ M2).size, bn_below HB1.out.2.2 (ba _ _)⟩
        have HB21 : Hid (Below w.heap.size w ((wr.drew.alloc M2).alloc M1) ∧ rk + 1 ≤ ((wr.drew.alloc M2).alloc M1).heap.size ∧ Bn rk 53 zeroR ((wr.drew.alloc M2).alloc M1)) := Lib.hid ⟨HB2.out.1.trans ((ba _ _).mono HB2.out.1.size), Nat.le_trans HB2.out.2.1 (ba _ M1).size, bn_below HB2.out.2.2 (ba _ _)⟩
        have HB1M := Lib.hid n1
        have HB2M := Lib.hid n2
        have HB12M := Lib.hid (And.intro (bn_below n1 (ba (wr.drew.alloc M1) M2)) n12)
        have HB21M := Lib.hid (And.intro (bn_below n2 (ba (wr.drew.alloc M2) M1)) n21)
        clear hM1 hM2 HM1 HM2 ba n1 n2 n12 n21 B0 hw0 hbU hd
        go_wp2_with fail
        go_region_law (first
          | (refine step_call (by rfl) 56 _ _ (by rfl) (hcf _ _) #[.slice (some ⟨ob, oo, none⟩) k c] (by simp [Act.eval, Act.put]) (HCL.out _ HB0.out.1) (fun e w' h => by obtain ⟨_, _, rfl, _⟩ := h; exact ⟨_, rfl⟩) ?_; rintro v2 w2 ⟨A2, c2, hv2, h2, b2⟩; injection hv2 with hv2; subst hv2; obtain ⟨lb, hlb, hlst0⟩ := new_lst (c := c2) hlen hk0 h2.out; rw [hlb]; have hlst := hlst0.base (base' := rk + 1) HB0.out.2.1; clear hlst0 hlb; have hbel := HB0.out.1.trans (b2.mono HB0.out.1.size); have hrkB := bn_below HB0.out.2.2 b2; have Fa := fin_of (n := k) (cl := c2) (need := need) HU.out.2.1 hbel hrkB hlst (((Below.refl _ w2).alloc (Nat.le_refl _) _).alloc (by simp) _) (up_bn (nw_bn w2 4 _ HM.out.1) M2) (Nat.le_trans HB0.out.2.1 b2.size) (nw_bn1 w2 47 _ HM.out.2) (Nat.le_succ_of_le (Nat.le_trans HB0.out.2.1 b2.size)) (by decide) (by decide); obtain ⟨⟨ra0, ra1, ra2, ra3⟩, ⟨fa0, fa1, fa2, fa3⟩, HEa⟩ := Fa; have Fb := fin_of (n := k) (cl := c2) (need := need) HU.out.2.1 hbel hrkB hlst (((Below.refl _ w2).alloc (Nat.le_refl _) _).alloc (by simp) _) (nw_bn1 w2 4 _ HM.out.1) (Nat.le_succ_of_le (Nat.le_trans HB0.out.2.1 b2.size)) (up_bn (nw_bn w2 47 _ HM.out.2) M1) (Nat.le_trans HB0.out.2.1 b2.size) (by decide) (by decide); obtain ⟨⟨rb0, rb1, rb2, rb3⟩, ⟨fb0, fb1, fb2, fb3⟩, HEb⟩ := Fb; clear hrkB hlst hbel b2 h2)
          | (refine step_call (by rfl) 56 _ _ (by rfl) (hcf _ _) #[.slice (some ⟨ob, oo, none⟩) k c] (by simp [Act.eval]) (HCL.out _ HB1.out.1) (fun e w' h => by obtain ⟨_, _, rfl, _⟩ := h; exact ⟨_, rfl⟩) ?_; rintro v2 w2 ⟨A2, c2, hv2, h2, b2⟩; injection hv2 with hv2; subst hv2; obtain ⟨lb, hlb, hlst0⟩ := new_lst (c := c2) hlen hk0 h2.out; rw [hlb]; have hlst := hlst0.base (base' := rk + 1) HB1.out.2.1; clear hlst0 hlb; have hbel := HB1.out.1.trans (b2.mono HB1.out.1.size); have hrkB := bn_below HB1.out.2.2 b2; have Fa := fin_of (n := k) (cl := c2) (need := need) HU.out.2.1 hbel hrkB hlst ((Below.refl _ w2).alloc (Nat.le_refl _) _) (up_bn (bn_below HB1M.out b2) M2) hs2.out (nw_bn w2 47 _ HM.out.2) (Nat.le_trans HB1.out.2.1 b2.size) (by decide) (by decide); obtain ⟨⟨ra0, ra1, ra2, ra3⟩, ⟨fa0, fa1, fa2, fa3⟩, HEa⟩ := Fa; clear hrkB hlst hbel b2 h2)
          | (refine step_call (by rfl) 56 _ _ (by rfl) (hcf _ _) #[.slice (some ⟨ob, oo, none⟩) k c] (by simp [Act.eval]) (HCL.out _ HB2.out.1) (fun e w' h => by obtain ⟨_, _, rfl, _⟩ := h; exact ⟨_, rfl⟩) ?_; rintro v2 w2 ⟨A2, c2, hv2, h2, b2⟩; injection hv2 with hv2; subst hv2; obtain ⟨lb, hlb, hlst0⟩ := new_lst (c := c2) hlen hk0 h2.out; rw [hlb]; have hlst := hlst0.base (base' := rk + 1) HB2.out.2.1; clear hlst0 hlb; have hbel := HB2.out.1.trans (b2.mono HB2.out.1.size); have hrkB := bn_below HB2.out.2.2 b2; have Fa := fin_of (n := k) (cl := c2) (need := need) HU.out.2.1 hbel hrkB hlst ((Below.refl _ w2).alloc (Nat.le_refl _) _) (nw_bn w2 4 _ HM.out.1) (Nat.le_trans HB2.out.2.1 b2.size) (up_bn (bn_below HB2M.out b2) M1) hs2.out (by decide) (by decide); obtain ⟨⟨ra0, ra1, ra2, ra3⟩, ⟨fa0, fa1, fa2, fa3⟩, HEa⟩ := Fa; clear hrkB hlst hbel b2 h2)
          | (refine step_call (by rfl) 56 _ _ (by rfl) (hcf _ _) #[.slice (some ⟨ob, oo, none⟩) k c] (by simp [Act.eval]) (HCL.out _ HB12.out.1) (fun e w' h => by obtain ⟨_, _, rfl, _⟩ := h; exact ⟨_, rfl⟩) ?_; rintro v2 w2 ⟨A2, c2, hv2, h2, b2⟩; injection hv2 with hv2; subst hv2; obtain ⟨lb, hlb, hlst0⟩ := new_lst (c := c2) hlen hk0 h2.out; rw [hlb]; have hlst := hlst0.base (base' := rk + 1) HB12.out.2.1; clear hlst0 hlb; have hbel := HB12.out.1.trans (b2.mono HB12.out.1.size); have hrkB := bn_below HB12.out.2.2 b2; have Fa := fin_of (n := k) (cl := c2) (need := need) HU.out.2.1 hbel hrkB hlst (Below.refl _ w2) (bn_below HB12M.out.1 b2) hs2.out (bn_below HB12M.out.2 b2) (Nat.le_succ_of_le hs2.out) (by decide) (by decide); obtain ⟨⟨ra0, ra1, ra2, ra3⟩, ⟨fa0, fa1, fa2, fa3⟩, HEa⟩ := Fa; clear hrkB hlst hbel b2 h2)
          | (refine step_call (by rfl) 56 _ _ (by rfl) (hcf _ _) #[.slice (some ⟨ob, oo, none⟩) k c] (by simp [Act.eval]) (HCL.out _ HB21.out.1) (fun e w' h => by obtain ⟨_, _, rfl, _⟩ := h; exact ⟨_, rfl⟩) ?_; rintro v2 w2 ⟨A2, c2, hv2, h2, b2⟩; injection hv2 with hv2; subst hv2; obtain ⟨lb, hlb, hlst0⟩ := new_lst (c := c2) hlen hk0 h2.out; rw [hlb]; have hlst := hlst0.base (base' := rk + 1) HB21.out.2.1; clear hlst0 hlb; have hbel := HB21.out.1.trans (b2.mono HB21.out.1.size); have hrkB := bn_below HB21.out.2.2 b2; have Fa := fin_of (n := k) (cl := c2) (need := need) HU.out.2.1 hbel hrkB hlst (Below.refl _ w2) (bn_below HB21M.out.2 b2) (Nat.le_succ_of_le hs2.out) (bn_below HB21M.out.1 b2) hs2.out (by decide) (by decide); obtain ⟨⟨ra0, ra1, ra2, ra3⟩, ⟨fa0, fa1, fa2, fa3⟩, HEa⟩ := Fa; clear hrkB hlst hbel b2 h2))
        all_goals
          clear HB0 HB1 HB2 HB12 HB21 HB1M HB2M HB12M HB21M HCL HM
          first
            | (have u0 := (HEa.out.2.cell 0).trans rfl; have u1 := (HEa.out.2.cell 1).trans rfl; have u2 := (HEa.out.2.cell 2).trans rfl; have u3 := (HEa.out.2.cell 3).trans rfl; unfold four at u0 u1 u2 u3; go_wp2_with fail; refine bodyPost_ret (v := .tuple #[.agg #[.slice (some ⟨lb, 0, none⟩) k c2, .int .i64 need, .slice (some ⟨_, 0, none⟩) k k, .slice (some ⟨_, 0, none⟩) k k], .bool true]) ?_ rfl (.inr ⟨HOK.out, lb, c2, _, _, rfl, Lib.hid HEa.out.1⟩); rw [results_cell_tmp rfl]; go_simp)
            | (have u0 := (HEb.out.2.cell 0).trans rfl; have u1 := (HEb.out.2.cell 1).trans rfl; have u2 := (HEb.out.2.cell 2).trans rfl; have u3 := (HEb.out.2.cell 3).trans rfl; unfold four at u0 u1 u2 u3; go_wp2_with fail; refine bodyPost_ret (v := .tuple #[.agg #[.slice (some ⟨lb, 0, none⟩) k c2, .int .i64 need, .slice (some ⟨_, 0, none⟩) k k, .slice (some ⟨_, 0, none⟩) k k], .bool true]) ?_ rfl (.inr ⟨HOK.out, lb, c2, _, _, rfl, Lib.hid HEb.out.1⟩); rw [results_cell_tmp rfl]; go_simp)
  · have hno : ¬ okL ls need := fun ho => hb (by have := ho.1; have := HV.out.2; omega)
    have B1 := HU.out.2.2.2.1
    have r0 := (B1.cell 0).trans rfl
    have r1 := (B1.cell 1).trans rfl
    have r2 := (B1.cell 2).trans rfl
    have r3 := (B1.cell 3).trans rfl
    have f0 := B1.frozen 0
    have f1 := B1.frozen 1
    have f2 := B1.frozen 2
    have f3 := B1.frozen 3
    have HBB := Lib.hid (HBAD.out U (Below.refl _ _) hno)
    have BY := (((B1.set 0 (.slice none 0 0)).set 1 (.int .i64 0)).set 2 (.slice none 0 0)).set 3 (.slice none 0 0)
    simp only [List.set_cons_zero, List.set_cons_succ] at BY
    obtain ⟨Y, hY⟩ : ∃ Y, (((U.setCell ⟨rk, 0, none⟩ (.slice none 0 0)).setCell ⟨rk, 1, none⟩ (.int .i64 0)).setCell ⟨rk, 2, none⟩ (.slice none 0 0)).setCell ⟨rk, 3, none⟩ (.slice none 0 0) = Y := ⟨_, rfl⟩
    rw [hY] at BY HBB
    have u0 := (BY.cell 0).trans rfl
    have u1 := (BY.cell 1).trans rfl
    have u2 := (BY.cell 2).trans rfl
    have u3 := (BY.cell 3).trans rfl
    clear BY B1 hno
    by_cases h1 : (8 : Int) < (n : Int)
    · have g1 : decide ((8 : Int) < (n : Int)) = true := decide_eq_true h1
      go_enter Try.func38, Try.ntmps38
      go_upto_region 1 with fail
      rw [HU.out.1]
      go_wp2_with fail
      refine bodyPost_ret (v := .tuple #[.agg #[.slice none 0 0, .int .i64 0, .slice none 0 0, .slice none 0 0], .bool false]) ?_ rfl HBB.out.out
      rw [results_cell_tmp rfl]
      go_simp
    · by_cases h2 : need < 1
      · go_enter Try.func38, Try.ntmps38
        go_upto_region 1 with fail
        rw [HU.out.1]
        go_wp2_with fail
        refine bodyPost_ret (v := .tuple #[.agg #[.slice none 0 0, .int .i64 0, .slice none 0 0, .slice none 0 0], .bool false]) ?_ rfl HBB.out.out
        rw [results_cell_tmp rfl]
        go_simp
      · have h3 : (n : Int) < need := by omega
        go_enter Try.func38, Try.ntmps38
        go_upto_region 1 with fail
        rw [HU.out.1]
        go_wp2_with fail
        refine bodyPost_ret (v := .tuple #[.agg #[.slice none 0 0, .int .i64 0, .slice none 0 0, .slice none 0 0], .bool false]) ?_ rfl HBB.out.out
        rw [results_cell_tmp rfl]
        go_simp
end Quorum
end Go.Proofs.Ytbhidndgnldheaa

/-
  An asking is begun (writes). Written by gen16/begin.py.
-/
namespace Go.Proofs.Ytbhidndgnldheaa
namespace Quorum
open Go.RowKit Vers Span Blk
attribute [local go_sem ↓] Go.wp_at_zero Go.wp_at_succ

abbrev zeroW : List Value := [.slice none 0 0, .int .i64 0, .slice none 0 0, .slice none 0 0]
def BegunW (ls : List Int) (need : Int) (n : Nat) (w : World) (e : Ending) (w' : World) : Prop :=
  (¬ okL ls need ∧ e = .returned (.tuple #[.agg #[.slice none 0 0, .int .i64 0, .slice none 0 0, .slice none 0 0], .bool false]) ∧ Below w.heap.size w w') ∨
  (okL ls need ∧ ∃ lb cl cb ab, e = .returned (.tuple #[.agg #[.slice (some ⟨lb, 0, none⟩) n cl, .int .i64 need, .slice (some ⟨cb, 0, none⟩) n n, .slice (some ⟨ab, 0, none⟩) n n], .bool true]) ∧ Hid (Beg 38 [] w w' ls n lb cb ab))
set_option maxRecDepth 100000 in
set_option maxHeartbeats 4000000 in
theorem beginW_any (A : Option Addr) (c n : Nat) (ls : List Int) (hn : ls.length = n) (need : Int) (w : World) (hr : Ns .i64 w w.heap.size A ls) (hbig : n ≤ 140737488355328) (hnc : n ≤ c) :
    Calls Try.prog 35 #[.slice A n c, .int .i64 need] w (BegunW ls need n w) := by
  obtain ⟨U, hU⟩ : ∃ U, w.alloc (.cells #[.slice none 0 0, .int .i64 0, .slice none 0 0, .slice none 0 0] 35) = U := ⟨_, rfl⟩
  have bU : Below w.heap.size w U := by rw [← hU]; exact (Below.refl _ w).alloc (Nat.le_refl _) _
  have sU : U.heap.size = w.heap.size + 1 := by rw [← hU]; simp
  have BU : Bn w.heap.size 35 zeroW U := by rw [← hU]; exact heap_alloc_new w _
  obtain ⟨rk, hrk⟩ : ∃ k, w.heap.size = k := ⟨_, rfl⟩
  have HV := Lib.hid (And.intro hr hn)
  rw [hrk] at BU sU
  have HU := Lib.hid (And.intro hU (And.intro hrk (And.intro bU (And.intro BU sU))))
  clear hr hn hU bU BU sU
  have hbad : ∀ V : World, Below U.heap.size U V → ¬ okL ls need → Hid (BegunW ls need n w (.returned (.tuple #[.agg #[.slice none 0 0, .int .i64 0, .slice none 0 0, .slice none 0 0], .bool false])) ((((V.setCell ⟨rk, 0, none⟩ (.slice none 0 0)).setCell ⟨rk, 1, none⟩ (.int .i64 0)).setCell ⟨rk, 2, none⟩ (.slice none 0 0)).setCell ⟨rk, 3, none⟩ (.slice none 0 0))) := fun V hV ho => Lib.hid (.inl ⟨ho, rfl, by
    have h := HU.out.2.2.1.trans (hV.mono HU.out.2.2.1.size)
    rw [HU.out.2.1] at h ⊢
    exact (((h.setCell (Nat.le_refl _) _).setCell (Nat.le_refl _) _).setCell (Nat.le_refl _) _).setCell (Nat.le_refl _) _⟩)
  have HBAD := Lib.hid hbad
  clear hbad
  by_cases hb : (n : Int) ≤ 8 ∧ 1 ≤ need ∧ need ≤ (n : Int)
  · obtain ⟨hb1, hb2, hb3⟩ := hb
    have g1 : ¬ (8 : Int) < (n : Int) := by omega
    have g2 : ¬ need < 1 := by omega
    have g3 : ¬ (n : Int) < need := by omega
    obtain ⟨ob, oo, rfl, hbl, _⟩ := HV.out.1 (by have := HV.out.2; omega)
    have hc0 : ¬ 0 = c := by omega
    have hc1 : ¬ c = 0 := by omega
    go_enter Try.func35, Try.ntmps35
    go_wp2_with fail
    rw [HU.out.1]
    go_loopw [6, 7, 24] (fun _ _ q wr => ∃ k : Nat, q = .int .i64 k ∧ k ≤ n ∧ Hid (Below U.heap.size U wr ∧ Good ls k)) (fun _ _ q _ => n - (intOf q).toNat)
    case atStart => exact ⟨0, rfl, by omega, Lib.hid ⟨Below.refl _ _, good_zero ls⟩⟩
    case round =>
      obtain ⟨k, rfl, hk, hst⟩ := hrel
      by_cases hlt : k < n
      · obtain ⟨x, hx⟩ : ∃ x, ls[k]? = some x := ⟨ls[k]'(by have := HV.out.2; omega), by simp⟩
        have hbw := HU.out.2.2.1.trans (hst.out.1.mono HU.out.2.2.1.size)
        have hnw := HV.out.1.below hbw
        obtain ⟨b', o', e', _, hat⟩ := hnw (by have := HV.out.2; omega)
        injection e' with e'
        injection e' with e1 e2 _
        subst e1 e2
        have z0 := hat k (by have := HV.out.2; omega)
        rw [List.getD_eq_getElem?_getD, hx] at z0
        simp only [Option.getD_some] at z0
        have d1 : (0 : Int) ≤ (k : Int) := by omega
        have d2 : (k : Int) < (n : Int) := by omega
        have hkc : k ≤ c := by omega
        have d3 : (k : Int) ≤ (c : Int) := by omega
        have B1 := HU.out.2.2.2.1.same (hst.out.1.block rk HU.out.2.2.2.1.lt)
        have r0 := (B1.cell 0).trans rfl
        have r1 := (B1.cell 1).trans rfl
        have r2 := (B1.cell 2).trans rfl
        have r3 := (B1.cell 3).trans rfl
        have f0 := B1.frozen 0
        have f1 := B1.frozen 1
        have f2 := B1.frozen 2
        have f3 := B1.frozen 3
        by_cases hx1 : 1 ≤ x ∧ x ≤ 8
        · have g4 : ¬ x < 1 := by omega
          have g5 : ¬ (8 : Int) < x := by omega
          have HCO := Lib.hid (Ring.contains_any (some ⟨ob, oo, none⟩) c k (ls.take k) (by rw [List.length_take]; have := HV.out.2; omega) x wr ((hnw.take k).more (Nat.le_trans HU.out.2.2.1.size hst.out.1.size)) (by omega))
          have HX := Lib.hid hx
          clear hx hnw hat
          go_wp2_with fail
          refine HCO.out.mono ?_
          rintro e w2 ⟨rfl, b2⟩
          have hb2' := hst.out.1.trans (b2.mono hst.out.1.size)
          by_cases hin : x ∈ ls.take k
          · rw [decide_eq_true hin]
            have HBB := Lib.hid (HBAD.out w2 hb2' (good_not HX.out (.inr hin)))
            have B2 := B1.same (b2.block rk B1.lt)
            have r0 := (B2.cell 0).trans rfl
            have r1 := (B2.cell 1).trans rfl
            have r2 := (B2.cell 2).trans rfl
            have r3 := (B2.cell 3).trans rfl
            have f0 := B2.frozen 0
            have f1 := B2.frozen 1
            have f2 := B2.frozen 2
            have f3 := B2.frozen 3
            have BY := (((B2.set 0 (.slice none 0 0)).set 1 (.int .i64 0)).set 2 (.slice none 0 0)).set 3 (.slice none 0 0)
            simp only [List.set_cons_zero, List.set_cons_succ] at BY
            obtain ⟨Y, hY⟩ : ∃ Y, (((w2.setCell ⟨rk, 0, none⟩ (.slice none 0 0)).setCell ⟨rk, 1, none⟩ (.int .i64 0)).setCell ⟨rk, 2, none⟩ (.slice none 0 0)).setCell ⟨rk, 3, none⟩ (.slice none 0 0) = Y := ⟨_, rfl⟩
            rw [hY] at BY HBB
            have u0 := (BY.cell 0).trans rfl
            have u1 := (BY.cell 1).trans rfl
            have u2 := (BY.cell 2).trans rfl
            have u3 := (BY.cell 3).trans rfl
            clear BY B2 B1 b2 hb2' hst HCO
            go_wp2_with fail
            refine bodyPost_ret (v := .tuple #[.agg #[.slice none 0 0, .int .i64 0, .slice none 0 0, .slice none 0 0], .bool false]) ?_ rfl HBB.out.out
            rw [results_cell_tmp rfl]
            go_simp
          · rw [decide_eq_false hin]
            have HN : Hid (Below U.heap.size U w2 ∧ Good ls (k + 1)) := Lib.hid ⟨hb2', good_step hst.out.2 HX.out hx1 hin⟩
            clear b2 hb2' hst HCO B1
            go_wp2_with fail
            go_roundw
            case rel => exact ⟨k + 1, rfl, by omega, HN⟩
            case measure => simp only [intOf]; omega
        · have HBB := Lib.hid (HBAD.out wr hst.out.1 (good_not hx (.inl hx1)))
          have BY := (((B1.set 0 (.slice none 0 0)).set 1 (.int .i64 0)).set 2 (.slice none 0 0)).set 3 (.slice none 0 0)
          simp only [List.set_cons_zero, List.set_cons_succ] at BY
          obtain ⟨Y, hY⟩ : ∃ Y, (((wr.setCell ⟨rk, 0, none⟩ (.slice none 0 0)).setCell ⟨rk, 1, none⟩ (.int .i64 0)).setCell ⟨rk, 2, none⟩ (.slice none 0 0)).setCell ⟨rk, 3, none⟩ (.slice none 0 0) = Y := ⟨_, rfl⟩
          rw [hY] at BY HBB
          have u0 := (BY.cell 0).trans rfl
          have u1 := (BY.cell 1).trans rfl
          have u2 := (BY.cell 2).trans rfl
          have u3 := (BY.cell 3).trans rfl
          clear BY B1 hst hnw hat hx
          by_cases hx0 : x < 1
          · go_wp2_with fail
            refine bodyPost_ret (v := .tuple #[.agg #[.slice none 0 0, .int .i64 0, .slice none 0 0, .slice none 0 0], .bool false]) ?_ rfl HBB.out.out
            rw [results_cell_tmp rfl]
            go_simp
          · have hx8 : (8 : Int) < x := by omega
            go_wp2_with fail
            refine bodyPost_ret (v := .tuple #[.agg #[.slice none 0 0, .int .i64 0, .slice none 0 0, .slice none 0 0], .bool false]) ?_ rfl HBB.out.out
            rw [results_cell_tmp rfl]
            go_simp
      · obtain rfl : k = n := by omega
        have hokl : okL ls need := good_all (by have := HV.out.2; omega) (by rw [HV.out.2]; exact hst.out.2)
        have HOK := Lib.hid hokl
        clear hokl
        have hbU := hst.out.1
        have hw0 : Below w.heap.size w wr.drew := (HU.out.2.2.1.trans (hbU.mono HU.out.2.2.1.size)).drew
        have B0 : Bn rk 35 zeroW wr.drew := HU.out.2.2.2.1.same (hbU.block rk HU.out.2.2.2.1.lt)
        have hd : Below wr.drew.heap.size wr.drew wr.drew := Below.refl _ _
        have hm1 : ∀ W : World, (Instr.makeSlice 32 (.int .i64 (k : Int)) (.int .i64 (k : Int))).run Try.prog W = .ok (.slice (some ⟨W.heap.size, 0, none⟩) k k) (W.alloc (.cells (List.replicate k (.bool false)).toArray 4)) := fun W => by
          rw [← made_is]
          exact run_make_row' 32 4 (.bool false) 1 Try.underlying32 (by kernel_rfl) rfl .i64 .i64 k (by omega) (by omega) W
        have hm2 : ∀ W : World, (Instr.makeSlice 33 (.int .i64 (k : Int)) (.int .i64 (k : Int))).run Try.prog W = .ok (.slice (some ⟨W.heap.size, 0, none⟩) k k) (W.alloc (.cells ([] : List Value).toArray 38)) := fun W => by
          obtain ⟨i, hi, hzz⟩ := Option.map_eq_some_iff.1 (show (Try.prog.info? 38).map (fun i => (i.zero, i.size, i.bytes)) = some (some (.agg #[]), 0, 0) by kernel_rfl)
          simp only [Prod.mk.injEq] at hzz
          obtain ⟨hz, hs, hbb⟩ := hzz
          have hr := run_make (P := Try.prog) W 33 38 i (.agg #[]) Try.underlying33 hi hz .i64 .i64 k k (by omega) (Int.le_refl _) (by rw [hbb]; omega) (by omega)
          simp only [Int.toNat_natCast, hs, Nat.mul_zero] at hr
          rw [show madeCells (Value.agg #[]).cells 0 = #[] from by simp [madeCells]] at hr
          exact hr
        have HCL : Hid (∀ V, Below w.heap.size w V → Calls Try.prog 56 #[.slice (some ⟨ob, oo, none⟩) k c] V (Ints.NewI ls k V)) := Lib.hid fun V hV => Ints.clonei_any (some ⟨ob, oo, none⟩) c k ls HV.out.2 V ((HV.out.1.below hV).more hV.size) (by omega)
        have HM1 := Lib.hid hm1
        have HM2 := Lib.hid hm2
        have hcf : ∀ (a : Array Value) (w : World), (callFunc 56 a).run Try.prog w = .ok (.enter 56 a) w := fun a w => by simp [go_sem]
        have hk0 : 0 < k := by omega
        have hlen := HV.out.2
        clear hst hm1 hm2
        obtain ⟨M1, hM1⟩ : ∃ o, Obj.cells (List.replicate k (.bool false)).toArray 4 = o := ⟨_, rfl⟩
        obtain ⟨M2, hM2⟩ : ∃ o, Obj.cells ([] : List Value).toArray 38 = o := ⟨_, rfl⟩
        have hm1 := HM1.out
        have hm2 := HM2.out
        rw [hM1] at hm1
        rw [hM2] at hm2
        have HM := Lib.hid (And.intro hM1 hM2)
        have hs2 := Lib.hid (show rk + 1 ≤ wr.heap.size from B0.lt)
        have ba : ∀ (V : World) (o : Obj), Below V.heap.size V (V.alloc o) := fun V o => (Below.refl _ V).alloc (Nat.le_refl _) _
        have n1 : Bn wr.heap.size 4 (List.replicate k (.bool false)) (wr.drew.alloc M1) := by rw [← hM1]; exact heap_alloc_new wr.drew _
        have n2 : Bn wr.heap.size 38 ([] : List Value) (wr.drew.alloc M2) := by rw [← hM2]; exact heap_alloc_new wr.drew _
        have n12 : Bn (wr.heap.size + 1) 38 ([] : List Value) ((wr.drew.alloc M1).alloc M2) := by
          have h : Bn (wr.drew.alloc M1).heap.size 38 ([] : List Value) ((wr.drew.alloc M1).alloc M2) := by rw [← hM2]; exact heap_alloc_new _ _
          rwa [World.size_alloc] at h
        have n21 : Bn (wr.heap.size + 1) 4 (List.replicate k (.bool false)) ((wr.drew.alloc M2).alloc M1) := by
          have h : Bn (wr.drew.alloc M2).heap.size 4 (List.replicate k (.bool false)) ((wr.drew.alloc M2).alloc M1) := by rw [← hM1]; exact heap_alloc_new _ _
          rwa [World.size_alloc] at h
        have HB0 := Lib.hid (And.intro hw0 (And.intro (show rk + 1 ≤ wr.drew.heap.size from B0.lt) B0))
        have HB1 : Hid (Below w.heap.size w (wr.drew.alloc M1) ∧ rk + 1 ≤ (wr.drew.alloc M1).heap.size ∧ Bn rk 35 zeroW (wr.drew.alloc M1)) := Lib.hid ⟨hw0.trans ((ba _ _).mono hw0.size), Nat.le_trans B0.lt (ba wr.drew M1).size, bn_below B0 (ba _ _)⟩
        have HB2 : Hid (Below w.heap.size w (wr.drew.alloc M2) ∧ rk + 1 ≤ (wr.drew.alloc M2).heap.size ∧ Bn rk 35 zeroW (wr.drew.alloc M2)) := Lib.hid ⟨hw0.trans ((ba _ _).mono hw0.size), Nat.le_trans B0.lt (ba wr.drew M2).size, bn_below B0 (ba _ _)⟩
        have HB12 : Hid (Below w.heap.size w ((wr.drew.alloc M1).alloc M2) ∧ rk + 1 ≤ ((wr.drew.alloc M1).alloc M2).heap.size ∧ Bn rk 35 zeroW ((wr.drew.alloc M1).alloc M2)) := Lib.hid ⟨HB1.out.1.trans ((ba _ _).mono HB1.out.1.size), Nat.le_trans HB1.out.2.1 (ba _ M2).size, bn_below HB1.out.2.2 (ba _ _)⟩
        have HB21 : Hid (Below w.heap.size w ((wr.drew.alloc M2).alloc M1) ∧ rk + 1 ≤ ((wr.drew.alloc M2).alloc M1).heap.size ∧ Bn rk 35 zeroW ((wr.drew.alloc M2).alloc M1)) := Lib.hid ⟨HB2.out.1.trans ((ba _ _).mono HB2.out.1.size), Nat.le_trans HB2.out.2.1 (ba _ M1).size, bn_below HB2.out.2.2 (ba _ _)⟩
        have HB1M := Lib.hid n1
        have HB2M := Lib.hid n2
        have HB12M := Lib.hid (And.intro (bn_below n1 (ba (wr.drew.alloc M1) M2)) n12)
        have HB21M := Lib.hid (And.intro (bn_below n2 (ba (wr.drew.alloc M2) M1)) n21)
        clear hM1 hM2 HM1 HM2 ba n1 n2 n12 n21 B0 hw0 hbU hd
        go_wp2_with fail
        go_region_law (first
          | (refine step_call (by rfl) 56 _ _ (by rfl) (hcf _ _) #[.slice (some ⟨ob, oo, none⟩) k c] (by simp [Act.eval, Act.put]) (HCL.out _ HB0.out.1) (fun e w' h => by obtain ⟨_, _, rfl, _⟩ := h; exact ⟨_, rfl⟩) ?_; rintro v2 w2 ⟨A2, c2, hv2, h2, b2⟩; injection hv2 with hv2; subst hv2; obtain ⟨lb, hlb, hlst0⟩ := new_lst (c := c2) hlen hk0 h2.out; rw [hlb]; have hlst := hlst0.base (base' := rk + 1) HB0.out.2.1; clear hlst0 hlb; have hbel := HB0.out.1.trans (b2.mono HB0.out.1.size); have hrkB := bn_below HB0.out.2.2 b2; have Fa := fin_of (n := k) (cl := c2) (need := need) HU.out.2.1 hbel hrkB hlst (((Below.refl _ w2).alloc (Nat.le_refl _) _).alloc (by simp) _) (up_bn (nw_bn w2 4 _ HM.out.1) M2) (Nat.le_trans HB0.out.2.1 b2.size) (nw_bn1 w2 38 _ HM.out.2) (Nat.le_succ_of_le (Nat.le_trans HB0.out.2.1 b2.size)) (by decide) (by decide); obtain ⟨⟨ra0, ra1, ra2, ra3⟩, ⟨fa0, fa1, fa2, fa3⟩, HEa⟩ := Fa; have Fb := fin_of (n := k) (cl := c2) (need := need) HU.out.2.1 hbel hrkB hlst (((Below.refl _ w2).alloc (Nat.le_refl _) _).alloc (by simp) _) (nw_bn1 w2 4 _ HM.out.1) (Nat.le_succ_of_le (Nat.le_trans HB0.out.2.1 b2.size)) (up_bn (nw_bn w2 38 _ HM.out.2) M1) (Nat.le_trans HB0.out.2.1 b2.size) (by decide) (by decide); obtain ⟨⟨rb0, rb1, rb2, rb3⟩, ⟨fb0, fb1, fb2, fb3⟩, HEb⟩ := Fb; clear hrkB hlst hbel b2 h2)
          | (refine step_call (by rfl) 56 _ _ (by rfl) (hcf _ _) #[.slice (some ⟨ob, oo, none⟩) k c] (by simp [Act.eval]) (HCL.out _ HB1.out.1) (fun e w' h => by obtain ⟨_, _, rfl, _⟩ := h; exact ⟨_, rfl⟩) ?_; rintro v2 w2 ⟨A2, c2, hv2, h2, b2⟩; injection hv2 with hv2; subst hv2; obtain ⟨lb, hlb, hlst0⟩ := new_lst (c := c2) hlen hk0 h2.out; rw [hlb]; have hlst := hlst0.base (base' := rk + 1) HB1.out.2.1; clear hlst0 hlb; have hbel := HB1.out.1.trans (b2.mono HB1.out.1.size); have hrkB := bn_below HB1.out.2.2 b2; have Fa := fin_of (n := k) (cl := c2) (need := need) HU.out.2.1 hbel hrkB hlst ((Below.refl _ w2).alloc (Nat.le_refl _) _) (up_bn (bn_below HB1M.out b2) M2) hs2.out (nw_bn w2 38 _ HM.out.2) (Nat.le_trans HB1.out.2.1 b2.size) (by decide) (by decide); obtain ⟨⟨ra0, ra1, ra2, ra3⟩, ⟨fa0, fa1, fa2, fa3⟩, HEa⟩ := Fa; clear hrkB hlst hbel b2 h2)
          | (refine step_call (by rfl) 56 _ _ (by rfl) (hcf _ _) #[.slice (some ⟨ob, oo, none⟩) k c] (by simp [Act.eval]) (HCL.out _ HB2.out.1) (fun e w' h => by obtain ⟨_, _, rfl, _⟩ := h; exact ⟨_, rfl⟩) ?_; rintro v2 w2 ⟨A2, c2, hv2, h2, b2⟩; injection hv2 with hv2; subst hv2; obtain ⟨lb, hlb, hlst0⟩ := new_lst (c := c2) hlen hk0 h2.out; rw [hlb]; have hlst := hlst0.base (base' := rk + 1) HB2.out.2.1; clear hlst0 hlb; have hbel := HB2.out.1.trans (b2.mono HB2.out.1.size); have hrkB := bn_below HB2.out.2.2 b2; have Fa := fin_of (n := k) (cl := c2) (need := need) HU.out.2.1 hbel hrkB hlst ((Below.refl _ w2).alloc (Nat.le_refl _) _) (nw_bn w2 4 _ HM.out.1) (Nat.le_trans HB2.out.2.1 b2.size) (up_bn (bn_below HB2M.out b2) M1) hs2.out (by decide) (by decide); obtain ⟨⟨ra0, ra1, ra2, ra3⟩, ⟨fa0, fa1, fa2, fa3⟩, HEa⟩ := Fa; clear hrkB hlst hbel b2 h2)
          | (refine step_call (by rfl) 56 _ _ (by rfl) (hcf _ _) #[.slice (some ⟨ob, oo, none⟩) k c] (by simp [Act.eval]) (HCL.out _ HB12.out.1) (fun e w' h => by obtain ⟨_, _, rfl, _⟩ := h; exact ⟨_, rfl⟩) ?_; rintro v2 w2 ⟨A2, c2, hv2, h2, b2⟩; injection hv2 with hv2; subst hv2; obtain ⟨lb, hlb, hlst0⟩ := new_lst (c := c2) hlen hk0 h2.out; rw [hlb]; have hlst := hlst0.base (base' := rk + 1) HB12.out.2.1; clear hlst0 hlb; have hbel := HB12.out.1.trans (b2.mono HB12.out.1.size); have hrkB := bn_below HB12.out.2.2 b2; have Fa := fin_of (n := k) (cl := c2) (need := need) HU.out.2.1 hbel hrkB hlst (Below.refl _ w2) (bn_below HB12M.out.1 b2) hs2.out (bn_below HB12M.out.2 b2) (Nat.le_succ_of_le hs2.out) (by decide) (by decide); obtain ⟨⟨ra0, ra1, ra2, ra3⟩, ⟨fa0, fa1, fa2, fa3⟩, HEa⟩ := Fa; clear hrkB hlst hbel b2 h2)
          | (refine step_call (by rfl) 56 _ _ (by rfl) (hcf _ _) #[.slice (some ⟨ob, oo, none⟩) k c] (by simp [Act.eval]) (HCL.out _ HB21.out.1) (fun e w' h => by obtain ⟨_, _, rfl, _⟩ := h; exact ⟨_, rfl⟩) ?_; rintro v2 w2 ⟨A2, c2, hv2, h2, b2⟩; injection hv2 with hv2; subst hv2; obtain ⟨lb, hlb, hlst0⟩ := new_lst (c := c2) hlen hk0 h2.out; rw [hlb]; have hlst := hlst0.base (base' := rk + 1) HB21.out.2.1; clear hlst0 hlb; have hbel := HB21.out.1.trans (b2.mono HB21.out.1.size); have hrkB := bn_below HB21.out.2.2 b2; have Fa := fin_of (n := k) (cl := c2) (need := need) HU.out.2.1 hbel hrkB hlst (Below.refl _ w2) (bn_below HB21M.out.2 b2) (Nat.le_succ_of_le hs2.out) (bn_below HB21M.out.1 b2) hs2.out (by decide) (by decide); obtain ⟨⟨ra0, ra1, ra2, ra3⟩, ⟨fa0, fa1, fa2, fa3⟩, HEa⟩ := Fa; clear hrkB hlst hbel b2 h2))
        all_goals
          clear HB0 HB1 HB2 HB12 HB21 HB1M HB2M HB12M HB21M HCL HM
          first
            | (have u0 := (HEa.out.2.cell 0).trans rfl; have u1 := (HEa.out.2.cell 1).trans rfl; have u2 := (HEa.out.2.cell 2).trans rfl; have u3 := (HEa.out.2.cell 3).trans rfl; unfold four at u0 u1 u2 u3; go_wp2_with fail; refine bodyPost_ret (v := .tuple #[.agg #[.slice (some ⟨lb, 0, none⟩) k c2, .int .i64 need, .slice (some ⟨_, 0, none⟩) k k, .slice (some ⟨_, 0, none⟩) k k], .bool true]) ?_ rfl (.inr ⟨HOK.out, lb, c2, _, _, rfl, Lib.hid HEa.out.1⟩); rw [results_cell_tmp rfl]; go_simp)
            | (have u0 := (HEb.out.2.cell 0).trans rfl; have u1 := (HEb.out.2.cell 1).trans rfl; have u2 := (HEb.out.2.cell 2).trans rfl; have u3 := (HEb.out.2.cell 3).trans rfl; unfold four at u0 u1 u2 u3; go_wp2_with fail; refine bodyPost_ret (v := .tuple #[.agg #[.slice (some ⟨lb, 0, none⟩) k c2, .int .i64 need, .slice (some ⟨_, 0, none⟩) k k, .slice (some ⟨_, 0, none⟩) k k], .bool true]) ?_ rfl (.inr ⟨HOK.out, lb, c2, _, _, rfl, Lib.hid HEb.out.1⟩); rw [results_cell_tmp rfl]; go_simp)
  · have hno : ¬ okL ls need := fun ho => hb (by have := ho.1; have := HV.out.2; omega)
    have B1 := HU.out.2.2.2.1
    have r0 := (B1.cell 0).trans rfl
    have r1 := (B1.cell 1).trans rfl
    have r2 := (B1.cell 2).trans rfl
    have r3 := (B1.cell 3).trans rfl
    have f0 := B1.frozen 0
    have f1 := B1.frozen 1
    have f2 := B1.frozen 2
    have f3 := B1.frozen 3
    have HBB := Lib.hid (HBAD.out U (Below.refl _ _) hno)
    have BY := (((B1.set 0 (.slice none 0 0)).set 1 (.int .i64 0)).set 2 (.slice none 0 0)).set 3 (.slice none 0 0)
    simp only [List.set_cons_zero, List.set_cons_succ] at BY
    obtain ⟨Y, hY⟩ : ∃ Y, (((U.setCell ⟨rk, 0, none⟩ (.slice none 0 0)).setCell ⟨rk, 1, none⟩ (.int .i64 0)).setCell ⟨rk, 2, none⟩ (.slice none 0 0)).setCell ⟨rk, 3, none⟩ (.slice none 0 0) = Y := ⟨_, rfl⟩
    rw [hY] at BY HBB
    have u0 := (BY.cell 0).trans rfl
    have u1 := (BY.cell 1).trans rfl
    have u2 := (BY.cell 2).trans rfl
    have u3 := (BY.cell 3).trans rfl
    clear BY B1 hno
    by_cases h1 : (8 : Int) < (n : Int)
    · have g1 : decide ((8 : Int) < (n : Int)) = true := decide_eq_true h1
      go_enter Try.func35, Try.ntmps35
      go_upto_region 1 with fail
      rw [HU.out.1]
      go_wp2_with fail
      refine bodyPost_ret (v := .tuple #[.agg #[.slice none 0 0, .int .i64 0, .slice none 0 0, .slice none 0 0], .bool false]) ?_ rfl HBB.out.out
      rw [results_cell_tmp rfl]
      go_simp
    · by_cases h2 : need < 1
      · go_enter Try.func35, Try.ntmps35
        go_upto_region 1 with fail
        rw [HU.out.1]
        go_wp2_with fail
        refine bodyPost_ret (v := .tuple #[.agg #[.slice none 0 0, .int .i64 0, .slice none 0 0, .slice none 0 0], .bool false]) ?_ rfl HBB.out.out
        rw [results_cell_tmp rfl]
        go_simp
      · have h3 : (n : Int) < need := by omega
        go_enter Try.func35, Try.ntmps35
        go_upto_region 1 with fail
        rw [HU.out.1]
        go_wp2_with fail
        refine bodyPost_ret (v := .tuple #[.agg #[.slice none 0 0, .int .i64 0, .slice none 0 0, .slice none 0 0], .bool false]) ?_ rfl HBB.out.out
        rw [results_cell_tmp rfl]
        go_simp
end Quorum
end Go.Proofs.Ytbhidndgnldheaa

/-
  An asking is made; a node answers. Written by gen16/new.py.
-/
namespace Go.Proofs.Ytbhidndgnldheaa
namespace Quorum
open Go.RowKit Vers Span Blk
attribute [local go_sem ↓] Go.wp_at_zero Go.wp_at_succ

theorem start_len (ls : List Int) : (startF ls).length = ls.length := by simp [startF]
theorem start_fst (ls : List Int) : (startF ls).map Prod.fst = ls := by simp [startF, List.map_map, Function.comp_def]
theorem start_at {ls : List Int} {j : Nat} {e : En} (h : (startF ls)[j]? = some e) : ∃ x, ls[j]? = some x ∧ e = (x, false, []) := by
  unfold startF at h
  rw [List.getElem?_map] at h
  obtain ⟨x, hx, rfl⟩ := Option.map_eq_some_iff.1 h
  exact ⟨x, hx, rfl⟩
theorem map_const {α β : Type} (l : List α) (b : β) : l.map (fun _ => b) = List.replicate l.length b := by
  induction l with
  | nil => rfl
  | cons x l ih => rw [List.map_cons, ih]; rfl
/-- The asking as it begins. -/
theorem beg_core {t T : TypeId} {z : List Value} {w w1 W : World} {ls : List Int} {need : Int} {n rb lb cl cb ab : Nat} (h : Beg t z w w1 ls n lb cb ab) (hb : Below w1.heap.size w1 W) (hr : Bn rb T [.slice (some ⟨lb, 0, none⟩) n cl, .int .i64 need, .slice (some ⟨cb, 0, none⟩) n n, .slice (some ⟨ab, 0, none⟩) n n] W) (hw : w1.heap.size ≤ rb) (hn : ls.length = n) (ho : okL ls need) :
    Core T (fun k => w.heap.size ≤ k ∧ k < W.heap.size) W rb need (startF ls) n lb cl cb ab [] := by
  obtain ⟨h1, ⟨h2, h3, h4⟩, ⟨h5, h6⟩, h7, h8, h9⟩ := h
  have hs := hb.size
  have hcl := h7.lt
  have hal := h8.lt
  have hrl := hr.lt
  refine ⟨⟨by simpa using hr, by rw [start_len]; exact hn, by have := ho.1; omega, by have := ho.1; omega⟩, ⟨by omega, fun j e he => ?_⟩, ?_, ⟨⟨by have := h1.size; omega, hrl⟩, ⟨h2, by omega⟩, ⟨h3, by omega⟩, ⟨h4, by omega⟩, fun k hk => hk.2⟩, ⟨h9.1, h9.2.1, by omega, by omega, h9.2.2, by omega⟩⟩
  · obtain ⟨x, hx, rfl⟩ := start_at he
    exact (hb.cell (p := ⟨lb, j, none⟩) h5).trans (h6 j x hx)
  · have := bn_below h7 hb
    rwa [show (startF ls).map (fun e => Value.bool e.2.1) = List.replicate n (.bool false) by rw [← hn, startF, List.map_map, ← map_const]; rfl]
theorem beg_ans {w w1 W : World} {ls : List Int} {n lb cb ab : Nat} (h : Beg 47 (List.replicate n (.slice none 0 0)) w w1 ls n lb cb ab) (hb : Below w1.heap.size w1 W) (hn : ls.length = n) (F : Nat → Prop) : Ans F W (startF ls) (List.replicate n (none, 0)) cb ab := by
  refine ⟨by rw [List.length_replicate, start_len, hn], ?_, fun j e p he hp => ?_⟩
  · have := bn_below h.2.2.2.2.1 hb
    have e : ((startF ls).zip (List.replicate n ((none, 0) : Plc))).map (fun e => Value.slice e.2.1 e.1.2.2.length e.2.2) = List.replicate n (.slice none 0 0) := by
      subst hn
      unfold startF
      clear this h
      induction ls with
      | nil => rfl
      | cons x l ih =>
        rw [List.length_cons, List.replicate_succ, List.map_cons, List.zip_cons_cons, List.map_cons, ih, List.replicate_succ]
        rfl
    rwa [e]
  · obtain ⟨x, hx, rfl⟩ := start_at he
    have hp' : p = (none, 0) := (List.eq_of_mem_replicate (List.mem_of_getElem? hp))
    subst hp'
    exact ⟨Nat.zero_le _, Nat.zero_le _, 0, 0, fun h => absurd h (by simp), Nat.zero_le _, fun k _ hk => absurd hk (Nat.not_lt_zero k)⟩
def NewedR (ls : List Int) (need : Int) (n : Nat) (w : World) (e : Ending) (w' : World) : Prop :=
  (¬ okL ls need ∧ e = .returned (.tuple #[.pointer none, .int .i64 1]) ∧ Below w.heap.size w w') ∨
  (okL ls need ∧ ∃ rb lb cl cb ab, e = .returned (.tuple #[hd rb, .int .i64 0]) ∧ Hid (Core 55 (fun k => w.heap.size ≤ k ∧ k < w'.heap.size) w' rb need (startF ls) n lb cl cb ab [] ∧ Ans (fun k => w.heap.size ≤ k ∧ k < w'.heap.size) w' (startF ls) (List.replicate n (none, 0)) cb ab ∧ Below w.heap.size w w'))
set_option maxRecDepth 100000 in
set_option maxHeartbeats 1000000 in
theorem newR_any (A : Option Addr) (c n : Nat) (ls : List Int) (hn : ls.length = n) (need : Int) (w : World) (hr : Ns .i64 w w.heap.size A ls) (hbig : n ≤ 140737488355328) (hnc : n ≤ c) :
    Calls Try.prog 18 #[.slice A n c, .int .i64 need] w (NewedR ls need n w) := by
  have HB := Lib.hid (beginR_any A c n ls hn need w hr hbig hnc)
  have HN := Lib.hid hn
  clear hr hn
  go_enter Try.func18, Try.ntmps18
  go_wp2_with fail
  refine HB.out.mono ?_
  rintro e w1 (⟨hno, rfl, b1⟩ | ⟨hok, lb, cl, cb, ab, rfl, hbeg⟩)
  · have b2 : Below w.heap.size w (w1.alloc (.cells #[.slice none 0 0, .int .i64 0, .slice none 0 0, .slice none 0 0] 53)) := b1.alloc b1.size _
    have HE := Lib.hid (And.intro hno b2)
    clear hno b1 b2 HB
    go_wp2_with fail
    go_ret2
    exact .inl ⟨HE.out.1, rfl, HE.out.2⟩
  · obtain ⟨W1, hW1⟩ : ∃ W, w1.alloc (.cells #[.slice (some ⟨lb, 0, none⟩) n cl, .int .i64 need, .slice (some ⟨cb, 0, none⟩) n n, .slice (some ⟨ab, 0, none⟩) n n] 53) = W := ⟨_, rfl⟩
    have b1 : Below w1.heap.size w1 W1 := by rw [← hW1]; exact (Below.refl _ w1).alloc (Nat.le_refl _) _
    have B1 : Bn w1.heap.size 53 [.slice (some ⟨lb, 0, none⟩) n cl, .int .i64 need, .slice (some ⟨cb, 0, none⟩) n n, .slice (some ⟨ab, 0, none⟩) n n] W1 := by rw [← hW1]; exact heap_alloc_new w1 _
    obtain ⟨W2, hW2⟩ : ∃ W, W1.alloc (.cells #[.slice (some ⟨lb, 0, none⟩) n cl, .int .i64 need, .slice (some ⟨cb, 0, none⟩) n n, .slice (some ⟨ab, 0, none⟩) n n] 55) = W := ⟨_, rfl⟩
    have b2 : Below W1.heap.size W1 W2 := by rw [← hW2]; exact (Below.refl _ W1).alloc (Nat.le_refl _) _
    have B2 : Bn W1.heap.size 55 [.slice (some ⟨lb, 0, none⟩) n cl, .int .i64 need, .slice (some ⟨cb, 0, none⟩) n n, .slice (some ⟨ab, 0, none⟩) n n] W2 := by rw [← hW2]; exact heap_alloc_new W1 _
    have b12 := b1.trans (b2.mono b1.size)
    have hc := beg_core hbeg.out b12 B2 b1.size HN.out hok
    have hbw := hbeg.out.1.trans (b12.mono hbeg.out.1.size)
    have x0 := (B1.cell 0).trans rfl
    have x1 := (B1.cell 1).trans rfl
    have x2 := (B1.cell 2).trans rfl
    have x3 := (B1.cell 3).trans rfl
    obtain ⟨rb, hrb⟩ : ∃ k, W1.heap.size = k := ⟨_, rfl⟩
    rw [hrb] at hc
    have HE : Hid (Core 55 (fun k => w.heap.size ≤ k ∧ k < W2.heap.size) W2 rb need (startF ls) n lb cl cb ab [] ∧ Ans (fun k => w.heap.size ≤ k ∧ k < W2.heap.size) W2 (startF ls) (List.replicate n (none, 0)) cb ab ∧ Below w.heap.size w W2) := Lib.hid ⟨hc, beg_ans hbeg.out b12 HN.out _, hbw⟩
    have HO := Lib.hid hok
    have HW := Lib.hid (And.intro hW1 (And.intro hW2 hrb))
    clear hbeg hc hbw b1 b2 b12 B1 B2 hW1 hW2 hrb hok HB
    go_upto_region 2 with fail
    rw [HW.out.1]
    go_wp2_with fail
    rw [HW.out.2.1, HW.out.2.2]
    go_ret2
    exact .inr ⟨HO.out, rb, lb, cl, cb, ab, rfl, HE⟩
def NewedW (ls : List Int) (need : Int) (n : Nat) (w : World) (e : Ending) (w' : World) : Prop :=
  (¬ okL ls need ∧ e = .returned (.tuple #[.pointer none, .int .i64 1]) ∧ Below w.heap.size w w') ∨
  (okL ls need ∧ ∃ rb lb cl cb ab, e = .returned (.tuple #[hd rb, .int .i64 0]) ∧ Hid (Core 37 (fun k => w.heap.size ≤ k ∧ k < w'.heap.size) w' rb need (startF ls) n lb cl cb ab [] ∧ Below w.heap.size w w'))
set_option maxRecDepth 100000 in
set_option maxHeartbeats 1000000 in
theorem newW_any (A : Option Addr) (c n : Nat) (ls : List Int) (hn : ls.length = n) (need : Int) (w : World) (hr : Ns .i64 w w.heap.size A ls) (hbig : n ≤ 140737488355328) (hnc : n ≤ c) :
    Calls Try.prog 7 #[.slice A n c, .int .i64 need] w (NewedW ls need n w) := by
  have HB := Lib.hid (beginW_any A c n ls hn need w hr hbig hnc)
  have HN := Lib.hid hn
  clear hr hn
  go_enter Try.func7, Try.ntmps7
  go_wp2_with fail
  refine HB.out.mono ?_
  rintro e w1 (⟨hno, rfl, b1⟩ | ⟨hok, lb, cl, cb, ab, rfl, hbeg⟩)
  · have b2 : Below w.heap.size w (w1.alloc (.cells #[.slice none 0 0, .int .i64 0, .slice none 0 0, .slice none 0 0] 35)) := b1.alloc b1.size _
    have HE := Lib.hid (And.intro hno b2)
    clear hno b1 b2 HB
    go_wp2_with fail
    go_ret2
    exact .inl ⟨HE.out.1, rfl, HE.out.2⟩
  · obtain ⟨W1, hW1⟩ : ∃ W, w1.alloc (.cells #[.slice (some ⟨lb, 0, none⟩) n cl, .int .i64 need, .slice (some ⟨cb, 0, none⟩) n n, .slice (some ⟨ab, 0, none⟩) n n] 35) = W := ⟨_, rfl⟩
    have b1 : Below w1.heap.size w1 W1 := by rw [← hW1]; exact (Below.refl _ w1).alloc (Nat.le_refl _) _
    have B1 : Bn w1.heap.size 35 [.slice (some ⟨lb, 0, none⟩) n cl, .int .i64 need, .slice (some ⟨cb, 0, none⟩) n n, .slice (some ⟨ab, 0, none⟩) n n] W1 := by rw [← hW1]; exact heap_alloc_new w1 _
    obtain ⟨W2, hW2⟩ : ∃ W, W1.alloc (.cells #[.slice (some ⟨lb, 0, none⟩) n cl, .int .i64 need, .slice (some ⟨cb, 0, none⟩) n n, .slice (some ⟨ab, 0, none⟩) n n] 37) = W := ⟨_, rfl⟩
    have b2 : Below W1.heap.size W1 W2 := by rw [← hW2]; exact (Below.refl _ W1).alloc (Nat.le_refl _) _
    have B2 : Bn W1.heap.size 37 [.slice (some ⟨lb, 0, none⟩) n cl, .int .i64 need, .slice (some ⟨cb, 0, none⟩) n n, .slice (some ⟨ab, 0, none⟩) n n] W2 := by rw [← hW2]; exact heap_alloc_new W1 _
    have b12 := b1.trans (b2.mono b1.size)
    have hc := beg_core hbeg.out b12 B2 b1.size HN.out hok
    have hbw := hbeg.out.1.trans (b12.mono hbeg.out.1.size)
    have x0 := (B1.cell 0).trans rfl
    have x1 := (B1.cell 1).trans rfl
    have x2 := (B1.cell 2).trans rfl
    have x3 := (B1.cell 3).trans rfl
    obtain ⟨rb, hrb⟩ : ∃ k, W1.heap.size = k := ⟨_, rfl⟩
    rw [hrb] at hc
    have HE : Hid (Core 37 (fun k => w.heap.size ≤ k ∧ k < W2.heap.size) W2 rb need (startF ls) n lb cl cb ab [] ∧ Below w.heap.size w W2) := Lib.hid ⟨hc, hbw⟩
    have HO := Lib.hid hok
    have HW := Lib.hid (And.intro hW1 (And.intro hW2 hrb))
    clear hbeg hc hbw b1 b2 b12 B1 B2 hW1 hW2 hrb hok HB
    go_upto_region 2 with fail
    rw [HW.out.1]
    go_wp2_with fail
    rw [HW.out.2.1, HW.out.2.2]
    go_ret2
    exact .inr ⟨HO.out, rb, lb, cl, cb, ab, rfl, HE⟩
set_option maxRecDepth 100000 in
theorem ack_any {T : TypeId} {F : Nat → Prop} {w : World} {rb n lb cl cb ab : Nat} {need : Int} {l : List En} {x : List Value} (h : Core T F w rb need l n lb cl cb ab x) (hnd : (l.map Prod.fst).Nodup) (node : Int) {b : Bool} {l' : List En} (hc : countF l node [] = (b, l')) :
    Calls Try.prog 11 #[hd rb, .int .i64 node] w (fun e w' => e = .returned (.bool b) ∧ Hid (Core T F w' rb need l' n lb cl cb ab x ∧ Chg F w w')) := by
  have HC := Lib.hid (countW_any h hnd node hc)
  clear h hnd hc
  go_enter Try.func11, Try.ntmps11
  go_wp2_with fail
  refine HC.out.mono ?_
  rintro e w1 ⟨rfl, h1⟩
  go_wp2_with fail
  go_ret
  exact ⟨rfl, h1⟩
end Quorum
end Go.Proofs.Ytbhidndgnldheaa
