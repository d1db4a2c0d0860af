/-
  Copies: of numbers, of versions: what is made has no memory in common with what it was made of (layer 11).
-/
import Derived.Test.YtbaclinjimfncaaGreatGFill
import Derived.Test.YtbaclinjimfncaaGreatGPut
namespace Go.Proofs.YtbaclinjimfncaaGreat
namespace Tree
open Go.RowKit Vers Span Blk
attribute [local go_sem ↓] Go.wp_at_zero Go.wp_at_succ

theorem info_int : (Tryz.prog.info? 3).map (fun i => (i.zero, i.size, i.bytes)) = some (some (.int .i64 0), 1, 8) := by kernel_rfl
/-- A row that lies in a block of cells: it can be written. -/
def Tn (t : TypeId) (w : World) (n : Nat) (A : Option Addr) : Prop := 0 < n → ∀ a, A = some a → ∃ cur, w.heap[a.block]? = some (.cells cur t (0, 0))
theorem Tn.same {t : TypeId} {w w' : World} {n : Nat} {A : Option Addr} (h : Tn t w n A) (hk : ∀ a, 0 < n → A = some a → w'.heap[a.block]? = w.heap[a.block]?) : Tn t w' n A := fun hn a ha => by
  obtain ⟨cur, hc⟩ := h hn a ha
  exact ⟨cur, (hk a hn ha).trans hc⟩
theorem Tn.lt {t : TypeId} {w : World} {n : Nat} {A : Option Addr} (h : Tn t w n A) (hn : 0 < n) {a : Addr} (ha : A = some a) : a.block < w.heap.size := by
  obtain ⟨cur, hc⟩ := h hn a ha
  exact (Array.getElem?_eq_some_iff.1 hc).1
theorem own_tn {w : World} {base : Nat} {e : TypeId} {size : Nat} {A : Option Addr} {c n : Nat} {us : List Value} (h : w.ownsRow base e size (.slice A n c) n us) : Tn e w n A := by
  rcases h.2 with ⟨hv, h0⟩ | ⟨g, cap, cur, hv, hbg, hg, _⟩
  · subst h0
    exact fun h => absurd h (by omega)
  · injection hv with h1 h2 h3
    subst h1
    exact fun _ a ha => by injection ha with ha; subst ha; exact ⟨cur, hg⟩
/-- Numbers of the call's own. -/
def OwnI (l : List Int) (n : Nat) (w : World) (e : Ending) (w' : World) : Prop := ∃ A1 c1, e = .returned (.slice A1 n c1) ∧ Hid (w'.ownsRow w.heap.size 3 1 (.slice A1 n c1) n (nums .i64 l)) ∧ Below w.heap.size w w'
set_option maxRecDepth 100000 in
theorem clonei_any (A : Option Addr) (c n : Nat) (l : List Int) (hn : l.length = n) (w : World) (hr : Ns .i64 w w.heap.size A l) (hbig : n ≤ 17592186043904) :
    Calls Tryz.prog 55 #[.slice A n c] w (OwnI l n w) := by
  obtain ⟨i0, hi0, hz0, hz1, hz2⟩ := info_parts info_int
  rcases A with _ | ad
  · have h0 : l = [] := by
      rcases Nat.eq_zero_or_pos l.length with h0 | h0
      · exact List.eq_nil_of_length_eq_zero h0
      · obtain ⟨b, off, he, _⟩ := hr h0
        cases he
    subst h0
    obtain rfl : n = 0 := hn.symm
    have hne := Lib.run_eql_slice_nil (P := Tryz.prog) w 23 3 none 0 c 0 0 Tryz.underlying23
    rw [show (none : Option Addr).isNone = true from rfl] at hne
    go_enter Tryz.func55, Tryz.ntmps55
    go_wp2_with fail
    go_ret
    exact ⟨none, 0, rfl, Lib.hid ⟨rfl, .inl ⟨rfl, rfl⟩⟩, Below.refl _ _⟩
  · have ho := World.ownsRow_lit (base := w.heap.size) (e := 3) (size := 1) w #[] 0 (Nat.le_refl _) (by unfold maxLen; omega) rfl
    have q2 : Ns .i64 (w.alloc (.cells #[] 3)) w.heap.size (some ad) l := hr.below ((Below.refl _ w).alloc (Nat.le_refl _) _)
    have hne := Lib.run_eql_slice_nil (P := Tryz.prog) w 23 3 (some ad) n c 0 0 Tryz.underlying23
    rw [show (some ad).isNone = false from rfl] at hne
    have Hn := Lib.hid hn
    clear hr hn
    go_enter Tryz.func55, Tryz.ntmps55
    have b0 := (Below.refl w.heap.size w).alloc (Nat.le_refl _) (.cells #[] 3)
    go_wp2_with (at_builtin; refine wpList_append_ns _ rfl (.tmp 5) (.tmp 6) 23 rfl w.heap.size 3 i0 _ 8 Tryz.underlying23 hi0 hz0 hz1 hz2 rfl _ 0 [] rfl ho .i64 w.heap.size (some ad) n c l Hn.out rfl q2 (by omega) (by omega) (by simp) ?_; intro v1 w1 o1 g1 at1)
    have b1 := b0.grown g1 (by simp) (fun j hj => (ho.lt j hj).1)
    obtain ⟨A1, c1, rfl⟩ := own_form o1
    have o2 : w1.ownsRow w.heap.size 3 1 (.slice A1 l.length c1) l.length (nums .i64 l) := by
      rw [Hn.out]
      simpa using o1
    have HF := Lib.hid (And.intro o2 b1)
    have hz : 0 + n = l.length := by rw [Hn.out, Nat.zero_add]
    have HZ := Lib.hid hz
    clear o1 g1 at1 o2 b1 b0 ho q2 hz
    go_wp2_with fail
    go_ret
    exact ⟨A1, c1, by simp, Lib.hid (by have h := HF.out.1; rw [Hn.out] at h; exact h), HF.out.2⟩

/-- Versions of the call's own. -/
def NewV (l : List Vr) (m : Nat) (w : World) (e : Ending) (w' : World) : Prop := ∃ A1 c1, e = .returned (.slice A1 m c1) ∧ Hid (Vs w' w.heap.size w'.heap.size A1 l ∧ m ≤ c1 ∧ Tn 58 w' m A1) ∧ Below w.heap.size w w'
theorem vers_any (A : Option Addr) (c m : Nat) (l : List Vr) (hm : l.length = m) (hbig : m ≤ 1024) (hp : ∀ v ∈ l, v.past.length ≤ 4294967296) (w : World) (hv : Vs w 0 w.heap.size A l) :
    Calls Tryz.prog 39 #[.slice A m c] w (NewV l m w) := by
  have h := Lib.hid (list_any A c m l hm 0 w.heap.size w (Nat.le_refl _) hv hbig hp)
  have HM := Lib.hid hm
  clear hm hv
  go_enter Tryz.func39, Tryz.ntmps39
  go_wp2_with fail
  refine h.out.mono ?_
  rintro e w2 ⟨A1, c1, ps, rfl, h2, b2⟩
  rw [HM.out]
  go_wp2_with fail
  go_ret
  have h3 : m ≤ c1 := by
    have h4 := h2.out.1.1
    rw [show ps.length = l.length by rw [← h2.out.2, List.length_map]] at h4
    have h5 := (own_low h4).1
    rwa [HM.out] at h5
  have h6 : Tn 58 w2 m A1 := by
    have h4 := h2.out.1.1
    rw [show ps.length = l.length by rw [← h2.out.2, List.length_map]] at h4
    have h5 := own_tn h4
    rwa [HM.out] at h5
  refine ⟨A1, c1, rfl, Lib.hid ⟨?_, h3, h6⟩, b2⟩
  have := h2.out.1.vs (Nat.le_refl _) (Nat.le_refl _)
  rwa [h2.out.2] at this
end Tree
end Go.Proofs.YtbaclinjimfncaaGreat
