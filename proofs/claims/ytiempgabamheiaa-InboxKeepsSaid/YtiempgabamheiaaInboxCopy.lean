/-
  Copies: of numbers, of a record, of a far write: what is made has no memory in common with what it was made of.
-/
import Derived.Test.YtiempgabamheiaaInboxRight
import Derived.Test.YtiempgabamheiaaGFill
namespace Go.Proofs.Ytiempgabamheiaa
namespace Inbox
open Go.RowKit Vers Span Blk
attribute [local go_sem ↓] Go.wp_at_zero Go.wp_at_succ

theorem info_int : (Try.prog.info? 3).map (fun i => (i.zero, i.size, i.bytes)) = some (some (.int .i64 0), 1, 8) := by kernel_rfl
/-- A row that lies in a block of cells: it can be written. -/
def Tn (t : TypeId) (w : World) (n : Nat) (A : Option Addr) : Prop := 0 < n → ∀ a, A = some a → ∃ cur, w.heap[a.block]? = some (.cells cur t (0, 0))
theorem Tn.same {t : TypeId} {w w' : World} {n : Nat} {A : Option Addr} (h : Tn t w n A) (hk : ∀ a, 0 < n → A = some a → w'.heap[a.block]? = w.heap[a.block]?) : Tn t w' n A := fun hn a ha => by
  obtain ⟨cur, hc⟩ := h hn a ha
  exact ⟨cur, (hk a hn ha).trans hc⟩
theorem Tn.lt {t : TypeId} {w : World} {n : Nat} {A : Option Addr} (h : Tn t w n A) (hn : 0 < n) {a : Addr} (ha : A = some a) : a.block < w.heap.size := by
  obtain ⟨cur, hc⟩ := h hn a ha
  exact (Array.getElem?_eq_some_iff.1 hc).1
theorem own_tn {w : World} {base : Nat} {e : TypeId} {size : Nat} {A : Option Addr} {c n : Nat} {us : List Value} (h : w.ownsRow base e size (.slice A n c) n us) : Tn e w n A := by
  rcases h.2 with ⟨hv, h0⟩ | ⟨g, cap, cur, hv, hbg, hg, _⟩
  · subst h0
    exact fun h => absurd h (by omega)
  · injection hv with h1 h2 h3
    subst h1
    exact fun _ a ha => by injection ha with ha; subst ha; exact ⟨cur, hg⟩
/-- Numbers of the call's own. -/
def NewI (l : List Int) (n : Nat) (w : World) (e : Ending) (w' : World) : Prop := ∃ A1 c1, e = .returned (.slice A1 n c1) ∧ Hid (Ns .i64 w' w'.heap.size A1 l ∧ (0 < n → ∀ a, A1 = some a → w.heap.size ≤ a.block) ∧ Tn 3 w' n A1) ∧ Below w.heap.size w w'
set_option maxRecDepth 100000 in
theorem clonei_any (A : Option Addr) (c n : Nat) (l : List Int) (hn : l.length = n) (w : World) (hr : Ns .i64 w w.heap.size A l) (hbig : n ≤ 17592186043904) :
    Calls Try.prog 50 #[.slice A n c] w (NewI l n w) := by
  obtain ⟨i0, hi0, hz0, hz1, hz2⟩ := info_parts info_int
  rcases A with _ | ad
  · have h0 : l = [] := by
      rcases Nat.eq_zero_or_pos l.length with h0 | h0
      · exact List.eq_nil_of_length_eq_zero h0
      · obtain ⟨b, off, he, _⟩ := hr h0
        cases he
    subst h0
    obtain rfl : n = 0 := hn.symm
    have hne := Lib.run_eql_slice_nil (P := Try.prog) w 33 3 none 0 c 0 0 Try.underlying33
    rw [show (none : Option Addr).isNone = true from rfl] at hne
    go_enter Try.func50, Try.ntmps50
    go_wp2_with fail
    go_ret
    exact ⟨none, 0, rfl, Lib.hid ⟨fun h => absurd h (by simp), fun h => absurd h (by simp), fun h => absurd h (by simp)⟩, Below.refl _ _⟩
  · have ho := World.ownsRow_lit (base := w.heap.size) (e := 3) (size := 1) w #[] 0 (Nat.le_refl _) (by unfold maxLen; omega) rfl
    have q2 : Ns .i64 (w.alloc (.cells #[] 3)) w.heap.size (some ad) l := hr.below ((Below.refl _ w).alloc (Nat.le_refl _) _)
    have hne := Lib.run_eql_slice_nil (P := Try.prog) w 33 3 (some ad) n c 0 0 Try.underlying33
    rw [show (some ad).isNone = false from rfl] at hne
    have Hn := Lib.hid hn
    clear hr hn
    go_enter Try.func50, Try.ntmps50
    have b0 := (Below.refl w.heap.size w).alloc (Nat.le_refl _) (.cells #[] 3)
    go_wp2_with (at_builtin; refine wpList_append_ns _ rfl (.tmp 5) (.tmp 6) 33 rfl w.heap.size 3 i0 _ 8 Try.underlying33 hi0 hz0 hz1 hz2 rfl _ 0 [] rfl ho .i64 w.heap.size (some ad) n c l Hn.out rfl q2 (by omega) (by omega) (by simp) ?_; intro v1 w1 o1 g1 at1)
    have b1 := b0.grown g1 (by simp) (fun j hj => (ho.lt j hj).1)
    obtain ⟨A1, c1, rfl⟩ := own_form o1
    have o2 : w1.ownsRow w.heap.size 3 1 (.slice A1 l.length c1) l.length (nums .i64 l) := by
      rw [Hn.out]
      simpa using o1
    have HF := Lib.hid (And.intro o2 b1)
    have hz : 0 + n = l.length := by rw [Hn.out, Nat.zero_add]
    have HZ := Lib.hid hz
    clear o1 g1 at1 o2 b1 b0 ho q2 hz
    go_wp2_with fail
    go_ret
    exact ⟨A1, c1, by simp, Lib.hid ⟨own_ns HF.out.1, fun hp => (own_low HF.out.1).2 (by rw [Hn.out]; exact hp), fun hp => own_tn HF.out.1 (by rw [Hn.out]; exact hp)⟩, HF.out.2⟩

/-- Versions of the call's own. -/
def NewV (l : List Vr) (m : Nat) (w : World) (e : Ending) (w' : World) : Prop := ∃ A1 c1, e = .returned (.slice A1 m c1) ∧ Hid (Vs w' w.heap.size w'.heap.size A1 l ∧ m ≤ c1 ∧ Tn 59 w' m A1) ∧ Below w.heap.size w w'
theorem vers_any (A : Option Addr) (c m : Nat) (l : List Vr) (hm : l.length = m) (hbig : m ≤ 1024) (hp : ∀ v ∈ l, v.past.length ≤ 4294967296) (w : World) (hv : Vs w 0 w.heap.size A l) :
    Calls Try.prog 55 #[.slice A m c] w (NewV l m w) := by
  have h := Lib.hid (list_any A c m l hm 0 w.heap.size w (Nat.le_refl _) hv hbig hp)
  have HM := Lib.hid hm
  clear hm hv
  go_enter Try.func55, Try.ntmps55
  go_wp2_with fail
  refine h.out.mono ?_
  rintro e w2 ⟨A1, c1, ps, rfl, h2, b2⟩
  rw [HM.out]
  go_wp2_with fail
  go_ret
  have h3 : m ≤ c1 := by
    have h4 := h2.out.1.1
    rw [show ps.length = l.length by rw [← h2.out.2, List.length_map]] at h4
    have h5 := (own_low h4).1
    rwa [HM.out] at h5
  have h6 : Tn 59 w2 m A1 := by
    have h4 := h2.out.1.1
    rw [show ps.length = l.length by rw [← h2.out.2, List.length_map]] at h4
    have h5 := own_tn h4
    rwa [HM.out] at h5
  refine ⟨A1, c1, rfl, Lib.hid ⟨?_, h3, h6⟩, b2⟩
  have := h2.out.1.vs (Nat.le_refl _) (Nat.le_refl _)
  rwa [h2.out.2] at this
/-- A record of the call's own. -/
def NewR (key : ByteArray) (l : List Vr) (m : Nat) (w : World) (e : Ending) (w' : World) : Prop := ∃ A1 c1, e = .returned (.agg #[.string key, .slice A1 m c1]) ∧ Hid (Vs w' w.heap.size w'.heap.size A1 l ∧ m ≤ c1 ∧ Tn 59 w' m A1) ∧ Below w.heap.size w w'
set_option maxRecDepth 100000 in
theorem rec_any (key : ByteArray) (A : Option Addr) (c m : Nat) (l : List Vr) (hm : l.length = m) (hbig : m ≤ 1024) (hp : ∀ v ∈ l, v.past.length ≤ 4294967296) (w : World) (hv : Vs w 0 w.heap.size A l) :
    Calls Try.prog 49 #[.agg #[.string key, .slice A m c]] w (NewR key l m w) := by
  obtain ⟨U, hU⟩ : ∃ U, w.alloc (.cells #[.string key, .slice A m c] 32) = U := ⟨_, rfl⟩
  have bU : Below w.heap.size w U := by rw [← hU]; exact (Below.refl _ w).alloc (Nat.le_refl _) _
  have sU : U.heap.size = w.heap.size + 1 := by rw [← hU]; simp
  have BU : Bn w.heap.size 32 [.string key, .slice A m c] U := by rw [← hU]; exact heap_alloc_new w _
  obtain ⟨V, hV⟩ : ∃ V, U.alloc (.cells #[.string ⟨#[]⟩, .slice none 0 0] 32) = V := ⟨_, rfl⟩
  have bV : Below U.heap.size U V := by rw [← hV]; exact (Below.refl _ U).alloc (Nat.le_refl _) _
  have BV : Bn U.heap.size 32 [.string ⟨#[]⟩, .slice none 0 0] V := by rw [← hV]; exact heap_alloc_new U _
  have sV : V.heap.size = w.heap.size + 2 := by rw [← hV]; simp [sU]
  rw [sU] at BV
  have BU' := BU.same (bV.block _ BU.lt)
  have bB : Below w.heap.size w V := bU.trans (bV.mono bU.size)
  have x0 := BU'.cell 0
  have x1 := BU'.cell 1
  simp only [List.getElem?_cons_zero, List.getElem?_cons_succ] at x0 x1
  have h := Lib.hid (vers_any A c m l hm hbig hp V ((hv.below bB).more bB.size))
  have HMM := Lib.hid hm
  have HB := Lib.hid (And.intro bB (And.intro BU' (And.intro BV sV)))
  clear hv hm hp bB BU' BV sV bV bU BU
  go_enter Try.func49, Try.ntmps49
  go_wp2_with fail
  refine h.out.mono ?_
  rintro e w2 ⟨A1, c1, rfl, h2, b2⟩
  have B1 := HB.out.2.1.same (b2.block _ HB.out.2.1.lt)
  have B2 := HB.out.2.2.1.same (b2.block _ HB.out.2.2.1.lt)
  have c1' := B1.cell 1
  have f1' := B1.frozen 1
  have BX := B1.set 1 (.slice A1 m c1)
  have gX := gset w2 w.heap.size 1 (.slice A1 m c1)
  obtain ⟨X, hX⟩ : ∃ X, w2.setCell ⟨w.heap.size, 1, none⟩ (.slice A1 m c1) = X := ⟨_, rfl⟩
  rw [hX] at BX gX
  have B2X := B2.kept gX (by intro q; injection q with q; omega)
  have d0 := BX.cell 0
  have d1 := BX.cell 1
  have z0 := B2X.cell 0
  have z1 := B2X.cell 1
  simp [List.set] at c1' d0 d1 z0 z1
  have z0f := B2X.frozen 0
  have z1f := B2X.frozen 1
  have BY := (B2X.set 0 (.string key)).set 1 (.slice A1 m c1)
  have gY := grown_trans_one (gset X (w.heap.size + 1) 0 (.string key)) (gset _ (w.heap.size + 1) 1 (.slice A1 m c1))
  obtain ⟨Y, hY⟩ : ∃ Y, (X.setCell ⟨w.heap.size + 1, 0, none⟩ (.string key)).setCell ⟨w.heap.size + 1, 1, none⟩ (.slice A1 m c1) = Y := ⟨_, rfl⟩
  rw [hY] at BY gY
  have y0 := BY.cell 0
  have y1 := BY.cell 1
  simp [List.set] at y0 y1
  have hR : NewR key l m w (.returned (.agg #[.string key, .slice A1 m c1])) Y := by
    have s2 := HB.out.2.2.2
    have s3 := b2.size
    have hw2 : Below w.heap.size w w2 := HB.out.1.trans (b2.mono HB.out.1.size)
    have hX' : Below w.heap.size w X := hw2.grown gX hw2.size fun j hj => by injection hj with hj; omega
    have hY' : Below w.heap.size w Y := hX'.grown gY hX'.size fun j hj => by injection hj with hj; omega
    have g1 := gX.size
    have g2 := gY.size
    refine ⟨A1, c1, rfl, Lib.hid ⟨Vs.less (Vs.more (h2.out.1.keep fun p hp1 hp2 => ?_) (show w2.heap.size ≤ Y.heap.size by omega)) (by omega), h2.out.2.1, fun hn a ha => ?_⟩, hY'⟩
    rotate_left
    · have hlow : w.heap.size + 2 ≤ a.block := by
        obtain ⟨b, off, e, hb, _⟩ := h2.out.1 (by rw [HMM.out]; exact hn)
        rw [e] at ha
        injection ha with ha
        subst ha
        simp only
        omega
      have hlt := h2.out.2.2.lt hn ha
      obtain ⟨cur, hc⟩ := h2.out.2.2 hn a ha
      exact ⟨cur, ((gY.block _ (by omega) (by intro q; injection q with q; omega)).trans (gX.block _ hlt (by intro q; injection q with q; omega))).trans hc⟩
    exact (World.cell?_of_block (gY.block _ (by omega) (by intro q; injection q with q; omega))).trans (World.cell?_of_block (gX.block _ hp2 (by intro q; injection q with q; omega)))
  have HR := Lib.hid hR
  clear hR gX gY BY BX B1 B2 B2X b2 h2
  go_wp2_with fail
  refine bodyPost_ret (v := .agg #[.string key, .slice A1 m c1]) ?_ rfl HR.out
  rw [Blk.results_cell1 rfl]
  go_simp
end Inbox
end Go.Proofs.Ytiempgabamheiaa
