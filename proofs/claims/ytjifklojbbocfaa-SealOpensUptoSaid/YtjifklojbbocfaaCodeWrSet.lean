/-
  The writer of layer 6: spans and sets.
-/
import Derived.Test.YtjifklojbbocfaaCodeWr
import Derived.Test.YtjifklojbbocfaaSpanRight
namespace Go.Proofs.Ytjifklojbbocfaa
namespace Code
open Go.RowKit Num Span
attribute [local go_sem ↓] Go.wp_at_zero Go.wp_at_succ

theorem box3_new (w : World) (t : TypeId) (x y z : Value) : Box3 w.heap.size t x y z (w.alloc (.cells #[x, y, z] t)) := heap_alloc_new w _
theorem Box3.kp {g B : Nat} {v v' : Value} {w w' : World} {t : TypeId} {x y z : Value} (h : Box3 B t x y z w) (hk : Kp g v w v' w') (hg : B ≠ g) (hv : some B ≠ v.ownBlock) : Box3 B t x y z w' ∧ some B ≠ v'.ownBlock := hk.block h hg hv

set_option maxRecDepth 100000 in
theorem wspan_any (base g : Nat) (L : List Int) (v : Value) (x : Sp) (hx : okSp x) (w : World) (hw : Wr base g L v w) (hbig : L.length ≤ 70368744177600) :
    Calls Try.prog 35 #[.pointer (some ⟨g, 0, none⟩), .agg #[.int .i64 x.1, .int .i64 x.2.1, .int .i64 x.2.2]] w (Wrote base g (L ++ spL x) v w) := by
  obtain ⟨s, f, t⟩ := x
  unfold okSp at hx
  simp only at hx ⊢
  obtain ⟨B, hBe⟩ : ∃ B, w.heap.size = B := ⟨_, rfl⟩
  obtain ⟨W, hW⟩ : ∃ W, w.alloc (.cells #[.int .i64 s, .int .i64 f, .int .i64 t] 45) = W := ⟨_, rfl⟩
  have hB : Box3 B 45 (.int .i64 s) (.int .i64 f) (.int .i64 t) W := by rw [← hW, ← hBe]; exact box3_new _ _ _ _ _
  obtain ⟨hBg, hBv⟩ := hw.new_far
  rw [hBe] at hBg hBv
  have hwW : Wr base g L v W := by rw [← hW]; exact hw.alloc _
  have hkW : Kp g v w v W := by rw [← hW]; exact Kp.alloc _ _ _ _
  obtain ⟨k0, k1, k2⟩ := hB.cell
  have h1 := wwhole_any base g L v s (by omega) W hwW (by omega)
  have l1 := putL_len s
  have l2 := putL_len f
  have l3 := putL_len (t - f)
  have H1 := Lib.hid h1
  have HS := Lib.hid (And.intro hB (And.intro hBv hkW))
  clear h1 hB hBv hwW hkW hw
  go_enter Try.func35, Try.ntmps35
  go_wp2_with fail
  refine H1.out.mono ?_
  rintro e w1 ⟨rfl, v1, hw1, hk1⟩
  obtain ⟨hB, hBv, hkW⟩ := HS.out
  obtain ⟨hB1, hBv1⟩ := hB.kp hk1 hBg hBv
  have hkW1 := hkW.trans hk1
  obtain ⟨m0, m1, m2⟩ := hB1.cell
  have h2 := wnum_any base g _ v1 f (by omega) w1 hw1 (by rw [List.length_append]; omega)
  have H2 := Lib.hid h2
  have HS1 := Lib.hid (And.intro hB1 (And.intro hBv1 hkW1))
  clear h2 hB hBv hkW hB1 hBv1 hkW1 hw1 hk1 HS H1
  go_wp2_with fail
  refine H2.out.mono ?_
  rintro e w2 ⟨rfl, v2, hw2, hk2⟩
  obtain ⟨hB, hBv, hkW⟩ := HS1.out
  obtain ⟨hB2, hBv2⟩ := hB.kp hk2 hBg hBv
  have hkW2 := hkW.trans hk2
  obtain ⟨n0, n1, n2⟩ := hB2.cell
  have h3 := wnum_any base g _ v2 (t - f) (by omega) w2 hw2 (by rw [List.length_append, List.length_append]; omega)
  have hsub : IntKind.i64.wrap (t - f) = t - f := Go.IntWalk.i64_in _ (by omega)
  have H3 := Lib.hid h3
  have HK := Lib.hid hkW2
  clear h3 hB hBv hkW hB2 hBv2 hkW2 hw2 hk2 HS1 H2
  go_wp2_with fail
  refine H3.out.mono ?_
  rintro e w3 ⟨rfl, v3, hw3, hk3⟩
  have HE := Lib.hid (And.intro hw3 (HK.out.trans hk3))
  clear hw3 hk3
  go_wp2_with fail
  refine ⟨rfl, _, results_none rfl _ _ _, rfl, v3, ?_, HE.out.2⟩
  unfold spL
  simp only [← List.append_assoc]
  exact HE.out.1
theorem spL_len (x : Sp) : 3 ≤ (spL x).length ∧ (spL x).length ≤ 27 := by
  have l1 := putL_len x.1
  have l2 := putL_len x.2.1
  have l3 := putL_len (x.2.2 - x.2.1)
  unfold spL
  simp only [List.length_append]
  omega
theorem flat_le {α : Type} {enc : α → List Int} {m : Nat} : ∀ {l : List α}, (∀ x ∈ l, (enc x).length ≤ m) → (l.flatMap enc).length ≤ l.length * m
  | [], _ => by simp
  | x :: l, h => by
    have h1 := h x (by simp)
    have h2 := flat_le (l := l) (enc := enc) (m := m) (fun y hy => h y (by simp [hy]))
    rw [List.flatMap_cons, List.length_append, List.length_cons, Nat.add_mul]
    omega
theorem flat_take {α : Type} {enc : α → List Int} {l : List α} {k : Nat} {d : α} (h : k < l.length) : (l.take (k + 1)).flatMap enc = (l.take k).flatMap enc ++ enc (l.getD k d) := by
  rw [List.take_succ_eq_append_getElem h, List.flatMap_append]
  simp [List.getD_eq_getElem?_getD, h]

set_option maxRecDepth 100000 in
theorem wspans_any (base g : Nat) (L : List Int) (v : Value) (A : Option Addr) (c m : Nat) (l : List Sp) (hm : l.length = m) (hl : ∀ x ∈ l, okSp x) (B : Nat) (w : World) (hr : Ss w B A l) (hB : B ≤ base) (hw : Wr base g L v w) (hbig : L.length + 9 + m * 27 ≤ 70368744177600) :
    Calls Try.prog 34 #[.pointer (some ⟨g, 0, none⟩), .slice A m c, .func (.func 35) #[.pointer (some ⟨g, 0, none⟩)] #[]] w (Wrote base g (L ++ setL l) v w) := by
  have h1 := wwhole_any base g L v (m : Int) (by omega) w hw (by omega)
  have l1 := putL_len (m : Int)
  have H1 := Lib.hid h1
  have HS := Lib.hid (And.intro hr (And.intro hw (And.intro hl hm)))
  clear h1 hr hw hl hm
  go_enter Try.func34, Try.ntmps34
  go_wp2_with fail
  refine H1.out.mono ?_
  rintro e w1 ⟨rfl, v1, hw1, hk1⟩
  have HX := Lib.hid (And.intro hw1 hk1)
  clear hw1 hk1 H1
  go_wp2_with fail
  go_loopw [14] (fun q wr => ∃ (k : Nat) (u : Value), q = .int .i64 k ∧ k ≤ m ∧ Wr base g (L ++ putL (m : Int) ++ (l.take k).flatMap spL) u wr ∧ Kp g v w u wr) (fun q _ => m - (intOf q).toNat)
  case atStart => exact ⟨0, v1, rfl, by omega, by simpa using HX.out.1, HX.out.2⟩
  case round =>
    obtain ⟨k, u, rfl, hk, hwr, hkr⟩ := hrel
    have hb := hkr.below HS.out.2.1
    by_cases hlt : k < m
    · have hm := HS.out.2.2.2
      obtain ⟨pb, off, rfl, hpb, hc⟩ := (HS.out.1.below (hb.mono hB)) (by omega)
      obtain ⟨c0, c1, c2⟩ := hc k (by omega)
      have hx := HS.out.2.2.1 _ (List.getElem_mem (l := l) (n := k) (by omega))
      have hxe : l.getD k (0, 0, 0) = l[k]'(by omega) := by simp [List.getD_eq_getElem?_getD, show k < l.length by omega]
      rw [← hxe] at hx
      have hft := flat_take (enc := spL) (d := ((0, 0, 0) : Sp)) (show k < l.length by omega)
      obtain ⟨x, hxx⟩ : ∃ x, l.getD k (0, 0, 0) = x := ⟨_, rfl⟩
      rw [hxx] at hx c0 c1 c2 hft
      obtain ⟨s, f, t⟩ := x
      have hfl : ((l.take k).flatMap spL).length ≤ m * 27 := by
        have h1 := flat_le (l := l.take k) (enc := spL) (m := 27) (fun x _ => (spL_len x).2)
        rw [List.length_take] at h1
        have h2 : min k l.length * 27 ≤ m * 27 := Nat.mul_le_mul_right _ (by omega)
        omega
      have d1 : (0 : Int) ≤ (k : Int) := by omega
      have d2 : (k : Int) < (m : Int) := by omega
      simp only at c0 c1 c2
      have hwa := hwr.alloc (.cells #[.int .i64 s, .int .i64 f, .int .i64 t] 45)
      have h2 := wspan_any base g _ u (s, f, t) hx _ hwa (by rw [List.length_append, List.length_append]; omega)
      have hka := hkr.trans (Kp.alloc g u wr (.cells #[.int .i64 s, .int .i64 f, .int .i64 t] 45))
      have H2 := Lib.hid h2
      have HT := Lib.hid (And.intro hft hka)
      clear h2 hft hka hwa hwr hkr hb hc hx hxe hxx
      go_wp2_with fail
      refine H2.out.mono ?_
      rintro e w2 ⟨rfl, u2, hw2, hk2⟩
      have hw3 : Wr base g (L ++ putL (m : Int) ++ (l.take (k + 1)).flatMap spL) u2 w2 := by
        rw [HT.out.1, ← List.append_assoc]
        exact hw2
      have HE := Lib.hid (And.intro hw3 (HT.out.2.trans hk2))
      clear hw2 hk2 hw3 H2
      go_wp2_with fail
      go_roundw
      case rel => exact ⟨k + 1, u2, rfl, by omega, HE.out.1, HE.out.2⟩
      case measure => simp only [intOf]; omega
    · have hkm : k = m := by omega
      subst hkm
      have hE : Wr base g (L ++ setL l) u wr := by
        rw [List.take_of_length_le (by rw [HS.out.2.2.2]; exact Nat.le_refl _), List.append_assoc] at hwr
        unfold setL seqL
        rw [HS.out.2.2.2]
        exact hwr
      have HE := Lib.hid (And.intro hE hkr)
      clear hE hkr hwr hb
      go_wp2_with fail
      exact ⟨rfl, _, results_none rfl _ _ _, rfl, u, HE.out.1, HE.out.2⟩

/-- A set's bytes are not too many. -/
theorem setL_len {l : List Sp} (h : l.length ≤ 1024) : (setL l).length ≤ 27657 := by
  have h1 := putL_len (l.length : Int)
  have h2 := flat_le (l := l) (enc := spL) (m := 27) (fun x _ => (spL_len x).2)
  unfold setL seqL
  rw [List.length_append]
  omega
theorem putL_fine (n : Int) (h : 0 ≤ n) : ∀ z ∈ putL n, 0 ≤ z ∧ z ≤ 255 := putL_bytes n h
theorem seqL_fine {α : Type} {enc : α → List Int} {l : List α} (h : ∀ x ∈ l, ∀ z ∈ enc x, 0 ≤ z ∧ z ≤ 255) : ∀ z ∈ seqL enc l, 0 ≤ z ∧ z ≤ 255 := by
  intro z hz
  unfold seqL at hz
  rcases List.mem_append.1 hz with hz | hz
  · exact putL_bytes _ (by omega) z hz
  · obtain ⟨x, hx, hz⟩ := List.mem_flatMap.1 hz
    exact h x hx z hz
theorem spL_fine {x : Sp} (h : okSp x) : ∀ z ∈ spL x, 0 ≤ z ∧ z ≤ 255 := by
  unfold okSp at h
  intro z hz
  unfold spL at hz
  rcases List.mem_append.1 hz with hz | hz
  · rcases List.mem_append.1 hz with hz | hz
    · exact putL_bytes _ (by omega) z hz
    · exact putL_bytes _ (by omega) z hz
  · exact putL_bytes _ (by omega) z hz
theorem setL_fine {l : List Sp} (h : ∀ x ∈ l, okSp x) : ∀ z ∈ setL l, 0 ≤ z ∧ z ≤ 255 := seqL_fine fun x hx => spL_fine (h x hx)

/-- Bytes of the call's own, and no error; or none, and an error. -/
def PutOut (B : Nat) (r : List Int × Int) (w : World) (e : Ending) (w' : World) : Prop :=
  ∃ A c, e = .returned (.tuple #[.slice A r.1.length c, .int .i64 r.2]) ∧ w'.ownsRow B 5 1 (.slice A r.1.length c) r.1.length (nums .u8 r.1) ∧ Below B w w'

def putSetF (l : List Sp) : List Int × Int := if Right l then (setL l, 0) else ([], 1)

set_option maxRecDepth 100000 in
theorem putset_any (A : Option Addr) (c m : Nat) (l : List Sp) (hm : l.length = m) (w : World) (hr : Ss w w.heap.size A l) (hbig : m ≤ 140737488355328) :
    Calls Try.prog 19 #[.slice A m c] w (PutOut w.heap.size (putSetF l) w) := by
  have hmf : ∀ (fn : Fn) (first cap : Array Value) (w : World), (Instr.makeFunc fn first cap).run Try.prog w = .ok (.func fn first cap) w := fun _ _ _ _ => rfl
  have h1 := right_any A c m l hm w hr hbig
  by_cases hR : Right l
  · rw [show decide (Right l) = true from decide_eq_true hR] at h1
    have hF : putSetF l = (setL l, 0) := by unfold putSetF; rw [if_pos hR]
    have hlen := hR.1
    have H1 := Lib.hid h1
    have HR := Lib.hid (And.intro hr (And.intro hR.2.1 (And.intro hm hF)))
    have hm' : m ≤ 1024 := by omega
    clear h1 hr hR hF hm hlen
    go_enter Try.func19, Try.ntmps19
    go_wp2_with fail
    refine H1.out.mono ?_
    rintro e w1 ⟨rfl, hb1⟩
    have hw : Wr w.heap.size w1.heap.size [] (.slice none 0 0) (w1.alloc (.cells #[.slice none 0 0] 66)) := ⟨Boxed.new _ _ _, ⟨none, 0, rfl⟩, World.ownsRow_nil _ _ _ _, hb1.size⟩
    have hr1 : Ss (w1.alloc (.cells #[.slice none 0 0] 66)) w.heap.size A l := (HR.out.1.below hb1).alloc hb1.size _
    have h2 := wspans_any w.heap.size w1.heap.size [] (.slice none 0 0) A c m l HR.out.2.2.1 HR.out.2.1 w.heap.size _ hr1 (Nat.le_refl _) hw (by simp; omega)
    rw [List.nil_append] at h2
    have hba : Below w.heap.size w (w1.alloc (.cells #[.slice none 0 0] 66)) := hb1.alloc hb1.size _
    have H2 := Lib.hid h2
    have HB := Lib.hid (And.intro hba hw)
    clear h2 hba hw hr1 hb1
    go_wp2_with fail
    refine H2.out.mono ?_
    rintro e w2 ⟨rfl, u, hw2, hk2⟩
    obtain ⟨hbx, ⟨A', c', rfl⟩, ho, _⟩ := hw2
    have c0 := hbx.cell
    have HE := Lib.hid (And.intro ho (HB.out.1.trans (hk2.below HB.out.2)))
    clear hbx ho hk2 H2
    go_wp2_with fail
    go_ret2
    rw [HR.out.2.2.2]
    exact ⟨A', c', rfl, HE.out.1, HE.out.2⟩
  · rw [show decide (Right l) = false from decide_eq_false hR] at h1
    have hF : putSetF l = ([], 1) := by unfold putSetF; rw [if_neg hR]
    rw [hF]
    have H1 := Lib.hid h1
    clear h1 hr hR hF hm
    go_enter Try.func19, Try.ntmps19
    go_wp2_with fail
    refine H1.out.mono ?_
    rintro e w1 ⟨rfl, hb1⟩
    have HB := Lib.hid hb1
    clear hb1
    go_wp2_with fail
    go_ret2
    exact ⟨none, 0, rfl, World.ownsRow_nil _ _ _ _, HB.out⟩
end Code
end Go.Proofs.Ytjifklojbbocfaa
