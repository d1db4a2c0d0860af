/-
  VersKeeps (P5.6): what is handed in stays, and what is answered is new memory, Pasts too. For every input.
-/
import Derived.Test.YthiiganfoecmnaaVersAwake
import Derived.Test.YthiiganfoecmnaaVersArgs
import Derived.Test.YthiiganfoecmnaaVersSpoil
namespace Go.Proofs.Ythiiganfoecmnaa
namespace VersKeeps
open Go.ChangeShapes Go.WideShapes Go.ChangeAt Go.RowKit Span Vers
attribute [local go_sem ↓] Go.wp_at_zero Go.wp_at_succ

/-- An answer of Merge, read: n is how long it is. -/
theorem post_read {B : Nat} {L : List Vr} {E : Int} {k : Nat} (hk : L.length = k) (w : World) (e : Ending) (w' : World) (h : Merged B (L, E) w e w') :
    ∃ A c, e = .returned (.tuple #[.slice A k c, .int .i64 E]) ∧ k ≤ c ∧ Vs w' 0 w'.heap.size A L ∧ Below w.heap.size w w' := by
  obtain ⟨A, c, rfl, hc, o, b⟩ := h
  exact ⟨A, c, by rw [← hk], by rw [← hk]; exact hc, o.less (Nat.zero_le _), b⟩
theorem post_own {B : Nat} {L : List Vr} {E : Int} {k : Nat} (hk : L.length = k) (w : World) (e : Ending) (w' : World) (h : OwnMerged B (L, E) w e w') :
    ∃ A c ps, e = .returned (.tuple #[.slice A k c, .int .i64 E]) ∧ OwnVs B B w'.heap.size w' (.slice A k c) ps ∧ ps.map Prod.fst = L ∧ (∀ p ∈ ps, Tg w' p.1.past.length p.2.1) ∧ Below w.heap.size w w' := by
  obtain ⟨A, c, ps, rfl, _, o, m, t, b⟩ := h
  subst hk
  exact ⟨A, c, ps, rfl, o, m, t, b⟩
theorem post_shows {B : Nat} {L : List Vr} {k : Nat} (hk : L.length = k) (w : World) (e : Ending) (w' : World) (h : Shows B L w e w') :
    ∃ A c, e = .returned (.slice A k c) ∧ Vs w' B w'.heap.size A L ∧ Below w.heap.size w w' := by
  obtain ⟨A, c, rfl, _, o, b⟩ := h
  exact ⟨A, c, by rw [← hk], o, b⟩
theorem merge_pasts {a b L : List Vr} {E : Int} (h : mergeF a b = (L, E)) : ∀ v ∈ L, v.past.length ≤ 1024 := by
  intro v hv
  by_cases hE : E = 0
  · subst hE
    exact ((merge_right h).2.2.2.2.2.1.1 v hv).2.1.1
  · have : L = [] := by
      unfold mergeF at h
      split at h
      · simp only [Prod.mk.injEq] at h; exact h.1.symm
      · split at h
        · simp only [Prod.mk.injEq] at h; exact h.1.symm
        · split at h
          · simp only [Prod.mk.injEq] at h; exact h.1.symm
          · simp only [Prod.mk.injEq] at h; exact absurd h.2.symm hE
    rw [this] at hv
    simp at hv

/-- A version in a box whose past has just been copied: what is there once the copy is laid into it. -/
theorem own_copy {wr w1 : World} {m : Nat} {s vn : Int} {vp : List Sp} {vg : Bool} {vx : ByteArray} {A1 A2 : Option Addr} {kp c1 c2 : Nat} (hm : wr.heap.size = m) (hkp : vp.length = kp) (hk : kp ≤ 1024) (hvx : vx.size ≤ 140737488355328)
    (o1 : w1.ownsRow m 46 3 (.slice A2 (0 + kp) c2) (0 + kp) ([] ++ sps vp))
    (g1 : ((wr.alloc (.cells #[.int .i64 s, .int .i64 vn, .slice A1 kp c1, .bool vg, .string vx] 28)).alloc (.cells #[] 46)).grownBy w1 (some (m + 1))) :
    w1.cell? ⟨m, 2, none⟩ = some (.slice A1 kp c1) ∧ w1.frozen? ⟨m, 2, none⟩ = false ∧
    (w1.setCell ⟨m, 2, none⟩ (.slice A2 kp c2)).cell? ⟨m, 0, none⟩ = some (.int .i64 s) ∧ (w1.setCell ⟨m, 2, none⟩ (.slice A2 kp c2)).cell? ⟨m, 1, none⟩ = some (.int .i64 vn) ∧ (w1.setCell ⟨m, 2, none⟩ (.slice A2 kp c2)).cell? ⟨m, 2, none⟩ = some (.slice A2 kp c2) ∧
    (w1.setCell ⟨m, 2, none⟩ (.slice A2 kp c2)).cell? ⟨m, 3, none⟩ = some (.bool vg) ∧ (w1.setCell ⟨m, 2, none⟩ (.slice A2 kp c2)).cell? ⟨m, 4, none⟩ = some (.string vx) ∧
    Hid (Below m wr (w1.setCell ⟨m, 2, none⟩ (.slice A2 kp c2)) ∧ Pa (w1.setCell ⟨m, 2, none⟩ (.slice A2 kp c2)) (m + 1) (w1.setCell ⟨m, 2, none⟩ (.slice A2 kp c2)).heap.size A2 c2 ⟨s, vn, vp, vg, vx⟩) := by
  have hbox : w1.heap[m]? = some (.cells #[.int .i64 s, .int .i64 vn, .slice A1 kp c1, .bool vg, .string vx] 28) := by
    rw [g1.block m (by simp; omega) (by simp), Below.heap_alloc _ _ _ (by simp; omega), ← hm]
    exact World.alloc_heap_new _ _
  have hb1 : Below m wr w1 := by
    have h : Below m wr ((wr.alloc (.cells #[.int .i64 s, .int .i64 vn, .slice A1 kp c1, .bool vg, .string vx] 28)).alloc (.cells #[] 46)) := ((Below.refl _ wr).alloc (by omega) _).alloc (by simp; omega) _
    exact h.grown g1 (by simp; omega) (fun k hk => by cases hk; omega)
  have c2' : w1.cell? ⟨m, 2, none⟩ = some (.slice A1 kp c1) := by simp [World.cell?, hbox]
  obtain ⟨X, hX⟩ : ∃ X, w1.setCell ⟨m, 2, none⟩ (.slice A2 kp c2) = X := ⟨_, rfl⟩
  have hXh : ∀ k, k ≠ m → X.heap[k]? = w1.heap[k]? := fun k hk => by rw [← hX]; exact Below.heap_setCell _ _ _ _ hk
  have hXs : X.heap.size = w1.heap.size := by rw [← hX]; exact setCell_size _ _ _
  have hr := (own_low o1)
  rw [Nat.zero_add] at hr
  have hs1 : Ss w1 w1.heap.size A2 vp := own_ss (n := kp) (by
    have h := o1
    rw [List.nil_append, Nat.zero_add] at h
    rw [hkp]
    exact h)
  have hsize : m + 2 ≤ w1.heap.size := by have := g1.size; simp at this; omega
  have htag := own_tag o1
  rw [Nat.zero_add] at htag
  have hne : 0 < vp.length → ∀ a, A2 = some a → m + 1 ≤ a.block := fun h0 a ha => by
    have h1 := hr.2 (by omega) a ha
    obtain ⟨cur, hc⟩ := htag (by omega) a ha
    rcases Nat.eq_or_lt_of_le h1 with h2 | h2
    · rw [← h2, hbox] at hc
      injection hc with hc
      injection hc with _ hc
      exact absurd hc (by decide)
    · omega
  refine ⟨c2', by simp [World.frozen?, hbox], ?_⟩
  rw [hX]
  refine ⟨by rw [← hX, off_ne _ _ _ _ _ (by omega)]; simp [World.cell?, hbox], by rw [← hX, off_ne _ _ _ _ _ (by omega)]; simp [World.cell?, hbox], by rw [← hX]; exact World.cell?_setCell_same' _ _ _ (by rw [c2']; rfl), by rw [← hX, off_ne _ _ _ _ _ (by omega)]; simp [World.cell?, hbox], by rw [← hX, off_ne _ _ _ _ _ (by omega)]; simp [World.cell?, hbox], ?_⟩
  refine Lib.hid ⟨by rw [← hX]; exact hb1.trans (below_set w1 m 2 _), ?_⟩
  refine ⟨Ss.high (L := m + 1) (by rw [hXs]; exact hs1) hne (fun p hp1 hp2 => World.cell?_of_block (hXh _ (by omega))), by simp only; omega, by simp only; omega, hvx, hne⟩

/-- i of them have been copied. -/
def Owning (L : List Vr) (k base : Nat) (w2 : World) (sv iv : Value) (wr : World) : Prop :=
  ∃ (i : Nat) (A4 : Option Addr) (c4 : Nat) (qs : List Pv), iv = .int .i64 (i : Int) ∧ sv = .slice A4 i c4 ∧ i ≤ k ∧
    Hid (qs.length = i ∧ wr.ownsRow base 28 5 (.slice A4 i c4) i (vcs qs) ∧ (∀ p ∈ qs, Pa wr base wr.heap.size p.2.1 p.2.2 p.1 ∧ Apart (.slice A4 i c4) p) ∧ qs.map Prod.fst = L.take i ∧ w2.heap.size = base) ∧ Below w2.heap.size w2 wr

/-- What stays while the answer is written over. -/
def Frm5 (w5 wr : World) (lo hi : Nat) : Prop := (∀ q, (q < lo ∨ hi ≤ q) → wr.heap[q]? = w5.heap[q]?) ∧ wr.heap.size = w5.heap.size ∧ Below lo w5 wr
def Spoiling (k lo hi : Nat) (A : Option Addr) (ps : List Pv) (w5 wr : World) : Prop := (k = 0 ∧ wr = w5) ∨ (0 < k ∧ ∃ g, A = some ⟨g, 0, none⟩ ∧ Spoil w5 wr lo hi g ps)
theorem spoiling_frame {k lo hi : Nat} {A : Option Addr} {ps : List Pv} {w5 wr : World} (h : Spoiling k lo hi A ps w5 wr) : Frm5 w5 wr lo hi := by
  rcases h with ⟨_, rfl⟩ | ⟨_, g, _, _, _, _, _, h1, h2, h3⟩
  · exact ⟨fun _ _ => rfl, rfl, Below.refl _ _⟩
  · exact ⟨h1, h2, h3⟩

set_option maxRecDepth 100000 in
set_option maxHeartbeats 4000000 in
theorem walk (w : World) (A : Option Addr) (c : Nat) (a : List Vr) (hr : Vs w 0 w.heap.size A a) (hbig : a.length * 64 ≤ 140737488351232) (hlc : a.length ≤ c)
    (A' : Option Addr) (c' : Nat) (b : List Vr) (hr' : Vs w 0 w.heap.size A' b) (hbig' : b.length * 64 ≤ 140737488351232) (hlc' : b.length ≤ c') :
    Calls Try.prog 8 #[.slice A a.length c, .slice A' b.length c'] w fun e w' => e = .returned (.bool true) ∧ Below w.heap.size w w' := by
  obtain ⟨i0, hi0, hz0, hz1, hz2⟩ := info_parts info_ver
  obtain ⟨j0, hj0, hy0, hy1, hy2⟩ := info_span
  have hS : ∀ W, Below w.heap.size w W → Vs W 0 W.heap.size A a ∧ Vs W 0 W.heap.size A' b := fun W h => ⟨(hr.below h).more h.size, (hr'.below h).more h.size⟩
  have h1 := fun W h => merge_own A A' c c' a.length b.length a b rfl rfl hlc hlc' W (hS W h).1 (hS W h).2 (by omega) (by omega)
  have h2 := fun W h => ref_merge_any A A' c c' a.length b.length a b rfl rfl W (hS W h).1 (hS W h).2 (by omega) (by omega)
  have h7 := fun W h => merge_any A A' c c' a.length b.length a b rfl rfl hlc hlc' W (hS W h).1 (hS W h).2 (by omega) (by omega)
  obtain ⟨m, hm⟩ : ∃ m, a.length = m := ⟨_, rfl⟩
  obtain ⟨m', hm'⟩ : ∃ m', b.length = m' := ⟨_, rfl⟩
  rw [hm, hm'] at h1 h2 h7 ⊢
  have hL := merge_len a b
  obtain ⟨⟨L, E⟩, hR⟩ : ∃ R, mergeF a b = R := ⟨_, rfl⟩
  simp only [hR] at h1 h2 h7 hL
  have hpast := merge_pasts hR
  obtain ⟨k, hk⟩ : ∃ k, L.length = k := ⟨_, rfl⟩
  rw [hk] at hL
  obtain ⟨U, hU⟩ : ∃ U, shownF L = U := ⟨_, rfl⟩
  obtain ⟨ku, hku⟩ : ∃ k, U.length = k := ⟨_, rfl⟩
  have hkuk : ku ≤ k := by
    have h := List.length_filter_le (fun v : Vr => !v.gone) L
    rw [← hku, ← hU, ← hk]
    exact h
  have h3 := fun A A' c c' W h h' => ref_sameV_any A A' c c' k k L L hk hk W h h' (by omega) (by omega)
  rw [show decide (L = L) = true from decide_eq_true rfl] at h3
  have h4 := fun A A' c c' W h h' => ref_sameV_any A A' c c' ku ku U U hku hku W h h' (by omega) (by omega)
  rw [show decide (U = U) = true from decide_eq_true rfl] at h4
  have h5 := fun A c W h => shown_any A c k L hk 0 (World.heap W).size W (Nat.le_refl _) h (by omega) (fun v hv => by have := hpast v hv; omega)
  have h6 := fun A c W h => ref_shown_any A c k L hk W h (by omega)
  rw [hU] at h5 h6
  have HJ := Lib.hid (fun B => post_read (B := B) (E := E) hk)
  have HO := Lib.hid (fun B => post_own (B := B) (E := E) hk)
  have HW := Lib.hid (fun B => post_shows (B := B) hku)
  have H1 := Lib.hid h1
  have H2 := Lib.hid h2
  have H3 := Lib.hid h3
  have H4 := Lib.hid h4
  have H5 := Lib.hid h5
  have H6 := Lib.hid h6
  have H7 := Lib.hid h7
  have HL := Lib.hid (And.intro hk hpast)
  clear h1 h2 h3 h4 h5 h6 h7 hm hm' hR hk hU hku hr hr' hbig hbig' hS hlc hlc' hpast
  go_enter Try.func8, Try.ntmps8
  go_wp2_with fail
  refine (awake_any w).mono ?_
  rintro e w1 ⟨rfl, b1⟩
  have B1 := Lib.hid b1
  clear b1
  go_wp2_with fail
  refine (H2.out w1 B1.out).mono ?_
  intro e w2 hp
  obtain ⟨A2, c2, rfl, lc2, n2, b2⟩ := HJ.out _ _ _ _ hp
  have B2 := Lib.hid (B1.out.trans (b2.mono B1.out.size))
  have Y2 := Lib.hid n2
  obtain ⟨base, hbase⟩ : ∃ base, w2.heap.size = base := ⟨_, rfl⟩
  have HI : Hid (Owning L k base w2 (.slice none 0 0) (.int .i64 0) w2) := Lib.hid ⟨0, none, 0, [], rfl, rfl, by omega, Lib.hid ⟨rfl, World.ownsRow_nil _ _ _ _, by simp, by simp, hbase⟩, Below.refl _ _⟩
  clear hp b2 n2 B1 H2 hbase
  go_wp2_with fail
  go_loopw [7, 8] (fun sv iv wr => Owning L k base w2 sv iv wr) (fun _ iv _ => k - (intOf iv).toNat)
  case atStart => exact HI.out
  case round =>
    obtain ⟨i, A4, c4, qs, rfl, rfl, hi, hH, hb⟩ := hrel
    clear HI
    by_cases hlt : i < k
    · obtain ⟨pb, off, A1, c1, rfl, _, hbB, a0, a1, a2, a3, a4, hpv⟩ := Y2.out.at HL.out.1 hb hlt rfl
      have hmem : L.getD i v0 ∈ L := mem_v (by have := HL.out.1; omega)
      have hbp := HL.out.2 _ hmem
      have HT : Hid (L.take (i + 1) = L.take i ++ [L.getD i v0]) := Lib.hid (take_v (by have := HL.out.1; omega))
      obtain ⟨v, hvv⟩ : ∃ v, L.getD i v0 = v := ⟨_, rfl⟩
      rw [hvv] at a0 a1 a2 a3 a4 hpv hbp
      have HVV := Lib.hid hvv
      clear hvv hmem
      obtain ⟨s, vn, vp, vg, vx⟩ := v
      simp only at a0 a1 a2 a3 a4 hbp
      obtain ⟨kp, hkp⟩ : ∃ kp, vp.length = kp := ⟨_, rfl⟩
      rw [hkp] at a2 hbp
      have hsz := hb.size
      have d1 : (0 : Int) ≤ (i : Int) := by omega
      have d2 : (i : Int) < (k : Int) := by omega
      obtain ⟨m9, hm9⟩ : ∃ m, wr.heap.size = m := ⟨_, rfl⟩
      have ho := World.ownsRow_lit (base := m9) (e := 46) (size := 3) (wr.alloc (.cells #[.int .i64 s, .int .i64 vn, .slice A1 kp c1, .bool vg, .string vx] 28)) #[] 0 (by simp; omega) (by unfold maxLen; omega) rfl
      rw [show (wr.alloc (.cells #[.int .i64 s, .int .i64 vn, .slice A1 kp c1, .bool vg, .string vx] 28)).heap.size = wr.heap.size + 1 by simp] at ho
      have q2 : Ss ((wr.alloc (.cells #[.int .i64 s, .int .i64 vn, .slice A1 kp c1, .bool vg, .string vx] 28)).alloc (.cells #[] 46)) w2.heap.size A1 vp := hpv.1.below (((Below.refl _ wr).alloc (by omega) _).alloc (by simp; omega) _)
      have HB := Lib.hid (And.intro hb (And.intro hkp (And.intro hpv.2.2.2.1 (And.intro hm9 (And.intro ho q2)))))
      clear hb hkp hpv hm9 ho q2
      go_wp2_with (first
        | (at_builtin; refine wpList_append_ss _ rfl (.tmp 35) (.tmp 37) 26 rfl m9 46 j0 _ 24 Try.underlying26 hj0 hy0 hy1 hy2 rfl _ 0 [] rfl HB.out.2.2.2.2.1 w2.heap.size A1 kp c1 vp HB.out.2.1 rfl HB.out.2.2.2.2.2 (by omega) (by omega) (by have := HB.out.2.2.2.1; simp; omega) ?_; intro v1 w5 o1 g1 at1; obtain ⟨A5, c5, rfl⟩ := own_form o1; have K := own_copy HB.out.2.2.2.1 HB.out.2.1 hbp HB.out.2.2.1 o1 (HB.out.2.2.2.1 ▸ g1); rw [← HB.out.2.2.2.1] at K; obtain ⟨k2, kf, x0, x1, x2, x3, x4, HK⟩ := K; have HX := Lib.hid (own_below hH.out.2.1 HK.out.1 (Nat.le_refl _)); clear o1 g1 at1)
        | (at_builtin; go_loud (refine wpList_append_v _ rfl (.tmp 40) (.tmp 42) 22 rfl base 28 i0 _ 64 Try.underlying22 hi0 hz0 hz1 hz2 rfl (.slice A4 i c4) i qs rfl HX.out (⟨s, vn, vp, vg, vx⟩, A5, c5) kp HB.out.2.1 1 (by rw [setCell_size]; rfl) (by omega) (by omega) (by have h1 := HK.out.1.size; have h2 := hH.out.2.2.2.2; omega) ?_); intro v3 w6 o6 g6 at6; obtain ⟨A6, c6, rfl⟩ := own_form o6))
      obtain ⟨X, hX⟩ : ∃ X, w5.setCell ⟨wr.heap.size, 2, none⟩ (.slice A5 kp c5) = X := ⟨_, rfl⟩
      rw [hX] at HK g6 at6
      have hall : ∀ q ∈ qs ++ [((⟨s, vn, vp, vg, vx⟩, A5, c5) : Pv)], Pa X base X.heap.size q.2.1 q.2.2 q.1 ∧ Apart (.slice A4 i c4) q := fun q hq => by
        rcases List.mem_append.1 hq with hq | hq
        · exact apart_later hH.out.2.2.1 HK.out.1 q hq
        · rw [List.mem_singleton.1 hq]
          exact apart_new (w := wr) (m := wr.heap.size + 1) (p := (⟨s, vn, vp, vg, vx⟩, A5, c5)) HK.out.2 (by omega) (by have h2 := hH.out.2.2.2.2; omega) (fun g hg => (hH.out.2.1.lt g hg).2)
      have hl6 : qs.length = i := hH.out.1
      have hbe : Below w2.heap.size w2 w6 := (HB.out.1.trans (HK.out.1.mono hsz)).grown g6 (by have h1 := HK.out.1.size; omega) (fun q hq => by have h1 := (hH.out.2.1.lt q hq).1; have h2 := hH.out.2.2.2.2; omega)
      exact ⟨⟨i + 1, A6, c6, qs ++ [(⟨s, vn, vp, vg, vx⟩, A5, c5)], rfl, rfl, by omega, Lib.hid ⟨by simp [hl6], o6, apart_more hall g6 at6, by rw [List.map_append, hH.out.2.2.2.1, HT.out, HVV.out]; rfl, hH.out.2.2.2.2⟩, hbe⟩, by simp only [intOf]; omega⟩
    · have hik : i = k := by omega
      subst hik
      have hv4 : Vs wr 0 wr.heap.size A4 L := by
        have h := OwnVs.vs (base := base) (L := 0) (B := wr.heap.size) (n := i) (c := c4) (A := A4) (w := wr) (ps := qs) ⟨by rw [hH.out.1]; exact hH.out.2.1, fun p hp => ((hH.out.2.2.1 p hp).1).less (Nat.zero_le _)⟩ (Nat.zero_le _) (Nat.le_refl _)
        rwa [hH.out.2.2.2.1, List.take_of_length_le (by have := HL.out.1; omega)] at h
      have BW := Lib.hid (B2.out.trans (hb.mono B2.out.size))
      have V4 := Lib.hid hv4
      obtain ⟨lo, hlo⟩ : ∃ lo, wr.heap.size = lo := ⟨_, rfl⟩
      have HLO := Lib.hid hlo
      clear hH hb hv4 hlo B2 Y2 hlt
      go_wp2_with fail
      refine (H1.out wr BW.out).mono ?_
      intro e w5 hp
      obtain ⟨A5, c5, ps, rfl, o5, m5, t5, b5⟩ := HO.out _ _ _ _ hp
      have HX : Hid (OwnVs lo lo w5.heap.size w5 (.slice A5 i c5) ps ∧ ps.map Prod.fst = L ∧ (∀ p ∈ ps, Tg w5 p.1.past.length p.2.1) ∧ Below lo wr w5) := Lib.hid (by rw [← HLO.out]; exact ⟨o5, m5, t5, b5⟩)
      have hv5 : Vs w5 0 w5.heap.size A5 L := by
        have hpl : ps.length = i := by rw [← HL.out.1, ← m5, List.length_map]
        have h := OwnVs.vs (n := i) o5 (Nat.le_refl _) (Nat.le_refl _)
        rw [m5] at h
        exact h.less (Nat.zero_le _)
      have B5 := Lib.hid (BW.out.trans (b5.mono BW.out.size))
      have H5' := Lib.hid (H5.out A5 c5 w5 hv5)
      clear hp o5 m5 t5 b5 hv5 H1 H5 HO
      go_wp2_with fail
      refine H5'.out.mono ?_
      intro e w6 hp
      obtain ⟨A6, c6, rfl, v6, b6⟩ := HW.out _ _ _ _ hp
      have B6 := Lib.hid (B5.out.trans (b6.mono B5.out.size))
      have V6 := Lib.hid v6
      have HI : Hid (Spoiling i lo w5.heap.size A5 ps w6 w6) := Lib.hid (by
        rcases Nat.eq_zero_or_pos i with h0 | h0
        · exact .inl ⟨h0, rfl⟩
        · have hpl : ps.length = i := by rw [← HL.out.1, ← HX.out.2.1, List.length_map]
          obtain ⟨g, hg, hs⟩ := spoil_start HX.out.1 HX.out.2.2.1 (by omega) b6
          exact .inr ⟨h0, g, hg, hs⟩)
      have HB6 := Lib.hid b6
      clear hp v6 b6 H5' B5
      go_wp2_with fail
      go_loopw [13] (fun iv V => ∃ j : Nat, iv = .int .i64 j ∧ j ≤ i ∧ Hid (Spoiling i lo w5.heap.size A5 ps w6 V)) (fun iv _ => i - (intOf iv).toNat)
      case atStart => exact ⟨0, rfl, by omega, HI⟩
      case round =>
        obtain ⟨j, rfl, hj, hs⟩ := hrel
        by_cases hlt : j < i
        · have hpl : ps.length = i := by rw [← HL.out.1, ← HX.out.2.1, List.length_map]
          rcases hs.out with ⟨h0, _⟩ | ⟨hpos, g, hg, hsp⟩
          · omega
          subst hg
          have HS0 := Lib.hid hsp
          obtain ⟨p, hp⟩ : ∃ p, ps.getD j z0 = p := ⟨_, rfl⟩
          have hpm : p ∈ ps := by
            rw [← hp, List.getD_eq_getElem?_getD, List.getElem?_eq_getElem (by omega)]
            exact List.getElem_mem _
          obtain ⟨n, hn⟩ : ∃ n, p.1.past.length = n := ⟨_, rfl⟩
          have hnb : n ≤ 1024 := by rw [← hn]; exact HL.out.2 p.1 (by rw [← HX.out.2.1]; exact List.mem_map.2 ⟨p, hpm, rfl⟩)
          have HP := Lib.hid (And.intro hp (And.intro hpm (And.intro hn hpl)))
          have d1 : (0 : Int) ≤ (j : Int) := by omega
          have d2 : (j : Int) < (i : Int) := by omega
          clear hsp hs hp hpm hn hpl
          go_wp2_with fail
          go_loopw [14] (fun kv V => ∃ q : Nat, kv = .int .i64 q ∧ q ≤ n ∧ Hid (Spoil w6 V lo w5.heap.size g ps)) (fun kv _ => n - (intOf kv).toNat)
          case atStart => exact ⟨0, rfl, by omega, HS0⟩
          case round =>
            obtain ⟨q, rfl, hq, hsq⟩ := hrel
            have hhd := hsq.out.head (j := j) (by have := HP.out.2.2.2; omega) HP.out.1
            rw [HP.out.2.2.1] at hhd
            by_cases hlq : q < n
            · obtain ⟨b1, o1, e1, ⟨z, hz⟩, hf, hset⟩ := hsq.out.span HP.out.2.1 (q := q) (by rw [HP.out.2.2.1]; exact hlq)
              rw [e1] at hhd
              have HZ := Lib.hid (hset (.int .i64 (-5)))
              have d3 : (0 : Int) ≤ (q : Int) := by omega
              have d4 : (q : Int) < (n : Int) := by omega
              clear hset hsq e1
              go_wp2_with fail
              exact ⟨⟨q + 1, rfl, by omega, HZ⟩, by simp only [intOf]; omega⟩
            · have hqn : q = n := by omega
              subst hqn
              obtain ⟨⟨z, hz⟩, hf⟩ := hsq.out.room (j := j) (by have := HP.out.2.2.2; omega)
              have HZ : Hid (Spoiling i lo w5.heap.size (some ⟨g, 0, none⟩) ps w6 (wr.setCell ⟨g, j * 5 + 4, none⟩ (.string ⟨#[115, 112, 111, 105, 108, 116]⟩))) := Lib.hid (.inr ⟨by omega, g, rfl, hsq.out.val j _⟩)
              clear hsq
              go_wp2_with fail
              exact ⟨⟨j + 1, rfl, by omega, HZ⟩, by simp only [intOf]; omega⟩
        · have hji : j = i := by omega
          subst hji
          have HF := Lib.hid (spoiling_frame hs.out)
          clear hs hlt HI
          have hwlo : w.heap.size ≤ lo := by have := BW.out.size; have := HLO.out; omega
          have BF := Lib.hid (B6.out.trans (HF.out.2.2.mono hwlo))
          have hown : Vs wr 0 lo A4 L := by
            have h := V4.out
            rw [HLO.out] at h
            have hb56 : Below lo w5 w6 := HB6.out.mono (by have := HX.out.2.2.2.size; have := HLO.out; omega)
            exact ((h.below HX.out.2.2.2).below hb56).below HF.out.2.2
          have hlow : lo ≤ wr.heap.size := by have := HX.out.2.2.2.size; have := HB6.out.size; have := HF.out.2.1; have := HLO.out; omega
          have hu : Vs wr w5.heap.size wr.heap.size A6 U := by
            have h := V6.out.keep (w' := wr) (fun p hp1 _ => World.cell?_of_block (HF.out.1 p.block (.inr hp1)))
            rwa [← HF.out.2.1] at h
          have VO := Lib.hid (hown.more hlow)
          have VU := Lib.hid (hu.less (Nat.zero_le _))
          clear hown hu hlow
          go_wp2_with fail
          refine (H7.out wr BF.out).mono ?_
          intro e w7 hp
          obtain ⟨A7, c7, rfl, lc7, n7, b7⟩ := HJ.out _ _ _ _ hp
          have B7 := Lib.hid (BF.out.trans (b7.mono BF.out.size))
          have VO7 := Lib.hid ((VO.out.below b7).more b7.size)
          have VU7 := Lib.hid ((VU.out.below b7).more b7.size)
          have VZ7 := Lib.hid n7
          clear hp b7 n7 BF VO VU H7
          go_wp2_with fail
          refine (H3.out A7 A4 c7 c4 w7 VZ7.out VO7.out).mono ?_
          rintro e w8 ⟨rfl, b8⟩
          have B8 := Lib.hid (B7.out.trans (b8.mono B7.out.size))
          have VO8 := Lib.hid ((VO7.out.below b8).more b8.size)
          have VU8 := Lib.hid ((VU7.out.below b8).more b8.size)
          clear b8 B7 VO7 VU7 VZ7
          have H6' := Lib.hid (H6.out A4 c4 w8 VO8.out)
          go_wp2_with fail
          refine H6'.out.mono ?_
          intro e w9 hp
          obtain ⟨A9, c9, rfl, v9, b9⟩ := HW.out _ _ _ _ hp
          have B9 := Lib.hid (B8.out.trans (b9.mono B8.out.size))
          have VU9 := Lib.hid ((VU8.out.below b9).more b9.size)
          have VS9 := Lib.hid v9
          clear hp b9 v9 B8 VO8 VU8 H6'
          go_wp2_with fail
          refine (H4.out A6 A9 c6 c9 w9 VU9.out VS9.out).mono ?_
          rintro e wa ⟨rfl, ba⟩
          have Ba := Lib.hid (B9.out.trans (ba.mono B9.out.size))
          clear ba B9 VU9 VS9
          go_wp2_with fail
          go_ret
          exact ⟨rfl, Ba.out⟩
-- ROW BEGIN
/-- What the walk gives, shut again. -/
theorem contract (H : Type) (enc : TypeId × Value → H) (W : World) (base : Nat) (args : Array Value) (ds gs : List (DataW H)) (before : List MemPlace)
    (hval : ∀ (j : Nat) t v, Try.f8.params[j]? = some t → args[j]? = some v → Value.okWide Try.prog W .any base t v)
    (hW : DataW.Whole enc Try.prog Try.f8.params.toList Rows.versKeepsSpec.vars false W args.toList ds gs before)
    (hsz : (DataW.weightsEach Try.prog (Try.f8.params.toList ++ Rows.versKeepsSpec.plain.varTypes Try.prog) (ds ++ gs)).all (· ≤ reachBytes) = true) :
    Calls Try.prog 8 args W fun e W' => ∃ v, e = .returned v ∧ Rows.versKeepsSpec.post enc Try.prog Try.f8 false true false false W args v W' := by
  have hW' := hW
  obtain ⟨p, q, hA0, hV, hbef, _, _⟩ := hW
  have hA : DataW.TrodAll enc Try.prog W 0 (fun _ => true) true Try.f8.params.toList args.toList ds p := hA0
  have hA1 := hA
  rw [Try.params8] at hA hval hsz
  obtain ⟨v0, vs0, d0, ds0, p0, q0, hargs, rfl, rfl, h0, r0⟩ := trodAll_cons hA
  obtain ⟨v1, vs1, d1, ds1, p1, q1, rfl, rfl, rfl, h1, r1⟩ := trodAll_cons r0
  obtain ⟨rfl, rfl, rfl⟩ := trodAll_nil r1
  obtain rfl : args = #[v0, v1] := by cases args; simp_all
  obtain ⟨rfl, rfl⟩ := trodVars_none hV
  clear hA hargs
  obtain ⟨A0, c0, a0, rfl, n0, l0, b0⟩ := Vers.open_vs (hval 0 22 v0 rfl rfl) h0 (Vers.wt_arg hsz (j := 0) rfl rfl)
  obtain ⟨A1, c1, a1, rfl, n1, l1, b1⟩ := Vers.open_vs (hval 1 22 v1 rfl rfl) h1 (Vers.wt_arg hsz (j := 1) rfl rfl)
  refine (walk W A0 c0 a0 n0 b0 l0 A1 c1 a1 n1 b1 l1).mono fun e W' ⟨he, hb⟩ => ?_
  subst he
  exact ⟨_, rfl, law_post Facts.laid (by rfl) Try.underlying4 (by rw [Try.params8]; decide +kernel) hW' hA1 rfl hbef rfl rfl rfl hb⟩

set_option maxRecDepth 100000 in
theorem lifted (os : Os) (started : os.Started) (H : Type) (enc : TypeId × Value → H) :
    ReturnsInHanded {} Try.checked os 8 .any (Rows.versKeepsSpec.pre6 enc Try.prog Try.f8 Rows.versKeepsRow.domain false) (Rows.versKeepsSpec.post enc Try.prog Try.f8 false true false false) := by
  refine returnsInHanded_of_change_sized (C := Try.checked) Facts.own started (by kernel_rfl) Try.func8
    (ChangeSpec.witness6 (enc := enc) (C := Try.checked) false ⟨#[], #[.slice none 0 0, .slice none 0 0], []⟩ 8 (by kernel_rfl) (by kernel_rfl) (by kernel_rfl) (by kernel_rfl)) ?_
  intro W base args ds gs before hval hW _ hsz _
  exact contract H enc W base args ds gs before hval hW hsz

theorem holds : Rows.VersKeepsSaid :=
  OpenClaim.holds_of_wide 8 Try.f8 rfl rfl rfl rfl rfl rfl rfl ⟨rfl, rfl, rfl, rfl, rfl⟩ rfl rfl rfl rfl rfl (by kernel_rfl) Try.func8 (by kernel_rfl)
    (of_decide_eq_true (by kernel_rfl)) (by unfold Func.isWrapper; first | (rw [if_pos (by decide +kernel)]; kernel_rfl) | (rw [if_neg (by decide +kernel)]; exact ⟨rfl, rfl⟩))
    (fun os started H enc _ => lifted os started H enc)
-- ROW END


end VersKeeps
end Go.Proofs.Ythiiganfoecmnaa
