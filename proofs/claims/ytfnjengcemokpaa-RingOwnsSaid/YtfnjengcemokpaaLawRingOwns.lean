/-
  RingOwns (P12.3): what a node keeps, and which partitions move from one ring to another, are the document's. For every input.
-/
import Derived.Test.YtfnjengcemokpaaRingMoves
namespace Go.Proofs.Ytfnjengcemokpaa
namespace RingOwns
open Go.ChangeShapes Go.WideShapes Go.ChangeAt Go.RowKit Ring
attribute [local go_sem ↓] Go.wp_at_zero Go.wp_at_succ

/-- The partitions below k that move, of right members; none of others. -/
noncomputable def movF (ms ms' : List Int) (x : Int) (k : Nat) : List Nat := if RightM ms ∧ RightM ms' then movs ms ms' x k else []
theorem movs_prefix (ms ms' : List Int) (x : Int) {k l : Nat} (h : k ≤ l) : movs ms ms' x k <+: movs ms ms' x l := by
  induction l with
  | zero => obtain rfl : k = 0 := by omega
            exact List.prefix_refl _
  | succ l ih =>
    rcases Nat.lt_or_ge l k with h1 | h1
    · obtain rfl : k = l + 1 := by omega
      exact List.prefix_refl _
    · refine (ih h1).trans ?_
      rw [movs]
      split
      · exact List.prefix_refl _
      · exact List.prefix_append _ _
theorem movF_stay {ms ms' : List Int} {x : Int} {k : Nat} (h : ¬ (RightM ms ∧ RightM ms') ∨ listF ms (k : Int) x = listF ms' (k : Int) x) : movF ms ms' x (k + 1) = movF ms ms' x k := by
  unfold movF
  split
  · rename_i h1
    rw [movs, if_pos (h.resolve_left (fun h => h h1))]
  · rfl
theorem movF_step {ms ms' : List Int} {x : Int} {k : Nat} (hr : RightM ms ∧ RightM ms') (h : ¬ listF ms (k : Int) x = listF ms' (k : Int) x) (hk : k < 8) {es : List Mv} (he : es.map Mv.p = movF ms ms' x 8) :
    (movF ms ms' x (k + 1)).length = (movF ms ms' x k).length + 1 ∧ ∃ ht : (movF ms ms' x k).length < es.length, (es[(movF ms ms' x k).length]'ht).p = k := by
  unfold movF at he ⊢
  rw [if_pos hr] at he ⊢
  have e1 : movs ms ms' x (k + 1) = movs ms ms' x k ++ [k] := by rw [movs, if_neg h]
  have hp := movs_prefix ms ms' x (show k + 1 ≤ 8 by omega)
  rw [e1, ← he] at hp
  obtain ⟨r, hr2⟩ := hp
  have hlen : (movs ms ms' x k).length < es.length := by
    have := congrArg List.length hr2
    simp only [List.length_append, List.length_map, List.length_cons, List.length_nil] at this
    omega
  refine ⟨by rw [if_pos hr, e1, List.length_append]; rfl, ?_⟩
  rw [if_pos hr]
  refine ⟨hlen, ?_⟩
  have h2 : (es.map Mv.p)[(movs ms ms' x k).length]? = some k := by
    rw [← hr2, List.append_assoc, List.getElem?_append_right (Nat.le_refl _), Nat.sub_self]
    rfl
  rw [List.getElem?_map, List.getElem?_eq_getElem hlen] at h2
  simpa using h2
theorem ownM_at {base : Nat} {V : World} {A : Option Addr} {c m : Nat} {ms ms' : List Int} {x : Int} {es : List Mv} (h : OwnM base V (.slice A m c) m ms ms' x es) {t : Nat} (ht : t < es.length) :
    ∃ g, A = some ⟨g, 0, none⟩ ∧ V.cell? ⟨g, t * 3, none⟩ = some (.int .i64 es[t].p) ∧ V.cell? ⟨g, t * 3 + 1, none⟩ = some (.slice es[t].A es[t].n es[t].c) ∧ V.cell? ⟨g, t * 3 + 2, none⟩ = some (.slice es[t].A' es[t].n' es[t].c') := by
  obtain ⟨h1, ho, _⟩ := h
  obtain ⟨g, cap, hA2⟩ : ∃ g cap, A = some ⟨g, 0, none⟩ ∧ c = cap := by
    rcases ho.2 with ⟨_, h0⟩ | ⟨g, cap, cur, hv, _⟩
    · omega
    · injection hv with h1 _ h3
      exact ⟨g, cap, h1, h3⟩
  obtain ⟨rfl, rfl⟩ := hA2
  obtain ⟨a0, a1, a2⟩ := mvs_at ht
  exact ⟨g, rfl, (ho.cellAt (t * 3) (by omega)).trans a0, (ho.cellAt (t * 3 + 1) (by omega)).trans a1, (ho.cellAt (t * 3 + 2) (by omega)).trans a2⟩

theorem made_read {L : List Int} {k : Nat} (hk : L.length = k) (w : World) (e : Ending) (w' : World) (h : MadeNs 3 .i64 L w e w') : ∃ A c, e = .returned (.slice A k c) ∧ Ns .i64 w' w'.heap.size A L ∧ Below w.heap.size w w' := by
  obtain ⟨A, c, rfl, o, b⟩ := h
  exact ⟨A, c, by rw [hk], own_ns o, b⟩

set_option maxRecDepth 100000 in
set_option maxHeartbeats 4000000 in
theorem walk (w : World) (A : Option Addr) (c : Nat) (ms : List Int) (hr : Ns .i64 w w.heap.size A ms) (_hm : ∀ z ∈ ms, -9223372036854775808 ≤ z ∧ z ≤ 9223372036854775807) (hbig : ms.length * 8 ≤ 140737488351232) (_hlc : ms.length ≤ c)
    (A' : Option Addr) (c' : Nat) (ms' : List Int) (hr' : Ns .i64 w w.heap.size A' ms') (_hm' : ∀ z ∈ ms', -9223372036854775808 ≤ z ∧ z ≤ 9223372036854775807) (hbig' : ms'.length * 8 ≤ 140737488351232) (_hlc' : ms'.length ≤ c') (x : Int) (_hx : -9223372036854775808 ≤ x ∧ x ≤ 9223372036854775807) :
    Calls Try.prog 5 #[.slice A ms.length c, .slice A' ms'.length c', .int .i64 x] w fun e w' => e = .returned (.bool true) ∧ Below w.heap.size w w' := by
  have hS : ∀ W, Below w.heap.size w W → Ns .i64 W W.heap.size A ms ∧ Ns .i64 W W.heap.size A' ms' := fun W h => ⟨(hr.below h).more h.size, (hr'.below h).more h.size⟩
  have h1 := fun z W h => owns_any A c ms.length ms rfl z x W (hS W h).1 (by omega)
  have h2 := fun z W h => ref_owns_any A c ms.length ms rfl z x W (hS W h).1 (by omega)
  have h3 := fun W h => moves_any A A' c c' ms.length ms'.length ms ms' rfl rfl x W (hS W h).1 (hS W h).2 (by omega) (by omega)
  have h4 := fun p W h => ref_list_any A c ms.length ms rfl p x W (hS W h).1 (by omega)
  have h5 := fun p W h => ref_list_any A' c' ms'.length ms' rfl p x W (hS W h).2 (by omega)
  have h6 := fun W h => ref_rightM_any A c ms.length ms rfl W (hS W h).1 (by omega)
  have h7 := fun W h => ref_rightM_any A' c' ms'.length ms' rfl W (hS W h).2 (by omega)
  obtain ⟨Q, hQ⟩ : ∃ Q, decide (RightM ms) = Q := ⟨_, rfl⟩
  obtain ⟨Q', hQ'⟩ : ∃ Q, decide (RightM ms') = Q := ⟨_, rfl⟩
  rw [hQ] at h6
  rw [hQ'] at h7
  obtain ⟨n, hn⟩ : ∃ n, ms.length = n := ⟨_, rfl⟩
  obtain ⟨n', hn'⟩ : ∃ n, ms'.length = n := ⟨_, rfl⟩
  rw [hn] at h1 h2 h3 h4 h6 ⊢
  rw [hn'] at h3 h5 h7 ⊢
  have HQ := Lib.hid (And.intro hQ hQ')
  have H1 := Lib.hid h1
  have H2 := Lib.hid h2
  have H3 := Lib.hid h3
  have H4 := Lib.hid h4
  have H5 := Lib.hid h5
  have H6 := Lib.hid h6
  have H7 := Lib.hid h7
  clear h1 h2 h3 h4 h5 h6 h7 hS hr hr' hQ hQ' hn hn' hbig hbig'
  go_enter Try.func5, Try.ntmps5
  go_wp2_with fail
  refine (awake_any w).mono ?_
  rintro e w0 ⟨rfl, b0⟩
  have B0 := Lib.hid b0
  clear b0
  go_wp2_with fail
  go_loopw [7] (fun q V => ∃ z : Int, q = .int .i64 z ∧ -1 ≤ z ∧ z ≤ 10 ∧ Hid (Below w.heap.size w V)) (fun q _ => (10 - intOf q).toNat)
  case atStart => exact ⟨-1, rfl, by omega, by omega, B0⟩
  case round =>
    obtain ⟨z, rfl, hz1, hz2, hH⟩ := hrel
    clear B0
    by_cases hlt : z < 10
    · obtain ⟨O, hO⟩ : ∃ O, ownsTo ms z x 8 = O := ⟨_, rfl⟩
      have hol := owns_len ms z x 8
      rw [hO] at hol
      obtain ⟨k, hk⟩ : ∃ k, O.length = k := ⟨_, rfl⟩
      have G1 := H1.out z wr hH.out
      have G2 := fun W h => H2.out z W h
      rw [hO] at G1
      simp only [hO] at G2
      have HG1 := Lib.hid G1
      have HG2 := Lib.hid G2
      have HK := Lib.hid (And.intro hk (made_read hk))
      rw [hk] at hol
      clear G1 G2 hO hk
      go_wp2_with fail
      refine HG1.out.mono ?_
      rintro e w1 hm
      obtain ⟨A1, c1, rfl, n1, b1⟩ := HK.out.2 _ _ _ hm
      have B1 := Lib.hid (hH.out.trans (b1.mono hH.out.size))
      clear hm b1
      go_wp2_with fail
      refine (HG2.out w1 B1.out).mono ?_
      rintro e w2 hm
      obtain ⟨A2, c2, rfl, n2, b2⟩ := HK.out.2 _ _ _ hm
      have B2 := Lib.hid (B1.out.trans (b2.mono B1.out.size))
      have HE := Lib.hid (ints_any A1 A2 c1 c2 k k O O HK.out.1 HK.out.1 w2 ((n1.below b2).more b2.size) n2 (by omega) (by omega))
      rw [show decide (O = O) = true from decide_eq_true rfl] at HE
      clear hm b2 n1 n2
      go_wp2_with fail
      refine HE.out.mono ?_
      rintro e w3 ⟨rfl, b3⟩
      have B3 := Lib.hid (B2.out.trans (b3.mono B2.out.size))
      clear b3
      go_wp2_with fail
      exact ⟨⟨z + 1, rfl, by omega, by omega, B3⟩, by simp only [intOf]; omega⟩
    · go_wp2_with fail
      refine (H3.out wr hH.out).mono ?_
      rintro e w4 ⟨Am, m, cm, es, rfl, hm8, hown, b4⟩
      have B4 := Lib.hid (hH.out.trans (b4.mono hH.out.size))
      have HM : Hid (OwnM wr.heap.size w4 (.slice Am m cm) m ms ms' x es ∧ es.map Mv.p = movF ms ms' x 8) := hown
      clear hown b4
      go_wp2_with fail
      have HS0 : Hid ((movF ms ms' x 0).length = 0 ∧ Below w4.heap.size w4 w4) := Lib.hid ⟨by unfold movF; split <;> rfl, Below.refl _ _⟩
      have HF : Hid (∀ V, Below w4.heap.size w4 V → Below w.heap.size w V ∧ OwnM wr.heap.size V (.slice Am m cm) m ms ms' x es) := Lib.hid (fun V h => ⟨B4.out.trans (h.mono B4.out.size), HM.out.1.below h⟩)
      have HM2 := Lib.hid HM.out.2
      have HM1 := Lib.hid HM.out.1.1
      clear HM hH
      go_loopw [9, 10] (fun tv pv V => ∃ p t : Nat, tv = .int .i64 t ∧ pv = .int .i64 p ∧ p ≤ 8 ∧ t ≤ p ∧ Hid ((movF ms ms' x p).length = t ∧ Below w4.heap.size w4 V)) (fun _ pv _ => 8 - (intOf pv).toNat)
      case atStart => exact ⟨0, 0, rfl, rfl, by omega, by omega, HS0⟩
      case round =>
        clear HS0
        obtain ⟨p, t, rfl, rfl, hp8, htp, hI⟩ := hrel
        by_cases hlp : p < 8
        · obtain ⟨L, hL⟩ : ∃ L, listF ms (p : Int) x = L := ⟨_, rfl⟩
          obtain ⟨kl, hkl⟩ : ∃ k, L.length = k := ⟨_, rfl⟩
          obtain ⟨L', hL'⟩ : ∃ L, listF ms' (p : Int) x = L := ⟨_, rfl⟩
          obtain ⟨kl', hkl'⟩ : ∃ k, L'.length = k := ⟨_, rfl⟩
          have G1 := Lib.hid (list_got hL hkl)
          have G2 := Lib.hid (list_got hL' hkl')
          have HLL := Lib.hid (And.intro hL (And.intro hkl (And.intro hL' hkl')))
          have HW := Lib.hid (HF.out _ hI.out.2).1
          have d1 : (p : Int) < 8 := by omega
          clear hL hkl hL' hkl'
          go_wp2_with fail
          refine (H4.out (p : Int) _ HW.out).mono ?_
          rintro e w5 hl
          obtain ⟨A5, c5, rfl, hc5, hk5, n5, b5⟩ := G1.out _ _ _ hl
          have B5 := Lib.hid (HW.out.trans (b5.mono HW.out.size))
          have I5 := Lib.hid (hI.out.2.trans (b5.mono hI.out.2.size))
          have N5 := Lib.hid n5
          clear hl n5 b5
          go_wp2_with fail
          refine (H5.out (p : Int) w5 B5.out).mono ?_
          rintro e w6 hl
          obtain ⟨A6, c6, rfl, hc6, hk6, n6, b6⟩ := G2.out _ _ _ hl
          have B6 := Lib.hid (B5.out.trans (b6.mono B5.out.size))
          have I6 := Lib.hid (I5.out.trans (b6.mono I5.out.size))
          have N6 := Lib.hid (And.intro ((N5.out.below b6).more b6.size) n6)
          clear hl n6 b6 B5 I5 N5 HW
          go_wp2_with fail
          refine (H6.out w6 B6.out).mono ?_
          rintro e w7 ⟨rfl, b7⟩
          have B7 := Lib.hid (B6.out.trans (b7.mono B6.out.size))
          have I7 := Lib.hid (I6.out.trans (b7.mono I6.out.size))
          have N7 := Lib.hid (And.intro ((N6.out.1.below b7).more b7.size) ((N6.out.2.below b7).more b7.size))
          clear b7 B6 I6 N6
          obtain rfl | rfl : Q = false ∨ Q = true := by cases Q <;> simp
          · have HST := Lib.hid (movF_stay (ms := ms) (ms' := ms') (x := x) (k := p) (.inl (fun h => of_decide_eq_false HQ.out.1 h.1)))
            go_wp2_with fail
            exact ⟨⟨p + 1, t, rfl, rfl, by omega, by omega, Lib.hid ⟨by rw [HST.out]; exact hI.out.1, I7.out⟩⟩, by simp only [intOf]; omega⟩
          · go_wp2_with fail
            refine (H7.out w7 B7.out).mono ?_
            rintro e w8 ⟨rfl, b8⟩
            have B8 := Lib.hid (B7.out.trans (b8.mono B7.out.size))
            have I8 := Lib.hid (I7.out.trans (b8.mono I7.out.size))
            have N8 := Lib.hid (And.intro ((N7.out.1.below b8).more b8.size) ((N7.out.2.below b8).more b8.size))
            clear b8 B7 I7 N7
            obtain rfl | rfl : Q' = false ∨ Q' = true := by cases Q' <;> simp
            · have HST := Lib.hid (movF_stay (ms := ms) (ms' := ms') (x := x) (k := p) (.inl (fun h => of_decide_eq_false HQ.out.2 h.2)))
              go_wp2_with fail
              exact ⟨⟨p + 1, t, rfl, rfl, by omega, by omega, Lib.hid ⟨by rw [HST.out]; exact hI.out.1, I8.out⟩⟩, by simp only [intOf]; omega⟩
            · have HE := Lib.hid (ints_any A5 A6 c5 c6 kl kl' L L' HLL.out.2.1 HLL.out.2.2.2 w8 N8.out.1 N8.out.2 (by omega) (by omega))
              have HR := Lib.hid (And.intro (of_decide_eq_true HQ.out.1) (of_decide_eq_true HQ.out.2))
              by_cases heq : L = L'
              · rw [decide_eq_true heq] at HE
                have HST := Lib.hid (movF_stay (ms := ms) (ms' := ms') (x := x) (k := p) (.inr (by rw [HLL.out.1, HLL.out.2.2.1]; exact heq)))
                clear heq
                go_wp2_with fail
                refine HE.out.mono ?_
                rintro e w9 ⟨rfl, b9⟩
                have I9 := Lib.hid (I8.out.trans (b9.mono I8.out.size))
                clear b9
                go_wp2_with fail
                exact ⟨⟨p + 1, t, rfl, rfl, by omega, by omega, Lib.hid ⟨by rw [HST.out]; exact hI.out.1, I9.out⟩⟩, by simp only [intOf]; omega⟩
              · rw [decide_eq_false heq] at HE
                have hst := movF_step HR.out (by rw [HLL.out.1, HLL.out.2.2.1]; exact heq) hlp HM2.out
                rw [hI.out.1] at hst
                obtain ⟨hs1, htl, hsp⟩ := hst
                have htm : t < m := by have := HM1.out; omega
                have HS1 := Lib.hid hs1
                clear heq hs1
                go_wp2_with fail
                refine HE.out.mono ?_
                rintro e w9 ⟨rfl, b9⟩
                have I9 := Lib.hid (I8.out.trans (b9.mono I8.out.size))
                have N9 := Lib.hid (And.intro ((N8.out.1.below b9).more b9.size) ((N8.out.2.below b9).more b9.size))
                obtain ⟨g, rfl, k0, k1, k2⟩ := ownM_at (HF.out _ I9.out).2 htl
                obtain ⟨y1, y2, y3, y4⟩ := (HF.out _ I9.out).2.2.2 es[t] (List.getElem_mem htl)
                have hgl : g < w9.heap.size := ((HF.out _ I9.out).2.2.1.lt g rfl).2
                obtain ⟨y, hy⟩ : ∃ y, es[t] = y := ⟨_, rfl⟩
                rw [hy] at hsp y1 y2 y3 y4 k0 k1 k2
                obtain ⟨yp, yA, yn, yc, yA', yn', yc'⟩ := y
                simp only at hsp y1 y2 y3 y4 k0 k1 k2
                subst hsp
                rw [HLL.out.1] at y1 y3
                rw [HLL.out.2.2.1] at y2 y4
                rw [HLL.out.2.1] at y1
                rw [HLL.out.2.2.2] at y2
                subst y1 y2
                have HE1 := Lib.hid (fun W (h : Below w9.heap.size w9 W) => ints_any yA A5 yc c5 yn yn L L HLL.out.2.1 HLL.out.2.1 W ((y3.ns.below h).more h.size) ((N9.out.1.below h).more h.size) (by omega) (by omega))
                have HE2 := Lib.hid (fun W (h : Below w9.heap.size w9 W) => ints_any yA' A6 yc' c6 yn' yn' L' L' HLL.out.2.2.2 HLL.out.2.2.2 W ((y4.ns.below h).more h.size) ((N9.out.2.below h).more h.size) (by omega) (by omega))
                rw [show decide (L = L) = true from decide_eq_true rfl] at HE1
                rw [show decide (L' = L') = true from decide_eq_true rfl] at HE2
                have d2 : ¬ (m : Int) ≤ (t : Int) := by omega
                have d3 : (0 : Int) ≤ (t : Int) := by omega
                have d4 : (t : Int) < (m : Int) := by omega
                have d5 : ((yp : Int) != (yp : Int)) = false := by simp
                clear b9 y3 y4 hy hI HE
                go_wp2_with fail
                refine (HE1.out w9 (Below.refl _ _)).mono ?_
                rintro e w10 ⟨rfl, b10⟩
                have k2' := (b10.cell (p := ⟨g, t * 3 + 2, none⟩) hgl).trans k2
                have B10 := Lib.hid b10
                clear b10 k0 k1 k2
                go_wp2_with fail
                refine (HE2.out w10 B10.out).mono ?_
                rintro e w11 ⟨rfl, b11⟩
                have I11 := Lib.hid (I9.out.trans ((B10.out.trans (b11.mono B10.out.size)).mono I9.out.size))
                clear b11
                go_wp2_with fail
                exact ⟨⟨yp + 1, t + 1, rfl, rfl, by omega, by omega, Lib.hid ⟨HS1.out, I11.out⟩⟩, by simp only [intOf]; omega⟩
        · have hp : p = 8 := by omega
          have ht : t = m := by
            have h1 := hI.out.1
            rw [hp, ← HM2.out, List.length_map, HM1.out] at h1
            omega
          have HW := Lib.hid (HF.out _ hI.out.2).1
          subst ht
          have e1 : ((t : Int) == (t : Int)) = true := by simp
          have d1 : ¬ (p : Int) < 8 := by omega
          clear hI
          go_wp2_with fail
          go_ret
          exact ⟨rfl, HW.out⟩

-- ROW BEGIN
/-- What the walk gives, shut again. -/
theorem contract (H : Type) (enc : TypeId × Value → H) (W : World) (base : Nat) (args : Array Value) (ds gs : List (DataW H)) (before : List MemPlace)
    (hval : ∀ (j : Nat) t v, Try.f5.params[j]? = some t → args[j]? = some v → Value.okWide Try.prog W .any base t v)
    (hW : DataW.Whole enc Try.prog Try.f5.params.toList Rows.ringOwnsSpec.vars false W args.toList ds gs before)
    (hsz : (DataW.weightsEach Try.prog (Try.f5.params.toList ++ Rows.ringOwnsSpec.plain.varTypes Try.prog) (ds ++ gs)).all (· ≤ reachBytes) = true) :
    Calls Try.prog 5 args W fun e W' => ∃ v, e = .returned v ∧ Rows.ringOwnsSpec.post enc Try.prog Try.f5 false true false false W args v W' := by
  have hW' := hW
  obtain ⟨p, q, hA0, hV, hbef, _, _⟩ := hW
  have hA : DataW.TrodAll enc Try.prog W 0 (fun _ => true) true Try.f5.params.toList args.toList ds p := hA0
  have hA1 := hA
  rw [Try.params5] at hA hval hsz
  obtain ⟨v0, vs0, d0, ds0, p0, q0, hargs, rfl, rfl, h0, r0⟩ := trodAll_cons hA
  obtain ⟨v1, vs1, d1, ds1, p1, q1, rfl, rfl, rfl, h1, r1⟩ := trodAll_cons r0
  obtain ⟨v2, vs2, d2, ds2, p2, q2, rfl, rfl, rfl, h2, r2⟩ := trodAll_cons r1
  obtain ⟨rfl, rfl, rfl⟩ := trodAll_nil r2
  obtain rfl : args = #[v0, v1, v2] := by cases args; simp_all
  obtain ⟨rfl, rfl⟩ := trodVars_none hV
  clear hA hargs
  obtain ⟨A0, c0, a0, rfl, n0, w0, l0, _, o0⟩ := open_ns Try.underlying22 Try.underlying3 Facts.cells3 (hval 0 22 v0 rfl rfl) h0
  have b0 := reach_ns hsz (j := 0) rfl rfl Try.underlying22 Facts.bytes3 l0 o0
  obtain ⟨A1, c1, a1, rfl, n1, w1, l1, _, o1⟩ := open_ns Try.underlying22 Try.underlying3 Facts.cells3 (hval 1 22 v1 rfl rfl) h1
  have b1 := reach_ns hsz (j := 1) rfl rfl Try.underlying22 Facts.bytes3 l1 o1
  obtain ⟨a2, rfl, rfl, _, w2⟩ := open_int Try.underlying3 (hval 2 3 v2 rfl rfl) h2
  refine (walk W A0 c0 a0 n0 (fun z hz => wf_int (w0 z hz)) (by omega) l0 A1 c1 a1 n1 (fun z hz => wf_int (w1 z hz)) (by omega) l1 a2 (wf_int w2)).mono fun e W' ⟨he, hb⟩ => ?_
  subst he
  exact ⟨_, rfl, law_post Facts.laid (by rfl) Try.underlying4 (by rw [Try.params5]; decide +kernel) hW' hA1 rfl hbef rfl rfl rfl hb⟩

set_option maxRecDepth 100000 in
theorem lifted (os : Os) (started : os.Started) (H : Type) (enc : TypeId × Value → H) :
    ReturnsInHanded {} Try.checked os 5 .any (Rows.ringOwnsSpec.pre6 enc Try.prog Try.f5 Rows.ringOwnsRow.domain false) (Rows.ringOwnsSpec.post enc Try.prog Try.f5 false true false false) := by
  refine returnsInHanded_of_change_sized (C := Try.checked) Facts.own started (by kernel_rfl) Try.func5
    (ChangeSpec.witness6 (enc := enc) (C := Try.checked) false ⟨#[], #[.slice none 0 0, .slice none 0 0, .int .i64 0], []⟩ 8 (by kernel_rfl) (by kernel_rfl) (by kernel_rfl) (by kernel_rfl)) ?_
  intro W base args ds gs before hval hW _ hsz _
  exact contract H enc W base args ds gs before hval hW hsz

theorem holds : Rows.RingOwnsSaid :=
  OpenClaim.holds_of_wide 5 Try.f5 rfl rfl rfl rfl rfl rfl rfl ⟨rfl, rfl, rfl, rfl, rfl⟩ rfl rfl rfl rfl rfl (by kernel_rfl) Try.func5 (by kernel_rfl)
    (of_decide_eq_true (by kernel_rfl)) (by unfold Func.isWrapper; first | (rw [if_pos (by decide +kernel)]; kernel_rfl) | (rw [if_neg (by decide +kernel)]; exact ⟨rfl, rfl⟩))
    (fun os started H enc _ => lifted os started H enc)
-- ROW END
end RingOwns
end Go.Proofs.Ytfnjengcemokpaa
